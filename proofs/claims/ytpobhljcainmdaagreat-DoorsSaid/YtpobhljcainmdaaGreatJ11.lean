/- Proved here: a part of what Doors keeps (Fe3, Fe4, Fe5, Fe6). -/
import Derived.Conc.SmallLaws
import Derived.Test.YtpobhljcainmdaaGreatJ01
import Derived.Test.YtpobhljcainmdaaGreatJ10
set_option maxRecDepth 100000
set_option maxHeartbeats 8000000
set_option linter.all false
namespace Go.Proofs.YtpobhljcainmdaaGreat
section
open Go.Proofs.Tryz
open Go.RowKit
attribute [local go_sem ↓] Go.wp_at_zero Go.wp_at_succ
attribute [local go_sem] au aj
abbrev Nv(sz cl qu mx qn rt bu wk ou:Int)(sb N:Nat)(av clock:Int)(stop:Bool)(gi:Int)(db:Option Addr):Array Value:=
 #[.int .i64 sz,.int .i64 cl,.int .i64 qu,.int .i64 mx,.int .i64 qn,.int .i64 rt,.int .i64 bu,.int .i64 wk,.int .i64 ou,.slice (some ⟨sb,0,none⟩) N N,.int .i64 av,.int .i64 0,.int .i64 0,.int .i64 clock,.bool stop,.int .i64 gi,.bool false,.slice none 0 0,.slice none 0 0,.pointer db,.slice none 0 0]
abbrev cY(W:World)(xb:Nat)(sz cl qu mx qn rt bu wk ou:Int)(sb N:Nat)(av clock:Int)(stop:Bool)(gi:Int)(db:Option Addr):Prop:=
 W.heap[xb]? =some (.cells (Nv sz cl qu mx qn rt bu wk ou sb N av clock stop gi db) 112 (0,0))
def tq(cs:List (Option Nat)):Array Value:=(cs.map eu).toArray
abbrev cM(W:World)(sb:Nat)(cs:List (Option Nat)):Prop:=W.heap[sb]? =some (.cells (tq cs) 119 (0,0))
theorem jY{cs:List (Option Nat)}{j:Nat}{v:Option Nat}(h:cs[j]? =some v):(tq cs)[j]? =some (eu v):=by simp[tq,h]
theorem vB{cs:List (Option Nat)}(j:Nat)(v:Option Nat):(tq cs).setIfInBounds j (eu v)=tq (cs.set j v):=by simp[tq,List.map_set]
theorem Cn{W:World}{xb sb N:Nat}{cs:List (Option Nat)}{sz cl qu mx qn rt bu wk ou av clock gi:Int}{stop:Bool}{db:Option Addr}(h1:cY W xb sz cl qu mx qn rt bu wk ou sb N av clock stop gi db)(h2:cM W sb cs)(hl:cs.length=N)(hN:N<=65535):kH W xb sb N cs:=
 ⟨aa h1 rfl,hl,hN,fun j v hj=>aa h2 (jY hj),⟨_,h2⟩⟩
def mI(gone:Nat->Bool):Option Nat->Option Nat
 |some c=>if gone c then none else some c
 |none=>none
def lets(gone:Nat->Bool)(cs:List (Option Nat)):List (Option Nat):=cs.map (mI gone)
theorem ko{α:Type}{l:List α}{j:Nat}{a:α}(h:l[j]? =some a):l.set j a=l:=by obtain⟨h1,h2⟩:=List.getElem?_eq_some_iff.1 h;rw[<-h2];exact List.set_getElem_self h1
theorem xV{gone:Nat->Bool}{cs:List (Option Nat)}{j:Nat}{v:Option Nat}(hj:cs[j]? =some v):lets gone (cs.take (j+1))++cs.drop (j+1)=(lets gone (cs.take j)++cs.drop j).set j (mI gone v):=by
 obtain⟨h1,h2⟩:=List.getElem?_eq_some_iff.1 hj;have e3:(lets gone (cs.take j)).length=j:=by simp[lets];omega
 have e2:lets gone (cs.take (j+1))=lets gone (cs.take j)++[mI gone v]:=by unfold lets;rw[List.take_succ_eq_append_getElem h1,List.map_append,h2];rfl
 rw[e2,List.append_assoc,List.set_append_right _ _ (by omega),e3,Nat.sub_self,List.drop_eq_getElem_cons h1];rfl
theorem Hv(xb sb N:Nat)(cs:List (Option Nat))(gone:Nat->Bool)(sz cl qu mx qn rt bu wk ou av clock gi:Int)(stop:Bool)(db:Option Addr)(w:World)
  (hF:cY w xb sz cl qu mx qn rt bu wk ou sb N av clock stop gi db) (hR:cM w sb cs) (hl:cs.length=N) (hN:N<=65535)
  (hg:∀c∈ay cs,∀W,aF (fun i=>i=sb\/i=xb) w W->Calls prog 109 #[.pointer (some ⟨c,0,none⟩)] W fun e w'=>e=.returned (.bool (gone c))/\w'=W):
  Calls prog 64 #[.pointer (some ⟨xb,0,none⟩)] w fun e w'=>e=.returned (.tuple #[])/\cY w' xb sz cl qu mx qn rt bu wk ou sb N av clock stop gi db/\cM w' sb (lets gone cs)/\aF (fun i=>i=sb\/i=xb) w w':=by
 have hne:sb≠xb:=aJ hR hF (by simp);have c9:w.cell? ⟨xb,9,none⟩=some (.slice (some ⟨sb,0,none⟩) N N):=aa hF rfl;have HG:Hid (∀c∈ay cs,∀W,aF (fun i=>i=sb\/i=xb) w W->Calls prog 109 #[.pointer (some ⟨c,0,none⟩)] W fun e w'=>e=.returned (.bool (gone c))/\w'=W):=hg;have HF:Hid (cY w xb sz cl qu mx qn rt bu wk ou sb N av clock stop gi db/\cM w sb cs):=⟨hF,hR⟩;clear hF hR hg;go_enter func64,ntmps64;go_wp2
 go_loopw [9] (fun i wr=>∃j:Nat,j<=N/\i=.int .i64 j/\Hid (cY wr xb sz cl qu mx qn rt bu wk ou sb N av clock stop gi db/\cM wr sb (lets gone (cs.take j)++cs.drop j)/\aF (fun i=>i=sb\/i=xb) w wr)) (fun i _=>N-(intOf i).toNat)
 case atStart=>exact⟨0,Nat.zero_le _,rfl,HF.out.1,by simpa[lets]using HF.out.2,aF.refl _ _⟩
 case round=>
  obtain⟨j,hj,rfl,hH⟩:=hrel
  by_cases hlt:j<N
  ·have wP:decide ((j:Int)<(N:Int))=true:=by simp;omega
   obtain⟨v,hv⟩:∃v,cs[j]? =some v:=⟨cs[j],by rw[List.getElem?_eq_getElem]⟩
   have eF:(lets gone (cs.take j)++cs.drop j)[j]? =some v:=by rw[List.getElem?_append_right (by simp[lets];omega),List.getElem?_drop];simp only[lets,List.length_map,List.length_take];rw[show j+(j-min j cs.length)=j by omega];exact hv
   have hstep:=xV (gone:=gone) hv;obtain⟨F,R,T⟩:=hH.out;have hc:wr.cell? ⟨sb,j,none⟩=some (eu v):=aa R (jY eF);have fr:=aG R j;have c9':wr.cell? ⟨xb,9,none⟩=some (.slice (some ⟨sb,0,none⟩) N N):=aa F rfl;have XR:wr.cell? ⟨xb,15,none⟩=some (.int .i64 gi):=aa F rfl;have Jq:wr.cell? ⟨xb,16,none⟩=some (.bool false):=aa F rfl;have f16:=aG F 16;cases v with
   |none=>
    have HN:Hid (lets gone (cs.take (j+1))++cs.drop (j+1)=lets gone (cs.take j)++cs.drop j):=by show _=_;rw[hstep];exact ko eF
    simp only[eu,Option.map_none]at hc;clear F R T hstep eF hv;go_wp2;refine⟨⟨j+1,by omega,by go_num,hH.out.1,by rw[HN.out];exact hH.out.2.1,hH.out.2.2⟩,?_⟩;simp[intOf];omega
   |some c=>
    have hmem:c∈ay cs:=List.mem_filterMap.2 ⟨some c,List.mem_of_getElem? hv,rfl⟩;have HC:=HG.out c hmem wr T;simp only[eu,Option.map_some]at hc;cases hgo:gone c with
    |false=>
     have HN:Hid (lets gone (cs.take (j+1))++cs.drop (j+1)=lets gone (cs.take j)++cs.drop j):=by show _=_;rw[hstep];exact ko (by rw[eF];simp[mI,hgo])
     have Wt:Hid (Calls prog 109 #[.pointer (some ⟨c,0,none⟩)] wr fun e w'=>e=.returned (.bool false)/\w'=wr):=by rw[hgo]at HC;exact HC
     clear F R T hstep eF hv HC hgo;go_wp2_with (go_at_call 109;refine Wt.out.mono ?_;rintro e w1 ⟨rfl,rfl⟩);refine⟨⟨j+1,by omega,by go_num,hH.out.1,by rw[HN.out];exact hH.out.2.1,hH.out.2.2⟩,?_⟩;simp[intOf];omega
    |true=>
     have HN:Hid (lets gone (cs.take (j+1))++cs.drop (j+1)=(lets gone (cs.take j)++cs.drop j).set j none):=by show _=_;rw[hstep];simp[mI,hgo]
     have Wt:Hid (Calls prog 109 #[.pointer (some ⟨c,0,none⟩)] wr fun e w'=>e=.returned (.bool true)/\w'=wr):=by rw[hgo]at HC;exact HC
     have HZ:Hid (sb≠xb):=hne;have hx:¬xb=sb:=fun e=>hne e.symm;clear F R T hstep eF hv HC hgo;cases hs:(gi==(j:Int))with
     |true=>
      go_wp2_with (go_at_call 109;refine Wt.out.mono ?_;rintro e w1 ⟨rfl,rfl⟩);obtain⟨F,R,T⟩:=hH.out;have F1:=aS F hx j (.pointer none);have R1:=aX R j (eu none);rw[vB,<-HN.out]at R1;refine⟨⟨j+1,by omega,by go_num,aX F1 16 _,aS R1 HZ.out 16 _,(T.set (p:=⟨sb,j,none⟩) (.inl rfl) _).set (p:=⟨xb,16,none⟩) (.inr rfl) _⟩,?_⟩;simp[intOf];omega
     |false=>
      go_wp2_with (go_at_call 109;refine Wt.out.mono ?_;rintro e w1 ⟨rfl,rfl⟩);obtain⟨F,R,T⟩:=hH.out;have F1:=aS F hx j (.pointer none);have R1:=aX R j (eu none);rw[vB,<-HN.out]at R1;refine⟨⟨j+1,by omega,by go_num,F1,R1,T.set (p:=⟨sb,j,none⟩) (.inl rfl) _⟩,?_⟩;simp[intOf];omega
  ·have wP:decide ((j:Int)<(N:Int))=false:=by simp;omega
   have HJ:Hid (cM wr sb (lets gone cs)):=by have:=hH.out.2.1;rw[List.take_of_length_le (by omega),List.drop_of_length_le (by omega),List.append_nil]at this;exact this
   go_wp2;exact cw rfl rfl ⟨rfl,hH.out.1,HJ.out,hH.out.2.2⟩
end
section
open Go.Proofs.Tryz
open Go.RowKit
attribute [local go_sem ↓] Go.wp_at_zero Go.wp_at_succ
attribute [local go_sem] au aj
theorem DH(a:Addr)(w:World):(binOp .eql 119 (.pointer none) (.pointer (some a))).run prog w=.ok (.bool false) w:=by
 have hu:prog.underlying 119=some (.pointer 168):=underlying119
 have h1:(Op.equal 119 (.pointer none) (.pointer (some a))).run prog w=.ok false w:=by unfold Op.equal;rw[show Op.maxDepth=9999+1 from rfl];unfold Op.equalIn;rw[Sem.run_bind,run_underlying hu];rfl
 unfold binOp;rw[Sem.run_bind,h1];rfl
def oB(cs:List (Option Nat))(j:Nat):Prop:=cs[j]? =some none/\∀i,i<j->cs[i]? ≠some none
theorem xS(sb N:Nat)(cs:List (Option Nat))(w:World)(hR:cM w sb cs)(hl:cs.length=N)(hN:N<=65535):
  Calls prog 72 #[.slice (some ⟨sb,0,none⟩) N N,.pointer none] w fun e w'=>w'=w/\((∃j:Nat,e=.returned (.int .i64 j)/\oB cs j)\/(e=.returned (.int .i64 (-1))/\∀i:Nat,cs[i]? ≠some none)):=by
 go_enter func72,ntmps72;go_wp2
 go_loop [8] (fun i=>∃j:Nat,j<=N/\i=.int .i64 j/\Hid (∀i,i<j->cs[i]? ≠some none)) (fun i=>N-(intOf i).toNat)
 case atStart=>exact⟨0,Nat.zero_le _,rfl,fun i h=>by omega⟩
 case round=>
  obtain⟨j,hj,rfl,hp⟩:=hrel
  by_cases hlt:j<N
  ·have wP:decide ((j:Int)<(N:Int))=true:=by simp;omega
   obtain⟨v,hv⟩:∃v,cs[j]? =some v:=⟨cs[j],by rw[List.getElem?_eq_getElem]⟩;have hc:w.cell? ⟨sb,j,none⟩=some (eu v):=aa hR (jY hv);have HV:Hid (cs[j]? =some v):=hv;clear hv;cases v with
   |none=>
    simp only[eu,Option.map_none]at hc;go_wp2;go_ret;exact⟨rfl,.inl ⟨j,rfl,HV.out,hp.out⟩⟩
   |some c=>
    simp only[eu,Option.map_some]at hc;have heq:=DH ⟨c,0,none⟩ w;go_wp2
    go_round
    case rel=>
     refine⟨j+1,by omega,by go_num,fun i hi=>?_⟩
     by_cases e:i=j
     ·subst e;rw[HV.out];simp
     ·exact hp.out i (by omega)
    case measure=>simp[intOf];omega
  ·have wP:decide ((j:Int)<(N:Int))=false:=by simp;omega
   go_wp2;go_ret;refine⟨rfl,.inr ⟨rfl,fun i hi=>?_⟩⟩;have:=(List.getElem?_eq_some_iff.1 hi).1;exact hp.out i (by omega) hi
end
section
open Go.Proofs.Tryz
open Go.RowKit Go.Conc
attribute [local go_sem ↓] Go.wp_at_zero Go.wp_at_succ
attribute [local go_sem] au aj
def Cl.fresh(no wt bu:Int):Cl:=⟨no,wt,0,⟨#[]⟩,⟨#[]⟩,bu⟩
abbrev qK(b:Nat)(sz cl qu mx qn rt bu wk ou:Int)(W:World):Prop:=W.cell? ⟨b,0,none⟩=some (.int .i64 sz)/\W.cell? ⟨b,1,none⟩=some (.int .i64 cl)/\W.cell? ⟨b,2,none⟩=some (.int .i64 qu)/\W.cell? ⟨b,3,none⟩=some (.int .i64 mx)/\W.cell? ⟨b,4,none⟩=some (.int .i64 qn)/\W.cell? ⟨b,5,none⟩=some (.int .i64 rt)/\W.cell? ⟨b,6,none⟩=some (.int .i64 bu)/\W.cell? ⟨b,7,none⟩=some (.int .i64 wk)/\W.cell? ⟨b,8,none⟩=some (.int .i64 ou)
section
variable {b:Nat} {sz cl qu mx qn rt bu wk ou:Int} {W W':World}
theorem qK.later(h:qK b sz cl qu mx qn rt bu wk ou W)(hb:Below W.heap.size W W'):qK b sz cl qu mx qn rt bu wk ou W':=
 ⟨aP hb h.1,aP hb h.2.1,aP hb h.2.2.1,aP hb h.2.2.2.1,aP hb h.2.2.2.2.1,aP hb h.2.2.2.2.2.1,aP hb h.2.2.2.2.2.2.1,aP hb h.2.2.2.2.2.2.2.1,aP hb h.2.2.2.2.2.2.2.2⟩
theorem qK.a1{x:Obj}(h:qK b sz cl qu mx qn rt bu wk ou W):qK b sz cl qu mx qn rt bu wk ou (W.alloc x):=h.later ((Below.refl _ W).alloc (Nat.le_refl _) _)
theorem qK.a3{x y z:Obj}(h:qK b sz cl qu mx qn rt bu wk ou W):qK b sz cl qu mx qn rt bu wk ou (((W.alloc x).alloc y).alloc z):=h.a1.a1.a1
end
theorem RA(w:World):(Instr.makeChan 166 (.int .i64 0)).run prog w=.ok (.chan (some w.heap.size)) (w.alloc (.chan 0 #[] false 0 0 false)):=by
 have h:(prog.info? 169).map (·.bytes)=some 0:=by kernel_rfl
 obtain⟨i,hi,hb⟩:=Option.map_eq_some_iff.1 h;simpa using run_makeChan (P:=prog) (w:=w) underlying166 hi .i64 0 (by omega) (by rw[hb];omega)
def FA(w:World)(sz cl qu mx qn rt bu wk ou no wt:Int)(e:Ending)(w':World):Prop:=
 ∃c rb mb ch,e=.returned (.pointer (some ⟨c,0,none⟩))/\aU w' c rb mb ch sz cl qu mx qn rt bu wk ou 0 (Cl.fresh no wt bu)/\bC w' c no wt sz cl qu mx qn rt bu wk ou rb ⟨#[]⟩ (.slice none 0 0) bu 0 ch/\Below w.heap.size w w'/\w.heap.size<=c/\w.heap.size<=rb/\w.heap.size<=mb/\w.heap.size<=ch
theorem mM{W:World}{o x:Obj}{k:Nat}(h:W.heap[k]? =some x):(W.alloc o).heap[k]? =some x:=(Below.heap_alloc W o k (Array.getElem?_eq_some_iff.1 h).1).trans h
theorem new1{W:World}{o:Obj}{k:Nat}(h:k=W.heap.size):(W.alloc o).heap[k]? =some o:=by subst h;exact heap_alloc_new W o
theorem Ca{w V:World}{rb mb ch c:Nat}(sz cl qu mx qn rt bu wk ou no wt:Int)(hB:Below w.heap.size w V)(h1:V.heap[rb]? =some (.cells #[.int .i64 sz,.int .i64 mx,.int .i64 0,.map (some mb)] 228 (0,0)))(h2:V.heap[mb]? =some (.map #[] 0))(h3:V.heap[ch]? =some (.chan 0 #[] false 0 0 false))
  (h4:bC V c no wt sz cl qu mx qn rt bu wk ou rb ⟨#[]⟩ (.slice none 0 0) bu 0 ch) (g1:w.heap.size<=c) (g2:w.heap.size<=rb) (g3:w.heap.size<=mb) (g4:w.heap.size<=ch):FA w sz cl qu mx qn rt bu wk ou no wt (.returned (.pointer (some ⟨c,0,none⟩))) V:=by
 obtain⟨es,ck,e1,e2⟩:=World.ownsMap_made (H:=Unit) w prog 3 unitElem;rw[heap_alloc_new]at e1;cases e1;exact⟨c,rb,mb,ch,rfl,⟨⟨_,h4,World.ownsRow_nil _ _ _ _⟩,⟨0,⟨h1,#[],0,h2,e2⟩,fun _=>rfl⟩,h3⟩,h4,hB,g1,g2,g3,g4⟩
theorem VH(w:World)(sz cl qu mx qn rt bu wk ou no wt:Int):FA w sz cl qu mx qn rt bu wk ou no wt (.returned (.pointer (some ⟨w.heap.size+1+1+1+1+1,0,none⟩)))
  ((((((w.alloc (.cells (dr sz cl qu mx qn rt bu wk ou) 35)).alloc (.cells (dr sz cl qu mx qn rt bu wk ou) 35)).alloc (.map #[] 0)).alloc (.cells #[.int .i64 sz,.int .i64 mx,.int .i64 0,.map (some (w.heap.size+1+1))] 228)).alloc (.chan 0 #[] false 0 0 false)).alloc (.cells (Nl no wt sz cl qu mx qn rt bu wk ou (w.heap.size+1+2) ⟨#[]⟩ (.slice none 0 0) bu 0 (w.heap.size+1+1+1+1)) 168)).drew:=by
 refine Ca (rb:=w.heap.size+1+2) (mb:=w.heap.size+1+1) (ch:=w.heap.size+1+1+1+1) sz cl qu mx qn rt bu wk ou no wt ?_ ?_ ?_ ?_ ?_ (by omega) (by omega) (by omega) (by omega)
 ·exact((((((Below.refl _ w).alloc (Nat.le_refl _) _).alloc (by simp) _).alloc (by simp;omega) _).alloc (by simp;omega) _).alloc (by simp;omega) _).alloc (by simp;omega) _ |>.drew
 ·exact mM (mM (new1 (by simp)))
 ·exact mM (mM (mM (new1 (by simp))))
 ·exact mM (new1 (by simp))
 ·exact new1 (by simp)
theorem VI(w:World)(sz cl qu mx qn rt bu wk ou no wt:Int):FA w sz cl qu mx qn rt bu wk ou no wt (.returned (.pointer (some ⟨w.heap.size+1+1+1+1+1,0,none⟩)))
  ((((((w.alloc (.cells (dr sz cl qu mx qn rt bu wk ou) 35)).alloc (.chan 0 #[] false 0 0 false)).alloc (.cells (dr sz cl qu mx qn rt bu wk ou) 35)).alloc (.map #[] 0)).alloc (.cells #[.int .i64 sz,.int .i64 mx,.int .i64 0,.map (some (w.heap.size+1+1+1))] 228)).alloc (.cells (Nl no wt sz cl qu mx qn rt bu wk ou (w.heap.size+1+1+2) ⟨#[]⟩ (.slice none 0 0) bu 0 (w.heap.size+1)) 168)).drew:=by
 refine Ca (rb:=w.heap.size+1+1+2) (mb:=w.heap.size+1+1+1) (ch:=w.heap.size+1) sz cl qu mx qn rt bu wk ou no wt ?_ ?_ ?_ ?_ ?_ (by omega) (by omega) (by omega) (by omega)
 ·exact((((((Below.refl _ w).alloc (Nat.le_refl _) _).alloc (by simp) _).alloc (by simp;omega) _).alloc (by simp;omega) _).alloc (by simp;omega) _).alloc (by simp;omega) _ |>.drew
 ·exact mM (new1 (by simp))
 ·exact mM (mM (new1 (by simp)))
 ·exact mM (mM (mM (mM (new1 (by simp)))))
 ·exact new1 (by simp)
theorem wK(sz cl qu mx qn rt bu wk ou no wt:Int)(w:World):
  Calls prog 73 #[.agg (dr sz cl qu mx qn rt bu wk ou),.int .i64 no,.int .i64 wt] w (FA w sz cl qu mx qn rt bu wk ou no wt):=by
 have hmk:=RA;go_enter func73,ntmps73
 go_upto_region 1 with fail
 refine wp_region_noPanic ?_;refine wp_region_held_drew (S:=qK w.heap.size sz cl qu mx qn rt bu wk ou) (by kernel_rfl) ⟨by simp[go_sem],by simp[go_sem],by simp[go_sem],by simp[go_sem],by simp[go_sem],by simp[go_sem],by simp[go_sem],by simp[go_sem],by simp[go_sem]⟩ ?_;intro hHeld;refine tk 0 ?_;refine tk 1 ?_;refine tk 2 ?_;refine tk 3 ?_;refine tk 5 ?_;refine tk 6 ?_;refine aH [4,7] (.cons rfl (fun K hK=>?_) ?_)
 ·go_simp
  (refine(nU sz cl qu mx qn rt bu wk ou 0 _).mono ?_;rintro e w2 ⟨rfl,rfl⟩)
  go_wp2_with fail;refine hK.out _ _ (qK.a3 hHeld) (fun uM=>?_);clear hK K;refine rH 7 fun K hK=>?_;go_simp;refine hK.out _ _ (qK.a1 uM) (fun Uz=>?_);clear hK K;refine tk 8 ?_;refine rH 9 fun K hK=>?_;go_simp;refine hK.out _ _ (qK.a1 Uz) (fun WZ=>?_);clear hK K;refine tk 10 ?_;refine wpAnyH_done (by kernel_rfl) ?_ _
  (refine NoPanic.normal ?_;go_wp2_with fail;go_ret;exact VH w sz cl qu mx qn rt bu wk ou no wt)
 refine .cons rfl (fun K hK=>?_) .nil;go_simp;refine hK.out _ _ (qK.a1 hHeld) (fun hH7=>?_);clear hK K;refine rH 4 fun K hK=>?_;go_simp
 (refine(nU sz cl qu mx qn rt bu wk ou 0 _).mono ?_;rintro e w2 ⟨rfl,rfl⟩)
 go_wp2_with fail;refine hK.out _ _ (qK.a3 hH7) (fun UB=>?_);clear hK K;refine tk 8 ?_;refine rH 9 fun K hK=>?_;go_simp;refine hK.out _ _ (qK.a1 UB) (fun Xc=>?_);clear hK K;refine tk 10 ?_;refine wpAnyH_done (by kernel_rfl) ?_ _
 (refine NoPanic.normal ?_;go_wp2_with fail;go_ret;exact VI w sz cl qu mx qn rt bu wk ou no wt)
end
section
open Go.Proofs.Tryz
open Go.RowKit
attribute [local go_sem ↓] Go.wp_at_zero Go.wp_at_succ
attribute [local go_sem] au aj
theorem sU(xb:Nat)(wt:Int)(w:World)(h:w.cell? ⟨xb,14,none⟩=some (.bool true)):
  Calls prog 36 #[.pointer (some ⟨xb,0,none⟩),.int .i64 wt] w fun e w'=>e=.returned (.tuple #[.int .i64 0,.int .i64 4])/\w'=w:=by
 go_enter func36,ntmps36;go_wp2
 go_ret2
 exact⟨rfl,rfl⟩
theorem Bl(xb:Nat)(wt:Int)(w:World)(h:w.cell? ⟨xb,14,none⟩=some (.bool false))(hw:gu wt 1 4=false):
  Calls prog 36 #[.pointer (some ⟨xb,0,none⟩),.int .i64 wt] w fun e w'=>e=.returned (.tuple #[.int .i64 0,.int .i64 5])/\w'=w:=by
 go_enter func36,ntmps36;go_wp2_with (go_at_call 71;refine(dY wt 1 4 _).mono ?_;rw[hw];rintro e w1 ⟨rfl,rfl⟩)
 go_ret2
 exact⟨rfl,rfl⟩
theorem yK(xb sb N:Nat)(cs:List (Option Nat))(sz cl qu mx qn rt bu wk ou av clock gi:Int)(db:Option Addr)(wt:Int)(w:World)(hF:cY w xb sz cl qu mx qn rt bu wk ou sb N av clock false gi db)(hR:cM w sb cs)(hl:cs.length=N)(hN:N<=65535)(hw:gu wt 1 4=true)(hfull:∀i:Nat,cs[i]? ≠some none):
  Calls prog 36 #[.pointer (some ⟨xb,0,none⟩),.int .i64 wt] w fun e w'=>e=.returned (.tuple #[.int .i64 0,.int .i64 3])/\w'=w:=by
 have pI:w.cell? ⟨xb,14,none⟩=some (.bool false):=aa hF rfl;have c9:w.cell? ⟨xb,9,none⟩=some (.slice (some ⟨sb,0,none⟩) N N):=aa hF rfl
 have HI:Hid (Calls prog 72 #[.slice (some ⟨sb,0,none⟩) N N,.pointer none] w fun e w'=>e=.returned (.int .i64 (-1))/\w'=w):=by
  refine(xS sb N cs w hR hl hN).mono ?_;rintro e w' ⟨h1,⟨j,h2,h3⟩|⟨h2,_⟩⟩
  ·exact absurd h3.1 (hfull j)
  ·exact⟨h2,h1⟩
 clear hF hR hfull;go_enter func36,ntmps36;go_wp2_with (first|(go_at_call 71;refine(dY wt 1 4 _).mono ?_;rw[hw];rintro e w1 ⟨rfl,rfl⟩)|(go_at_call 72;refine HI.out.mono ?_;rintro e w1 ⟨rfl,rfl⟩))
 go_ret2
 exact⟨rfl,rfl⟩
theorem aU.cG{W:World}{c rb mb ch b:Nat}{sz cl qu mx qn rt bu wk ou de no wt:Int}(h:aU W c rb mb ch sz cl qu mx qn rt bu wk ou de (Cl.fresh no wt bu))(h1:c≠b)(h2:rb≠b)(h3:mb≠b)(h4:ch≠b)(i:Nat)(v:Value)(hnil:∃o,bC W c no wt sz cl qu mx qn rt bu wk ou rb ⟨#[]⟩ o bu de ch/\o=.slice none 0 0):aU (W.setCell ⟨b,i,none⟩ v) c rb mb ch sz cl qu mx qn rt bu wk ou de (Cl.fresh no wt bu):=by obtain⟨o,hb,rfl⟩:=hnil;obtain⟨rp,h5,h6⟩:=h.rd;obtain⟨es,ck,e1,e2⟩:=h5.uses;exact⟨⟨_,aS hb h1 _ _,World.ownsRow_nil _ _ _ _⟩,⟨rp,⟨aS h5.box h2 _ _,es,ck,aS e1 h3 _ _,e2⟩,h6⟩,aS h.chan h4 _ _⟩
abbrev Fx(xb sb N:Nat)(sz cl qu mx qn rt bu wk ou:Int)(W:World):Prop:=qK xb sz cl qu mx qn rt bu wk ou W/\W.cell? ⟨xb,9,none⟩=some (.slice (some ⟨sb,0,none⟩) N N)
section
variable {xb sb N:Nat} {sz cl qu mx qn rt bu wk ou:Int} {W W':World}
theorem Fx.later(h:Fx xb sb N sz cl qu mx qn rt bu wk ou W)(hb:Below W.heap.size W W'):Fx xb sb N sz cl qu mx qn rt bu wk ou W':=⟨h.1.later hb,aP hb h.2⟩
theorem Fx.off{b i:Nat}{v:Value}(h:Fx xb sb N sz cl qu mx qn rt bu wk ou W)(hne:xb≠b):Fx xb sb N sz cl qu mx qn rt bu wk ou (W.setCell ⟨b,i,none⟩ v):=by have key:∀o x,W.cell? ⟨xb,o,none⟩=some x->(W.setCell ⟨b,i,none⟩ v).cell? ⟨xb,o,none⟩=some x:=fun o x hx=>(World.cell?_of_block (a:=⟨xb,o,none⟩) (fA hne)).trans hx;obtain⟨⟨h0,h1,h2,h3,h4,h5,h6,h7,h8⟩,h9⟩:=h;exact⟨⟨key _ _ h0,key _ _ h1,key _ _ h2,key _ _ h3,key _ _ h4,key _ _ h5,key _ _ h6,key _ _ h7,key _ _ h8⟩,key _ _ h9⟩
theorem Fx.row{cs:List (Option Nat)}{j:Nat}{v:Option Nat}(hb:Below W.heap.size W W')(h:cM W sb cs)(hj:cs[j]? =some v):W'.cell? ⟨sb,j,none⟩=some (eu v):=aP hb (aa h (jY hj))
theorem Fx.frz{cs:List (Option Nat)}(hb:Below W.heap.size W W')(h:cM W sb cs)(j:Nat):W'.frozen? ⟨sb,j,none⟩=false:=aG (aM hb h) j
end
theorem Dy(xb sb N j:Nat)(cs:List (Option Nat))(sz cl qu mx qn rt bu wk ou av clock gi:Int)(db:Option Addr)(wt:Int)(w:World)(hF:cY w xb sz cl qu mx qn rt bu wk ou sb N av clock false gi db)(hR:cM w sb cs)(hl:cs.length=N)(hN:N<=65535)(hw:gu wt 1 4=true)(hj:oB cs j)(hcm:0<=av/\av<=281474976710656):
  Calls prog 36 #[.pointer (some ⟨xb,0,none⟩),.int .i64 wt] w fun e w'=>e=.returned (.tuple #[.int .i64 av,.int .i64 0])/\cY w' xb sz cl qu mx qn rt bu wk ou sb N (av+1) clock false gi db/\∃c rb mb ch,cM w' sb (cs.set j (some c))/\aU w' c rb mb ch sz cl qu mx qn rt bu wk ou 0 (Cl.fresh av wt bu)/\bC w' c av wt sz cl qu mx qn rt bu wk ou rb ⟨#[]⟩ (.slice none 0 0) bu 0 ch/\aF (fun i=>i=sb\/i=xb) w w'/\w.heap.size<=c/\w.heap.size<=rb/\w.heap.size<=mb/\w.heap.size<=ch:=by
 have hlt:j<N:=by have:=(List.getElem?_eq_some_iff.1 hj.1).1;omega
 have hne:xb≠sb:=fun e=>aJ hR hF (by simp) e.symm;have HN:Hid (xb≠sb):=hne;have pI:w.cell? ⟨xb,14,none⟩=some (.bool false):=aa hF rfl;have c9:w.cell? ⟨xb,9,none⟩=some (.slice (some ⟨sb,0,none⟩) N N):=aa hF rfl;have ow:w.cell? ⟨xb,10,none⟩=some (.int .i64 av):=aa hF rfl
 have HI:Hid (Calls prog 72 #[.slice (some ⟨sb,0,none⟩) N N,.pointer none] w fun e w'=>e=.returned (.int .i64 j)/\w'=w):=by
  refine(xS sb N cs w hR hl hN).mono ?_;rintro e w' ⟨h1,⟨j',h2,h3⟩|⟨h2,h3⟩⟩
  ·have:j'=j:=by
    rcases Nat.lt_trichotomy j' j with h|h|h
    ·exact absurd h3.1 (hj.2 j' h)
    ·exact h
    ·exact absurd hj.1 (h3.2 j h)
   exact⟨by rw[h2,this],h1⟩
  ·exact absurd hj.1 (h3 j)
 have HS:Hid (Fx xb sb N sz cl qu mx qn rt bu wk ou w.drew):=⟨⟨aa hF rfl,aa hF rfl,aa hF rfl,aa hF rfl,aa hF rfl,aa hF rfl,aa hF rfl,aa hF rfl,aa hF rfl⟩,c9⟩;have HR:Hid (cM w.drew sb cs):=hR;have HF:Hid (cY w xb sz cl qu mx qn rt bu wk ou sb N av clock false gi db/\cM w sb cs):=⟨hF,hR⟩;have HJ:Hid (oB cs j):=hj;have hj:=hj.1;clear hF hR;go_enter func36,ntmps36
 go_upto_region 9 with(first|(go_at_call 71;refine(dY wt 1 4 _).mono ?_;rw[hw];rintro e w1 ⟨rfl,rfl⟩)|(go_at_call 72;refine HI.out.mono ?_;rintro e w1 ⟨rfl,rfl⟩))
 refine wp_region_noPanic ?_;refine wp_region_held_drew (S:=Fx xb sb N sz cl qu mx qn rt bu wk ou) (by kernel_rfl) HS.out ?_;intro hHeld;refine tk 0 ?_;refine tk 1 ?_;refine tk 2 ?_;refine tk 3 ?_;refine tk 4 ?_;refine tk 5 ?_;refine tk 6 ?_;refine tk 7 ?_;refine tk 8 ?_;refine tk 9 ?_;refine tk 10 ?_;refine rH 11 fun K hK=>?_;go_simp
 (refine(wK sz cl qu mx qn rt bu wk ou av wt _).mono ?_;rintro e w2 ⟨c,rb,mb,ch,rfl,hA,hcb,bE,g1,g2,g3,g4⟩;have r2:=Fx.row bE HR.out hj;have f2:=Fx.frz bE HR.out j;simp only[eu,Option.map_none]at r2)
 go_wp2_with fail;refine hK.out _ _ (Fx.later hHeld bE) (fun Uu=>?_);clear hK K;refine tk 12 ?_;refine rH 13 fun K hK=>?_;go_simp;refine hK.out _ _ (Fx.off Uu HN.out) (fun WQ=>?_);clear hK K;refine wpAnyH_done (by kernel_rfl) ?_ _;refine NoPanic.normal ?_;have iX:Below w1.heap.size w1 w2:=(Below.refl _ w1).drew.trans bE;have F2:=aS (aM iX HF.out.1) HN.out j (.pointer (some ⟨c,0,none⟩));have R2:=aX (aM iX HF.out.2) j (eu (some c));rw[vB]at R2;have Tu:(w2.setCell ⟨sb,j,none⟩ (.pointer (some ⟨c,0,none⟩))).cell? ⟨xb,10,none⟩=some (.int .i64 av):=aa F2 rfl;have kf:=aG F2 10;have HQ:Hid (cY (w2.setCell ⟨sb,j,none⟩ (.pointer (some ⟨c,0,none⟩))) xb sz cl qu mx qn rt bu wk ou sb N av clock false gi db/\cM (w2.setCell ⟨sb,j,none⟩ (.pointer (some ⟨c,0,none⟩))) sb (cs.set j (some c))/\Below w1.heap.size w1 w2):=⟨F2,R2,iX⟩;have TB:Hid (aU w2 c rb mb ch sz cl qu mx qn rt bu wk ou 0 (Cl.fresh av wt bu)/\bC w2 c av wt sz cl qu mx qn rt bu wk ou rb ⟨#[]⟩ (.slice none 0 0) bu 0 ch/\w1.heap.size<=c/\w1.heap.size<=rb/\w1.heap.size<=mb/\w1.heap.size<=ch):=⟨hA,hcb,g1,g2,g3,g4⟩;clear F2 R2 iX hA hcb g1 g2 g3 g4 bE hHeld Uu r2 f2;go_wp2
 go_ret2
 obtain⟨F,R,B⟩:=HQ.out;obtain⟨A,C,g1,g2,g3,g4⟩:=TB.out;have lx:=(Array.getElem?_eq_some_iff.1 HF.out.1).1;have ls:=(Array.getElem?_eq_some_iff.1 HF.out.2).1;exact⟨rfl,aX F 10 _,c,rb,mb,ch,aS R (Ne.symm HN.out) 10 _,(A.cG (by omega) (by omega) (by omega) (by omega) _ _ ⟨_,C,rfl⟩).cG (by omega) (by omega) (by omega) (by omega) _ _ ⟨_,aS C (by omega) _ _,rfl⟩,aS (aS C (by omega) _ _) (by omega) _ _,((aF.below B).set (p:=⟨sb,j,none⟩) (.inl rfl) _).set (p:=⟨xb,10,none⟩) (.inr rfl) _,g1,g2,g3,g4⟩
end
end Go.Proofs.YtpobhljcainmdaaGreat
