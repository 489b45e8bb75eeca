/- Proved here: a part of what Doors keeps (Fe8, Fe9, Fe10, Fe11, Fe12, Fe13). -/
import Derived.Test.YtpobhljcainmdaaGreatJ01
import Derived.Test.YtpobhljcainmdaaGreatJ12
set_option maxRecDepth 100000
set_option maxHeartbeats 8000000
set_option linter.all false
namespace Go.Proofs.YtpobhljcainmdaaGreat
section
open Go.Proofs.Tryz
open Go.RowKit
attribute [local go_sem ↓] Go.wp_at_zero Go.wp_at_succ
attribute [local go_sem] au aj
theorem aU.aside{W W':World}{c rb mb ch N T:Nat}{x:Array Value}{sz cl qu mx qn rt bu wk ou de:Int}{k:Cl}(h:aU W c rb mb ch sz cl qu mx qn rt bu wk ou de k)(hN:W.heap[N]? =some (.cells x T (0,0)))(hT:T≠168/\T≠228/\T≠5)(hk:∀i,i≠N->W'.heap[i]? =W.heap[i]?):aU W' c rb mb ch sz cl qu mx qn rt bu wk ou de k:=by
 have key:∀i o,W.heap[i]? =some o->o≠Obj.cells x T (0,0)->W'.heap[i]? =some o:=fun i o ho hne=>(hk i (fun e=>hne (by subst e;exact Option.some.inj (ho.symm.trans hN)))).trans ho;have ne:∀(y:Array Value) (T':Nat),T≠T'->Obj.cells y T' (0,0)≠Obj.cells x T (0,0):=fun y T' h e=>by cases e;exact h rfl
 obtain⟨v,h1,h2⟩:=h.box;obtain⟨rp,h3,h4⟩:=h.rd;refine⟨⟨v,key _ _ h1 (ne _ _ hT.1),h2.1,?_⟩,⟨rp,⟨key _ _ h3.box (ne _ _ hT.2.1),?_⟩,h4⟩,key _ _ h.chan (by simp)⟩
 ·rcases h2.2 with h|⟨g,cap,cur,e1,e2,e3,e4⟩
  ·exact .inl h
  ·exact .inr ⟨g,cap,cur,e1,e2,key _ _ e3 (ne _ _ hT.2.2),e4⟩
 ·obtain⟨es,ck,e1,e2⟩:=h3.uses;exact⟨es,ck,key _ _ e1 (by simp),e2⟩
abbrev Di(W:World)(xb:Nat)(sz cl qu mx qn rt bu wk ou:Int)(sb N:Nat)(av clock:Int)(stop:Bool)(gi:Int)(db:Option Addr):Prop:=
 W.heap[xb]? =some (.cells ((Nv sz cl qu mx qn rt bu wk ou sb N av clock stop gi db).setIfInBounds 16 (.bool true)) 112 (0,0))
theorem OS{w w1 w2:World}{xb sb N c rb mb ch:Nat}{sz cl qu mx qn rt bu wk ou av clock de gi:Int}{stop:Bool}{db:Option Addr}{k:Cl}{o:Obj}(_:aU w1 c rb mb ch sz cl qu mx qn rt bu wk ou de k)(h2:cY w1 xb sz cl qu mx qn rt bu wk ou sb N av clock stop gi db)(h3:aF (fun i=>i=c) w w1)(h4:aU (w1.setCell ⟨xb,16,none⟩ (.bool true)) c rb mb ch sz cl qu mx qn rt bu wk ou de k)
  (h5:Below (w1.setCell ⟨xb,16,none⟩ (.bool true)).heap.size (w1.setCell ⟨xb,16,none⟩ (.bool true)) w2):aU (w2.alloc o) c rb mb ch sz cl qu mx qn rt bu wk ou de k/\Di (w2.alloc o) xb sz cl qu mx qn rt bu wk ou sb N av clock stop gi db/\aF (fun i=>i=c\/i=xb) w (w2.alloc o):=by
 have h6:=h5.alloc h5.size o;refine⟨h4.old h6,aM h6 (aX h2 16 _),?_⟩;exact((h3.mono fun i _ h=>.inl h).set (p:=⟨xb,16,none⟩) (.inr rfl) _).trans (.below h6)
theorem Su{w w1 w2:World}{xb c:Nat}{o:Obj}{x:Value}(hne:xb≠c)(hlt:c<w1.heap.size)(h5:Below (w1.setCell ⟨xb,16,none⟩ x).heap.size (w1.setCell ⟨xb,16,none⟩ x) w2)(hs:w1.cell? ⟨c,16,none⟩=w.cell? ⟨c,16,none⟩):(w2.alloc o).cell? ⟨c,16,none⟩=w.cell? ⟨c,16,none⟩:=by have h6:=h5.alloc h5.size o;rw[h6.cell (p:=⟨c,16,none⟩) (by simpa using hlt),World.cell?_of_block (a:=⟨c,16,none⟩) (fA (Ne.symm hne)),hs]
theorem CU(xb sb N j c rb mb ch:Nat)(cs:List (Option Nat))(sz cl qu mx qn rt bu wk ou av clock:Int)(stop:Bool)(db:Option Addr)(k:Cl)(w:World)(hF:cY w xb sz cl qu mx qn rt bu wk ou sb N av clock stop j db)(hR:cM w sb cs)(hl:cs.length=N)(hj:cs[j]? =some (some c))
  (hC:aU w c rb mb ch sz cl qu mx qn rt bu wk ou 0 k) (hq:0<=qn/\qn<=65535) (hw:0<=k.wt/\k.wt<=65535):
  Calls prog 107 #[.pointer (some ⟨xb,0,none⟩)] w fun e w'=>e=.returned (.bool false)/\Di w' xb sz cl qu mx qn rt bu wk ou sb N av clock stop j db/\aU w' c rb mb ch sz cl qu mx qn rt bu wk ou 0 k/\aF (fun i=>i=c\/i=xb) w w'/\w'.cell? ⟨c,16,none⟩=w.cell? ⟨c,16,none⟩:=by
 have c9:w.cell? ⟨xb,9,none⟩=some (.slice (some ⟨sb,0,none⟩) N N):=aa hF rfl;have XR:w.cell? ⟨xb,15,none⟩=some (.int .i64 j):=aa hF rfl;have Jq:w.cell? ⟨xb,16,none⟩=some (.bool false):=aa hF rfl;have hc:w.cell? ⟨sb,j,none⟩=some (.pointer (some ⟨c,0,none⟩)):=aa hR (jY hj);have hjl:j<N:=by have:=(List.getElem?_eq_some_iff.1 hj).1;omega
 have hjI:(j:Int)<(N:Int):=by omega
 obtain⟨o0,hb0,_⟩:=hC.box;have hne:xb≠c:=aJ hF hb0 (by simp);have HF:Hid (cY w xb sz cl qu mx qn rt bu wk ou sb N av clock stop j db/\xb≠c):=⟨hF,hne⟩
 have HO:Hid (∀n,Calls prog 165 #[.pointer (some ⟨c,0,none⟩)] (w.drewN n) fun e w'=>e=.returned (.tuple #[])/\aU w' c rb mb ch sz cl qu mx qn rt bu wk ou (k.wt*qn) k/\aF (fun i=>i=c) w w'/\w'.cell? ⟨c,16,none⟩=w.cell? ⟨c,16,none⟩):=fun n=>by refine(Cb c rb mb ch sz cl qu mx qn rt bu wk ou k (w.drewN n) (hC.drewN n) hq hw).mono ?_;rintro e w' ⟨h1,h2,h3,h4⟩;exact⟨h1,h2,⟨h3.os,h3.size,h3.block⟩,h4⟩
 clear hF hR hC hb0 hne;go_enter func107,ntmps107;go_wp2
 go_quiet (fail)
 go_wp2_with (first
  |(go_at_call 165;refine(HO.out _).mono ?_;rintro e w1 ⟨rfl,QM,YO,hs1⟩;have HS1:Hid (w1.cell? ⟨c,16,none⟩=w.cell? ⟨c,16,none⟩):=hs1;clear hs1;have F1:=aN YO HF.out.1 HF.out.2;have d16:w1.cell? ⟨xb,16,none⟩=some (.bool false):=aa F1 rfl;have df:=aG F1 16;have SF:Hid (aU w1 c rb mb ch sz cl qu mx qn rt bu wk ou (k.wt*qn) k/\cY w1 xb sz cl qu mx qn rt bu wk ou sb N av clock stop j db/\aF (fun i=>i=c) w w1):=⟨QM,F1,YO⟩;clear QM F1 YO)
  |(go_at_call 166;have hA2:=SF.out.1.aside (W':=w1.setCell ⟨xb,16,none⟩ (.bool true)) SF.out.2.1 (by decide) (fun i hi=>fA hi);obtain⟨o2,bE,_⟩:=hA2.box;refine(uC xb c _ (aa bE rfl)).mono ?_;rintro e w2 ⟨rfl,Rb⟩;have TB:Hid (aU (w2.alloc (.cells ru 134)) c rb mb ch sz cl qu mx qn rt bu wk ou (k.wt*qn) k/\Di (w2.alloc (.cells ru 134)) xb sz cl qu mx qn rt bu wk ou sb N av clock stop j db/\aF (fun i=>i=c\/i=xb) w (w2.alloc (.cells ru 134))):=OS SF.out.1 SF.out.2.1 SF.out.2.2 hA2 Rb;have HS2:Hid ((w2.alloc (.cells ru 134)).cell? ⟨c,16,none⟩=w.cell? ⟨c,16,none⟩):=Su HF.out.2 SF.out.1.lt Rb HS1.out;clear hA2 bE Rb)
  |(go_at_call 167;refine(zI c rb mb ch sz cl qu mx qn rt bu wk ou (k.wt*qn) k _ TB.out.1).mono ?_;rintro e w3 ⟨rfl,hA3,MN,Zx⟩))
 go_ret;exact⟨rfl,aN MN TB.out.2.1 HF.out.2,hA3,TB.out.2.2.trans (MN.mono fun i _ h=>.inl h),Zx.trans HS2.out⟩
end
section
open Go.Proofs.Tryz
open Go.RowKit
attribute [local go_sem ↓] Go.wp_at_zero Go.wp_at_succ
attribute [local go_sem] au aj
theorem zT(xb sb N j:Nat)(op:Bool)(sz qu mx qn rt bu wk ou av clock:Int)(stop:Bool)(db:Option Addr)(w:World)(hF:w.heap[xb]? =some (.cells ((Nv sz N qu mx qn rt bu wk ou sb N av clock stop j db).setIfInBounds 16 (.bool op)) 112 (0,0)))(hN:1<=N)(zi:N<=65535)(hj:j<N):
  Calls prog 108 #[.pointer (some ⟨xb,0,none⟩)] w fun e w'=>e=.returned (.tuple #[])/\cY w' xb sz N qu mx qn rt bu wk ou sb N av clock stop (((j+1)%N:Nat):Int) db/\aF (fun i=>i=xb) w w':=by
 have c1:w.cell? ⟨xb,1,none⟩=some (.int .i64 N):=aa hF rfl;have XR:w.cell? ⟨xb,15,none⟩=some (.int .i64 j):=aa hF rfl;have Jq:w.cell? ⟨xb,16,none⟩=some (.bool op):=aa hF rfl;have f15:=aG hF 15;have f16:=aG hF 16;have hN0:¬N=0:=by omega
 have htm:(IntKind.i64.wrap ((j:Int)+1)).tmod (N:Int)=(((j+1)%N:Nat):Int):=by rw[lH (by omega) (by omega),show((j:Int)+1)=((j+1:Nat):Int) by omega];rfl
 have HF:Hid (w.heap[xb]? =some (.cells ((Nv sz N qu mx qn rt bu wk ou sb N av clock stop j db).setIfInBounds 16 (.bool op)) 112 (0,0))):=hF;clear hF;go_enter func108,ntmps108
 go_upto_region 0 with fail
 refine wp_region_noPanic ?_;refine wp_region_held_drew (S:=fun W=>W.cell? ⟨xb,1,none⟩=some (.int .i64 N)) (by kernel_rfl) c1 ?_;intro hHeld;refine tk 0 ?_;refine tk 1 ?_;refine tk 2 ?_;refine tk 3 ?_;refine tk 4 ?_;refine tk 7 ?_;refine tk 8 ?_;refine tk 9 ?_;refine tk 10 ?_;refine tk 11 ?_;refine rH 5 fun K hK=>?_;go_simp;refine hK.out _ _ (hHeld) (fun YF=>?_);clear hK K;refine tk 6 ?_;refine tk 12 ?_;refine tk 13 ?_;refine tk 14 ?_;refine tk 15 ?_;refine rH 16 fun K hK=>?_;go_simp;refine hK.out _ _ ((by exact(World.cell?_setCell_other _ ⟨xb,16,none⟩ ⟨xb,1,none⟩ _ (by simp)).trans ((World.cell?_setCell_other _ ⟨xb,15,none⟩ ⟨xb,1,none⟩ _ (by simp)).trans c1))) (fun YG=>?_);clear hK K;refine wpAnyH_done (by kernel_rfl) ?_ _
 (refine NoPanic.normal ?_;go_wp2_with fail;exact cw rfl rfl ⟨rfl,aX (w:=w.setCell ⟨xb,15,none⟩ (.int .i64 (((j+1)%N:Nat):Int))) (aX HF.out 15 _) 16 _,(((aF.refl (fun i=>i=xb) w).set (p:=⟨xb,15,none⟩) rfl _).set (p:=⟨xb,16,none⟩) rfl _).drew'⟩)
end
section
open Go.Proofs.Tryz
open Go.RowKit
attribute [local go_sem ↓] Go.wp_at_zero Go.wp_at_succ
attribute [local go_sem] au aj
structure aK where
 rb:Nat->Nat
 mb:Nat->Nat
 ch:Nat->Nat
 k:Nat->Cl
def rM(W:World)(cs:List (Option Nat))(p:aK)(sz cl qu mx qn rt bu wk ou:Int):Prop:=∀c∈ay cs,aU W c (p.rb c) (p.mb c) (p.ch c) sz cl qu mx qn rt bu wk ou 0 (p.k c)
theorem aU.other{W W':World}{c c' xb rb mb ch T:Nat}{x y:Array Value}{sz cl qu mx qn rt bu wk ou de:Int}{k:Cl}(h:aU W c' rb mb ch sz cl qu mx qn rt bu wk ou de k)(hc:W.heap[c]? =some (.cells x 168 (0,0)))(hx:W.heap[xb]? =some (.cells y T (0,0)))(hT:T≠168/\T≠228/\T≠5)(hne:c'≠c)(ht:aF (fun i=>i=c\/i=xb) W W'):aU W' c' rb mb ch sz cl qu mx qn rt bu wk ou de k:=by
 have ne:∀(z:Array Value) (T':Nat),T≠T'->Obj.cells z T' (0,0)≠Obj.cells y T (0,0):=fun z T' h e=>by cases e;exact h rfl
 have key:∀i o,W.heap[i]? =some o->i≠c->o≠Obj.cells y T (0,0)->W'.heap[i]? =some o:=fun i o ho h1 h2=>aN ht ho (by
  rintro(e|e)
  ·exact h1 e
  ·exact aJ ho hx h2 e)
 obtain⟨v,h1,h2⟩:=h.box;obtain⟨rp,h3,h4⟩:=h.rd;refine⟨⟨v,key _ _ h1 hne (ne _ _ hT.1),h2.1,?_⟩,⟨rp,⟨key _ _ h3.box (aJ h3.box hc (by simp)) (ne _ _ hT.2.1),?_⟩,h4⟩,key _ _ h.chan (aJ h.chan hc (by simp)) (by simp)⟩
 ·rcases h2.2 with h|⟨g,cap,cur,e1,e2,e3,e4⟩
  ·exact .inl h
  ·exact .inr ⟨g,cap,cur,e1,e2,key _ _ e3 (aJ e3 hc (by simp)) (ne _ _ hT.2.2),e4⟩
 ·obtain⟨es,ck,e1,e2⟩:=h3.uses;exact⟨es,ck,key _ _ e1 (aJ e1 hc (by simp)) (by simp),e2⟩
theorem aU.fK{W W':World}{c xb rb mb ch T:Nat}{y:Array Value}{sz cl qu mx qn rt bu wk ou de:Int}{k:Cl}(h:aU W c rb mb ch sz cl qu mx qn rt bu wk ou de k)(hx:W.heap[xb]? =some (.cells y T (0,0)))(hT:T≠168/\T≠228/\T≠5)(ht:aF (fun i=>i=xb) W W'):aU W' c rb mb ch sz cl qu mx qn rt bu wk ou de k:=by
 have ne:∀(z:Array Value) (T':Nat),T≠T'->Obj.cells z T' (0,0)≠Obj.cells y T (0,0):=fun z T' h e=>by cases e;exact h rfl
 have key:∀i o,W.heap[i]? =some o->o≠Obj.cells y T (0,0)->W'.heap[i]? =some o:=fun i o ho h2=>aN ht ho (fun e=>aJ ho hx h2 e);obtain⟨v,h1,h2⟩:=h.box;obtain⟨rp,h3,h4⟩:=h.rd;refine⟨⟨v,key _ _ h1 (ne _ _ hT.1),h2.1,?_⟩,⟨rp,⟨key _ _ h3.box (ne _ _ hT.2.1),?_⟩,h4⟩,key _ _ h.chan (by simp)⟩
 ·rcases h2.2 with h|⟨g,cap,cur,e1,e2,e3,e4⟩
  ·exact .inl h
  ·exact .inr ⟨g,cap,cur,e1,e2,key _ _ e3 (ne _ _ hT.2.2),e4⟩
 ·obtain⟨es,ck,e1,e2⟩:=h3.uses;exact⟨es,ck,key _ _ e1 (by simp),e2⟩
theorem xm(xb sb N j:Nat)(cs:List (Option Nat))(p:aK)(sz qu mx qn rt bu wk ou av clock:Int)(stop:Bool)(db:Option Addr)(w:World)(hF:cY w xb sz N qu mx qn rt bu wk ou sb N av clock stop j db)(hR:cM w sb cs)(hl:cs.length=N)(hA:rM w cs p sz N qu mx qn rt bu wk ou)
  (hN:1<=N) (zi:N<=65535) (hj:j<N) (hq:0<=qn/\qn<=65535) (hw:∀c∈ay cs,0<=(p.k c).wt/\(p.k c).wt<=65535) (hwk:1<=wk):
  Calls prog 63 #[.pointer (some ⟨xb,0,none⟩)] w fun e w'=>e=.returned (.tuple #[])/\cY w' xb sz N qu mx qn rt bu wk ou sb N av clock stop (((j+(N+1))%N:Nat):Int) db/\cM w' sb cs/\rM w' cs p sz N qu mx qn rt bu wk ou/\aF (fun i=>i=xb\/i∈ay cs) w w'/\(∀c∈ay cs,w'.cell? ⟨c,16,none⟩=w.cell? ⟨c,16,none⟩):=by
 have HW:Hid (∀c∈ay cs,0<=(p.k c).wt/\(p.k c).wt<=65535):=hw;have HF:Hid (cY w xb sz N qu mx qn rt bu wk ou sb N av clock stop j db/\cM w sb cs/\rM w cs p sz N qu mx qn rt bu wk ou):=⟨hF,hR,hA⟩;have hwI:decide ((0:Int)<wk)=true:=by simp;omega
 clear hF hR hA hw;go_enter func63,ntmps63;go_wp2
 go_loopw [2] (fun i wr=>∃q:Nat,q<=N+1/\i=.int .i64 q/\Hid (cY wr xb sz N qu mx qn rt bu wk ou sb N av clock stop (((j+q)%N:Nat):Int) db/\cM wr sb cs/\rM wr cs p sz N qu mx qn rt bu wk ou/\aF (fun i=>i=xb\/i∈ay cs) w wr/\(∀c∈ay cs,wr.cell? ⟨c,16,none⟩=w.cell? ⟨c,16,none⟩))) (fun i _=>N+1-(intOf i).toNat)
 case atStart=>exact⟨0,Nat.zero_le _,rfl,by rw[Nat.add_zero,Nat.mod_eq_of_lt hj];exact HF.out.1,HF.out.2.1,HF.out.2.2,aF.refl _ _,fun _ _=>rfl⟩
 case round=>
  obtain⟨q,KZ,rfl,hH⟩:=hrel;obtain⟨F,R,A,T,E⟩:=hH.out;have Dt:wr.cell? ⟨xb,18,none⟩=some (.slice none 0 0):=aa F rfl;have c7:wr.cell? ⟨xb,7,none⟩=some (.int .i64 wk):=aa F rfl;have c1:wr.cell? ⟨xb,1,none⟩=some (.int .i64 N):=aa F rfl
  by_cases hlt:q<=N
  ·have wP:decide ((q:Int)<=(N:Int))=true:=by simp;omega
   have Ti:(j+q)%N<N:=Nat.mod_lt _ (by omega);obtain⟨v,hv⟩:∃v,cs[(j+q)%N]? =some v:=⟨cs[(j+q)%N],by rw[List.getElem?_eq_getElem]⟩;have hnext:((j+q)%N+1)%N=(j+(q+1))%N:=by rw[Nat.mod_add_mod,Nat.add_assoc]
   have HU:Hid (∀n,Calls prog 107 #[.pointer (some ⟨xb,0,none⟩)] (wr.drewN n) fun e w'=>e=.returned (.bool false)/\∃op,w'.heap[xb]? =some (.cells ((Nv sz N qu mx qn rt bu wk ou sb N av clock stop (((j+q)%N:Nat):Int) db).setIfInBounds 16 (.bool op)) 112 (0,0))/\cM w' sb cs/\rM w' cs p sz N qu mx qn rt bu wk ou/\aF (fun i=>i=xb\/i∈ay cs) w w'/\(∀c∈ay cs,w'.cell? ⟨c,16,none⟩=w.cell? ⟨c,16,none⟩)):=fun n=>by
    cases v with
    |none=>
     refine(xp xb sb N _ cs sz N qu mx qn rt bu wk ou av clock stop db (wr.drewN n) F R hl zi hv).mono ?_;rintro e w' ⟨rfl,m,rfl⟩;exact⟨rfl,false,F,R,fun c hc=>((A c hc).drewN n).drewN m,⟨T.os,T.size,T.block⟩,E⟩
    |some c=>
     have hcm:c∈ay cs:=List.mem_filterMap.2 ⟨some c,List.mem_of_getElem? hv,rfl⟩;refine(CU xb sb N _ c _ _ _ cs sz N qu mx qn rt bu wk ou av clock stop db _ (wr.drewN n) F R hl hv ((A c hcm).drewN n) hq (HW.out c hcm)).mono ?_;rintro e w' ⟨rfl,h1,h2,h3,h4⟩;obtain⟨o,hb,_⟩:=(A c hcm).box;have ht:aF (fun i=>i=c\/i=xb) wr w':=⟨h3.os,h3.size,h3.block⟩;refine⟨rfl,true,h1,aN ht R ?_,fun c' fN=>?_,T.trans (ht.mono fun i _ h=>h.elim (fun e=>.inr (e▸hcm)) .inl),fun c' fN=>?_⟩
     ·rintro(e|e)
      ·exact aJ R hb (by simp) e
      ·exact aJ R F (by simp) e
     ·by_cases e:c'=c
      ·subst e;exact h2
      ·exact(A c' fN).other hb F (by decide) e ht
     ·by_cases e:c'=c
      ·subst e;exact h4.trans (E c' fN)
      ·obtain⟨o',hb',_⟩:=(A c' fN).box;rw[World.cell?_of_block (a:=⟨c',16,none⟩) (ht.block c' (Array.getElem?_eq_some_iff.1 hb').1 (by rintro(x|x);exact e x;exact aJ hb' F (by simp) x))];exact E c' fN
   have HP:Hid (∀W op,W.heap[xb]? =some (.cells ((Nv sz N qu mx qn rt bu wk ou sb N av clock stop (((j+q)%N:Nat):Int) db).setIfInBounds 16 (.bool op)) 112 (0,0))->Calls prog 108 #[.pointer (some ⟨xb,0,none⟩)] W fun e w'=>e=.returned (.tuple #[])/\cY w' xb sz N qu mx qn rt bu wk ou sb N av clock stop (((j+(q+1))%N:Nat):Int) db/\aF (fun i=>i=xb) W w'):=fun W op hW=>by have:=zT xb sb N ((j+q)%N) op sz qu mx qn rt bu wk ou av clock stop db W hW hN zi Ti;rw[hnext]at this;exact this
   clear F R A T E hv hH;go_wp2
   go_quiet ((go_at_call 77;exact Calls.quiet_of_same (qa xb 18 _ Dt)))
   go_wp2_with (first
    |(go_at_call 107;refine(HU.out _).mono ?_;rintro e w1 ⟨rfl,op,h1,h2,h3,h4,h5⟩;have H1:Hid (w1.heap[xb]? =some (.cells ((Nv sz N qu mx qn rt bu wk ou sb N av clock stop (((j+q)%N:Nat):Int) db).setIfInBounds 16 (.bool op)) 112 (0,0))/\cM w1 sb cs/\rM w1 cs p sz N qu mx qn rt bu wk ou/\aF (fun i=>i=xb\/i∈ay cs) w w1/\(∀c∈ay cs,w1.cell? ⟨c,16,none⟩=w.cell? ⟨c,16,none⟩)):=⟨h1,h2,h3,h4,h5⟩;clear h1 h2 h3 h4 h5)
    |(go_at_call 108;refine(HP.out _ op H1.out.1).mono ?_;rintro e w2 ⟨rfl,h5,h6⟩))
   obtain⟨h1,h2,h3,h4,h7⟩:=H1.out;refine⟨⟨q+1,by omega,by go_num,h5,aN h6 h2 (fun e=>aJ h2 h1 (by simp) e),fun c hc=>(h3 c hc).fK h1 (by decide) h6,h4.trans (h6.mono fun i _ h=>.inl h),fun c hc=>?_⟩,?_⟩
   ·obtain⟨o',hb',_⟩:=(h3 c hc).box;rw[World.cell?_of_block (a:=⟨c,16,none⟩) (h6.block c (Array.getElem?_eq_some_iff.1 hb').1 (fun x=>aJ hb' h1 (by simp) x))];exact h7 c hc
   ·simp[intOf];omega
  ·have wP:decide ((q:Int)<=(N:Int))=false:=by simp;omega
   have Zt:q=N+1:=by omega
   subst Zt;clear F R A T E;go_wp2
   go_quiet ((go_at_call 77;exact Calls.quiet_of_same (qa xb 18 _ Dt)))
   go_wp2;obtain⟨F,R,A,T,E⟩:=hH.out;exact cw rfl rfl ⟨rfl,F,R,fun c hc=>(A c hc).drewN _,⟨T.os,T.size,T.block⟩,E⟩
end
section
open Go.Proofs.Tryz
open Go.RowKit
attribute [local go_sem ↓] Go.wp_at_zero Go.wp_at_succ
attribute [local go_sem] au aj
structure lT(C:Nat->Prop)(W:World)(c rb mb ch:Nat):Prop where
 dO:C c/\C rb/\C mb/\C ch
 out:∀v,W.cell? ⟨c,16,none⟩=some v->∀g,v.ownBlock=some g->C g
section
variable {W W':World} {c rb mb ch:Nat} {sz cl qu mx qn rt bu wk ou de:Int} {k:Cl} {C X:Nat->Prop}
theorem aU.apart(h:aU W c rb mb ch sz cl qu mx qn rt bu wk ou de k)(ho:lT C W c rb mb ch)(ht:aF X W W')(hX:∀b,C b->¬X b):aU W' c rb mb ch sz cl qu mx qn rt bu wk ou de k:=by
 obtain⟨v,h1,h2⟩:=h.box;obtain⟨rp,h3,h4⟩:=h.rd;refine⟨⟨v,aN ht h1 (hX _ ho.dO.1),h2.1,?_⟩,⟨rp,⟨aN ht h3.box (hX _ ho.dO.2.1),?_⟩,h4⟩,aN ht h.chan (hX _ ho.dO.2.2.2)⟩
 ·rcases h2.2 with h|⟨g,cap,cur,e1,e2,e3,e4⟩
  ·exact .inl h
  ·exact .inr ⟨g,cap,cur,e1,e2,aN ht e3 (hX _ (ho.out v (aa h1 rfl) g (by rw[e1];rfl))),e4⟩
 ·obtain⟨es,ck,e1,e2⟩:=h3.uses;exact⟨es,ck,aN ht e1 (hX _ ho.dO.2.2.1),e2⟩
theorem lT.apart(ho:lT C W c rb mb ch)(h:aU W c rb mb ch sz cl qu mx qn rt bu wk ou de k)(ht:aF X W W')(hX:∀b,C b->¬X b):lT C W' c rb mb ch:=by obtain⟨v,h1,_⟩:=h.box;refine⟨ho.dO,fun v' hv'=>?_⟩;have h2:=aN ht h1 (hX _ ho.dO.1);have e:v'=v:=Option.some.inj (hv'.symm.trans (aa h2 rfl));rw[e];exact ho.out v (aa h1 rfl)
end
def aK.upd(p:aK)(c:Nat)(k:Cl):aK:={p with k:=fun x=>if x=c then k else p.k x}
structure bf(W:World)(xb sb N:Nat)(cs:List (Option Nat))(p:aK)(C:Nat->Nat->Prop)(sz qu mx qn rt bu wk ou av clock:Int)(stop:Bool)(j:Nat)(db:Option Addr):Prop where
 box:cY W xb sz N qu mx qn rt bu wk ou sb N av clock stop j db
 row:cM W sb cs
 len:cs.length=N
 all:rM W cs p sz N qu mx qn rt bu wk ou
 nodup:(ay cs).Nodup
 owns:∀c∈ay cs,lT (C c) W c (p.rb c) (p.mb c) (p.ch c)
 apart:∀c∈ay cs,∀c'∈ay cs,c≠c'->∀b,C c b->¬C c' b
 cG:∀c∈ay cs,¬C c xb/\¬C c sb
 lt:∀c∈ay cs,∀b,C c b->b<W.heap.size
section
variable {W W':World} {xb sb N:Nat} {cs:List (Option Nat)} {p:aK} {C:Nat->Nat->Prop} {sz qu mx qn rt bu wk ou av clock Bd clock':Int} {stop stop':Bool} {j j':Nat} {db:Option Addr}
theorem bf.later{X:Nat->Prop}(h:bf W xb sb N cs p C sz qu mx qn rt bu wk ou av clock stop j db)(ht:aF X W W')(hX:∀c∈ay cs,∀b,C c b->¬X b)(hb:cY W' xb sz N qu mx qn rt bu wk ou sb N Bd clock' stop' j' db)(hr:cM W' sb cs):bf W' xb sb N cs p C sz qu mx qn rt bu wk ou Bd clock' stop' j' db:=
 ⟨hb,hr,h.len,fun c hc=>(h.all c hc).apart (h.owns c hc) ht (hX c hc),h.nodup,fun c hc=>(h.owns c hc).apart (h.all c hc) ht (hX c hc),h.apart,h.cG,fun c hc b hb=>Nat.lt_of_lt_of_le (h.lt c hc b hb) ht.size⟩
theorem bf.old(h:bf W xb sb N cs p C sz qu mx qn rt bu wk ou av clock stop j db)(hb:Below W.heap.size W W'):bf W' xb sb N cs p C sz qu mx qn rt bu wk ou av clock stop j db:=
 h.later (X:=fun _=>False) (.below hb) (fun _ _ _ _ h=>h) (aM hb h.box) (aM hb h.row)
theorem bf.client(h:bf W xb sb N cs p C sz qu mx qn rt bu wk ou av clock stop j db){c:Nat}(hc:c∈ay cs){k:Cl}(hA:aU W' c (p.rb c) (p.mb c) (p.ch c) sz N qu mx qn rt bu wk ou 0 k)(ho:lT (C c) W' c (p.rb c) (p.mb c) (p.ch c))(ht:aF (C c) W W'):bf W' xb sb N cs (p.upd c k) C sz qu mx qn rt bu wk ou av clock stop j db:=by
 refine⟨aN ht h.box (h.cG c hc).1,aN ht h.row (h.cG c hc).2,h.len,fun c' fN=>?_,h.nodup,fun c' fN=>?_,h.apart,h.cG,fun c' fN b hb=>Nat.lt_of_lt_of_le (h.lt c' fN b hb) ht.size⟩
 ·by_cases e:c'=c
  ·subst e;simp only[aK.upd,if_true];exact hA
  ·simp only[aK.upd,e,if_false];exact(h.all c' fN).apart (h.owns c' fN) ht (h.apart c' fN c hc e)
 ·by_cases e:c'=c
  ·subst e;exact ho
  ·exact(h.owns c' fN).apart (h.all c' fN) ht (h.apart c' fN c hc e)
theorem lT.box{c rb mb ch:Nat}{D:Nat->Prop}(ho:lT D W c rb mb ch)(Yt:W'.cell? ⟨c,16,none⟩=W.cell? ⟨c,16,none⟩):lT D W' c rb mb ch:=⟨ho.dO,fun v hv=>ho.out v (Yt▸hv)⟩
theorem bf.sJ(h:bf W xb sb N cs p C sz qu mx qn rt bu wk ou av clock stop j db)(hN:N<=65535):kH W xb sb N cs:=Cn h.box h.row h.len hN
theorem bf.no(h:bf W xb sb N cs p C sz qu mx qn rt bu wk ou av clock stop j db):∀c∈ay cs,W.cell? ⟨c,0,none⟩=some (.int .i64 (p.k c).no):=fun c hc=>by obtain⟨v,h1,_⟩:=(h.all c hc).box;exact aa h1 rfl
end
def aK.find(p:aK)(cs:List (Option Nat))(u:Int):Option Nat:=(ay cs).find? fun c=>decide ((p.k c).no=u)
theorem aK.mem{p:aK}{cs:List (Option Nat)}{u:Int}{c:Nat}(h:p.find cs u=some c):c∈ay cs:=List.mem_of_find?_eq_some h
theorem Mu(xb sb N:Nat)(cs:List (Option Nat))(p:aK)(C:Nat->Nat->Prop)(sz qu mx qn rt bu wk ou av clock:Int)(stop:Bool)(j:Nat)(db:Option Addr)(w:World)(h:bf w xb sb N cs p C sz qu mx qn rt bu wk ou av clock stop j db):
  Calls prog 42 #[.pointer (some ⟨xb,0,none⟩)] w fun e w'=>e=.returned (.tuple #[])/\bf w' xb sb N cs p C sz qu mx qn rt bu wk ou av clock true j db/\aF (fun i=>i=xb) w w':=by
 have pI:w.cell? ⟨xb,14,none⟩=some (.bool stop):=aa h.box rfl;have f14:=aG h.box 14;have ht:aF (fun i=>i=xb) w (w.setCell ⟨xb,14,none⟩ (.bool true)):=(aF.refl (fun i=>i=xb) w).set (p:=⟨xb,14,none⟩) rfl _
 have HQ:Hid (bf (w.setCell ⟨xb,14,none⟩ (.bool true)) xb sb N cs p C sz qu mx qn rt bu wk ou av clock true j db/\aF (fun i=>i=xb) w (w.setCell ⟨xb,14,none⟩ (.bool true))):=
  ⟨h.later ht (fun c hc b hb e=>(h.cG c hc).1 (e▸hb)) (aX h.box 14 _) (aS h.row (aJ h.row h.box (by simp)) _ _),ht⟩
 clear h ht;go_enter func42,ntmps42;go_wp2;exact cw rfl rfl ⟨rfl,HQ.out⟩
theorem DV(xb sb N:Nat)(cs:List (Option Nat))(p:aK)(C:Nat->Nat->Prop)(sz qu mx qn rt bu wk ou av clock:Int)(stop:Bool)(j:Nat)(db:Option Addr)(u:Int)(s:ByteArray)(w:World)(h:bf w xb sb N cs p C sz qu mx qn rt bu wk ou av clock stop j db)(hN:N<=65535)(hu:p.find cs u=none):
  Calls prog 37 #[.pointer (some ⟨xb,0,none⟩),.int .i64 u,.string s] w fun e w'=>e=.returned (.int .i64 2)/\Below w.heap.size w w':=by
 have HI:Hid (Calls prog 68 #[.pointer (some ⟨xb,0,none⟩),.int .i64 u] w fun e w'=>e=.returned (.pointer none)/\Below w.heap.size w w'):=by have:=uB xb sb N cs u (fun c=>(p.k c).no) w (h.sJ hN) h.no;rw[show(ay cs).find? (fun c=>decide ((p.k c).no=u))=none from hu]at this;exact this
 clear h hu;go_enter func37,ntmps37;go_wp2_with (go_at_call 68;refine HI.out.mono ?_;rintro e w1 ⟨rfl,hb⟩);go_ret;exact⟨rfl,hb⟩
end
section
open Go.Proofs.Tryz
open Go.RowKit
attribute [local go_sem ↓] Go.wp_at_zero Go.wp_at_succ
attribute [local go_sem] au aj
section
variable {W W':World} {c:Nat}
end
theorem found{xb sb N:Nat}{cs:List (Option Nat)}{p:aK}{C:Nat->Nat->Prop}{sz qu mx qn rt bu wk ou av clock:Int}{stop:Bool}{j:Nat}{db:Option Addr}{u:Int}{w:World}(h:bf w xb sb N cs p C sz qu mx qn rt bu wk ou av clock stop j db)(hN:N<=65535){c:Nat}(hu:p.find cs u=some c):
  Calls prog 68 #[.pointer (some ⟨xb,0,none⟩),.int .i64 u] w fun e w'=>e=.returned (.pointer (some ⟨c,0,none⟩))/\Below w.heap.size w w':=by
 have:=uB xb sb N cs u (fun c=>(p.k c).no) w (h.sJ hN) h.no;rw[show(ay cs).find? (fun c=>decide ((p.k c).no=u))=some c from hu]at this;exact this
theorem yU{xb sb N:Nat}{cs:List (Option Nat)}{p:aK}{C:Nat->Nat->Prop}{sz qu mx qn rt bu wk ou av clock:Int}{stop:Bool}{j:Nat}{db:Option Addr}{u:Int}{w:World}(h:bf w xb sb N cs p C sz qu mx qn rt bu wk ou av clock stop j db)(hN:N<=65535)(hu:p.find cs u=none):
  Calls prog 68 #[.pointer (some ⟨xb,0,none⟩),.int .i64 u] w fun e w'=>e=.returned (.pointer none)/\Below w.heap.size w w':=by
 have:=uB xb sb N cs u (fun c=>(p.k c).no) w (h.sJ hN) h.no;rw[show(ay cs).find? (fun c=>decide ((p.k c).no=u))=none from hu]at this;exact this
def iR(C:Nat->Prop)(c:Nat)(W W':World):Prop:=∀b,C b->b≠c->W'.heap[b]? =W.heap[b]? \/∃x y T,W.heap[b]? =some (.cells x T (0,0))/\W'.heap[b]? =some (.cells y T (0,0))/\∀(i:Nat) v,y[i]? =some v->(∃j:Nat,x[j]? =some v)\/v=.int .u8 0
theorem iR.vq{C X:Nat->Prop}{c:Nat}{W W':World}(h:aF X W W')(hl:∀b,C b->b<W.heap.size)(hX:∀b,C b->X b->b=c):iR C c W W':=fun b hb hne=>.inl (h.block b (hl b hb) fun hx=>hne (hX b hb hx))
theorem iR.trans{C:Nat->Prop}{c:Nat}{A B D:World}(h:iR C c A B)(k:iR C c B D):iR C c A D:=fun b hb hne=>by
 rcases h b hb hne with h1|⟨x,y,T,h1,h2,h3⟩
 ·rcases k b hb hne with k1|⟨x,y,T,k1,k2,k3⟩
  ·exact .inl (k1.trans h1)
  ·exact .inr ⟨x,y,T,h1▸k1,k2,k3⟩
 ·rcases k b hb hne with k1|⟨x',y',T',k1,k2,k3⟩
  ·exact .inr ⟨x,y,T,h1,k1.trans h2,h3⟩
  ·rw[h2]at k1;cases k1;refine .inr ⟨x,y',T,h1,k2,fun i v hv=>?_⟩;rcases k3 i v hv with⟨j,hj⟩|e
   ·exact h3 j v hj
   ·exact .inr e
theorem DU(xb sb N c:Nat)(cs:List (Option Nat))(p:aK)(C:Nat->Nat->Prop)(sz qu mx qn rt bu wk ou av clock:Int)(stop:Bool)(j:Nat)(db:Option Addr)(u:Int)(s:ByteArray)(w:World)(h:bf w xb sb N cs p C sz qu mx qn rt bu wk ou av clock stop j db)(hN:N<=65535)(hu:p.find cs u=some c)(hp:(p.k c).ph≠4)(hi:(p.k c).aO.size<=1024)(hl:1024<(p.k c).aO.size+s.size):
  Calls prog 37 #[.pointer (some ⟨xb,0,none⟩),.int .i64 u,.string s] w fun e w'=>e=.returned (.int .i64 6)/\Below w.heap.size w w':=by
 have HI:=found h hN hu;have HS:Hid (∀W,Below w.heap.size w W->Calls prog 74 #[.pointer (some ⟨c,0,none⟩),.string s] W fun e w'=>e=.returned (.int .i64 6)/\w'=W):=fun W hW=>IG c _ _ _ sz N qu mx qn rt bu wk ou 0 (p.k c) s W ((h.all c (aK.mem hu)).old hW) hp hi hl;have Dj:Hid (Calls prog 68 #[.pointer (some ⟨xb,0,none⟩),.int .i64 u] w fun e w'=>e=.returned (.pointer (some ⟨c,0,none⟩))/\Below w.heap.size w w'):=HI;clear h hu HI hl hp hi;go_enter func37,ntmps37;go_wp2_with (first|(go_at_call 68;refine Dj.out.mono ?_;rintro e w1 ⟨rfl,hb⟩)|(go_at_call 74;refine(HS.out _ hb).mono ?_;rintro e w2 ⟨rfl,rfl⟩));go_ret;exact⟨rfl,hb⟩
theorem Kt(xb sb N c:Nat)(cs:List (Option Nat))(p:aK)(C:Nat->Nat->Prop)(sz qu mx qn rt bu wk ou av clock:Int)(stop:Bool)(j:Nat)(db:Option Addr)(u:Int)(s:ByteArray)(w:World)(h:bf w xb sb N cs p C sz qu mx qn rt bu wk ou av clock stop j db)(hN:N<=65535)(hu:p.find cs u=some c)(hp:(p.k c).ph≠4)(hl:(p.k c).aO.size+s.size<=1024):
  Calls prog 37 #[.pointer (some ⟨xb,0,none⟩),.int .i64 u,.string s] w fun e w'=>e=.returned (.int .i64 0)/\bf w' xb sb N cs (p.upd c ((p.k c).send s)) C sz qu mx qn rt bu wk ou av clock stop j db/\aF (C c) w w'/\iR (C c) c w w':=by
 have hm:=aK.mem hu;have Dj:Hid (Calls prog 68 #[.pointer (some ⟨xb,0,none⟩),.int .i64 u] w fun e w'=>e=.returned (.pointer (some ⟨c,0,none⟩))/\Below w.heap.size w w'):=found h hN hu
 have HS:Hid (∀W,Below w.heap.size w W->Calls prog 74 #[.pointer (some ⟨c,0,none⟩),.string s] W fun e w'=>e=.returned (.int .i64 0)/\bf w' xb sb N cs (p.upd c ((p.k c).send s)) C sz qu mx qn rt bu wk ou av clock stop j db/\aF (C c) w w'/\iR (C c) c w w'):=fun W hW=>by have hA:=(h.all c hm).old hW;have hO:=(h.owns c hm).apart (h.all c hm) (.below (X:=fun _=>False) hW) (fun _ _ h=>h);refine(Oz c _ _ _ sz N qu mx qn rt bu wk ou 0 (p.k c) s W hA hp hl).mono ?_;rintro e w' ⟨h1,h2,h3,h4⟩;have ht:aF (C c) W w':=h3.mono fun i _ e=>e▸hO.dO.1;exact⟨h1,(h.old hW).client hm h2 (hO.box h4) ht,(aF.below hW).trans ht,(iR.vq (X:=fun _=>False) (.below hW) (h.lt c hm) (fun _ _ h=>h.elim)).trans (iR.vq h3 (fun b hb=>Nat.lt_of_lt_of_le (h.lt c hm b hb) hW.size) fun _ _ e=>e)⟩
 clear h hu hl hp;go_enter func37,ntmps37;go_wp2_with (first|(go_at_call 68;refine Dj.out.mono ?_;rintro e w1 ⟨rfl,hb⟩)|(go_at_call 74;refine(HS.out _ hb).mono ?_;rintro e w2 ⟨rfl,h1,h2⟩));go_ret;exact⟨rfl,h1,h2⟩
end
section
open Go.Proofs.Tryz
open Go.RowKit
attribute [local go_sem ↓] Go.wp_at_zero Go.wp_at_succ
attribute [local go_sem] au aj
abbrev tR:Array Value:=#[.int .i64 0,.int .i64 0,.int .i64 0,.int .i64 0,.int .i64 0,.int .i64 0,.int .i64 0,.int .i64 0]
abbrev Ql(W:World)(b:Nat):Prop:=W.heap[b]? =some (.cells tR 68 (0,0))
theorem CO{W:World}{b:Nat}(h:Ql W b):W.cell? ⟨b,0,none⟩=some (.int .i64 0)/\W.cell? ⟨b,1,none⟩=some (.int .i64 0)/\W.cell? ⟨b,2,none⟩=some (.int .i64 0)/\W.cell? ⟨b,3,none⟩=some (.int .i64 0)/\W.cell? ⟨b,4,none⟩=some (.int .i64 0)/\W.cell? ⟨b,5,none⟩=some (.int .i64 0)/\W.cell? ⟨b,6,none⟩=some (.int .i64 0)/\W.cell? ⟨b,7,none⟩=some (.int .i64 0):=
 ⟨aa h rfl,aa h rfl,aa h rfl,aa h rfl,aa h rfl,aa h rfl,aa h rfl,aa h rfl⟩
theorem yQ(xb sb N:Nat)(cs:List (Option Nat))(p:aK)(C:Nat->Nat->Prop)(sz qu mx qn rt bu wk ou av clock:Int)(stop:Bool)(j:Nat)(db:Option Addr)(u:Int)(w:World)(h:bf w xb sb N cs p C sz qu mx qn rt bu wk ou av clock stop j db)(hN:N<=65535)(hu:p.find cs u=none):
  Calls prog 34 #[.pointer (some ⟨xb,0,none⟩),.int .i64 u] w fun e w'=>e=.returned (.tuple #[.agg tR,.int .i64 2])/\Below w.heap.size w w':=by
 have Dj:Hid (Calls prog 68 #[.pointer (some ⟨xb,0,none⟩),.int .i64 u] (w.alloc (.cells tR 68)) fun e w'=>e=.returned (.pointer none)/\Below (w.alloc (.cells tR 68)).heap.size (w.alloc (.cells tR 68)) w'):=yU (h.old ((Below.refl _ w).alloc (Nat.le_refl _) _)) hN hu;clear h hu;go_enter func34,ntmps34;go_wp2_with (go_at_call 68;refine Dj.out.mono ?_;rintro e w1 ⟨rfl,hb⟩;have hS:Ql w1 w.heap.size:=(hb.block _ (by simp)).trans (heap_alloc_new w _);obtain⟨p0,p1,p2,p3,p4,p5,p6,p7⟩:=CO hS;have pf:∀j,w1.frozen? ⟨w.heap.size,j,none⟩=false:=(fun j=>aG hS j);have hid:=(fun(i:Nat) (v:Value) (hv:tR[i]? =some v)=>gR (i:=i) (v:=v) hS hv));exact bodyPost_ret (v:=.tuple #[.agg tR,.int .i64 2]) (by simp[results,results34,go_sem,p0,p1,p2,p3,p4,p5,p6,p7]) rfl ⟨rfl,((Below.refl _ w).alloc (Nat.le_refl _) _).trans (hb.mono (by simp))⟩
theorem Qv{w W:World}(h:Below w.heap.size w W)(v0 v1 v2 v3 v4 v5 v6 v7:Value):Below w.heap.size w ((((((((W.setCell ⟨w.heap.size,0,none⟩ v0).setCell ⟨w.heap.size,1,none⟩ v1).setCell ⟨w.heap.size,2,none⟩ v2).setCell ⟨w.heap.size,3,none⟩ v3).setCell ⟨w.heap.size,4,none⟩ v4).setCell ⟨w.heap.size,5,none⟩ v5).setCell ⟨w.heap.size,6,none⟩ v6).setCell ⟨w.heap.size,7,none⟩ v7):=
 (((((((h.setCell (p:=⟨w.heap.size,0,none⟩) (Nat.le_refl _) v0).setCell (p:=⟨w.heap.size,1,none⟩) (Nat.le_refl _) v1).setCell (p:=⟨w.heap.size,2,none⟩) (Nat.le_refl _) v2).setCell (p:=⟨w.heap.size,3,none⟩) (Nat.le_refl _) v3).setCell (p:=⟨w.heap.size,4,none⟩) (Nat.le_refl _) v4).setCell (p:=⟨w.heap.size,5,none⟩) (Nat.le_refl _) v5).setCell (p:=⟨w.heap.size,6,none⟩) (Nat.le_refl _) v6).setCell (p:=⟨w.heap.size,7,none⟩) (Nat.le_refl _) v7
theorem yR(xb sb N c:Nat)(cs:List (Option Nat))(p:aK)(C:Nat->Nat->Prop)(sz qu mx qn rt bu wk ou av clock:Int)(stop:Bool)(j:Nat)(db:Option Addr)(u:Int)(w:World)(h:bf w xb sb N cs p C sz qu mx qn rt bu wk ou av clock stop j db)(hN:N<=65535)(hu:p.find cs u=some c):
  Calls prog 34 #[.pointer (some ⟨xb,0,none⟩),.int .i64 u] w fun e w'=>e=.returned (.tuple #[MT (p.k c) 0,.int .i64 0])/\Below w.heap.size w w':=by
 have h1:=h.old ((Below.refl _ w).alloc (Nat.le_refl _) (.cells tR 68));have Dj:Hid (Calls prog 68 #[.pointer (some ⟨xb,0,none⟩),.int .i64 u] (w.alloc (.cells tR 68)) fun e w'=>e=.returned (.pointer (some ⟨c,0,none⟩))/\Below (w.alloc (.cells tR 68)).heap.size (w.alloc (.cells tR 68)) w'):=found h1 hN hu;have HS:Hid (∀W,Below (w.alloc (.cells tR 68)).heap.size (w.alloc (.cells tR 68)) W->Calls prog 70 #[.pointer (some ⟨c,0,none⟩)] W fun e w'=>e=.returned (MT (p.k c) 0)/\Below W.heap.size W w'):=fun W hW=>Jc c _ _ _ sz N qu mx qn rt bu wk ou 0 (p.k c) W ((h1.all c (aK.mem hu)).old hW);clear h h1 hu;generalize p.k c=kk at*;go_enter func34,ntmps34
 go_wp2_with (first
  |(go_at_call 68;refine Dj.out.mono ?_;rintro e w1 ⟨rfl,hb⟩)
  |(go_at_call 70;refine(HS.out _ hb).mono ?_;rintro e w2 ⟨rfl,bE⟩;have hS:Ql w2 w.heap.size:=(aM bE ((hb.block _ (by simp)).trans (heap_alloc_new w _)));obtain⟨p0,p1,p2,p3,p4,p5,p6,p7⟩:=CO hS;have pf:∀j,w2.frozen? ⟨w.heap.size,j,none⟩=false:=(fun j=>aG hS j)))
 exact bodyPost_ret (v:=.tuple #[MT kk 0,.int .i64 0]) (by simp[results,results34,go_sem,p0,p1,p2,p3,p4,p5,p6,p7]) rfl ⟨rfl,Qv (((Below.refl _ w).alloc (Nat.le_refl _) _).trans ((hb.mono (by simp)).trans (bE.mono (by have:=hb.size;simp at this;omega)))) _ _ _ _ _ _ _ _⟩
end
end Go.Proofs.YtpobhljcainmdaaGreat
