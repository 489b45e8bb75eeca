/- Proved here: a part of what Doors keeps (Cn6, Fe1, Fe2, Cn7). -/
import Derived.Test.YtpobhljcainmdaaGreatJ01
import Derived.Test.YtpobhljcainmdaaGreatJ09
set_option maxRecDepth 100000
set_option maxHeartbeats 8000000
set_option linter.all false
namespace Go.Proofs.YtpobhljcainmdaaGreat
section
open Go.Proofs.Tryz
open Go.RowKit
attribute [local go_sem ↓] Go.wp_at_zero Go.wp_at_succ
attribute [local go_sem] au aj
section
variable {W W':World} {c rb mb ch:Nat} {sz cl qu mx qn rt bu wk ou de de':Int} {k k':Cl}
theorem aU.old(h:aU W c rb mb ch sz cl qu mx qn rt bu wk ou de k)(hb:Below W.heap.size W W'):aU W' c rb mb ch sz cl qu mx qn rt bu wk ou de k:=by obtain⟨v,h1,h2⟩:=h.box;obtain⟨rp,h3,h4⟩:=h.rd;exact⟨⟨v,aM hb h1,gZ hb h2⟩,⟨rp,h3.later hb,h4⟩,aM hb h.chan⟩
theorem aU.drewN(h:aU W c rb mb ch sz cl qu mx qn rt bu wk ou de k)(n:Nat):aU (W.drewN n) c rb mb ch sz cl qu mx qn rt bu wk ou de k:=h.old (below_drewN (Below.refl _ _) n)
theorem aU.put(h:aU W c rb mb ch sz cl qu mx qn rt bu wk ou de k)(i:Nat)(v:Value)(hb:∀out,(Nl k.no k.wt sz cl qu mx qn rt bu wk ou rb k.aO out k.tok de ch).setIfInBounds i v=Nl k'.no k'.wt sz cl qu mx qn rt bu wk ou rb k'.aO out k'.tok de' ch)(ho:k'.out=k.out)(hp:k'.ph=k.ph):
  aU (W.setCell ⟨c,i,none⟩ v) c rb mb ch sz cl qu mx qn rt bu wk ou de' k':=by
 obtain⟨out,h1,h2⟩:=h.box;obtain⟨rp,h3,h4⟩:=h.rd;refine⟨⟨out,?_,by rw[ho];exact Gj h2 h1 (by decide)⟩,⟨rp,⟨aS h3.box (aJ h3.box h1 (by simp)) _ _,?_⟩,fun hx=>by rw[hp]at hx⊢;exact h4 hx⟩,by rw[hp];exact aS h.chan (aJ h.chan h1 (by simp)) _ _⟩
 ·have:=aX h1 i v;rw[hb out]at this;exact this
 ·obtain⟨es,ck,e1,e2⟩:=h3.uses;exact⟨es,ck,aS e1 (aJ e1 h1 (by simp)) _ _,e2⟩
theorem aU.lt(h:aU W c rb mb ch sz cl qu mx qn rt bu wk ou de k):c<W.heap.size:=by obtain⟨v,h1,_⟩:=h.box;exact(Array.getElem?_eq_some_iff.1 h1).1
end
theorem EO(rb:Nat)(p:Int)(w:World)(h:w.cell? ⟨rb,2,none⟩=some (.int .i64 p)):
  Calls prog 170 #[.pointer (some ⟨rb,0,none⟩)] w fun e w'=>e=.returned (.int .i64 p)/\w'=w:=by
 go_enter func170,ntmps170;go_wp2;go_ret;exact⟨rfl,rfl⟩
theorem qq(c rb mb ch:Nat)(sz cl qu mx qn rt bu wk ou de:Int)(k:Cl)(w:World)(h:aU w c rb mb ch sz cl qu mx qn rt bu wk ou de k):
  Calls prog 114 #[.pointer (some ⟨c,0,none⟩)] w fun e w'=>e=.returned (.int .i64 k.ph)/\w'=w:=by
 obtain⟨out,h1,h2⟩:=h.box;obtain⟨rp,h3,h4⟩:=h.rd;have hc:=h.chan;have SK:w.cell? ⟨c,20,none⟩=some (.chan (some ch)):=aa h1 rfl;have wJ:w.cell? ⟨c,11,none⟩=some (.pointer (some ⟨rb,0,none⟩)):=aa h1 rfl;have r2:w.cell? ⟨rb,2,none⟩=some (.int .i64 rp):=aa h3.box rfl
 by_cases hp:k.ph=4
 ·rw[decide_eq_true hp]at hc;have HP:Hid (k.ph=4):=hp;clear hp h1 h2 h3 h4 h;go_enter func114,ntmps114;go_wp2_with (go_at_call 116;refine(nR c ch _ SK hc).mono ?_;rintro e w1 ⟨rfl,rfl⟩);go_ret;exact⟨by rw[HP.out];rfl,rfl⟩
 ·rw[decide_eq_false hp]at hc;obtain rfl:=h4 hp;clear hp h1 h2 h3 h4 h;go_enter func114,ntmps114;go_wp2_with (first|(go_at_call 116;refine(eG c ch _ SK hc).mono ?_;rintro e w1 ⟨rfl,rfl⟩)|(go_at_call 170;refine(EO rb k.ph _ r2).mono ?_;rintro e w1 ⟨rfl,rfl⟩));go_ret;exact⟨rfl,rfl⟩
theorem Hu(c rb mb ch:Nat)(sz cl qu mx qn rt bu wk ou de:Int)(k:Cl)(w:World)(h:aU w c rb mb ch sz cl qu mx qn rt bu wk ou de k):
  Calls prog 109 #[.pointer (some ⟨c,0,none⟩)] w fun e w'=>e=.returned (.bool (decide (3<=k.ph/\k.out.size=0)))/\w'=w:=by
 obtain⟨out,h1,h2⟩:=h.box;obtain⟨oa,oc,rfl⟩:=fG h2;have fL:w.cell? ⟨c,13,none⟩=some (.slice none 0 0):=aa h1 rfl;have pI:w.cell? ⟨c,14,none⟩=some (.int .i64 0):=aa h1 rfl;have Jq:w.cell? ⟨c,16,none⟩=some (.slice oa k.out.size oc):=aa h1 rfl;have HA:Hid (aU w c rb mb ch sz cl qu mx qn rt bu wk ou de k):=h;clear h h1 h2
 by_cases hp:k.ph<3
 ·have hd:decide (k.ph<3)=true:=by simpa using hp
  have HP:Hid (k.ph<3):=hp;clear hp;go_enter func109,ntmps109;go_wp2_with (go_at_call 114;refine(qq c rb mb ch sz cl qu mx qn rt bu wk ou de k _ HA.out).mono ?_;rintro e w1 ⟨rfl,rfl⟩);go_ret;exact⟨by rw[decide_eq_false (fun hx=>by have:=HP.out;omega)];rfl,rfl⟩
 ·have hd:decide (k.ph<3)=false:=by simpa using hp
  have HP:Hid (¬k.ph<3):=hp;clear hp;cases hz:((k.out.size:Int)==0)with
  |true=>
   go_enter func109,ntmps109;go_wp2_with (go_at_call 114;refine(qq c rb mb ch sz cl qu mx qn rt bu wk ou de k _ HA.out).mono ?_;rintro e w1 ⟨rfl,rfl⟩);go_ret;refine⟨?_,rfl⟩;rw[decide_eq_true ⟨by have:=HP.out;omega,by simpa using hz⟩];rfl
  |false=>
   go_enter func109,ntmps109;go_wp2_with (go_at_call 114;refine(qq c rb mb ch sz cl qu mx qn rt bu wk ou de k _ HA.out).mono ?_;rintro e w1 ⟨rfl,rfl⟩);go_ret;refine⟨?_,rfl⟩;rw[decide_eq_false (fun hx=>by simp[hx.2]at hz)];rfl
theorem zI(c rb mb ch:Nat)(sz cl qu mx qn rt bu wk ou de:Int)(k:Cl)(w:World)(h:aU w c rb mb ch sz cl qu mx qn rt bu wk ou de k):
  Calls prog 167 #[.pointer (some ⟨c,0,none⟩)] w fun e w'=>e=.returned (.tuple #[])/\aU w' c rb mb ch sz cl qu mx qn rt bu wk ou 0 k/\aF (fun i=>i=c) w w'/\w'.cell? ⟨c,16,none⟩=w.cell? ⟨c,16,none⟩:=by
 have HP:Hid (aU (w.setCell ⟨c,18,none⟩ (.int .i64 0)) c rb mb ch sz cl qu mx qn rt bu wk ou 0 k):=h.put 18 _ (fun _=>rfl) rfl rfl;obtain⟨out,h1,h2⟩:=h.box;have Dt:w.cell? ⟨c,18,none⟩=some (.int .i64 de):=aa h1 rfl;have f18:=aG h1 18;clear h h1 h2;go_enter func167,ntmps167;go_wp2;exact cw rfl rfl ⟨rfl,HP.out,(aF.refl (fun i=>i=c) w).set (p:=⟨c,18,none⟩) rfl _,World.cell?_setCell_other _ ⟨c,18,none⟩ ⟨c,16,none⟩ _ (by simp)⟩
theorem lH{x:Int}(h1:-9223372036854775808<=x)(h2:x<=9223372036854775807):IntKind.i64.wrap x=x:=by rw[IntKind.wrap_i64];omega
theorem aF.drew'{X:Nat->Prop}{a w:World}(h:aF X a w):aF X a w.drew:=⟨h.os,h.size,h.block⟩
def Cl.eC(rt bu:Int)(k:Cl):Cl:={k with tok:=if k.tok+rt<=bu then k.tok+rt else bu}
theorem Nt(c rb mb ch:Nat)(sz cl qu mx qn rt bu wk ou de:Int)(k:Cl)(w:World)(h:aU w c rb mb ch sz cl qu mx qn rt bu wk ou de k)(hr:0<=rt/\rt<=65535)(ht:0<=k.tok/\k.tok<=65535):
  Calls prog 60 #[.pointer (some ⟨c,0,none⟩)] w fun e w'=>e=.returned (.tuple #[])/\aU w' c rb mb ch sz cl qu mx qn rt bu wk ou de (k.eC rt bu)/\aF (fun i=>i=c) w w'/\w'.cell? ⟨c,16,none⟩=w.cell? ⟨c,16,none⟩:=by
 obtain⟨t,ht'⟩:∃t,t=min (k.tok+rt) bu:=⟨_,rfl⟩
 have HP:Hid (aU (w.drew.setCell ⟨c,17,none⟩ (.int .i64 (min (IntKind.i64.wrap (k.tok+rt)) bu))) c rb mb ch sz cl qu mx qn rt bu wk ou de (k.eC rt bu)):=by
  rw[lH (by omega) (by omega)]
  have e:min (k.tok+rt) bu=(k.eC rt bu).tok:=by unfold Cl.eC;simp only[Int.min_def]
  rw[e];exact aU.put (h.old (Below.refl _ w).drew) 17 _ (fun _=>rfl) rfl rfl
 clear ht';obtain⟨out,h1,h2⟩:=h.box;have c7:w.cell? ⟨c,7,none⟩=some (.int .i64 rt):=aa h1 rfl;have c8:w.cell? ⟨c,8,none⟩=some (.int .i64 bu):=aa h1 rfl;have c17:w.cell? ⟨c,17,none⟩=some (.int .i64 k.tok):=aa h1 rfl;have f17:=aG h1 17;clear h h1 h2;go_enter func60,ntmps60
 go_upto_region 0 with fail
 refine wp_region_noPanic ?_;refine wp_region_held_drew (S:=fun W=>W.cell? ⟨c,7,none⟩=some (.int .i64 rt)/\W.cell? ⟨c,8,none⟩=some (.int .i64 bu)) (by kernel_rfl) ⟨c7,c8⟩ ?_;intro hHeld;refine tk 0 ?_;refine tk 1 ?_;refine tk 2 ?_;refine tk 3 ?_;refine tk 5 ?_;refine tk 6 ?_;refine tk 7 ?_;refine tk 8 ?_;refine tk 9 ?_;refine tk 11 ?_;refine tk 12 ?_;refine tk 13 ?_;refine tk 14 ?_;refine tk 15 ?_;refine rH 4 fun K hK=>?_;go_simp;refine hK.out _ _ (hHeld) (fun uM=>?_);clear hK K;refine tk 10 ?_;refine rH 16 fun K hK=>?_;go_simp;refine hK.out _ _ (uM) (fun KB=>?_);clear hK K;refine tk 17 ?_;refine tk 18 ?_;refine rH 19 fun K hK=>?_;go_simp;refine hK.out _ _ (⟨(World.cell?_setCell_other _ ⟨c,17,none⟩ ⟨c,7,none⟩ _ (by simp)).trans KB.1,(World.cell?_setCell_other _ ⟨c,17,none⟩ ⟨c,8,none⟩ _ (by simp)).trans KB.2⟩) (fun SX=>?_);clear hK K;refine wpAnyH_done (by kernel_rfl) ?_ _
 (refine NoPanic.normal ?_;go_wp2_with fail;exact cw rfl rfl ⟨rfl,HP.out,(aF.refl (fun i=>i=c) w).drew'.set (p:=⟨c,17,none⟩) rfl _,World.cell?_setCell_other w.drew ⟨c,17,none⟩ ⟨c,16,none⟩ _ (by simp)⟩)
theorem Cb(c rb mb ch:Nat)(sz cl qu mx qn rt bu wk ou:Int)(k:Cl)(w:World)(h:aU w c rb mb ch sz cl qu mx qn rt bu wk ou 0 k)(hq:0<=qn/\qn<=65535)(hw:0<=k.wt/\k.wt<=65535):
  Calls prog 165 #[.pointer (some ⟨c,0,none⟩)] w fun e w'=>e=.returned (.tuple #[])/\aU w' c rb mb ch sz cl qu mx qn rt bu wk ou (k.wt*qn) k/\aF (fun i=>i=c) w w'/\w'.cell? ⟨c,16,none⟩=w.cell? ⟨c,16,none⟩:=by
 have hm0:0<=k.wt*qn:=Int.mul_nonneg hw.1 hq.1
 have hm1:k.wt*qn<=4294836225:=by have:=Int.mul_le_mul hw.2 hq.2 hq.1 (by omega);omega
 have HP:Hid (aU (w.drew.setCell ⟨c,18,none⟩ (.int .i64 (IntKind.i64.wrap (IntKind.i64.wrap (k.wt*qn))))) c rb mb ch sz cl qu mx qn rt bu wk ou (k.wt*qn) k):=by rw[lH (x:=k.wt*qn) (by omega) (by omega),lH (x:=k.wt*qn) (by omega) (by omega)];exact aU.put (h.old (Below.refl _ w).drew) 18 _ (fun _=>rfl) rfl rfl
 obtain⟨out,h1,h2⟩:=h.box;have c1:w.cell? ⟨c,1,none⟩=some (.int .i64 k.wt):=aa h1 rfl;have c6:w.cell? ⟨c,6,none⟩=some (.int .i64 qn):=aa h1 rfl;have Dt:w.cell? ⟨c,18,none⟩=some (.int .i64 0):=aa h1 rfl;have f18:=aG h1 18;clear h h1 h2;go_enter func165,ntmps165
 go_upto_region 0 with fail
 refine wp_region_noPanic ?_;refine wp_region_held_drew (S:=fun W=>W.cell? ⟨c,1,none⟩=some (.int .i64 k.wt)/\W.cell? ⟨c,6,none⟩=some (.int .i64 qn)) (by kernel_rfl) ⟨c1,c6⟩ ?_;intro hHeld;refine tk 0 ?_;refine tk 1 ?_;refine tk 2 ?_;refine tk 4 ?_;refine tk 5 ?_;refine tk 6 ?_;refine tk 7 ?_;refine tk 8 ?_;refine tk 9 ?_;refine tk 10 ?_;refine tk 11 ?_;refine tk 12 ?_;refine tk 13 ?_;refine rH 3 fun K hK=>?_;go_simp;refine hK.out _ _ (hHeld) (fun AB=>?_);clear hK K;refine tk 14 ?_;refine tk 15 ?_;refine tk 16 ?_;refine rH 17 fun K hK=>?_;go_simp;refine hK.out _ _ (⟨(World.cell?_setCell_other _ ⟨c,18,none⟩ ⟨c,1,none⟩ _ (by simp)).trans AB.1,(World.cell?_setCell_other _ ⟨c,18,none⟩ ⟨c,6,none⟩ _ (by simp)).trans AB.2⟩) (fun YD=>?_);clear hK K;refine wpAnyH_done (by kernel_rfl) ?_ _
 (refine NoPanic.normal ?_;go_wp2_with fail;exact cw rfl rfl ⟨rfl,HP.out,(aF.refl (fun i=>i=c) w).drew'.set (p:=⟨c,18,none⟩) rfl _,World.cell?_setCell_other w.drew ⟨c,18,none⟩ ⟨c,16,none⟩ _ (by simp)⟩)
end
section
open Go.Proofs.Tryz
open Go.RowKit Go.Shelf
attribute [local go_sem] Oper.semAt_some
attribute [local go_sem] au aj
def ay(cl:List (Option Nat)):List Nat:=cl.filterMap id
def eu(v:Option Nat):Value:=.pointer (v.map fun c=>⟨c,0,none⟩)
theorem IM{cl:List (Option Nat)}{i c:Nat}(h:cl[i]? =some (some c)):ay (cl.take (i+1))=ay (cl.take i)++[c]:=by rw[List.take_add_one,h];simp[ay]
theorem IK{cl:List (Option Nat)}{i:Nat}(h:cl[i]? =some none):ay (cl.take (i+1))=ay (cl.take i):=by rw[List.take_add_one,h];simp[ay]
theorem EW(cl:List (Option Nat))(i:Nat):∃r,ay cl=ay (cl.take i)++r:=⟨ay (cl.drop i),by unfold ay;rw[<-List.filterMap_append,List.take_append_drop]⟩
abbrev tP(c:Nat):Array Value:=#[.pointer (some ⟨c,0,none⟩)]
theorem oK(xb:Nat)(w:World):
  Calls prog 59 #[.pointer (some ⟨xb,0,none⟩)] w fun e w'=>e=.returned (.func (.func 96) #[] #[.pointer (some ⟨w.heap.size,0,none⟩)])/\w'=w.alloc (.cells #[.pointer (some ⟨xb,0,none⟩)] 36):=by
 have PG:∀(fn:Fn) (first cap:Array Value) (w:World),(Instr.makeFunc fn first cap).run prog w=.ok (.func fn first cap) w:=fun _ _ _ _=>rfl;go_enter func59,ntmps59;go_wp2;go_ret;exact⟨rfl,rfl⟩
theorem oN(n:Nat)(hn:1<=n)(cb xb sb N:Nat)(cl:List (Option Nat))(W:World)(hcb:W.cell? ⟨cb,0,none⟩=some (.pointer (some ⟨xb,0,none⟩)))(hx:W.cell? ⟨xb,9,none⟩=some (.slice (some ⟨sb,0,none⟩) N N))(hlen:cl.length=N)(hN:N<=65535)(hat:∀(j:Nat) v,cl[j]? =some v->W.cell? ⟨sb,j,none⟩=some (eu v)):
  Iter Fence.wide n prog 96 #[.pointer (some ⟨cb,0,none⟩)] tP (fun _=>False) (fun A B=>B.heap[sb]? =A.heap[sb]?) (fun xs=>∃r,ay cl=xs++r)
   (fun xs _=>xs=ay cl) (fun pre _=>∃r,ay cl=pre++r) W:=by
 intro l J Jx hJ hJx hY YJ;refine callsIn_of_wp func96 rfl trivial ?_ rfl;simp only[ntmps96,List.size_toArray,List.length_cons,List.length_nil,Nat.reduceAdd,Nat.reduceSub,Array.replicate_succ,Array.replicate_zero,List.push_toArray,List.append_toArray,List.nil_append,List.cons_append]
 gi_wp2
 gi_loopw [10] (fun i wr=>∃j:Nat,j<=N/\i=.int .i64 j/\Hid (J (ay (cl.take j)) wr/\wr.heap[sb]? =W.heap[sb]?)) (fun i _=>N-(intOf i).toNat)
 case atStart=>exact⟨0,Nat.zero_le _,rfl,YJ,rfl⟩
 case round=>
  obtain⟨j,hj,rfl,hH⟩:=hrel
  by_cases hlt:j<N
  ·have wP:decide ((j:Int)<(N:Int))=true:=by simp;omega
   obtain⟨v,hv⟩:∃v,cl[j]? =some v:=⟨cl[j],by rw[List.getElem?_eq_getElem]⟩
   have hc:wr.cell? ⟨sb,j,none⟩=some (eu v):=by rw[World.cell?_of_block (a:=⟨sb,j,none⟩) hH.out.2];exact hat j v hv
   cases v with
   |none=>
    have HN:Hid (ay (cl.take (j+1))=ay (cl.take j)):=IK hv;simp only[eu,Option.map_none]at hc
    gi_wp2
    refine⟨fun _ h=>(by cases h),?_⟩
    gi_wp2
    go_roundw
    case rel=>exact⟨j+1,by omega,by go_num,by rw[HN.out];exact hH.out.1,hH.out.2⟩
    case measure=>simp[intOf];omega
   |some c=>
    have HS:Hid (ay (cl.take (j+1))=ay (cl.take j)++[c]):=IM hv
    have HV:Hid (∃r,ay cl=(ay (cl.take j)++[c])++r):=by have:=EW cl (j+1);rw[HS.out]at this;exact this
    simp only[eu,Option.map_some]at hc;obtain⟨fn,tmps,assign,body,hy,QZ⟩:=hY (ay (cl.take j)) c wr hH.out.1 HV.out;have HH:Hid (wr.heap[sb]? =W.heap[sb]?):=hH.out.2;clear hH hv
    gi_wp2
    refine QZ.mono ?_;rintro e W3 (⟨rfl,NK,Hq⟩|⟨rfl,KE,Hq⟩)
    ·have Qh:Hid (J (ay (cl.take (j+1))) W3/\W3.heap[sb]? =W.heap[sb]?):=⟨by rw[HS.out];exact NK,Hq.trans HH.out⟩;clear NK Hq QZ hy
     gi_wp2
     go_roundw
     case rel=>exact⟨j+1,by omega,by go_num,Qh.out⟩
     case measure=>simp[intOf];omega
    ·have Qh:Hid (Jx (ay (cl.take j)++[c]) W3):=KE;clear KE Hq QZ hy
     gi_wp2
     refine bodyPost_ret (results_none rfl _ _ _) rfl ?_;exact⟨⟨_,rfl⟩,.inr ⟨_,HV.out,Qh.out⟩⟩
  ·have wP:decide ((j:Int)<(N:Int))=false:=by simp;omega
   have hjN:j=N:=by omega
   have HJ:Hid (J (ay cl) wr):=by have:=hH.out.1;rw[List.take_of_length_le (by omega)]at this;exact this
   clear hH hjN
   gi_wp2
   exact cw rfl rfl ⟨⟨_,rfl⟩,.inl ⟨_,rfl,HJ.out⟩⟩
end
section
open Go.Proofs.Tryz
open Go.RowKit Go.Shelf
attribute [local go_sem] Oper.semAt_some
attribute [local go_sem] au aj
theorem gb(c:Nat)(n:Int)(w:World)(h:w.cell? ⟨c,0,none⟩=some (.int .i64 n)):
  Calls prog 112 #[.pointer (some ⟨c,0,none⟩)] w fun e w'=>e=.returned (.int .i64 n)/\w'=w:=by
 go_enter func112,ntmps112;go_wp2;go_ret;exact⟨rfl,rfl⟩
structure kH(W:World)(xb sb N:Nat)(cl:List (Option Nat)):Prop where
 sl:W.cell? ⟨xb,9,none⟩=some (.slice (some ⟨sb,0,none⟩) N N)
 len:cl.length=N
 small:N<=65535
 at_:∀(j:Nat) v,cl[j]? =some v->W.cell? ⟨sb,j,none⟩=some (eu v)
 row:∃o,W.heap[sb]? =some o
theorem kH.old{W W':World}{xb sb N:Nat}{cl:List (Option Nat)}(h:kH W xb sb N cl)(hb:Below W.heap.size W W'):kH W' xb sb N cl:=
 ⟨aP hb h.sl,h.len,h.small,fun j v hj=>aP hb (h.at_ j v hj),by obtain⟨o,ho⟩:=h.row;exact⟨o,aM hb ho⟩⟩
abbrev fiA(xb:Nat)(u:Int)(B:Nat)(c:Nat):Act:=
 {tmps:=#[.pointer (some ⟨xb,0,none⟩),.int .i64 u,undef,.pointer (some ⟨B,0,none⟩),.pointer (some ⟨B+1,0,none⟩),.pointer (some ⟨c,0,none⟩),.pointer (some ⟨xb,0,none⟩),.func (.func 96) #[] #[.pointer (some ⟨B+1+1,0,none⟩)],.pointer (some ⟨c,0,none⟩),undef,undef,undef,undef,undef],defers:=[]}
abbrev WL(xb:Nat)(u:Int)(B:Nat)(c:Nat)(k:Int)(y:Bool):Act:=
 {tmps:=#[.pointer (some ⟨xb,0,none⟩),.int .i64 u,undef,.pointer (some ⟨B,0,none⟩),.pointer (some ⟨B+1,0,none⟩),.pointer (some ⟨c,0,none⟩),.pointer (some ⟨xb,0,none⟩),.func (.func 96) #[] #[.pointer (some ⟨B+1+1,0,none⟩)],.pointer (some ⟨c,0,none⟩),.pointer (some ⟨c,0,none⟩),.int .i64 k,.int .i64 u,.bool y,undef],defers:=[]}
theorem fA{w:World}{b k i:Nat}{v:Value}(hne:k≠b):(w.setCell ⟨b,i,none⟩ v).heap[k]? =w.heap[k]? :=Below.heap_setCell w ⟨b,i,none⟩ v k hne
def TA(w:World)(u:Int)(no:Nat->Int)(pre:List Nat)(W:World):Prop:=
 Below w.heap.size w W/\W.heap[w.heap.size]? =some (.cells #[.int .i64 u] 3 (0,0))/\W.heap[w.heap.size+1]? =some (.cells #[.pointer none] 119 (0,0))/\∀c∈pre,no c≠u
def XG(w:World)(u:Int)(no:Nat->Int)(pre:List Nat)(W:World):Prop:=
 Below w.heap.size w W/\∃pre' c,pre=pre'++[c]/\(∀c∈pre',no c≠u)/\no c=u/\W.heap[w.heap.size+1]? =some (.cells #[.pointer (some ⟨c,0,none⟩)] 119 (0,0))
abbrev QK(w:World)(xb:Nat)(u:Int):World:=((w.alloc (.cells #[.int .i64 u] 3)).alloc (.cells #[.pointer none] 119)).alloc (.cells #[.pointer (some ⟨xb,0,none⟩)] 36)
theorem Nz(xb sb N:Nat)(cl:List (Option Nat))(u:Int)(no:Nat->Int)(w:World)(hS:kH w xb sb N cl)(hno:∀c∈ay cl,w.cell? ⟨c,0,none⟩=some (.int .i64 (no c))):
  CallsIn Fence.wide 3 prog 68 #[.pointer (some ⟨xb,0,none⟩),.int .i64 u] w fun e w'=>e=.returned (eu ((ay cl).find? fun c=>decide (no c=u)))/\Below w.heap.size w w':=by
 refine callsIn_of_wp_marks func68 rfl trivial ?_ rfl;simp only[ntmps68,List.size_toArray,List.length_cons,List.length_nil,Nat.reduceAdd,Nat.reduceSub,Array.replicate_succ,Array.replicate_zero,List.push_toArray,List.append_toArray,List.nil_append,List.cons_append]
 gi_wp2_with (first|(refine⟨trivial,?_⟩;gi_at_call 59;refine(callsIn_wide.2 (oK xb _)).mono ?_;rintro e w1 ⟨rfl,rfl⟩))
 have hb0:Below w.heap.size w (QK w xb u):=(((Below.refl _ w).alloc (Nat.le_refl _) _).alloc (by simp) _).alloc (by simp;omega) _;have hsz:(QK w xb u).heap.size=w.heap.size+3:=by simp
 have e1:(QK w xb u).heap[w.heap.size]? =some (.cells #[.int .i64 u] 3 (0,0)):=(Below.heap_alloc _ _ _ (by simp;omega)).trans ((Below.heap_alloc _ _ _ (by simp)).trans (heap_alloc_new w _));have e2:(QK w xb u).heap[w.heap.size+1]? =some (.cells #[.pointer none] 119 (0,0)):=(Below.heap_alloc _ _ _ (by simp)).trans (by have:=heap_alloc_new (w.alloc (.cells #[.int .i64 u] 3)) (.cells #[.pointer none] 119);rwa [World.size_alloc]at this);have e3:(QK w xb u).heap[w.heap.size+1+1]? =some (.cells #[.pointer (some ⟨xb,0,none⟩)] 36 (0,0)):=by have:=heap_alloc_new ((w.alloc (.cells #[.int .i64 u] 3)).alloc (.cells #[.pointer none] 119)) (.cells #[.pointer (some ⟨xb,0,none⟩)] 36);rwa [World.size_alloc,World.size_alloc]at this
 have hsb:sb<w.heap.size:=by obtain⟨o,ho⟩:=hS.row;exact(Array.getElem?_eq_some_iff.1 ho).1
 show Code.wpIn Fence.wide 3 prog _ _ _ (QK w xb u);generalize QK w xb u=W0 at*;have hI0:TA w u no [] W0:=⟨hb0,e1,e2,fun c h=>by cases h⟩
 have bI:Bears (fun r=>False\/r=W0.heap.size+1) (TA w u no):=by
  rintro pre W W' row ⟨h1,h2,h3,h4⟩ hg hr;have hrow:∀r,row=some r->r=w.heap.size+4:=fun r e=>by rcases hr r e with h|h;cases h;omega
  exact⟨h1.grown hg h1.size (fun k e=>by have:=hrow k e;omega),dF h2 hg (fun e=>by have:=hrow _ e;omega),dF h3 hg (fun e=>by have:=hrow _ e;omega),h4⟩
 have bX:Bears (fun r=>False\/r=W0.heap.size+1) (XG w u no):=by
  rintro pre W W' row ⟨h1,pre',c,h2,h3,h4,h5⟩ hg hr;have hrow:∀r,row=some r->r=w.heap.size+4:=fun r e=>by rcases hr r e with h|h;cases h;omega
  exact⟨h1.grown hg h1.size (fun k e=>by have:=hrow k e;omega),pre',c,h2,h3,h4,dF h5 hg (fun e=>by have:=hrow _ e;omega)⟩
 refine nC (w:=W0) rfl (by decide) (gf:=96) (lb:=#[.pointer (some ⟨w.heap.size+1+1,0,none⟩)]) rfl trivial (enters_of func96 (by kernel_rfl) rfl) (encs:=tP) (fun _=>rfl)
  (R:=fun _=>False) (Kp:=fun A B=>B.heap[sb]? =A.heap[sb]?) (V:=fun xs=>∃r,ay cl=xs++r) (S:=fun xs _=>xs=ay cl) (Sp:=fun pre _=>∃r,ay cl=pre++r)
  (fun W hW=>?seq) (fun r h=>h.elim) (fun h k=>k.trans h) (fun W o=>World.putObj_heap_other (by omega)) (fun xs W W' row h _ _=>h) (fun xs W W' row h _ _=>h)
  (TA w u no) (XG w u no) bI bX hI0 (fun c a _=>a=fiA xb u w.heap.size c) (fun c a W W' row h _ _=>h) ?assign ?body ?done ?stop
 case seq=>
  have hbW:Below w.heap.size w W:=hb0.grown hW hb0.size (fun k e=>by cases e);have jA:=dF e3 hW (by simp);have FP:=hS.old hbW;exact oN 2 (by decide) (w.heap.size+1+1) xb sb N cl W (aa jA rfl) FP.sl FP.len FP.small FP.at_
 case assign=>
  rintro l pre c W K hi hv xP hK
  gi_wp2
  exact hK _ W ⟨rfl,rfl⟩ rfl hi rfl
 case body=>
  rintro l pre c a' W hi rfl ⟨r,hv⟩ xP;have hc:c∈ay cl:=by rw[hv];simp
  have cN:W.cell? ⟨c,0,none⟩=some (.int .i64 (no c)):=aP hi.1 (hno c hc);have cU:W.cell? ⟨w.heap.size,0,none⟩=some (.int .i64 u):=aa hi.2.1 rfl;have cR:W.cell? ⟨w.heap.size+1,0,none⟩=some (.pointer none):=aa hi.2.2.1 rfl;have fR:=aG hi.2.2.1 0;have HI:Hid (TA w u no pre W):=hi;clear hi
  by_cases hu:no c=u
  ·have ZD:(no c==u)=true:=by simpa using hu
   have HU:Hid (no c=u):=hu;clear hu
   gi_wp2
   rename_i K0 Pu;have Te:=Pu
   have iQ:K0 (WL xb u w.heap.size c (no c) true) W.drew:=by
    refine Te _ _ ?_;unfold WL;clear Pu
    gi_wp2
    obtain⟨i1,i2,i3,i4⟩:=HI.out;rw[hsz];refine⟨⟨?_,?_⟩,?_,?_,pre,c,rfl,i4,HU.out,?_⟩
    ·exact fA (by omega)
    ·exact fA (by omega)
    ·exact fA (by omega)
    ·exact i1.drew.setCell (p:=⟨w.heap.size+1,0,none⟩) (Nat.le_succ _) _
    ·exact aX (w:=W.drew) i3 0 _
   refine wpIn_region_any (by kernel_rfl) ?_;refine mW [0,2] (.cons rfl (fun K hK=>?_) ?_)
   ·go_simp;refine hK _ _ ?_;clear hK K;refine mW [1,2] (.cons rfl (fun K hK=>?_) ?_)
    ·go_simp;refine⟨trivial,?_⟩
     (refine(CallsIn.inRound l (callsIn_wide.2 (gb c (no c) W.drew cN))).mono ?_;rintro e w1 ⟨rfl,rfl⟩)
     refine hK _ _ ?_;clear hK K;refine aT 2 fun K hK=>?_;go_simp;refine hK _ _ ?_;clear hK K;refine aT 3 fun K hK=>?_;go_simp;refine hK _ _ ?_;clear hK K;refine wpAnyIn_done (by kernel_rfl) ?_ _;exact iQ
    refine .cons rfl (fun K hK=>?_) .nil;go_simp;refine hK _ _ ?_;clear hK K;refine aT 1 fun K hK=>?_;go_simp;refine⟨trivial,?_⟩
    (refine(CallsIn.inRound l (callsIn_wide.2 (gb c (no c) W.drew cN))).mono ?_;rintro e w1 ⟨rfl,rfl⟩)
    refine hK _ _ ?_;clear hK K;refine aT 3 fun K hK=>?_;go_simp;refine hK _ _ ?_;clear hK K;refine wpAnyIn_done (by kernel_rfl) ?_ _;exact iQ
   refine .cons rfl (fun K hK=>?_) .nil;go_simp;refine hK _ _ ?_;clear hK K;refine aT 0 fun K hK=>?_;go_simp;refine hK _ _ ?_;clear hK K;refine aT 1 fun K hK=>?_;go_simp;refine⟨trivial,?_⟩
   (refine(CallsIn.inRound l (callsIn_wide.2 (gb c (no c) W.drew cN))).mono ?_;rintro e w1 ⟨rfl,rfl⟩)
   refine hK _ _ ?_;clear hK K;refine aT 3 fun K hK=>?_;go_simp;refine hK _ _ ?_;clear hK K;refine wpAnyIn_done (by kernel_rfl) ?_ _;exact iQ
  ·have ZD:(no c==u)=false:=by simpa using hu
   have HU:Hid (no c≠u):=hu;clear hu
   gi_wp2
   rename_i K0 Pu;have Te:=Pu
   have iQ:K0 (WL xb u w.heap.size c (no c) false) W.drew:=by
    refine Te _ _ ?_;unfold WL;clear Pu
    gi_wp2
    obtain⟨i1,i2,i3,i4⟩:=HI.out;refine⟨⟨rfl,rfl⟩,rfl,i1.drew,i2,i3,fun c' fN=>?_⟩;rcases List.mem_append.1 fN with h|h
    ·exact i4 c' h
    ·rw[List.mem_singleton.1 h];exact HU.out
   refine wpIn_region_any (by kernel_rfl) ?_;refine mW [0,2] (.cons rfl (fun K hK=>?_) ?_)
   ·go_simp;refine hK _ _ ?_;clear hK K;refine mW [1,2] (.cons rfl (fun K hK=>?_) ?_)
    ·go_simp;refine⟨trivial,?_⟩
     (refine(CallsIn.inRound l (callsIn_wide.2 (gb c (no c) W.drew cN))).mono ?_;rintro e w1 ⟨rfl,rfl⟩)
     refine hK _ _ ?_;clear hK K;refine aT 2 fun K hK=>?_;go_simp;refine hK _ _ ?_;clear hK K;refine aT 3 fun K hK=>?_;go_simp;refine hK _ _ ?_;clear hK K;refine wpAnyIn_done (by kernel_rfl) ?_ _;exact iQ
    refine .cons rfl (fun K hK=>?_) .nil;go_simp;refine hK _ _ ?_;clear hK K;refine aT 1 fun K hK=>?_;go_simp;refine⟨trivial,?_⟩
    (refine(CallsIn.inRound l (callsIn_wide.2 (gb c (no c) W.drew cN))).mono ?_;rintro e w1 ⟨rfl,rfl⟩)
    refine hK _ _ ?_;clear hK K;refine aT 3 fun K hK=>?_;go_simp;refine hK _ _ ?_;clear hK K;refine wpAnyIn_done (by kernel_rfl) ?_ _;exact iQ
   refine .cons rfl (fun K hK=>?_) .nil;go_simp;refine hK _ _ ?_;clear hK K;refine aT 0 fun K hK=>?_;go_simp;refine hK _ _ ?_;clear hK K;refine aT 1 fun K hK=>?_;go_simp;refine⟨trivial,?_⟩
   (refine(CallsIn.inRound l (callsIn_wide.2 (gb c (no c) W.drew cN))).mono ?_;rintro e w1 ⟨rfl,rfl⟩)
   refine hK _ _ ?_;clear hK K;refine aT 3 fun K hK=>?_;go_simp;refine hK _ _ ?_;clear hK K;refine wpAnyIn_done (by kernel_rfl) ?_ _;exact iQ
 case done=>
  rintro xs W rfl hi hD;have cR:W.cell? ⟨w.heap.size+1,0,none⟩=some (.pointer none):=aa hi.2.2.1 rfl;have fR:=aG hi.2.2.1 0;have HI:Hid (TA w u no (ay cl) W):=hi;clear hi
  gi_wp2
  obtain⟨i1,i2,i3,i4⟩:=HI.out;have Yy:(W.setCell ⟨w.heap.size+1,0,none⟩ (.pointer none)).heap[W0.heap.size]? =some (.deferred (some [])):=aS hD (by omega) _ _;have hR':(W.setCell ⟨w.heap.size+1,0,none⟩ (.pointer none)).heap[w.heap.size+1]? =some (.cells #[.pointer none] 119 (0,0)):=aX i3 0 _;have fN:=aa (w:=(W.setCell ⟨w.heap.size+1,0,none⟩ (.pointer none)).putObj W0.heap.size (.deferred none)) ((World.putObj_heap_other (by omega)).trans hR') (i:=0) (v:=.pointer none) rfl;refine⟨by simp,.inl ⟨_,_,rfl,run_takeDeferred Yy,.pointer none,by simp[results,results68,go_sem,fN],?_,?_⟩⟩
  ·rw[List.find?_eq_none.2 (fun c hc=>by simpa using i4 c hc)];rfl
  ·exact(i1.setCell (p:=⟨w.heap.size+1,0,none⟩) (Nat.le_succ _) _).grown (grownBy_putObj' _ _ _) (by have:=i1.size;simpa using this) (fun k e=>by cases e;omega)
 case stop=>
  rintro pre W ⟨r,hv⟩ hx hD;have HX:Hid (XG w u no pre W):=hx;clear hx
  gi_wp2
  obtain⟨i1,pre',c,rfl,i3,i4,i5⟩:=HX.out;have fN:=aa (w:=W.putObj W0.heap.size (.deferred none)) ((World.putObj_heap_other (by omega)).trans i5) (i:=0) (v:=.pointer (some ⟨c,0,none⟩)) rfl;refine⟨by simp,.inl ⟨_,_,rfl,run_takeDeferred hD,.pointer (some ⟨c,0,none⟩),by simp[results,results68,go_sem,fN],?_,?_⟩⟩
  ·have e:(ay cl).find? (fun c=>decide (no c=u))=some c:=by
    rw[hv,List.append_assoc,List.find?_append,List.find?_eq_none.2 (fun c' fN=>by simpa using i3 c' fN)];simp[i4]
   rw[e];rfl
  ·exact i1.grown (grownBy_putObj' _ _ _) i1.size (fun k e=>by cases e;omega)
theorem uB(xb sb N:Nat)(cl:List (Option Nat))(u:Int)(no:Nat->Int)(w:World)(hS:kH w xb sb N cl)(hno:∀c∈ay cl,w.cell? ⟨c,0,none⟩=some (.int .i64 (no c))):
  Calls prog 68 #[.pointer (some ⟨xb,0,none⟩),.int .i64 u] w fun e w'=>e=.returned (eu ((ay cl).find? fun c=>decide (no c=u)))/\Below w.heap.size w w':=callsIn_wide.1 (Nz xb sb N cl u no w hS hno)
end
section
open Go.Proofs.Tryz
open Go.RowKit
attribute [local go_sem ↓] Go.wp_at_zero Go.wp_at_succ
attribute [local go_sem] au aj
theorem IG(c rb mb ch:Nat)(sz cl qu mx qn rt bu wk ou de:Int)(k:Cl)(s:ByteArray)(w:World)(h:aU w c rb mb ch sz cl qu mx qn rt bu wk ou de k)(hp:k.ph≠4)(hi:k.aO.size<=1024)(hl:1024<k.aO.size+s.size):
  Calls prog 74 #[.pointer (some ⟨c,0,none⟩),.string s] w fun e w'=>e=.returned (.int .i64 6)/\w'=w:=by
 obtain⟨out,h1,h2⟩:=h.box;have hc:=h.chan;rw[decide_eq_false hp]at hc;have SK:w.cell? ⟨c,20,none⟩=some (.chan (some ch)):=aa h1 rfl;have uo:w.cell? ⟨c,12,none⟩=some (.string k.aO):=aa h1 rfl;have hd:decide ((1024:Int)-(k.aO.size:Int)<(s.size:Int))=true:=by simp;omega
 clear h h1 h2 hp;go_enter func74,ntmps74;go_wp2_with (go_at_call 116;refine(eG c ch _ SK hc).mono ?_;rintro e w1 ⟨rfl,rfl⟩);go_ret;exact⟨rfl,rfl⟩
def Cl.send(s:ByteArray)(k:Cl):Cl:={k with aO:=k.aO++s}
theorem Oz(c rb mb ch:Nat)(sz cl qu mx qn rt bu wk ou de:Int)(k:Cl)(s:ByteArray)(w:World)(h:aU w c rb mb ch sz cl qu mx qn rt bu wk ou de k)(hp:k.ph≠4)(hl:k.aO.size+s.size<=1024):
  Calls prog 74 #[.pointer (some ⟨c,0,none⟩),.string s] w fun e w'=>e=.returned (.int .i64 0)/\aU w' c rb mb ch sz cl qu mx qn rt bu wk ou de (k.send s)/\aF (fun i=>i=c) w w'/\w'.cell? ⟨c,16,none⟩=w.cell? ⟨c,16,none⟩:=by
 have HP:Hid (∀W,Below w.drew.heap.size w.drew W->aU (W.setCell ⟨c,12,none⟩ (.string (k.aO++s))) c rb mb ch sz cl qu mx qn rt bu wk ou de (k.send s)):=fun W hb=>aU.put (aU.old (h.old (Below.refl _ w).drew) hb) 12 _ (fun _=>rfl) rfl rfl;obtain⟨out,h1,h2⟩:=h.box;have hc:=h.chan;have hlt:=h.lt;rw[decide_eq_false hp]at hc;have SK:w.cell? ⟨c,20,none⟩=some (.chan (some ch)):=aa h1 rfl;have uo:w.cell? ⟨c,12,none⟩=some (.string k.aO):=aa h1 rfl;have TL:w.drew.cell? ⟨c,12,none⟩=some (.string k.aO):=uo;have f12:=aG h1 12;have hd:decide ((1024:Int)-(k.aO.size:Int)<(s.size:Int))=false:=by simp;omega
 have UP:¬9223372036854775807<k.aO.size+s.size:=by omega
 clear h h1 h2 hp;go_enter func74,ntmps74
 go_upto_region 5 with(go_at_call 116;refine(eG c ch _ SK hc).mono ?_;rintro e w1 ⟨rfl,rfl⟩)
 refine wp_region_noPanic ?_;refine wp_region_held_drew (S:=fun _=>True) (by kernel_rfl) trivial ?_;intro hHeld;refine tk 0 ?_;refine tk 1 ?_;refine tk 2 ?_;refine tk 4 ?_;refine aH [3,5] (.cons rfl (fun K hK=>?_) ?_)
 ·go_simp;refine hK.out _ _ (trivial) (fun AB=>?_);clear hK K;refine rH 5 fun K hK=>?_;go_simp
  (refine(ng s _ (by omega)).mono ?_;rintro e w2 ⟨rfl,bE⟩;have d12:w2.cell? ⟨c,12,none⟩=some (.string k.aO):=aP bE TL;have Pk:w2.frozen? ⟨c,12,none⟩=false:=(bE.frozen (p:=⟨c,12,none⟩) hlt).trans f12)
  go_wp2_with fail;refine hK.out _ _ (trivial) (fun Uw=>?_);clear hK K;refine tk 6 ?_;refine tk 7 ?_;refine tk 8 ?_;refine rH 9 fun K hK=>?_;go_simp;refine hK.out _ _ (trivial) (fun WW=>?_);clear hK K;refine wpAnyH_done (by kernel_rfl) ?_ _
  (refine NoPanic.normal ?_;go_wp2_with fail;go_ret;exact⟨rfl,HP.out w2 bE,(aF.below (X:=fun i=>i=c) (w:=w1) ((Below.refl _ w1).drew.trans bE)).set (p:=⟨c,12,none⟩) rfl _,(World.cell?_setCell_other w2 ⟨c,12,none⟩ ⟨c,16,none⟩ _ (by simp)).trans (bE.cell (p:=⟨c,16,none⟩) hlt)⟩)
 refine .cons rfl (fun K hK=>?_) .nil;go_simp
 (refine(ng s _ (by omega)).mono ?_;rintro e w2 ⟨rfl,bE⟩;have d12:w2.cell? ⟨c,12,none⟩=some (.string k.aO):=aP bE TL;have Pk:w2.frozen? ⟨c,12,none⟩=false:=(bE.frozen (p:=⟨c,12,none⟩) hlt).trans f12)
 go_wp2_with fail;refine hK.out _ _ (trivial) (fun YF=>?_);clear hK K;refine rH 3 fun K hK=>?_;go_simp;refine hK.out _ _ (trivial) (fun aaj=>?_);clear hK K;refine tk 6 ?_;refine tk 7 ?_;refine tk 8 ?_;refine rH 9 fun K hK=>?_;go_simp;refine hK.out _ _ (trivial) (fun Xa=>?_);clear hK K;refine wpAnyH_done (by kernel_rfl) ?_ _
 (refine NoPanic.normal ?_;go_wp2_with fail;go_ret;exact⟨rfl,HP.out w2 bE,(aF.below (X:=fun i=>i=c) (w:=w1) ((Below.refl _ w1).drew.trans bE)).set (p:=⟨c,12,none⟩) rfl _,(World.cell?_setCell_other w2 ⟨c,12,none⟩ ⟨c,16,none⟩ _ (by simp)).trans (bE.cell (p:=⟨c,16,none⟩) hlt)⟩)
abbrev MT(k:Cl)(de:Int):Value:=.agg #[.int .i64 k.ph,.int .i64 k.aO.size,.int .i64 0,.int .i64 0,.int .i64 k.tok,.int .i64 de,.int .i64 k.out.size,.int .i64 0]
abbrev SI(c:Nat)(k:Cl)(de:Int)(oa:Option Addr)(oc:Nat)(W:World):Prop:=W.cell? ⟨c,12,none⟩=some (.string k.aO)/\W.cell? ⟨c,13,none⟩=some (.slice none 0 0)/\W.cell? ⟨c,14,none⟩=some (.int .i64 0)/\W.cell? ⟨c,16,none⟩=some (.slice oa k.out.size oc)/\W.cell? ⟨c,17,none⟩=some (.int .i64 k.tok)/\W.cell? ⟨c,18,none⟩=some (.int .i64 de)/\W.cell? ⟨c,19,none⟩=some (.int .i64 0)
theorem SI.blk{c:Nat}{k:Cl}{de:Int}{oa:Option Addr}{oc:Nat}{W W':World}(h:SI c k de oa oc W)(e:W'.heap[c]? =W.heap[c]?):SI c k de oa oc W':=by have key:∀o x,W.cell? ⟨c,o,none⟩=some x->W'.cell? ⟨c,o,none⟩=some x:=fun o x hx=>(World.cell?_of_block (a:=⟨c,o,none⟩) e).trans hx;exact⟨key _ _ h.1,key _ _ h.2.1,key _ _ h.2.2.1,key _ _ h.2.2.2.1,key _ _ h.2.2.2.2.1,key _ _ h.2.2.2.2.2.1,key _ _ h.2.2.2.2.2.2⟩
theorem Jc(c rb mb ch:Nat)(sz cl qu mx qn rt bu wk ou de:Int)(k:Cl)(w:World)(h:aU w c rb mb ch sz cl qu mx qn rt bu wk ou de k):
  Calls prog 70 #[.pointer (some ⟨c,0,none⟩)] w fun e w'=>e=.returned (MT k de)/\Below w.heap.size w w':=by
 obtain⟨w0,hw0⟩:∃w0,w0=(w.alloc (.cells #[.int .i64 0,.int .i64 0,.int .i64 0,.int .i64 0,.int .i64 0,.int .i64 0,.int .i64 0,.int .i64 0] 68)).drew:=⟨_,rfl⟩;have hb0:Below w.heap.size w w0:=by rw[hw0];exact((Below.refl _ w).alloc (Nat.le_refl _) _).drew
 have HA:Hid (aU w0 c rb mb ch sz cl qu mx qn rt bu wk ou de k):=h.old hb0;obtain⟨out,h1,h2⟩:=HA.out.box;obtain⟨oa,oc,rfl⟩:=fG h2;have hS:SI c k de oa oc w0:=⟨aa h1 rfl,aa h1 rfl,aa h1 rfl,aa h1 rfl,aa h1 rfl,aa h1 rfl,aa h1 rfl⟩;subst hw0;have HN:Hid (c<w.heap.size):=h.lt;clear h h1 h2 hb0;go_enter func70,ntmps70
 go_upto_region 1 with fail
 refine wp_region_noPanic ?_;refine wp_region_held_drew (S:=SI c k de oa oc) (by kernel_rfl) hS ?_;intro hHeld;refine tk 0 ?_;refine tk 2 ?_;refine tk 3 ?_;refine tk 4 ?_;refine tk 5 ?_;refine tk 6 ?_;refine tk 7 ?_;refine tk 8 ?_;refine tk 9 ?_;refine tk 10 ?_;refine tk 11 ?_;refine tk 12 ?_;refine tk 13 ?_;refine tk 14 ?_;refine tk 15 ?_;refine tk 16 ?_;refine tk 17 ?_;refine tk 18 ?_;refine tk 19 ?_;refine tk 20 ?_;refine tk 21 ?_;refine tk 22 ?_;refine tk 23 ?_;refine tk 24 ?_;refine tk 25 ?_;refine tk 26 ?_;refine tk 27 ?_;refine tk 28 ?_;refine tk 29 ?_;refine tk 30 ?_;refine tk 31 ?_;refine tk 32 ?_;refine rH 1 fun K hK=>?_;go_simp
 (refine(qq c rb mb ch sz cl qu mx qn rt bu wk ou de k _ HA.out).mono ?_;rintro e w2 ⟨rfl,rfl⟩)
 go_wp2_with fail;refine hK.out _ _ (hHeld) (fun GV=>?_);clear hK K;refine tk 33 ?_;refine rH 34 fun K hK=>?_;go_simp;refine hK.out _ _ (SI.blk GV ((Below.heap_alloc w _ _ HN.out).trans (Below.heap_alloc w _ _ HN.out).symm)) (fun YC=>?_);clear hK K;refine wpAnyH_done (by kernel_rfl) ?_ _
 (refine NoPanic.normal ?_;go_wp2_with fail;exact bodyPost_ret (v:=MT k de) (by simp[results,results70,go_sem]) rfl ⟨rfl,((Below.refl _ w).alloc (Nat.le_refl _) _).drew⟩)
end
end Go.Proofs.YtpobhljcainmdaaGreat
