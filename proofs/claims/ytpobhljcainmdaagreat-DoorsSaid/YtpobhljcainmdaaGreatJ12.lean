/- Proved here: a part of what Doors keeps (Fe7, Cn8, Cn9). -/
import Derived.ArgAppend
import Derived.Lib.SliceRun
import Derived.Test.YtpobhljcainmdaaGreatJ01
import Derived.Test.YtpobhljcainmdaaGreatJ11
set_option maxRecDepth 100000
set_option maxHeartbeats 8000000
set_option linter.all false
namespace Go.Proofs.YtpobhljcainmdaaGreat
section
open Go.Proofs.Tryz
open Go.RowKit
attribute [local go_sem ↓] Go.wp_at_zero Go.wp_at_succ
attribute [local go_sem] au aj
theorem qa(h o:Nat)(w:World)(hc:w.cell? ⟨h,o,none⟩=some (.slice none 0 0)):
  Calls prog 77 #[.pointer (some ⟨h,o,none⟩)] w fun e w'=>e=.returned (.int .i64 0)/\w'=w:=by
 go_enter func77,ntmps77;go_wp2;go_ret;exact⟨rfl,rfl⟩
theorem zm(h o:Nat)(w:World)(hc:w.cell? ⟨h,o,none⟩=some (.slice none 0 0)):
  Calls prog 103 #[.pointer (some ⟨h,o,none⟩)] w fun e w'=>e=.returned (.tuple #[.pointer none,.bool false])/\w'=w:=by
 go_enter func103,ntmps103;go_wp2
 go_ret2
 exact⟨rfl,rfl⟩
abbrev ru:Array Value:=#[.int .i64 0,.string ⟨#[]⟩,.int .i64 0,.int .i64 0,.int .i64 0,.int .i64 0,.int .i64 0,.string ⟨#[]⟩,.int .i64 0,.int .i64 0]
abbrev nO(W:World)(b:Nat):Prop:=W.heap[b]? =some (.cells ru 134 (0,0))
theorem cJ{W:World}{b:Nat}(h:nO W b):W.cell? ⟨b,0,none⟩=some (.int .i64 0)/\W.cell? ⟨b,1,none⟩=some (.string ⟨#[]⟩)/\W.cell? ⟨b,2,none⟩=some (.int .i64 0)/\W.cell? ⟨b,3,none⟩=some (.int .i64 0)/\W.cell? ⟨b,4,none⟩=some (.int .i64 0)/\W.cell? ⟨b,5,none⟩=some (.int .i64 0)/\W.cell? ⟨b,6,none⟩=some (.int .i64 0)/\W.cell? ⟨b,7,none⟩=some (.string ⟨#[]⟩)/\W.cell? ⟨b,8,none⟩=some (.int .i64 0)/\W.cell? ⟨b,9,none⟩=some (.int .i64 0):=
 ⟨aa h rfl,aa h rfl,aa h rfl,aa h rfl,aa h rfl,aa h rfl,aa h rfl,aa h rfl,aa h rfl,aa h rfl⟩
theorem gR{W:World}{b T i:Nat}{x:Array Value}{v:Value}(h:W.heap[b]? =some (.cells x T (0,0)))(hv:x[i]? =some v):W.setCell ⟨b,i,none⟩ v=W:=by
 have hh:(W.setCell ⟨b,i,none⟩ v).heap=W.heap:=by
  apply Array.ext
  ·simp
  ·intro j h1 h2
   have e:(W.setCell ⟨b,i,none⟩ v).heap[j]? =W.heap[j]? :=by
    by_cases hj:j=b
    ·subst hj;rw[aX h i v,h]
     congr 2
     apply Array.ext';rw[Array.toList_setIfInBounds];exact ko (by rw[Array.getElem?_toList];exact hv)
    ·exact fA hj
   rw[Array.getElem?_eq_getElem h1,Array.getElem?_eq_getElem h2]at e;exact Option.some.inj e
 show{W with heap:=(W.setCell ⟨b,i,none⟩ v).heap}=W;rw[hh]
theorem LL{W:World}{b:Nat}(h:nO W b):(((((((((W.setCell ⟨b,0,none⟩ (.int .i64 0)).setCell ⟨b,1,none⟩ (.string ⟨#[]⟩)).setCell ⟨b,2,none⟩ (.int .i64 0)).setCell ⟨b,3,none⟩ (.int .i64 0)).setCell ⟨b,4,none⟩ (.int .i64 0)).setCell ⟨b,5,none⟩ (.int .i64 0)).setCell ⟨b,6,none⟩ (.int .i64 0)).setCell ⟨b,7,none⟩ (.string ⟨#[]⟩)).setCell ⟨b,8,none⟩ (.int .i64 0)).setCell ⟨b,9,none⟩ (.int .i64 0)=W:=by rw[gR (i:=0) (v:=.int .i64 0) h rfl,gR (i:=1) (v:=.string ⟨#[]⟩) h rfl,gR (i:=2) (v:=.int .i64 0) h rfl,gR (i:=3) (v:=.int .i64 0) h rfl,gR (i:=4) (v:=.int .i64 0) h rfl,gR (i:=5) (v:=.int .i64 0) h rfl,gR (i:=6) (v:=.int .i64 0) h rfl,gR (i:=7) (v:=.string ⟨#[]⟩) h rfl,gR (i:=8) (v:=.int .i64 0) h rfl,gR (i:=9) (v:=.int .i64 0) h rfl]
theorem EH(c:Nat)(w:World)(h:w.cell? ⟨c,13,none⟩=some (.slice none 0 0)):
  Calls prog 204 #[.pointer (some ⟨c,0,none⟩)] w fun e w'=>e=.returned (.tuple #[th,.bool false])/\Below w.heap.size w w':=by
 go_enter func204,ntmps204
 go_upto_region 2 with(go_at_call 78;refine(uD c _ (by first|exact h|exact aP ((Below.refl _ w).alloc (Nat.le_refl _) _) h)).mono ?_;rintro e w1 ⟨rfl,bz⟩)
 have iC:w.heap.size<w1.heap.size:=by have:=bz.size;simp at this;omega
 have bE:Below w.heap.size w (w1.alloc (.cells ru 134)):=(((Below.refl _ w).alloc (Nat.le_refl _) _).trans (bz.mono (by simp))).alloc (Nat.le_of_lt iC) _;have hQ:nO (w1.alloc (.cells ru 134)) w1.heap.size:=heap_alloc_new w1 _;have hP:nO w1 w.heap.size:=(bz.block _ (by simp)).trans (heap_alloc_new w _);have nne:¬w.heap.size=w1.heap.size:=by omega
 obtain⟨p0,p1,p2,p3,p4,p5,p6,p7,p8,p9⟩:=cJ hP;have SL:=LL hP;have HP:Hid (nO (w1.alloc (.cells ru 134)) w.heap.size):=mM hP;have pf:∀j,w1.frozen? ⟨w.heap.size,j,none⟩=false:=fun j=>aG hP j;have HB:Hid (Below w.heap.size w (w1.alloc (.cells ru 134)).drew):=bE.drew;have HN:Hid (w1.heap.size≠w.heap.size):=by show w1.heap.size≠w.heap.size;omega
 clear bz bE hP;refine wp_region_noPanic ?_;refine wp_region_held_drew (S:=fun W=>nO W w1.heap.size) (by kernel_rfl) hQ ?_;intro hHeld;refine wpAnyH_take (i:=0) (oi:=_) (v:=?_) rfl (by kernel_rfl) (by kernel_rfl) (by kernel_rfl) (fun _ _ _ h=>h) (Or.inl ⟨by rfl,?_⟩) hHeld ?_
 rotate_left
 ·(intro w' hSw;(try dsimp only at hSw);obtain⟨q0,q1,q2,q3,q4,q5,q6,q7,q8,q9⟩:=cJ hSw;go_simp;try with_reducible rfl)
 try simp only[Act.put,List.getElem_toArray,List.getElem_cons_zero,List.getElem_cons_succ,List.setIfInBounds_toArray,List.set_cons_zero,List.set_cons_succ]
 refine tk 1 ?_;refine tk 2 ?_;refine rH 3 fun K hK=>?_;go_simp;refine hK.out _ _ (hHeld) (fun AB=>?_);clear hK K;refine rH 4 fun K hK=>?_;go_simp;refine hK.out _ _ (AB) (fun KA=>?_);clear hK K;refine rH 5 fun K hK=>?_;go_simp;refine hK.out _ _ (KA) (fun ze=>?_);clear hK K;refine rH 6 fun K hK=>?_;go_simp;refine hK.out _ _ (ze) (fun xM=>?_);clear hK K;refine rH 7 fun K hK=>?_;go_simp;refine hK.out _ _ (xM) (fun rY=>?_);clear hK K;refine tk 8 ?_;refine tk 9 ?_;refine aH [10,11] (.cons rfl (fun K hK=>?_) ?_)
 ·go_simp;refine hK.out _ _ (rY) (fun uH=>?_);clear hK K;refine rH 11 fun K hK=>?_;go_simp;refine hK.out _ _ (uH) (fun pX=>?_);clear hK K;refine rH 12 fun K hK=>?_;go_simp;refine hK.out _ _ (pX) (fun mq=>?_);clear hK K;refine rH 13 fun K hK=>?_;go_simp;refine hK.out _ _ (mq) (fun jO=>?_);clear hK K;refine rH 14 fun K hK=>?_;go_simp;refine hK.out _ _ (jO) (fun uI=>?_);clear hK K;refine tk 15 ?_;refine rH 16 fun K hK=>?_;go_simp;refine hK.out _ _ (by exact hQ) (fun rZ=>?_);clear hK K;refine tk 17 ?_;refine wpAnyH_done (by kernel_rfl) ?_ _
  (refine NoPanic.normal ?_;go_wp2_with fail;obtain⟨r0,r1,r2,r3,r4,r5,r6,r7,r8,r9⟩:=cJ HP.out;exact bodyPost_ret (v:=.tuple #[th,.bool false]) (by simp[results,results204,go_sem,r0,r1,r2,r3,r4,r5,r6,r7,r8,r9]) rfl ⟨rfl,(by exact HB.out)⟩)
 refine .cons rfl (fun K hK=>?_) .nil;go_simp;refine hK.out _ _ (rY) (fun mz=>?_);clear hK K;refine aH [10,12] (.cons rfl (fun K hK=>?_) ?_)
 ·go_simp;refine hK.out _ _ (mz) (fun pY=>?_);clear hK K;refine rH 12 fun K hK=>?_;go_simp;refine hK.out _ _ (pY) (fun mA=>?_);clear hK K;refine rH 13 fun K hK=>?_;go_simp;refine hK.out _ _ (mA) (fun jP=>?_);clear hK K;refine rH 14 fun K hK=>?_;go_simp;refine hK.out _ _ (jP) (fun uJ=>?_);clear hK K;refine tk 15 ?_;refine rH 16 fun K hK=>?_;go_simp;refine hK.out _ _ (by exact hQ) (fun sj=>?_);clear hK K;refine tk 17 ?_;refine wpAnyH_done (by kernel_rfl) ?_ _
  (refine NoPanic.normal ?_;go_wp2_with fail;obtain⟨r0,r1,r2,r3,r4,r5,r6,r7,r8,r9⟩:=cJ HP.out;exact bodyPost_ret (v:=.tuple #[th,.bool false]) (by simp[results,results204,go_sem,r0,r1,r2,r3,r4,r5,r6,r7,r8,r9]) rfl ⟨rfl,(by exact HB.out)⟩)
 refine .cons rfl (fun K hK=>?_) .nil;go_simp;refine hK.out _ _ (mz) (fun jh=>?_);clear hK K;refine aH [10,13] (.cons rfl (fun K hK=>?_) ?_)
 ·go_simp;refine hK.out _ _ (jh) (fun mB=>?_);clear hK K;refine rH 13 fun K hK=>?_;go_simp;refine hK.out _ _ (mB) (fun jQ=>?_);clear hK K;refine rH 14 fun K hK=>?_;go_simp;refine hK.out _ _ (jQ) (fun uK=>?_);clear hK K;refine tk 15 ?_;refine rH 16 fun K hK=>?_;go_simp;refine hK.out _ _ (by exact hQ) (fun sk=>?_);clear hK K;refine tk 17 ?_;refine wpAnyH_done (by kernel_rfl) ?_ _
  (refine NoPanic.normal ?_;go_wp2_with fail;obtain⟨r0,r1,r2,r3,r4,r5,r6,r7,r8,r9⟩:=cJ HP.out;exact bodyPost_ret (v:=.tuple #[th,.bool false]) (by simp[results,results204,go_sem,r0,r1,r2,r3,r4,r5,r6,r7,r8,r9]) rfl ⟨rfl,(by exact HB.out)⟩)
 refine .cons rfl (fun K hK=>?_) .nil;go_simp;refine hK.out _ _ (jh) (fun mC=>?_);clear hK K;refine rH 10 fun K hK=>?_;go_simp;refine hK.out _ _ (mC) (fun jR=>?_);clear hK K;refine rH 14 fun K hK=>?_;go_simp;refine hK.out _ _ (jR) (fun uL=>?_);clear hK K;refine tk 15 ?_;refine rH 16 fun K hK=>?_;go_simp;refine hK.out _ _ (by exact hQ) (fun sq=>?_);clear hK K;refine tk 17 ?_;refine wpAnyH_done (by kernel_rfl) ?_ _
 (refine NoPanic.normal ?_;go_wp2_with fail;obtain⟨r0,r1,r2,r3,r4,r5,r6,r7,r8,r9⟩:=cJ HP.out;exact bodyPost_ret (v:=.tuple #[th,.bool false]) (by simp[results,results204,go_sem,r0,r1,r2,r3,r4,r5,r6,r7,r8,r9]) rfl ⟨rfl,(by exact HB.out)⟩)
theorem uC(xb c:Nat)(w:World)(h:w.cell? ⟨c,13,none⟩=some (.slice none 0 0)):
  Calls prog 166 #[.pointer (some ⟨xb,0,none⟩),.pointer (some ⟨c,0,none⟩)] w fun e w'=>e=.returned (.tuple #[th,.bool false])/\Below w.heap.size w w':=by
 go_enter func166,ntmps166
 go_upto_region 2 with(go_at_call 204;refine(EH c _ (by first|exact h|exact aP ((Below.refl _ w).alloc (Nat.le_refl _) _) h)).mono ?_;rintro e w1 ⟨rfl,bz⟩)
 have iC:w.heap.size<w1.heap.size:=by have:=bz.size;simp at this;omega
 have bE:Below w.heap.size w (w1.alloc (.cells ru 134)):=(((Below.refl _ w).alloc (Nat.le_refl _) _).trans (bz.mono (by simp))).alloc (Nat.le_of_lt iC) _;have hQ:nO (w1.alloc (.cells ru 134)) w1.heap.size:=heap_alloc_new w1 _;have hP:nO w1 w.heap.size:=(bz.block _ (by simp)).trans (heap_alloc_new w _);have nne:¬w.heap.size=w1.heap.size:=by omega
 obtain⟨p0,p1,p2,p3,p4,p5,p6,p7,p8,p9⟩:=cJ hP;have SL:=LL hP;have HP:Hid (nO (w1.alloc (.cells ru 134)) w.heap.size):=mM hP;have pf:∀j,w1.frozen? ⟨w.heap.size,j,none⟩=false:=fun j=>aG hP j;have HB:Hid (Below w.heap.size w (w1.alloc (.cells ru 134)).drew):=bE.drew;have HN:Hid (w1.heap.size≠w.heap.size):=by show w1.heap.size≠w.heap.size;omega
 clear bz bE hP;refine wp_region_noPanic ?_;refine wp_region_held_drew (S:=fun W=>nO W w1.heap.size) (by kernel_rfl) hQ ?_;intro hHeld;refine wpAnyH_take (i:=0) (oi:=_) (v:=?_) rfl (by kernel_rfl) (by kernel_rfl) (by kernel_rfl) (fun _ _ _ h=>h) (Or.inl ⟨by rfl,?_⟩) hHeld ?_
 rotate_left
 ·(intro w' hSw;(try dsimp only at hSw);obtain⟨q0,q1,q2,q3,q4,q5,q6,q7,q8,q9⟩:=cJ hSw;go_simp;try with_reducible rfl)
 try simp only[Act.put,List.getElem_toArray,List.getElem_cons_zero,List.getElem_cons_succ,List.setIfInBounds_toArray,List.set_cons_zero,List.set_cons_succ]
 refine tk 1 ?_;refine tk 2 ?_;refine aH [3,4] (.cons rfl (fun K hK=>?_) ?_)
 ·go_simp;refine hK.out _ _ (hHeld) (fun AB=>?_);clear hK K;refine rH 4 fun K hK=>?_;go_simp;refine hK.out _ _ (AB) (fun KA=>?_);clear hK K;refine rH 5 fun K hK=>?_;go_simp;refine hK.out _ _ (KA) (fun ze=>?_);clear hK K;refine aH [6,8] (.cons rfl (fun K hK=>?_) ?_)
  ·go_simp;refine hK.out _ _ (ze) (fun xM=>?_);clear hK K;refine tk 7 ?_;refine rH 8 fun K hK=>?_;go_simp;refine hK.out _ _ ((by exact hQ)) (fun Pp=>?_);clear hK K;refine tk 9 ?_;refine wpAnyH_done (by kernel_rfl) ?_ _
   (refine NoPanic.normal ?_;go_wp2_with fail;obtain⟨r0,r1,r2,r3,r4,r5,r6,r7,r8,r9⟩:=cJ HP.out;exact bodyPost_ret (v:=.tuple #[th,.bool false]) (by simp[results,results166,go_sem,r0,r1,r2,r3,r4,r5,r6,r7,r8,r9]) rfl ⟨rfl,(by exact HB.out)⟩)
  refine .cons rfl (fun K hK=>?_) .nil;go_simp;refine hK.out _ _ ((by exact hQ)) (fun GZ=>?_);clear hK K;refine rH 6 fun K hK=>?_;go_simp;refine hK.out _ _ (GZ) (fun Pq=>?_);clear hK K;refine tk 7 ?_;refine tk 9 ?_;refine wpAnyH_done (by kernel_rfl) ?_ _
  (refine NoPanic.normal ?_;go_wp2_with fail;obtain⟨r0,r1,r2,r3,r4,r5,r6,r7,r8,r9⟩:=cJ HP.out;exact bodyPost_ret (v:=.tuple #[th,.bool false]) (by simp[results,results166,go_sem,r0,r1,r2,r3,r4,r5,r6,r7,r8,r9]) rfl ⟨rfl,(by exact HB.out)⟩)
 refine .cons rfl (fun K hK=>?_) .nil;go_simp;refine hK.out _ _ (hHeld) (fun uM=>?_);clear hK K;refine rH 3 fun K hK=>?_;go_simp;refine hK.out _ _ (uM) (fun Uy=>?_);clear hK K;refine rH 5 fun K hK=>?_;go_simp;refine hK.out _ _ (Uy) (fun NF=>?_);clear hK K;refine aH [6,8] (.cons rfl (fun K hK=>?_) ?_)
 ·go_simp;refine hK.out _ _ (NF) (fun SY=>?_);clear hK K;refine tk 7 ?_;refine rH 8 fun K hK=>?_;go_simp;refine hK.out _ _ ((by exact hQ)) (fun Pr=>?_);clear hK K;refine tk 9 ?_;refine wpAnyH_done (by kernel_rfl) ?_ _
  (refine NoPanic.normal ?_;go_wp2_with fail;obtain⟨r0,r1,r2,r3,r4,r5,r6,r7,r8,r9⟩:=cJ HP.out;exact bodyPost_ret (v:=.tuple #[th,.bool false]) (by simp[results,results166,go_sem,r0,r1,r2,r3,r4,r5,r6,r7,r8,r9]) rfl ⟨rfl,(by exact HB.out)⟩)
 refine .cons rfl (fun K hK=>?_) .nil;go_simp;refine hK.out _ _ ((by exact hQ)) (fun Hg=>?_);clear hK K;refine rH 6 fun K hK=>?_;go_simp;refine hK.out _ _ (Hg) (fun Pt=>?_);clear hK K;refine tk 7 ?_;refine tk 9 ?_;refine wpAnyH_done (by kernel_rfl) ?_ _
 (refine NoPanic.normal ?_;go_wp2_with fail;obtain⟨r0,r1,r2,r3,r4,r5,r6,r7,r8,r9⟩:=cJ HP.out;exact bodyPost_ret (v:=.tuple #[th,.bool false]) (by simp[results,results166,go_sem,r0,r1,r2,r3,r4,r5,r6,r7,r8,r9]) rfl ⟨rfl,(by exact HB.out)⟩)
theorem xp(xb sb N j:Nat)(cs:List (Option Nat))(sz cl qu mx qn rt bu wk ou av clock:Int)(stop:Bool)(db:Option Addr)(w:World)(hF:cY w xb sz cl qu mx qn rt bu wk ou sb N av clock stop j db)(hR:cM w sb cs)(hl:cs.length=N)(hN:N<=65535)(hj:cs[j]? =some none):
  Calls prog 107 #[.pointer (some ⟨xb,0,none⟩)] w fun e w'=>e=.returned (.bool false)/\∃m,w'=w.drewN m:=by
 have c9:w.cell? ⟨xb,9,none⟩=some (.slice (some ⟨sb,0,none⟩) N N):=aa hF rfl;have XR:w.cell? ⟨xb,15,none⟩=some (.int .i64 j):=aa hF rfl;have hc:w.cell? ⟨sb,j,none⟩=some (.pointer none):=aa hR (jY hj);have hjl:j<N:=by have:=(List.getElem?_eq_some_iff.1 hj).1;omega
 have hjI:(j:Int)<(N:Int):=by omega
 clear hF hR;go_enter func107,ntmps107;go_wp2
 go_quiet (fail)
 go_wp2;go_ret;exact⟨rfl,_,rfl⟩
end
section
open Go.Proofs.Tryz
open Go.RowKit
attribute [local go_sem ↓] Go.wp_at_zero Go.wp_at_succ
attribute [local go_sem] au aj
theorem Iw{P:Program}{o:Oper}{a:Act}{w w':World}{K:Act->World->Prop}{Q:Exit->Act->World->Prop}{y:Nat->Option Bool}{sl x:Operand}{t u:TypeId}{v v' z:Value}(hw:Region.wanted o y=true)
  (ho:o.op=.call {callee:=.builtin .append,args:=#[sl,x],argTypes:=#[t,u]}) (hs:a.eval sl=v) (hx:a.eval x=z) (hr:(Builtin.append_ #[t,u] o.type #[v,z]).run P w=.ok v' w') (h:K (a.put o.dst v') w'):
  if Region.wanted o y=true then Oper.wp P o a w K Q else K (a.put o.dst undef) w:=by
 rw[if_pos hw];unfold Oper.wp execOp;simp only[ho,resolve,invoke,builtin,Sem.run_bind,Sem.run_pure,Result.andThen_ok,List.map_toArray,List.map_cons,List.map_nil,hs,hx,hr];exact h
theorem tQ{T g:Nat}:∀(xs:List Value) (o:Nat) (W:World) (cur:Array Value),W.heap[g]? =some (.cells cur T (0,0))->
  ∃cur',(W.setCells g o xs).heap[g]? =some (.cells cur' T (0,0))/\cur'.size=cur.size/\(∀i,i<o\/o+xs.length<=i->cur'[i]? =cur[i]?)/\(∀i u,xs[i]? =some u->o+i<cur.size->cur'[o+i]? =some u)/\(∀k,k≠g->(W.setCells g o xs).heap[k]? =W.heap[k]?)/\(W.setCells g o xs).heap.size=W.heap.size/\(W.setCells g o xs).os=W.os:=by
 intro xs;induction xs with
 |nil=>exact fun o W cur h=>⟨cur,h,rfl,fun _ _=>rfl,fun i u hu=>by simp at hu,fun _ _=>rfl,rfl,rfl⟩
 |cons x xs ih=>
  intro o W cur h;obtain⟨c',h1,h2,h3,h4,h5,h6,h7⟩:=ih (o+1) (W.setCell ⟨g,o,none⟩ x) _ (aX h o x);refine⟨c',h1,by rw[h2];simp,fun i hi=>?_,fun i u hu hlt=>?_,fun k hk=>(h5 k hk).trans (fA hk),h6.trans (by simp),h7.trans rfl⟩
  ·rw[h3 i (by rcases hi with h|h;left;omega;right;simp at h;omega)];exact Array.getElem?_setIfInBounds_ne (by rcases hi with h|h;omega;simp at h;omega)
  ·cases i with
   |zero=>
    simp at hu;subst hu;rw[h3 (o+0) (.inl (by omega))];rw[Nat.add_zero]at hlt⊢;simp[Array.getElem?_setIfInBounds,hlt]
   |succ i=>
    have:=h4 i u (by simpa using hu) (by simp;omega);rw[show o+(i+1)=o+1+i by omega];exact this
theorem Bm(s:Value)(a:Option Addr)(L cap:Nat)(hs:s=.slice a L cap)(hc:L<=cap)(hm:cap<=maxLen)(w:World):
  Calls prog 113 #[s,.int .i64 0,.int .i64 0] w fun e w'=>e=.returned s/\w'=w:=by
 subst hs;unfold maxLen at hm;go_enter func113,ntmps113;go_wp2
 all_goals (go_ret;exact⟨rfl,rfl⟩)
abbrev uw(w:World)(g L n:Nat)(news:List Value):World:=(w.drew.setCells g 0 news).setCells g (L-n) (List.replicate n (.int .u8 0))
theorem Bn(g L cap n:Nat)(news:List Value)(cur:Array Value)(w:World)(h0:0<n)(hn:n<=L)(hc:L<=cap)(hm:cap<=maxLen)(hl:news.length=L-n)(h1:∀u∈news,u.oneCell'=true)(hrow:w.heap[g]? =some (.cells cur 5 (0,0)))(hsz:cur.size=cap)
  (hcell:∀j u,news[j]? =some u->cur[n+j]? =some u):
  Calls prog 113 #[.slice (some ⟨g,0,none⟩) L cap,.int .i64 0,.int .i64 n] w fun e w'=>e=.returned (.slice (some ⟨g,0,none⟩) (L-n) cap)/\w'=uw w g L n news:=by
 have hcell:∀j u,news[j]? =some u->w.cell? ⟨g,n+j,none⟩=some u:=fun j u hu=>aa hrow (hcell j u hu);have hs:∀j,j<L->(w.cell? ⟨g,j,none⟩).isSome=true:=fun j hj=>by rw[aa hrow (Array.getElem?_eq_getElem (by omega))];rfl
 have hf:∀j,w.frozen? ⟨g,j,none⟩=false:=fun j=>aG hrow j;obtain⟨i0,hi0,AH,iC,wS⟩:=info_parts mH
 obtain⟨A,hA,hsrc⟩:∃A:Addr,(if cap=n then some (⟨g,0,none⟩:Addr)else some ⟨g,n,none⟩)=some A/\(∀t u,news[t]? =some u->w.drew.cell? (A.add t)=some u):=by
  by_cases h:cap=n
  ·refine⟨⟨g,0,none⟩,by simp[h],fun t u hu=>?_⟩;have e:news.length=0:=by omega
   rw[List.length_eq_zero_iff.1 e]at hu;simp at hu
  ·exact⟨⟨g,n,none⟩,by simp[h],fun t u hu=>by rw[Addr.add_lit];exact hcell t u hu⟩
 have HA:Hid ((Builtin.append_ #[158,158] 158 #[.slice (some ⟨g,0,none⟩) 0 cap,.slice (some A) (L-n) (cap-n)]).run prog w.drew=.ok (.slice (some ⟨g,0,none⟩) (0+(L-n)) cap) (w.drew.setCells g (0+0*i0.size) news)):=
  run_append_room_cells (P:=prog) w.drew 158 158 5 i0 underlying158 hi0 g 0 0 cap A (L-n) (cap-n) news (by rw[iC,hl];omega) hsrc h1 (by omega) (fun j hj=>by rw[Nat.zero_mul,Nat.zero_add];exact(hs j (by omega))) (fun j hj=>by rw[Nat.zero_mul,Nat.zero_add];exact hf j)
 have hv:∀w,(zeroValue 5).run prog w=.ok (.int .u8 0) w:=zeroValue5
 have dw:∀ty,(Builtin.clear_ #[158] ty #[.slice (some ⟨g,L-n,none⟩) (L-(L-n)) (cap-(L-n))]).run prog (w.drew.setCells g 0 news)=.ok (.tuple #[]) (uw w g L n news):=fun ty=>by
  have:=Lib.run_clear_slice (P:=prog) (w.drew.setCells g 0 news) 158 5 ty (.int .u8 0) underlying158 hv rfl rfl g (L-n) (L-(L-n)) (cap-(L-n)) (by omega) ?_ ?_
  ·rw[this,show L-(L-n)=n by omega]
  ·intro j hj;obtain⟨c',e1,e2,_⟩:=tQ news 0 w.drew cur hrow;rw[aa e1 (Array.getElem?_eq_getElem (by omega))];rfl
  ·intro j hj;obtain⟨c',e1,e2,_⟩:=tQ news 0 w.drew cur hrow;exact aG e1 _
 unfold maxLen at hm;have hb0:((0:Int)==(n:Int))=false:=by simp;omega
 clear hsrc hcell hs hf h1 hv hrow;go_enter func113,ntmps113
 go_upto_region 5 with fail
 refine wp_region_noPanic ?_;refine wp_region_held_drew (S:=fun _=>True) (by kernel_rfl) trivial ?_;intro hHeld;refine tk 0 ?_;refine tk 1 ?_;refine tk 2 ?_;refine tk 3 ?_;refine tk 4 ?_;refine tk 5 ?_;refine rH 6 fun K hK=>?_
 (refine Iw rfl rfl rfl rfl HA.out ?_;simp only[Act.put,List.getElem_toArray,List.getElem_cons_zero,List.getElem_cons_succ,List.setIfInBounds_toArray,List.set_cons_zero,List.set_cons_succ])
 refine hK.out _ _ (trivial) (fun SZ=>?_);clear hK K;refine tk 7 ?_;refine wpAnyH_done (by kernel_rfl) ?_ _
 (refine NoPanic.normal ?_;go_wp2;go_ret;exact⟨rfl,rfl⟩)
end
section
open Go.Proofs.Tryz
open Go.RowKit
attribute [local go_sem ↓] Go.wp_at_zero Go.wp_at_succ
attribute [local go_sem] au aj
theorem Mw(c:Nat)(n:Int)(w:World)(h:decide (n<0)=true):
  Calls prog 69 #[.pointer (some ⟨c,0,none⟩),.int .i64 n] w fun e w'=>e=.returned (.tuple #[.string ⟨#[]⟩,.int .i64 5])/\w'=w:=by
 go_enter func69,ntmps69;go_wp2
 go_ret2
 exact⟨rfl,rfl⟩
def Cl.take(m:Nat)(k:Cl):Cl:={k with out:=k.out.extract m k.out.size}
theorem Jg(c rb mb ch g cap:Nat)(cur:Array Value)(sz cl qu mx qn rt bu wk ou de:Int)(k:Cl)(n:Int)(m:Nat)(w:World)(h:aU w c rb mb ch sz cl qu mx qn rt bu wk ou de k)
  (dX:bC w c k.no k.wt sz cl qu mx qn rt bu wk ou rb k.aO (.slice (some ⟨g,0,none⟩) k.out.size cap) k.tok de ch) (hrow:w.heap[g]? =some (.cells cur 5 (0,0))) (hsz:cur.size=cap) (hcap:k.out.size<=cap) (hmx:cap<=maxLen) (htk:cur.toList.take k.out.size=Lib.strCells k.out)
  (h0:0<m) (hm:(m:Int)=min n k.out.size):
  Calls prog 69 #[.pointer (some ⟨c,0,none⟩),.int .i64 n] w fun e w'=>e=.returned (.tuple #[.string (k.out.extract 0 m),.int .i64 0])/\aU w' c rb mb ch sz cl qu mx qn rt bu wk ou de (k.take m)/\aF (fun i=>i=c\/i=g) w w'/\
   (∃cur',w'.heap[g]? =some (.cells cur' 5 (0,0))/\∀(i:Nat) v,cur'[i]? =some v->(∃j:Nat,cur[j]? =some v)\/v=.int .u8 0)/\bC w' c k.no k.wt sz cl qu mx qn rt bu wk ou rb k.aO (.slice (some ⟨g,0,none⟩) (k.out.size-m) cap) k.tok de ch:=by
 have hmL:m<=k.out.size:=by omega
 have hn0:decide (n<0)=false:=by simp;omega
 have hmin:min n (k.out.size:Int)=(m:Int):=hm.symm
 have eF:∀(j:Nat) u,(Lib.strCells k.out)[j]? =some u->cur[j]? =some u:=fun j u hu=>by
  rw[<-htk,List.getElem?_take]at hu;split at hu
  ·rw[<-Array.getElem?_toList];exact hu
  ·cases hu
 have PL:(Lib.strCells k.out).length=k.out.size:=Lib.strCells_length k.out
 have hcv:(convert 158 9 (.slice (some ⟨g,0,none⟩) m cap)).run prog w=.ok (.string (k.out.extract 0 m)) w:=by
  have h1:=run_convert_bytes_back (P:=prog) w 158 9 5 ⟨g,0,none⟩ cap (k.out.data.toList.take m) underlying158 underlying5 underlying9 (fun j hj=>by
   rw[Addr.add_lit,Nat.zero_add];refine aa hrow (eF j _ ?_);have hds:k.out.data.size=k.out.size:=rfl;rw[List.length_take]at hj;have Ti:j<k.out.data.size:=by omega
   have e:(Lib.strCells k.out)[j]? =some (.int .u8 (k.out.data[j].toNat:Int)):=by unfold Lib.strCells;rw[List.getElem?_map,Array.getElem?_toList,Array.getElem?_eq_getElem Ti];rfl
   rw[e];simp)
  have e1:(k.out.data.toList.take m).length=m:=by rw[List.length_take];exact Nat.min_eq_left (by simpa using hmL)
  have e2:(⟨(k.out.data.toList.take m).toArray⟩:ByteArray)=k.out.extract 0 m:=by apply ByteArray.ext;apply Array.ext';simp[ByteArray.data_extract]
  rw[e1,e2]at h1;exact h1
 obtain⟨news,hnews⟩:∃news,news=(Lib.strCells k.out).drop m:=⟨_,rfl⟩;have hnl:news.length=k.out.size-m:=by rw[hnews,List.length_drop,PL]
 have hone:∀u∈news,u.oneCell'=true:=fun u hu=>Lib.strCells_oneCell k.out u (List.mem_of_mem_drop (hnews▸hu));have Zl:∀(j:Nat) u,news[j]? =some u->cur[m+j]? =some u:=fun j u hu=>eF (m+j) u (by rw[hnews,List.getElem?_drop]at hu;exact hu);have hcg:c≠g:=aJ dX hrow (by simp);obtain⟨c1,a1,a2,a3,a4,a5,a6,a7⟩:=tQ news 0 w.drew cur hrow;obtain⟨c2,b1,b2,b3,b4,b5,b6,b7⟩:=tQ (List.replicate m (.int .u8 0)) (k.out.size-m) (w.drew.setCells g 0 news) c1 a1;have hkeep:∀i,i≠g->(uw w g k.out.size m news).heap[i]? =w.heap[i]? :=fun i hi=>(b5 i hi).trans (a5 i hi)
 have PE:∀(i:Nat) v,c2[i]? =some v->(∃j:Nat,cur[j]? =some v)\/v=.int .u8 0:=fun i v hv=>by
  have hi2:i<c2.size:=(Array.getElem?_eq_some_iff.1 hv).1
  by_cases hz:k.out.size-m<=i/\i<k.out.size-m+m
  ·have:=b4 (i-(k.out.size-m)) (.int .u8 0) (by rw[List.getElem?_replicate,if_pos (by omega)]) (by rw[<-b2];omega);rw[show k.out.size-m+(i-(k.out.size-m))=i by omega,hv]at this;exact .inr (Option.some.inj this)
  ·rw[b3 i (by rw[List.length_replicate];omega)]at hv
   by_cases hy:i<k.out.size-m
   ·have hlt:i<news.length:=by omega
    have:=a4 i news[i] (List.getElem?_eq_getElem hlt) (by rw[<-a2,<-b2];omega);rw[Nat.zero_add,hv]at this;cases this;exact .inl ⟨_,Zl i _ (List.getElem?_eq_getElem hlt)⟩
   ·rw[a3 i (by right;omega)]at hv;exact .inl ⟨i,hv⟩
 have Lc:c2.toList.take (k.out.size-m)=Lib.strCells (k.out.extract m k.out.size):=by
  have e1:Lib.strCells (k.out.extract m k.out.size)=news:=by rw[hnews];unfold Lib.strCells;rw[ByteArray.data_extract,Array.toList_extract,List.extract_eq_take_drop,List.take_of_length_le (by simp),List.map_drop]
  rw[e1];apply List.ext_getElem?;intro i;rw[List.getElem?_take];split
  ·rename_i hi;rw[Array.getElem?_toList,b3 i (.inl hi)];have:=a4 i news[i] (List.getElem?_eq_getElem (by omega)) (by omega);rw[Nat.zero_add]at this;rw[this,List.getElem?_eq_getElem]
  ·rename_i hi;rw[List.getElem?_eq_none (by omega)]
 have iX:bC (uw w g k.out.size m news) c k.no k.wt sz cl qu mx qn rt bu wk ou rb k.aO (.slice (some ⟨g,0,none⟩) k.out.size cap) k.tok de ch:=(hkeep c hcg).trans dX;have kC:=aX iX 16 (.slice (some ⟨g,0,none⟩) (k.out.size-m) cap);have Jq:w.cell? ⟨c,16,none⟩=some (.slice (some ⟨g,0,none⟩) k.out.size cap):=aa dX rfl;have d16:(uw w g k.out.size m news).cell? ⟨c,16,none⟩=some (.slice (some ⟨g,0,none⟩) k.out.size cap):=aa iX rfl;have df:=aG iX 16;have HD:Hid (Calls prog 113 #[.slice (some ⟨g,0,none⟩) k.out.size cap,.int .i64 0,.int .i64 m] w fun e w'=>e=.returned (.slice (some ⟨g,0,none⟩) (k.out.size-m) cap)/\w'=uw w g k.out.size m news):=Bn g k.out.size cap m news cur w h0 hmL hcap hmx hnl hone hrow hsz Zl
 have HQ:Hid (aU ((uw w g k.out.size m news).setCell ⟨c,16,none⟩ (.slice (some ⟨g,0,none⟩) (k.out.size-m) cap)) c rb mb ch sz cl qu mx qn rt bu wk ou de (k.take m)/\aF (fun i=>i=c\/i=g) w ((uw w g k.out.size m news).setCell ⟨c,16,none⟩ (.slice (some ⟨g,0,none⟩) (k.out.size-m) cap))/\
   (∃cur',((uw w g k.out.size m news).setCell ⟨c,16,none⟩ (.slice (some ⟨g,0,none⟩) (k.out.size-m) cap)).heap[g]? =some (.cells cur' 5 (0,0))/\∀(i:Nat) v,cur'[i]? =some v->(∃j:Nat,cur[j]? =some v)\/v=.int .u8 0)/\bC ((uw w g k.out.size m news).setCell ⟨c,16,none⟩ (.slice (some ⟨g,0,none⟩) (k.out.size-m) cap)) c k.no k.wt sz cl qu mx qn rt bu wk ou rb k.aO (.slice (some ⟨g,0,none⟩) (k.out.size-m) cap) k.tok de ch):=by
  have hG:=aS b1 (Ne.symm hcg) 16 (.slice (some ⟨g,0,none⟩) (k.out.size-m) cap);obtain⟨rp,h3,h4⟩:=h.rd;obtain⟨es,ck,e1,e2⟩:=h3.uses;have esz:(k.out.extract m k.out.size).size=k.out.size-m:=by simp[ByteArray.size_extract]
  refine⟨⟨⟨_,kC,?_⟩,⟨rp,⟨aS ((hkeep _ (aJ h3.box hrow (by simp))).trans h3.box) (aJ h3.box dX (by simp)) _ _,es,ck,aS ((hkeep _ (aJ e1 hrow (by simp))).trans e1) (aJ e1 dX (by simp)) _ _,e2⟩,h4⟩,aS ((hkeep _ (aJ h.chan hrow (by simp))).trans h.chan) (aJ h.chan dX (by simp)) _ _⟩,?_,⟨c2,hG,PE⟩,kC⟩
  ·show World.ownsRow _ 0 5 1 _ (k.out.extract m k.out.size).size _;rw[esz];refine⟨by rw[Lib.strCells_length];show(k.out.extract m k.out.size).size=_;rw[esz];omega,.inr ⟨g,cap,c2,rfl,Nat.zero_le _,hG,by omega,hmx,by rw[b2,a2,hsz];omega,?_⟩⟩;rw[Nat.mul_one];exact Lc
  ·have hT:aF (fun i=>i=c\/i=g) w (uw w g k.out.size m news):=⟨b7.trans a7,by rw[b6,a6];exact Nat.le_refl _,fun i _ hi=>hkeep i fun e=>hi (.inr e)⟩;exact hT.set (p:=⟨c,16,none⟩) (.inl rfl) _
 have hmI:(m:Int)<=(k.out.size:Int):=by omega
 have hmc:(m:Int)<=(cap:Int):=by omega
 have hmN:m<=cap:=by omega
 unfold maxLen at hmx;clear h dX hrow htk eF PL hnews hnl hone Zl a1 a2 a3 a4 a5 a6 a7 b1 b2 b3 b4 b5 b6 b7 hkeep PE Lc iX kC hm;go_enter func69,ntmps69;go_wp2_with (go_at_call 113;refine HD.out.mono ?_;rintro e w2 ⟨rfl,rfl⟩)
 go_ret2
 exact⟨rfl,HQ.out⟩
theorem Dz(oa:Option Addr)(cap:Nat)(w:World):(convert 158 9 (.slice oa 0 cap)).run prog w=.ok (.string ⟨#[]⟩) w:=by
 cases oa with
 |some a=>exact run_convert_bytes_back (P:=prog) w 158 9 5 a cap [] underlying158 underlying5 underlying9 (fun j hj=>by cases hj)
 |none=>
  rw[run_convert_bytes_string w 158 9 5 none 0 cap underlying158 underlying5 underlying9];rfl
theorem take_zero(c rb mb ch cap:Nat)(oa:Option Addr)(sz cl qu mx qn rt bu wk ou de:Int)(k:Cl)(n:Int)(w:World)(h:aU w c rb mb ch sz cl qu mx qn rt bu wk ou de k)
  (dX:bC w c k.no k.wt sz cl qu mx qn rt bu wk ou rb k.aO (.slice oa k.out.size cap) k.tok de ch) (hcap:k.out.size<=cap) (hmx:cap<=maxLen) (hm:min n k.out.size=0):
  Calls prog 69 #[.pointer (some ⟨c,0,none⟩),.int .i64 n] w fun e w'=>e=.returned (.tuple #[.string ⟨#[]⟩,.int .i64 0])/\aU w' c rb mb ch sz cl qu mx qn rt bu wk ou de k/\aF (fun i=>i=c) w w'/\w'.heap[c]? =w.heap[c]? :=by
 have hn0:decide (n<0)=false:=by simp;omega
 have Jq:w.cell? ⟨c,16,none⟩=some (.slice oa k.out.size cap):=aa dX rfl;have f16:=aG dX 16;have hcv:=Dz oa cap w;have kC:=aX dX 16 (.slice oa k.out.size cap);have HD:Hid (Calls prog 113 #[.slice oa k.out.size cap,.int .i64 0,.int .i64 0] w fun e w'=>e=.returned (.slice oa k.out.size cap)/\w'=w):=Bm _ oa k.out.size cap rfl hcap hmx w
 have HQ:Hid (aU (w.setCell ⟨c,16,none⟩ (.slice oa k.out.size cap)) c rb mb ch sz cl qu mx qn rt bu wk ou de k/\aF (fun i=>i=c) w (w.setCell ⟨c,16,none⟩ (.slice oa k.out.size cap))/\(w.setCell ⟨c,16,none⟩ (.slice oa k.out.size cap)).heap[c]? =w.heap[c]?):=by
  have hsame:∀i,(w.setCell ⟨c,16,none⟩ (.slice oa k.out.size cap)).heap[i]? =w.heap[i]? :=fun i=>by
   by_cases e:i=c
   ·subst e;rw[kC,dX];rfl
   ·exact fA e
  refine⟨?_,(aF.refl (fun i=>i=c) w).set (p:=⟨c,16,none⟩) rfl _,hsame c⟩;exact h.old ⟨rfl,rfl,rfl,by simp,fun i _=>hsame i⟩
 unfold maxLen at hmx;clear h dX kC;go_enter func69,ntmps69;go_wp2_with (go_at_call 113;refine HD.out.mono ?_;rintro e w2 ⟨rfl,rfl⟩)
 go_ret2
 exact⟨rfl,HQ.out⟩
end
end Go.Proofs.YtpobhljcainmdaaGreat
