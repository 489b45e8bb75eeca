/- Proved here: a part of what Doors keeps (Rt2, Rt3). -/
import Derived.Test.YtpobhljcainmdaaGreatJ01
import Derived.Test.YtpobhljcainmdaaGreatJ15
import Derived.Test.YtpobhljcainmdaaGreatJ35
set_option maxRecDepth 100000
set_option maxHeartbeats 8000000
set_option linter.all false
namespace Go.Proofs.YtpobhljcainmdaaGreat
section
open Go.Proofs.Tryz
open Go.RowKit Go.Shelf
attribute [local go_sem] Oper.semAt_some
attribute [local go_sem] au aj
abbrev tlA(xb B1 Wg B2 D:Nat):Act:=⟨#[pt xb,pt B1,pt Wg,undef,undef,pt xb,.func (.func 96) #[] #[pt B2],undef,undef,undef,.tuple #[],undef,undef,undef,undef,undef,undef,undef,undef,undef,undef,undef,undef],[{target:=.collected D,args:=#[]}]⟩
abbrev tlB(xb B1 Wg B2 N0 c:Nat):Act:=⟨#[pt xb,pt B1,pt Wg,undef,pt c,pt xb,.func (.func 96) #[] #[pt B2],undef,undef,undef,.tuple #[],pt xb,.func (.func 96) #[] #[pt N0],pt c,undef,undef,undef,undef,undef,undef,undef,undef,undef],[]⟩
abbrev tlE(xb B1 Wg B2 N0 c:Nat):Act:=⟨#[pt xb,pt B1,pt Wg,undef,pt c,pt xb,.func (.func 96) #[] #[pt B2],undef,undef,undef,.tuple #[],pt xb,.func (.func 96) #[] #[pt N0],pt c,pt xb,pt c,pt xb,pt xb,.pointer (some ⟨xb,11,none⟩),.int .i64 0,.int .i64 0,pt xb,.pointer (some ⟨xb,11,none⟩)],[]⟩
theorem OK(xb sb N B1 Wg B2 D:Nat)(cs:List (Option Nat))(sz cl qu mx qn rt bu wk ou av clock gi:Int)(stop:Bool)(db:Option Addr)(w:World)(hF:cY w xb sz cl qu mx qn rt bu wk ou sb N av clock stop gi db)(hR:cM w sb cs)(hl:cs.length=N)(hN:N<=65535)(hq:∀c∈ay cs,w.cell? ⟨c,13,none⟩=some (.slice none 0 0))(hB:w.heap[B1]? =some (.cells #[pt xb] 36 (0,0)))(hD:w.heap[D]? =some (.deferred (some []))):
  (mS f61).wpIn Fence.wide 3 prog (bodyPostM Fence.wide 3 prog f61 fun e w'=>e=.returned (.tuple #[])/\aF (fun i=>i=D) w w') (tlA xb B1 Wg B2 D) w:=by
 have cB:w.cell? ⟨B1,0,none⟩=some (pt xb):=aa hB rfl;simp only[mS,rJ,f61]
 gi_wp2_with (first|(refine⟨trivial,?_⟩;gi_at_call 59;refine(callsIn_wide.2 (oK xb _)).mono ?_;rintro e w1 ⟨rfl,rfl⟩))
 have hb0:Below w.heap.size w (w.alloc (.cells #[pt xb] 36)):=(Below.refl _ w).alloc (Nat.le_refl _) _;have hsz:(w.alloc (.cells #[pt xb] 36)).heap.size=w.heap.size+1:=by simp
 have e3:(w.alloc (.cells #[pt xb] 36)).heap[w.heap.size]? =some (.cells #[pt xb] 36 (0,0)):=heap_alloc_new w _;have hsb:sb<w.heap.size:=(Array.getElem?_eq_some_iff.1 hR).1;have hDl:D<w.heap.size:=(Array.getElem?_eq_some_iff.1 hD).1;have HF:Hid (cY w xb sz cl qu mx qn rt bu wk ou sb N av clock stop gi db/\cM w sb cs/\(∀c∈ay cs,w.cell? ⟨c,13,none⟩=some (.slice none 0 0))/\w.heap[B1]? =some (.cells #[pt xb] 36 (0,0))/\w.heap[D]? =some (.deferred (some []))):=⟨hF,hR,hq,hB,hD⟩;have hS:=Cn hF hR hl hN;show Code.wpIn Fence.wide 3 prog _ _ _ (w.alloc (.cells #[pt xb] 36));generalize w.alloc (.cells #[pt xb] 36)=W0 at*;clear hF hR hq hB hD cB
 have bI:Bears (fun r=>False\/r=W0.heap.size+1) (fun(_:List Nat) W=>Below w.heap.size w W):=by
  rintro pre W W' row h1 hg hr;have hrow:∀r,row=some r->r=w.heap.size+2:=fun r e=>by rcases hr r e with h|h;cases h;omega
  exact h1.grown hg h1.size (fun k e=>by have:=hrow k e;omega)
 refine nC (w:=W0) rfl (by decide) (gf:=96) (lb:=#[.pointer (some ⟨w.heap.size,0,none⟩)]) rfl trivial (enters_of func96 (by kernel_rfl) rfl) (encs:=tP) (fun _=>rfl)
  (R:=fun _=>False) (Kp:=fun A B=>B.heap[sb]? =A.heap[sb]?) (V:=fun xs=>∃r,ay cs=xs++r) (S:=fun xs _=>xs=ay cs) (Sp:=fun pre _=>∃r,ay cs=pre++r)
  (fun W hW=>?seq) (fun r h=>h.elim) (fun h k=>k.trans h) (fun W o=>World.putObj_heap_other (by omega)) (fun xs W W' row h _ _=>h) (fun xs W W' row h _ _=>h)
  (fun _ W=>Below w.heap.size w W) (fun _ _=>False) bI (fun _ _ _ _ h _ _=>h) hb0 (fun c a _=>a=tlB xb B1 Wg B2 w.heap.size c) (fun c a W W' row h _ _=>h) ?assign ?body ?done ?stop
 case seq=>
  have hbW:Below w.heap.size w W:=hb0.grown hW hb0.size (fun k e=>by cases e);have jA:=dF e3 hW (by simp);have FP:=hS.old hbW;exact oN 2 (by decide) w.heap.size xb sb N cs W (aa jA rfl) FP.sl FP.len FP.small FP.at_
 case assign=>
  rintro l pre c W K hi hv xP hK
  gi_wp2
  exact hK _ W ⟨rfl,rfl⟩ rfl hi rfl
 case body=>
  rintro l pre c a' W hi rfl ⟨r,hv⟩ xP;have hc:c∈ay cs:=by rw[hv];simp
  have fL:W.cell? ⟨c,13,none⟩=some (.slice none 0 0):=aP hi (HF.out.2.2.1 c hc);have cB:W.cell? ⟨B1,0,none⟩=some (pt xb):=aP hi (aa HF.out.2.2.2.1 rfl);have WN:=aM hi HF.out.1;have wJ:W.cell? ⟨xb,11,none⟩=some (.int .i64 0):=aa WN rfl;have f11:=aG WN 11;have hid:=gR (i:=11) (v:=.int .i64 0) WN rfl;have HB:Hid (Below w.heap.size w W):=hi;clear hi WN
  gi_wp2
  have iQ:Exit.inBlock 3 (roundEnd W0.heap.size (fun A B=>B.heap[sb]? =A.heap[sb]?) (fun(_:List Nat) W=>Below w.heap.size w W) (fun _ _=>False) (pre++[c]) W) .normal (tlE xb B1 Wg B2 w.heap.size c) W.drew:=⟨⟨rfl,rfl⟩,rfl,HB.out.drew⟩;refine wpIn_region_any (by kernel_rfl) ?_;refine mW [0,1,2] (.cons rfl (fun K hK=>?_) ?_)
  ·go_simp;refine hK _ _ ?_;clear hK K;refine mW [1,2] (.cons rfl (fun K hK=>?_) ?_)
   ·go_simp;refine hK _ _ ?_;clear hK K;refine aT 2 fun K hK=>?_;go_simp;refine hK _ _ ?_;clear hK K;refine aT 3 fun K hK=>?_;go_simp;refine hK _ _ ?_;clear hK K;refine aT 4 fun K hK=>?_;go_simp;refine hK _ _ ?_;clear hK K;refine aT 5 fun K hK=>?_;go_simp;refine hK _ _ ?_;clear hK K;refine aT 6 fun K hK=>?_;go_simp;refine⟨trivial,?_⟩
    (refine(CallsIn.inRound l (callsIn_wide.2 (az c 0 W.drew fL))).mono ?_;rintro e w1 ⟨rfl,rfl⟩)
    refine hK _ _ ?_;clear hK K;refine aT 7 fun K hK=>?_;go_simp;refine hK _ _ ?_;clear hK K;refine aT 8 fun K hK=>?_;go_simp;refine hK _ _ ?_;clear hK K;refine aT 9 fun K hK=>?_;go_simp;refine hK _ _ ?_;clear hK K;refine wpAnyIn_done (by kernel_rfl) ?_ _;exact iQ
   refine .cons rfl (fun K hK=>?_) .nil;go_simp;refine hK _ _ ?_;clear hK K;refine mW [1,3] (.cons rfl (fun K hK=>?_) ?_)
   ·go_simp;refine hK _ _ ?_;clear hK K;refine aT 3 fun K hK=>?_;go_simp;refine hK _ _ ?_;clear hK K;refine aT 4 fun K hK=>?_;go_simp;refine hK _ _ ?_;clear hK K;refine aT 5 fun K hK=>?_;go_simp;refine hK _ _ ?_;clear hK K;refine aT 6 fun K hK=>?_;go_simp;refine⟨trivial,?_⟩
    (refine(CallsIn.inRound l (callsIn_wide.2 (az c 0 W.drew fL))).mono ?_;rintro e w1 ⟨rfl,rfl⟩)
    refine hK _ _ ?_;clear hK K;refine aT 7 fun K hK=>?_;go_simp;refine hK _ _ ?_;clear hK K;refine aT 8 fun K hK=>?_;go_simp;refine hK _ _ ?_;clear hK K;refine aT 9 fun K hK=>?_;go_simp;refine hK _ _ ?_;clear hK K;refine wpAnyIn_done (by kernel_rfl) ?_ _;exact iQ
   refine .cons rfl (fun K hK=>?_) .nil;go_simp;refine hK _ _ ?_;clear hK K;refine mW [1,4] (.cons rfl (fun K hK=>?_) ?_)
   ·go_simp;refine hK _ _ ?_;clear hK K;refine aT 4 fun K hK=>?_;go_simp;refine hK _ _ ?_;clear hK K;refine aT 5 fun K hK=>?_;go_simp;refine hK _ _ ?_;clear hK K;refine aT 6 fun K hK=>?_;go_simp;refine⟨trivial,?_⟩
    (refine(CallsIn.inRound l (callsIn_wide.2 (az c 0 W.drew fL))).mono ?_;rintro e w1 ⟨rfl,rfl⟩)
    refine hK _ _ ?_;clear hK K;refine aT 7 fun K hK=>?_;go_simp;refine hK _ _ ?_;clear hK K;refine aT 8 fun K hK=>?_;go_simp;refine hK _ _ ?_;clear hK K;refine aT 9 fun K hK=>?_;go_simp;refine hK _ _ ?_;clear hK K;refine wpAnyIn_done (by kernel_rfl) ?_ _;exact iQ
   refine .cons rfl (fun K hK=>?_) .nil;go_simp;refine hK _ _ ?_;clear hK K;refine mW [1,5] (.cons rfl (fun K hK=>?_) ?_)
   ·go_simp;refine hK _ _ ?_;clear hK K;refine aT 5 fun K hK=>?_;go_simp;refine hK _ _ ?_;clear hK K;refine aT 6 fun K hK=>?_;go_simp;refine⟨trivial,?_⟩
    (refine(CallsIn.inRound l (callsIn_wide.2 (az c 0 W.drew fL))).mono ?_;rintro e w1 ⟨rfl,rfl⟩)
    refine hK _ _ ?_;clear hK K;refine aT 7 fun K hK=>?_;go_simp;refine hK _ _ ?_;clear hK K;refine aT 8 fun K hK=>?_;go_simp;refine hK _ _ ?_;clear hK K;refine aT 9 fun K hK=>?_;go_simp;refine hK _ _ ?_;clear hK K;refine wpAnyIn_done (by kernel_rfl) ?_ _;exact iQ
   refine .cons rfl (fun K hK=>?_) .nil;go_simp;refine hK _ _ ?_;clear hK K;refine aT 1 fun K hK=>?_;go_simp;refine hK _ _ ?_;clear hK K;refine aT 6 fun K hK=>?_;go_simp;refine⟨trivial,?_⟩
   (refine(CallsIn.inRound l (callsIn_wide.2 (az c 0 W.drew fL))).mono ?_;rintro e w1 ⟨rfl,rfl⟩)
   refine hK _ _ ?_;clear hK K;refine aT 7 fun K hK=>?_;go_simp;refine hK _ _ ?_;clear hK K;refine aT 8 fun K hK=>?_;go_simp;refine hK _ _ ?_;clear hK K;refine aT 9 fun K hK=>?_;go_simp;refine hK _ _ ?_;clear hK K;refine wpAnyIn_done (by kernel_rfl) ?_ _;exact iQ
  refine .cons rfl (fun K hK=>?_) ?_
  ·go_simp;refine hK _ _ ?_;clear hK K;refine mW [0,2] (.cons rfl (fun K hK=>?_) ?_)
   ·go_simp;refine hK _ _ ?_;clear hK K;refine aT 2 fun K hK=>?_;go_simp;refine hK _ _ ?_;clear hK K;refine aT 3 fun K hK=>?_;go_simp;refine hK _ _ ?_;clear hK K;refine aT 4 fun K hK=>?_;go_simp;refine hK _ _ ?_;clear hK K;refine aT 5 fun K hK=>?_;go_simp;refine hK _ _ ?_;clear hK K;refine aT 6 fun K hK=>?_;go_simp;refine⟨trivial,?_⟩
    (refine(CallsIn.inRound l (callsIn_wide.2 (az c 0 W.drew fL))).mono ?_;rintro e w1 ⟨rfl,rfl⟩)
    refine hK _ _ ?_;clear hK K;refine aT 7 fun K hK=>?_;go_simp;refine hK _ _ ?_;clear hK K;refine aT 8 fun K hK=>?_;go_simp;refine hK _ _ ?_;clear hK K;refine aT 9 fun K hK=>?_;go_simp;refine hK _ _ ?_;clear hK K;refine wpAnyIn_done (by kernel_rfl) ?_ _;exact iQ
   refine .cons rfl (fun K hK=>?_) .nil;go_simp;refine hK _ _ ?_;clear hK K;refine mW [0,3] (.cons rfl (fun K hK=>?_) ?_)
   ·go_simp;refine hK _ _ ?_;clear hK K;refine aT 3 fun K hK=>?_;go_simp;refine hK _ _ ?_;clear hK K;refine aT 4 fun K hK=>?_;go_simp;refine hK _ _ ?_;clear hK K;refine aT 5 fun K hK=>?_;go_simp;refine hK _ _ ?_;clear hK K;refine aT 6 fun K hK=>?_;go_simp;refine⟨trivial,?_⟩
    (refine(CallsIn.inRound l (callsIn_wide.2 (az c 0 W.drew fL))).mono ?_;rintro e w1 ⟨rfl,rfl⟩)
    refine hK _ _ ?_;clear hK K;refine aT 7 fun K hK=>?_;go_simp;refine hK _ _ ?_;clear hK K;refine aT 8 fun K hK=>?_;go_simp;refine hK _ _ ?_;clear hK K;refine aT 9 fun K hK=>?_;go_simp;refine hK _ _ ?_;clear hK K;refine wpAnyIn_done (by kernel_rfl) ?_ _;exact iQ
   refine .cons rfl (fun K hK=>?_) .nil;go_simp;refine hK _ _ ?_;clear hK K;refine mW [0,4] (.cons rfl (fun K hK=>?_) ?_)
   ·go_simp;refine hK _ _ ?_;clear hK K;refine aT 4 fun K hK=>?_;go_simp;refine hK _ _ ?_;clear hK K;refine aT 5 fun K hK=>?_;go_simp;refine hK _ _ ?_;clear hK K;refine aT 6 fun K hK=>?_;go_simp;refine⟨trivial,?_⟩
    (refine(CallsIn.inRound l (callsIn_wide.2 (az c 0 W.drew fL))).mono ?_;rintro e w1 ⟨rfl,rfl⟩)
    refine hK _ _ ?_;clear hK K;refine aT 7 fun K hK=>?_;go_simp;refine hK _ _ ?_;clear hK K;refine aT 8 fun K hK=>?_;go_simp;refine hK _ _ ?_;clear hK K;refine aT 9 fun K hK=>?_;go_simp;refine hK _ _ ?_;clear hK K;refine wpAnyIn_done (by kernel_rfl) ?_ _;exact iQ
   refine .cons rfl (fun K hK=>?_) .nil;go_simp;refine hK _ _ ?_;clear hK K;refine mW [0,5] (.cons rfl (fun K hK=>?_) ?_)
   ·go_simp;refine hK _ _ ?_;clear hK K;refine aT 5 fun K hK=>?_;go_simp;refine hK _ _ ?_;clear hK K;refine aT 6 fun K hK=>?_;go_simp;refine⟨trivial,?_⟩
    (refine(CallsIn.inRound l (callsIn_wide.2 (az c 0 W.drew fL))).mono ?_;rintro e w1 ⟨rfl,rfl⟩)
    refine hK _ _ ?_;clear hK K;refine aT 7 fun K hK=>?_;go_simp;refine hK _ _ ?_;clear hK K;refine aT 8 fun K hK=>?_;go_simp;refine hK _ _ ?_;clear hK K;refine aT 9 fun K hK=>?_;go_simp;refine hK _ _ ?_;clear hK K;refine wpAnyIn_done (by kernel_rfl) ?_ _;exact iQ
   refine .cons rfl (fun K hK=>?_) .nil;go_simp;refine hK _ _ ?_;clear hK K;refine mW [0,6] (.cons rfl (fun K hK=>?_) ?_)
   ·go_simp;refine hK _ _ ?_;clear hK K;refine aT 6 fun K hK=>?_;go_simp;refine⟨trivial,?_⟩
    (refine(CallsIn.inRound l (callsIn_wide.2 (az c 0 W.drew fL))).mono ?_;rintro e w1 ⟨rfl,rfl⟩)
    refine hK _ _ ?_;clear hK K;refine aT 7 fun K hK=>?_;go_simp;refine hK _ _ ?_;clear hK K;refine aT 8 fun K hK=>?_;go_simp;refine hK _ _ ?_;clear hK K;refine aT 9 fun K hK=>?_;go_simp;refine hK _ _ ?_;clear hK K;refine wpAnyIn_done (by kernel_rfl) ?_ _;exact iQ
   refine .cons rfl (fun K hK=>?_) .nil;go_simp;refine⟨trivial,?_⟩
   (refine(CallsIn.inRound l (callsIn_wide.2 (az c 0 W.drew fL))).mono ?_;rintro e w1 ⟨rfl,rfl⟩)
   refine hK _ _ ?_;clear hK K;refine aT 0 fun K hK=>?_;go_simp;refine hK _ _ ?_;clear hK K;refine aT 7 fun K hK=>?_;go_simp;refine hK _ _ ?_;clear hK K;refine aT 8 fun K hK=>?_;go_simp;refine hK _ _ ?_;clear hK K;refine aT 9 fun K hK=>?_;go_simp;refine hK _ _ ?_;clear hK K;refine wpAnyIn_done (by kernel_rfl) ?_ _;exact iQ
  refine .cons rfl (fun K hK=>?_) .nil;go_simp;refine hK _ _ ?_;clear hK K;refine mW [0,1,3] (.cons rfl (fun K hK=>?_) ?_)
  ·go_simp;refine hK _ _ ?_;clear hK K;refine mW [1,3] (.cons rfl (fun K hK=>?_) ?_)
   ·go_simp;refine hK _ _ ?_;clear hK K;refine aT 3 fun K hK=>?_;go_simp;refine hK _ _ ?_;clear hK K;refine aT 4 fun K hK=>?_;go_simp;refine hK _ _ ?_;clear hK K;refine aT 5 fun K hK=>?_;go_simp;refine hK _ _ ?_;clear hK K;refine aT 6 fun K hK=>?_;go_simp;refine⟨trivial,?_⟩
    (refine(CallsIn.inRound l (callsIn_wide.2 (az c 0 W.drew fL))).mono ?_;rintro e w1 ⟨rfl,rfl⟩)
    refine hK _ _ ?_;clear hK K;refine aT 7 fun K hK=>?_;go_simp;refine hK _ _ ?_;clear hK K;refine aT 8 fun K hK=>?_;go_simp;refine hK _ _ ?_;clear hK K;refine aT 9 fun K hK=>?_;go_simp;refine hK _ _ ?_;clear hK K;refine wpAnyIn_done (by kernel_rfl) ?_ _;exact iQ
   refine .cons rfl (fun K hK=>?_) .nil;go_simp;refine hK _ _ ?_;clear hK K;refine mW [1,4] (.cons rfl (fun K hK=>?_) ?_)
   ·go_simp;refine hK _ _ ?_;clear hK K;refine aT 4 fun K hK=>?_;go_simp;refine hK _ _ ?_;clear hK K;refine aT 5 fun K hK=>?_;go_simp;refine hK _ _ ?_;clear hK K;refine aT 6 fun K hK=>?_;go_simp;refine⟨trivial,?_⟩
    (refine(CallsIn.inRound l (callsIn_wide.2 (az c 0 W.drew fL))).mono ?_;rintro e w1 ⟨rfl,rfl⟩)
    refine hK _ _ ?_;clear hK K;refine aT 7 fun K hK=>?_;go_simp;refine hK _ _ ?_;clear hK K;refine aT 8 fun K hK=>?_;go_simp;refine hK _ _ ?_;clear hK K;refine aT 9 fun K hK=>?_;go_simp;refine hK _ _ ?_;clear hK K;refine wpAnyIn_done (by kernel_rfl) ?_ _;exact iQ
   refine .cons rfl (fun K hK=>?_) .nil;go_simp;refine hK _ _ ?_;clear hK K;refine mW [1,5] (.cons rfl (fun K hK=>?_) ?_)
   ·go_simp;refine hK _ _ ?_;clear hK K;refine aT 5 fun K hK=>?_;go_simp;refine hK _ _ ?_;clear hK K;refine aT 6 fun K hK=>?_;go_simp;refine⟨trivial,?_⟩
    (refine(CallsIn.inRound l (callsIn_wide.2 (az c 0 W.drew fL))).mono ?_;rintro e w1 ⟨rfl,rfl⟩)
    refine hK _ _ ?_;clear hK K;refine aT 7 fun K hK=>?_;go_simp;refine hK _ _ ?_;clear hK K;refine aT 8 fun K hK=>?_;go_simp;refine hK _ _ ?_;clear hK K;refine aT 9 fun K hK=>?_;go_simp;refine hK _ _ ?_;clear hK K;refine wpAnyIn_done (by kernel_rfl) ?_ _;exact iQ
   refine .cons rfl (fun K hK=>?_) .nil;go_simp;refine hK _ _ ?_;clear hK K;refine aT 1 fun K hK=>?_;go_simp;refine hK _ _ ?_;clear hK K;refine aT 6 fun K hK=>?_;go_simp;refine⟨trivial,?_⟩
   (refine(CallsIn.inRound l (callsIn_wide.2 (az c 0 W.drew fL))).mono ?_;rintro e w1 ⟨rfl,rfl⟩)
   refine hK _ _ ?_;clear hK K;refine aT 7 fun K hK=>?_;go_simp;refine hK _ _ ?_;clear hK K;refine aT 8 fun K hK=>?_;go_simp;refine hK _ _ ?_;clear hK K;refine aT 9 fun K hK=>?_;go_simp;refine hK _ _ ?_;clear hK K;refine wpAnyIn_done (by kernel_rfl) ?_ _;exact iQ
  refine .cons rfl (fun K hK=>?_) ?_
  ·go_simp;refine hK _ _ ?_;clear hK K;refine mW [0,3] (.cons rfl (fun K hK=>?_) ?_)
   ·go_simp;refine hK _ _ ?_;clear hK K;refine aT 3 fun K hK=>?_;go_simp;refine hK _ _ ?_;clear hK K;refine aT 4 fun K hK=>?_;go_simp;refine hK _ _ ?_;clear hK K;refine aT 5 fun K hK=>?_;go_simp;refine hK _ _ ?_;clear hK K;refine aT 6 fun K hK=>?_;go_simp;refine⟨trivial,?_⟩
    (refine(CallsIn.inRound l (callsIn_wide.2 (az c 0 W.drew fL))).mono ?_;rintro e w1 ⟨rfl,rfl⟩)
    refine hK _ _ ?_;clear hK K;refine aT 7 fun K hK=>?_;go_simp;refine hK _ _ ?_;clear hK K;refine aT 8 fun K hK=>?_;go_simp;refine hK _ _ ?_;clear hK K;refine aT 9 fun K hK=>?_;go_simp;refine hK _ _ ?_;clear hK K;refine wpAnyIn_done (by kernel_rfl) ?_ _;exact iQ
   refine .cons rfl (fun K hK=>?_) .nil;go_simp;refine hK _ _ ?_;clear hK K;refine mW [0,4] (.cons rfl (fun K hK=>?_) ?_)
   ·go_simp;refine hK _ _ ?_;clear hK K;refine aT 4 fun K hK=>?_;go_simp;refine hK _ _ ?_;clear hK K;refine aT 5 fun K hK=>?_;go_simp;refine hK _ _ ?_;clear hK K;refine aT 6 fun K hK=>?_;go_simp;refine⟨trivial,?_⟩
    (refine(CallsIn.inRound l (callsIn_wide.2 (az c 0 W.drew fL))).mono ?_;rintro e w1 ⟨rfl,rfl⟩)
    refine hK _ _ ?_;clear hK K;refine aT 7 fun K hK=>?_;go_simp;refine hK _ _ ?_;clear hK K;refine aT 8 fun K hK=>?_;go_simp;refine hK _ _ ?_;clear hK K;refine aT 9 fun K hK=>?_;go_simp;refine hK _ _ ?_;clear hK K;refine wpAnyIn_done (by kernel_rfl) ?_ _;exact iQ
   refine .cons rfl (fun K hK=>?_) .nil;go_simp;refine hK _ _ ?_;clear hK K;refine mW [0,5] (.cons rfl (fun K hK=>?_) ?_)
   ·go_simp;refine hK _ _ ?_;clear hK K;refine aT 5 fun K hK=>?_;go_simp;refine hK _ _ ?_;clear hK K;refine aT 6 fun K hK=>?_;go_simp;refine⟨trivial,?_⟩
    (refine(CallsIn.inRound l (callsIn_wide.2 (az c 0 W.drew fL))).mono ?_;rintro e w1 ⟨rfl,rfl⟩)
    refine hK _ _ ?_;clear hK K;refine aT 7 fun K hK=>?_;go_simp;refine hK _ _ ?_;clear hK K;refine aT 8 fun K hK=>?_;go_simp;refine hK _ _ ?_;clear hK K;refine aT 9 fun K hK=>?_;go_simp;refine hK _ _ ?_;clear hK K;refine wpAnyIn_done (by kernel_rfl) ?_ _;exact iQ
   refine .cons rfl (fun K hK=>?_) .nil;go_simp;refine hK _ _ ?_;clear hK K;refine mW [0,6] (.cons rfl (fun K hK=>?_) ?_)
   ·go_simp;refine hK _ _ ?_;clear hK K;refine aT 6 fun K hK=>?_;go_simp;refine⟨trivial,?_⟩
    (refine(CallsIn.inRound l (callsIn_wide.2 (az c 0 W.drew fL))).mono ?_;rintro e w1 ⟨rfl,rfl⟩)
    refine hK _ _ ?_;clear hK K;refine aT 7 fun K hK=>?_;go_simp;refine hK _ _ ?_;clear hK K;refine aT 8 fun K hK=>?_;go_simp;refine hK _ _ ?_;clear hK K;refine aT 9 fun K hK=>?_;go_simp;refine hK _ _ ?_;clear hK K;refine wpAnyIn_done (by kernel_rfl) ?_ _;exact iQ
   refine .cons rfl (fun K hK=>?_) .nil;go_simp;refine⟨trivial,?_⟩
   (refine(CallsIn.inRound l (callsIn_wide.2 (az c 0 W.drew fL))).mono ?_;rintro e w1 ⟨rfl,rfl⟩)
   refine hK _ _ ?_;clear hK K;refine aT 0 fun K hK=>?_;go_simp;refine hK _ _ ?_;clear hK K;refine aT 7 fun K hK=>?_;go_simp;refine hK _ _ ?_;clear hK K;refine aT 8 fun K hK=>?_;go_simp;refine hK _ _ ?_;clear hK K;refine aT 9 fun K hK=>?_;go_simp;refine hK _ _ ?_;clear hK K;refine wpAnyIn_done (by kernel_rfl) ?_ _;exact iQ
  refine .cons rfl (fun K hK=>?_) .nil;go_simp;refine hK _ _ ?_;clear hK K;refine mW [0,1,4] (.cons rfl (fun K hK=>?_) ?_)
  ·go_simp;refine hK _ _ ?_;clear hK K;refine mW [1,4] (.cons rfl (fun K hK=>?_) ?_)
   ·go_simp;refine hK _ _ ?_;clear hK K;refine aT 4 fun K hK=>?_;go_simp;refine hK _ _ ?_;clear hK K;refine aT 5 fun K hK=>?_;go_simp;refine hK _ _ ?_;clear hK K;refine aT 6 fun K hK=>?_;go_simp;refine⟨trivial,?_⟩
    (refine(CallsIn.inRound l (callsIn_wide.2 (az c 0 W.drew fL))).mono ?_;rintro e w1 ⟨rfl,rfl⟩)
    refine hK _ _ ?_;clear hK K;refine aT 7 fun K hK=>?_;go_simp;refine hK _ _ ?_;clear hK K;refine aT 8 fun K hK=>?_;go_simp;refine hK _ _ ?_;clear hK K;refine aT 9 fun K hK=>?_;go_simp;refine hK _ _ ?_;clear hK K;refine wpAnyIn_done (by kernel_rfl) ?_ _;exact iQ
   refine .cons rfl (fun K hK=>?_) .nil;go_simp;refine hK _ _ ?_;clear hK K;refine mW [1,5] (.cons rfl (fun K hK=>?_) ?_)
   ·go_simp;refine hK _ _ ?_;clear hK K;refine aT 5 fun K hK=>?_;go_simp;refine hK _ _ ?_;clear hK K;refine aT 6 fun K hK=>?_;go_simp;refine⟨trivial,?_⟩
    (refine(CallsIn.inRound l (callsIn_wide.2 (az c 0 W.drew fL))).mono ?_;rintro e w1 ⟨rfl,rfl⟩)
    refine hK _ _ ?_;clear hK K;refine aT 7 fun K hK=>?_;go_simp;refine hK _ _ ?_;clear hK K;refine aT 8 fun K hK=>?_;go_simp;refine hK _ _ ?_;clear hK K;refine aT 9 fun K hK=>?_;go_simp;refine hK _ _ ?_;clear hK K;refine wpAnyIn_done (by kernel_rfl) ?_ _;exact iQ
   refine .cons rfl (fun K hK=>?_) .nil;go_simp;refine hK _ _ ?_;clear hK K;refine aT 1 fun K hK=>?_;go_simp;refine hK _ _ ?_;clear hK K;refine aT 6 fun K hK=>?_;go_simp;refine⟨trivial,?_⟩
   (refine(CallsIn.inRound l (callsIn_wide.2 (az c 0 W.drew fL))).mono ?_;rintro e w1 ⟨rfl,rfl⟩)
   refine hK _ _ ?_;clear hK K;refine aT 7 fun K hK=>?_;go_simp;refine hK _ _ ?_;clear hK K;refine aT 8 fun K hK=>?_;go_simp;refine hK _ _ ?_;clear hK K;refine aT 9 fun K hK=>?_;go_simp;refine hK _ _ ?_;clear hK K;refine wpAnyIn_done (by kernel_rfl) ?_ _;exact iQ
  refine .cons rfl (fun K hK=>?_) ?_
  ·go_simp;refine hK _ _ ?_;clear hK K;refine mW [0,4] (.cons rfl (fun K hK=>?_) ?_)
   ·go_simp;refine hK _ _ ?_;clear hK K;refine aT 4 fun K hK=>?_;go_simp;refine hK _ _ ?_;clear hK K;refine aT 5 fun K hK=>?_;go_simp;refine hK _ _ ?_;clear hK K;refine aT 6 fun K hK=>?_;go_simp;refine⟨trivial,?_⟩
    (refine(CallsIn.inRound l (callsIn_wide.2 (az c 0 W.drew fL))).mono ?_;rintro e w1 ⟨rfl,rfl⟩)
    refine hK _ _ ?_;clear hK K;refine aT 7 fun K hK=>?_;go_simp;refine hK _ _ ?_;clear hK K;refine aT 8 fun K hK=>?_;go_simp;refine hK _ _ ?_;clear hK K;refine aT 9 fun K hK=>?_;go_simp;refine hK _ _ ?_;clear hK K;refine wpAnyIn_done (by kernel_rfl) ?_ _;exact iQ
   refine .cons rfl (fun K hK=>?_) .nil;go_simp;refine hK _ _ ?_;clear hK K;refine mW [0,5] (.cons rfl (fun K hK=>?_) ?_)
   ·go_simp;refine hK _ _ ?_;clear hK K;refine aT 5 fun K hK=>?_;go_simp;refine hK _ _ ?_;clear hK K;refine aT 6 fun K hK=>?_;go_simp;refine⟨trivial,?_⟩
    (refine(CallsIn.inRound l (callsIn_wide.2 (az c 0 W.drew fL))).mono ?_;rintro e w1 ⟨rfl,rfl⟩)
    refine hK _ _ ?_;clear hK K;refine aT 7 fun K hK=>?_;go_simp;refine hK _ _ ?_;clear hK K;refine aT 8 fun K hK=>?_;go_simp;refine hK _ _ ?_;clear hK K;refine aT 9 fun K hK=>?_;go_simp;refine hK _ _ ?_;clear hK K;refine wpAnyIn_done (by kernel_rfl) ?_ _;exact iQ
   refine .cons rfl (fun K hK=>?_) .nil;go_simp;refine hK _ _ ?_;clear hK K;refine mW [0,6] (.cons rfl (fun K hK=>?_) ?_)
   ·go_simp;refine hK _ _ ?_;clear hK K;refine aT 6 fun K hK=>?_;go_simp;refine⟨trivial,?_⟩
    (refine(CallsIn.inRound l (callsIn_wide.2 (az c 0 W.drew fL))).mono ?_;rintro e w1 ⟨rfl,rfl⟩)
    refine hK _ _ ?_;clear hK K;refine aT 7 fun K hK=>?_;go_simp;refine hK _ _ ?_;clear hK K;refine aT 8 fun K hK=>?_;go_simp;refine hK _ _ ?_;clear hK K;refine aT 9 fun K hK=>?_;go_simp;refine hK _ _ ?_;clear hK K;refine wpAnyIn_done (by kernel_rfl) ?_ _;exact iQ
   refine .cons rfl (fun K hK=>?_) .nil;go_simp;refine⟨trivial,?_⟩
   (refine(CallsIn.inRound l (callsIn_wide.2 (az c 0 W.drew fL))).mono ?_;rintro e w1 ⟨rfl,rfl⟩)
   refine hK _ _ ?_;clear hK K;refine aT 0 fun K hK=>?_;go_simp;refine hK _ _ ?_;clear hK K;refine aT 7 fun K hK=>?_;go_simp;refine hK _ _ ?_;clear hK K;refine aT 8 fun K hK=>?_;go_simp;refine hK _ _ ?_;clear hK K;refine aT 9 fun K hK=>?_;go_simp;refine hK _ _ ?_;clear hK K;refine wpAnyIn_done (by kernel_rfl) ?_ _;exact iQ
  refine .cons rfl (fun K hK=>?_) .nil;go_simp;refine hK _ _ ?_;clear hK K;refine mW [0,1,5] (.cons rfl (fun K hK=>?_) ?_)
  ·go_simp;refine hK _ _ ?_;clear hK K;refine mW [1,5] (.cons rfl (fun K hK=>?_) ?_)
   ·go_simp;refine hK _ _ ?_;clear hK K;refine aT 5 fun K hK=>?_;go_simp;refine hK _ _ ?_;clear hK K;refine aT 6 fun K hK=>?_;go_simp;refine⟨trivial,?_⟩
    (refine(CallsIn.inRound l (callsIn_wide.2 (az c 0 W.drew fL))).mono ?_;rintro e w1 ⟨rfl,rfl⟩)
    refine hK _ _ ?_;clear hK K;refine aT 7 fun K hK=>?_;go_simp;refine hK _ _ ?_;clear hK K;refine aT 8 fun K hK=>?_;go_simp;refine hK _ _ ?_;clear hK K;refine aT 9 fun K hK=>?_;go_simp;refine hK _ _ ?_;clear hK K;refine wpAnyIn_done (by kernel_rfl) ?_ _;exact iQ
   refine .cons rfl (fun K hK=>?_) .nil;go_simp;refine hK _ _ ?_;clear hK K;refine aT 1 fun K hK=>?_;go_simp;refine hK _ _ ?_;clear hK K;refine aT 6 fun K hK=>?_;go_simp;refine⟨trivial,?_⟩
   (refine(CallsIn.inRound l (callsIn_wide.2 (az c 0 W.drew fL))).mono ?_;rintro e w1 ⟨rfl,rfl⟩)
   refine hK _ _ ?_;clear hK K;refine aT 7 fun K hK=>?_;go_simp;refine hK _ _ ?_;clear hK K;refine aT 8 fun K hK=>?_;go_simp;refine hK _ _ ?_;clear hK K;refine aT 9 fun K hK=>?_;go_simp;refine hK _ _ ?_;clear hK K;refine wpAnyIn_done (by kernel_rfl) ?_ _;exact iQ
  refine .cons rfl (fun K hK=>?_) ?_
  ·go_simp;refine hK _ _ ?_;clear hK K;refine mW [0,5] (.cons rfl (fun K hK=>?_) ?_)
   ·go_simp;refine hK _ _ ?_;clear hK K;refine aT 5 fun K hK=>?_;go_simp;refine hK _ _ ?_;clear hK K;refine aT 6 fun K hK=>?_;go_simp;refine⟨trivial,?_⟩
    (refine(CallsIn.inRound l (callsIn_wide.2 (az c 0 W.drew fL))).mono ?_;rintro e w1 ⟨rfl,rfl⟩)
    refine hK _ _ ?_;clear hK K;refine aT 7 fun K hK=>?_;go_simp;refine hK _ _ ?_;clear hK K;refine aT 8 fun K hK=>?_;go_simp;refine hK _ _ ?_;clear hK K;refine aT 9 fun K hK=>?_;go_simp;refine hK _ _ ?_;clear hK K;refine wpAnyIn_done (by kernel_rfl) ?_ _;exact iQ
   refine .cons rfl (fun K hK=>?_) .nil;go_simp;refine hK _ _ ?_;clear hK K;refine mW [0,6] (.cons rfl (fun K hK=>?_) ?_)
   ·go_simp;refine hK _ _ ?_;clear hK K;refine aT 6 fun K hK=>?_;go_simp;refine⟨trivial,?_⟩
    (refine(CallsIn.inRound l (callsIn_wide.2 (az c 0 W.drew fL))).mono ?_;rintro e w1 ⟨rfl,rfl⟩)
    refine hK _ _ ?_;clear hK K;refine aT 7 fun K hK=>?_;go_simp;refine hK _ _ ?_;clear hK K;refine aT 8 fun K hK=>?_;go_simp;refine hK _ _ ?_;clear hK K;refine aT 9 fun K hK=>?_;go_simp;refine hK _ _ ?_;clear hK K;refine wpAnyIn_done (by kernel_rfl) ?_ _;exact iQ
   refine .cons rfl (fun K hK=>?_) .nil;go_simp;refine⟨trivial,?_⟩
   (refine(CallsIn.inRound l (callsIn_wide.2 (az c 0 W.drew fL))).mono ?_;rintro e w1 ⟨rfl,rfl⟩)
   refine hK _ _ ?_;clear hK K;refine aT 0 fun K hK=>?_;go_simp;refine hK _ _ ?_;clear hK K;refine aT 7 fun K hK=>?_;go_simp;refine hK _ _ ?_;clear hK K;refine aT 8 fun K hK=>?_;go_simp;refine hK _ _ ?_;clear hK K;refine aT 9 fun K hK=>?_;go_simp;refine hK _ _ ?_;clear hK K;refine wpAnyIn_done (by kernel_rfl) ?_ _;exact iQ
  refine .cons rfl (fun K hK=>?_) .nil;go_simp;refine hK _ _ ?_;clear hK K;refine mW [0,1] (.cons rfl (fun K hK=>?_) ?_)
  ·go_simp;refine hK _ _ ?_;clear hK K;refine aT 1 fun K hK=>?_;go_simp;refine hK _ _ ?_;clear hK K;refine aT 6 fun K hK=>?_;go_simp;refine⟨trivial,?_⟩
   (refine(CallsIn.inRound l (callsIn_wide.2 (az c 0 W.drew fL))).mono ?_;rintro e w1 ⟨rfl,rfl⟩)
   refine hK _ _ ?_;clear hK K;refine aT 7 fun K hK=>?_;go_simp;refine hK _ _ ?_;clear hK K;refine aT 8 fun K hK=>?_;go_simp;refine hK _ _ ?_;clear hK K;refine aT 9 fun K hK=>?_;go_simp;refine hK _ _ ?_;clear hK K;refine wpAnyIn_done (by kernel_rfl) ?_ _;exact iQ
  refine .cons rfl (fun K hK=>?_) .nil;go_simp;refine hK _ _ ?_;clear hK K;refine mW [0,6] (.cons rfl (fun K hK=>?_) ?_)
  ·go_simp;refine hK _ _ ?_;clear hK K;refine aT 6 fun K hK=>?_;go_simp;refine⟨trivial,?_⟩
   (refine(CallsIn.inRound l (callsIn_wide.2 (az c 0 W.drew fL))).mono ?_;rintro e w1 ⟨rfl,rfl⟩)
   refine hK _ _ ?_;clear hK K;refine aT 7 fun K hK=>?_;go_simp;refine hK _ _ ?_;clear hK K;refine aT 8 fun K hK=>?_;go_simp;refine hK _ _ ?_;clear hK K;refine aT 9 fun K hK=>?_;go_simp;refine hK _ _ ?_;clear hK K;refine wpAnyIn_done (by kernel_rfl) ?_ _;exact iQ
  refine .cons rfl (fun K hK=>?_) .nil;go_simp;refine⟨trivial,?_⟩
  (refine(CallsIn.inRound l (callsIn_wide.2 (az c 0 W.drew fL))).mono ?_;rintro e w1 ⟨rfl,rfl⟩)
  refine hK _ _ ?_;clear hK K;refine aT 0 fun K hK=>?_;go_simp;refine hK _ _ ?_;clear hK K;refine aT 7 fun K hK=>?_;go_simp;refine hK _ _ ?_;clear hK K;refine aT 8 fun K hK=>?_;go_simp;refine hK _ _ ?_;clear hK K;refine aT 9 fun K hK=>?_;go_simp;refine hK _ _ ?_;clear hK K;refine wpAnyIn_done (by kernel_rfl) ?_ _;exact iQ
 case done=>
  rintro xs W rfl hi Yy;have hDW:=aM hi HF.out.2.2.2.2;have hDN:D≠W0.heap.size:=by omega
  gi_wp2
  have t1:=run_takeDeferred (P:=prog) Yy;have hD2:(W.putObj W0.heap.size (.deferred none)).heap[D]? =some (.deferred (some [])):=(World.putObj_heap_other hDN).trans hDW;refine⟨by simp,.inl ⟨_,_,rfl,t1,by simp,.inl ⟨_,_,rfl,run_takeDeferred hD2,.tuple #[],by simp[results,results61],rfl,?_⟩⟩⟩;refine⟨hi.os,by simpa using hi.size,fun k hk hne=>?_⟩;rw[World.putObj_heap_other hne,World.putObj_heap_other (by omega)];exact hi.block k hk
 case stop=>exact fun _ _ _ h _=>h.elim
end
section
open Go.Proofs.Tryz
open Go.RowKit
section
variable [aR] {ρ:Ren} {P:Program} {u w:World}
theorem wu{k:IntKind}{n:Int}{v:Value}(h:VR ρ (.int k n) v):v=.int k n:=by cases h;rfl
theorem MB{s:ByteArray}{v:Value}(h:VR ρ (.string s) v):v=.string s:=by cases h;rfl
theorem MA{n c:Nat}{v:Value}(h:VR ρ (.slice none n c) v):v=.slice none n c:=by cases h;rfl
theorem Sy{r:Nat}{v:Value}(h1:ρ.one)(hr:ρ r r)(h:VR ρ (.pointer (some ⟨r,0,none⟩)) v):v=.pointer (some ⟨r,0,none⟩):=by
 cases h with
 |@ptr _ a' h=>
  obtain⟨e1,e2,e3⟩:=h;obtain⟨x,y,z⟩:=a';simp only at e1 e2 e3;rw[h1.1 _ _ _ e1 hr,e2,e3]
theorem Sx{r:Nat}{v:Value}(h1:ρ.one)(hr:ρ r r)(h:VR ρ (.map (some r)) v):v=.map (some r):=by
 cases h with
 |map h=>rw[h1.1 _ _ _ h hr]
theorem Sw{r:Nat}{v:Value}(h1:ρ.one)(hr:ρ r r)(h:VR ρ (.chan (some r)) v):v=.chan (some r):=by
 cases h with
 |chan h=>rw[h1.1 _ _ _ h hr]
theorem mh(hw:nK P ρ u w){a b T:Nat}{x:Array Value}{fz:Nat×Nat}(hab:ρ a b)(ho:u.heap[a]? =some (.cells x T fz)):∃x',w.heap[b]? =some (.cells x' T fz)/\x'.size=x.size/\∀(i:Nat) v,x[i]? =some v->∃v',x'[i]? =some v'/\VR ρ v v':=by
 rcases hw.obj a b _ hab ho with h|⟨o',h1,h2⟩
 ·cases h
 ·cases h2 with
  |@cells _ x' _ _ h=>
   refine⟨x',h1,h.1,fun i v hv=>?_⟩;have hi:i<x'.size:=by rw[h.1];exact(Array.getElem?_eq_some_iff.1 hv).1
   exact⟨x'[i],Array.getElem?_eq_getElem hi,h.2 i _ _ hv (Array.getElem?_eq_getElem hi)⟩
variable {c rb mb ch:Nat} {sz cl qu mx qn rt bu wk ou de:Int} {k:Cl}
theorem Bg{no wt tok:Int}{s:ByteArray}{out:Value}(hw:nK P ρ u w)(hc:ρ c c)(hr:ρ rb rb)(hh:ρ ch ch)(h:bC u c no wt sz cl qu mx qn rt bu wk ou rb s out tok de ch):∃out',VR ρ out out'/\bC w c no wt sz cl qu mx qn rt bu wk ou rb s out' tok de ch:=by
 obtain⟨x',h1,h2,h3⟩:=mh hw hc h;have key:∀(i:Nat) v,(Nl no wt sz cl qu mx qn rt bu wk ou rb s out tok de ch)[i]? =some v->∃v',x'[i]? =some v'/\VR ρ v v':=h3;obtain⟨out',e16,v16⟩:=key 16 out rfl;refine⟨out',v16,?_⟩
 have hx:x'=Nl no wt sz cl qu mx qn rt bu wk ou rb s out' tok de ch:=by
  have num:∀(i:Nat) (kk:IntKind) (n:Int),(Nl no wt sz cl qu mx qn rt bu wk ou rb s out tok de ch)[i]? =some (.int kk n)->x'[i]? =some (.int kk n):=fun i kk n hi=>by obtain⟨v',a1,a2⟩:=key i _ hi;rw[a1,wu a2]
  apply Array.ext_getElem?;intro i
  match i with
  |0=>exact num 0 _ _ rfl
  |1=>exact num 1 _ _ rfl
  |2=>exact num 2 _ _ rfl
  |3=>exact num 3 _ _ rfl
  |4=>exact num 4 _ _ rfl
  |5=>exact num 5 _ _ rfl
  |6=>exact num 6 _ _ rfl
  |7=>exact num 7 _ _ rfl
  |8=>exact num 8 _ _ rfl
  |9=>exact num 9 _ _ rfl
  |10=>exact num 10 _ _ rfl
  |11=>obtain⟨v',a1,a2⟩:=key 11 _ rfl;rw[a1,Sy hw.one hr a2];rfl
  |12=>obtain⟨v',a1,a2⟩:=key 12 _ rfl;rw[a1,MB a2];rfl
  |13=>obtain⟨v',a1,a2⟩:=key 13 _ rfl;rw[a1,MA a2];rfl
  |14=>exact num 14 _ _ rfl
  |15=>exact num 15 _ _ rfl
  |16=>exact e16
  |17=>exact num 17 _ _ rfl
  |18=>exact num 18 _ _ rfl
  |19=>exact num 19 _ _ rfl
  |20=>obtain⟨v',a1,a2⟩:=key 20 _ rfl;rw[a1,Sw hw.one hh a2];rfl
  |n+21=>
   have h4:x'.size=21:=h2;rw[Array.getElem?_eq_none (by omega)];rfl
 rw[hx]at h1;exact h1
theorem Io{out out':Value}{o:ByteArray}(hw:nK P ρ u w)(hv:VR ρ out out')(h:cD u out o):cD w out' o/\∀g,out'.ownBlock=some g->ρ.im g:=by
 rcases h.2 with⟨e,e0⟩|⟨g,cap,cur,e,h2,h3,h4,h5,h6,h7⟩
 ·subst e;have:=MA hv;subst this;exact⟨⟨h.1,.inl ⟨rfl,e0⟩⟩,fun g hg=>by cases hg⟩
 ·subst e;cases hv with
  |@slice _ a' _ _ ha=>
   obtain⟨r1,r2,r3⟩:=ha;obtain⟨g',y,z⟩:=a';simp only at r1 r2 r3;subst r2 r3;obtain⟨x',m1,m2,m3⟩:=mh hw r1 h3;refine⟨⟨h.1,.inr ⟨g',cap,x',rfl,Nat.zero_le _,m1,h4,h5,by rw[m2];exact h6,?_⟩⟩,fun g hg=>by cases hg;exact⟨_,r1⟩⟩;apply List.ext_getElem?;intro i;rw[List.getElem?_take];split
   ·rename_i hi;have hlen:i<(Lib.strCells o).length:=by rw[h.1];exact hi
    obtain⟨v,hv⟩:∃v,(Lib.strCells o)[i]? =some v:=⟨_,List.getElem?_eq_getElem hlen⟩
    have e2:cur[i]? =some v:=by have e3:=hv;rw[<-h7,List.getElem?_take,if_pos hi,Array.getElem?_toList]at e3;exact e3
    obtain⟨v',n1,n2⟩:=m3 i _ e2;rw[Array.getElem?_toList,n1,hv]
    have:∃q:Int,v=.int .u8 q:=by have e4:=hv;simp only[Lib.strCells,List.getElem?_map,Option.map_eq_some_iff]at e4;obtain⟨q,-,e5⟩:=e4;exact⟨_,e5.symm⟩
    obtain⟨q,hq⟩:=this;rw[hq]at n2⊢;rw[wu n2]
   ·rename_i hi;rw[List.getElem?_eq_none (by rw[h.1];omega)]
theorem aU.BU(hw:nK P ρ u w)(hc:ρ c c)(hr:ρ rb rb)(hm:ρ mb mb)(hh:ρ ch ch)(h:aU u c rb mb ch sz cl qu mx qn rt bu wk ou de k):aU w c rb mb ch sz cl qu mx qn rt bu wk ou de k/\lT ρ.im w c rb mb ch:=by
 obtain⟨out,b1,b2⟩:=h.box;obtain⟨rp,r1,r2⟩:=h.rd;obtain⟨out',v1,b3⟩:=Bg hw hc hr hh b1;obtain⟨o1,o2⟩:=Io hw v1 b2;refine⟨⟨⟨out',b3,o1⟩,⟨rp,⟨?_,?_⟩,r2⟩,?_⟩,⟨⟨⟨_,hc⟩,⟨_,hr⟩,⟨_,hm⟩,⟨_,hh⟩⟩,fun v hv g hg=>?_⟩⟩
 ·obtain⟨x',m1,m2,m3⟩:=mh hw hr r1.box
  have hx:x'=#[.int .i64 sz,.int .i64 mx,.int .i64 rp,.map (some mb)]:=by
   apply Array.ext_getElem?;intro i
   match i with
   |0=>obtain⟨v',a1,a2⟩:=m3 0 _ rfl;rw[a1,wu a2];rfl
   |1=>obtain⟨v',a1,a2⟩:=m3 1 _ rfl;rw[a1,wu a2];rfl
   |2=>obtain⟨v',a1,a2⟩:=m3 2 _ rfl;rw[a1,wu a2];rfl
   |3=>obtain⟨v',a1,a2⟩:=m3 3 _ rfl;rw[a1,Sx hw.one hm a2];rfl
   |n+4=>
    have h4:x'.size=4:=m2;rw[Array.getElem?_eq_none (by omega)];rfl
  rw[hx]at m1;exact m1
 ·obtain⟨es,ck,e1,e2,e3,e4⟩:=r1.uses;have hes:es=#[]:=Array.eq_empty_of_size_eq_zero (Nat.le_zero.1 e3);subst hes;rcases hw.obj mb mb _ hm e1 with h|⟨o',q1,q2⟩
  ·cases h
  ·cases q2 with
   |@map _ x' _ hx=>
    have:x'=#[]:=Array.eq_empty_of_size_eq_zero hx.1;subst this;exact⟨#[],ck,q1,e2,e3,e4⟩
 ·rcases hw.obj ch ch _ hh h.chan with h|⟨o',q1,q2⟩
  ·cases h
  ·cases q2;exact q1
 ·have e:v=out':=Option.some.inj (hv.symm.trans (aa b3 rfl));rw[e]at hg;exact o2 g hg
end
end
end Go.Proofs.YtpobhljcainmdaaGreat
