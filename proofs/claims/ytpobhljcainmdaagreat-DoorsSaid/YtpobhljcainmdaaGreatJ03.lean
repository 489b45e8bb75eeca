/- Proved here: a part of what Doors keeps (Wire3, Ref2, Ref4). -/
import Derived.Deep.DrawnRows
import Derived.Deep.RegionHeld3
import Derived.Test.YtpobhljcainmdaaGreatJ01
import Derived.Test.YtpobhljcainmdaaGreatJ02
set_option maxRecDepth 100000
set_option maxHeartbeats 8000000
set_option linter.all false
namespace Go.Proofs.YtpobhljcainmdaaGreat
section
open Go.Proofs.Tryz
open Go.RowKit
abbrev GC(n:Int):Value:=.iface 294 (.agg #[.int .i64 n])
def Ends(r:bg×Int)(e:Ending):Prop:=
 (r.1=.closing/\e=.panicked [{v:=GC r.2,recovered:=false}])\/(r.1.wh≠4/\e=.returned (.tuple #[r.1.val,.int .i64 r.2]))
theorem rU(s:ByteArray)(i:Nat)(h:i<s.size):s.extract i (i+1)=⟨#[s[i]]⟩:=by
 apply ByteArray.ext;apply Array.ext
 ·simp[ByteArray.data_extract];omega
 ·intro j h1 h2;have:j=0:=by simp at h2;omega
  subst this;simp[ByteArray.data_extract];rfl
theorem vr(s:ByteArray)(w:World)(hs:s.size<=maxLen):
  Calls prog 229 #[.string s] w fun e w'=>Ends (opt s) e/\Below w.heap.size w w':=by
 unfold maxLen at hs
 by_cases h0:s.size=0
 ·obtain rfl:s=⟨#[]⟩:=ByteArray.ext (Array.eq_empty_of_size_eq_zero h0);go_enter func229,ntmps229;go_wp2;exact bodyPost_ret (v:=.tuple #[bg.zero.val,.int .i64 0]) (by simp[results,results229,go_sem,bg.zero]) rfl ⟨.inr ⟨by rw[show opt ⟨#[]⟩=(bg.zero,0) from rfl];decide,rfl⟩,(Below.refl _ _).alloc (Nat.le_refl _) _⟩
 ·have hem:s.toList.isEmpty=false:=by
   rw[Bool.eq_false_iff,ByteArray.toList_eq];intro e;have:=List.isEmpty_iff.1 e;exact h0 (by rw[Lib.size_eq,this];rfl)
  have n0:0<s.size:=by omega
  have i0:(0:Int)<s.size:=by omega
  have e0:=ep s 0 n0;have r0:=bO s 0
  by_cases kX:bt s 0<97\/122<bt s 0
  ·have hO:Hid (opt s=(.closing,1)):=by unfold opt;rw[if_neg h0,if_pos kX];rfl
   have HB:Hid (bt s 0<97\/122<bt s 0):=kX;clear kX
   by_cases h97:bt s 0<97
   ·clear HB;go_enter func229,ntmps229;go_wp2;exact⟨rfl,.inl (by rw[hO.out];exact⟨rfl,rfl⟩),(Below.refl _ _).alloc (Nat.le_refl _) _⟩
   ·have Ys:122<bt s 0:=by have:=HB.out;omega
    clear HB;go_enter func229,ntmps229;go_wp2;exact⟨rfl,.inl (by rw[hO.out];exact⟨rfl,rfl⟩),(Below.refl _ _).alloc (Nat.le_refl _) _⟩
  ·have hO:Hid (opt s=(⟨2,s.extract 0 1,0,0,0,0,0,⟨#[]⟩,0⟩,1)):=by unfold opt;rw[if_neg h0,if_neg kX];rfl
   have h97:¬bt s 0<97:=by omega
   have Ys:¬122<bt s 0:=by omega
   clear kX
   have Ef:∀W,Calls prog 237 #[.int .u8 (bt s 0)] W fun e w'=>e=.returned (.string (s.extract 0 1))/\Below W.heap.size W w':=fun W=>by have:=sx s[0] W;rw[e0]at this;rw[rU s 0 n0];exact this
   have XK:Hid (∀W,Calls prog 237 #[.int .u8 (bt s 0)] W fun e w'=>e=.returned (.string (s.extract 0 1))/\Below W.heap.size W w'):=Ef;clear Ef;go_enter func229,ntmps229;go_wp2_with (go_at_call 237;refine(XK.out _).mono ?_;rintro e w1 ⟨rfl,bz⟩;obtain⟨hc,hf⟩:=cZ bz);exact bodyPost_ret (v:=.tuple #[bg.val ⟨2,s.extract 0 1,0,0,0,0,0,⟨#[]⟩,0⟩,.int .i64 1]) (by simp[results,results229,go_sem, *]) rfl ⟨.inr (by rw[hO.out];exact⟨show(2:Int)≠4 by decide,rfl⟩),bN (((Below.refl _ _).alloc (Nat.le_refl _) _).trans (bz.mono (by simp))) (Nat.le_refl _) _ _ _ _ _ _ _ _ _⟩
theorem pV(s:ByteArray)(w:World)(hs:s.size<=maxLen):
  Calls prog 228 #[.string s] w fun e w'=>Ends (eW s) e/\Below w.heap.size w w':=by
 unfold maxLen at hs;obtain⟨N,hN⟩:∃N:Nat,N=min s.size 5:=⟨_,rfl⟩
 have hmin:∀W,(Builtin.min_ #[3,3] 3 #[.int .i64 (s.size:Int),.int .i64 5]).run prog W=.ok (.int .i64 (N:Int)) W:=fun W=>by
  rw[run_min_int2]
  congr 2
  split<;>omega
 have hN5:N<=5:=by omega
 have hNs:N<=s.size:=by omega
 have HN:Hid (N=min s.size 5):=hN;clear hN;go_enter func228,ntmps228;go_wp2
 go_loopw [8] (fun i wr=>∃k:Nat,k<=N/\i=.int .i64 k/\Hid (eW s=aI s (5-k) k)/\∃d,wr=(w.alloc (.cells (aL 0 ⟨#[]⟩ 0 0 0 0 0 ⟨#[]⟩ 0) 132)).drewN d) (fun i _=>N-(intOf i).toNat)
 case atStart=>exact⟨0,Nat.zero_le _,rfl,rfl,0,rfl⟩
 case round=>
  obtain⟨k,hk,rfl,hp,d,rfl⟩:=hrel
  by_cases hlt:k<N
  ·have Tj:k<5:=by omega
   have hks:k<s.size:=by omega
   have e1:=ep s k hks;have e2:=BK k Tj;have r1:=bO s k;have r2:=sr k;have hz:(k:Int)<s.size:=by omega
   by_cases hq:bt s k=mE k
   ·have hH:Hid (eW s=aI s (5-(k+1)) (k+1)):=by
     have:=hp.out;rw[show 5-k=(5-(k+1))+1 by omega,aI,if_neg (by omega),if_pos hq]at this;exact this
    have hb:(bt s k !=mE k)=false:=by simpa using hq
    clear hq;go_wp2
    go_quiet (fail)
    go_wp2
    go_roundw
    case rel=>exact⟨k+1,by omega,by go_num,hH,_,rfl⟩
    case measure=>simp[intOf];omega
   ·have hH:Hid (eW s=(.closing,(k:Int)+1)):=by
     have:=hp.out;rw[show 5-k=(5-(k+1))+1 by omega,aI,if_neg (by omega),if_neg hq]at this;exact this
    have hb:(bt s k !=mE k)=true:=by simpa using hq
    clear hq;go_wp2
    go_quiet (fail)
    go_wp2;exact⟨rfl,.inl (by rw[hH.out];exact⟨rfl,rfl⟩),below_drewN ((Below.refl _ _).alloc (Nat.le_refl _) _) _⟩
  ·obtain rfl:k=N:=by omega
   by_cases h6:s.size<=5
   ·have hH:Hid (eW s=(.zero,0)):=by
     have h:=hp.out;have hk':k=s.size:=by have:=HN.out;omega
     by_cases h5:k=5
     ·rw[h5,show 5-5=0 from rfl,aI,if_pos (by omega)]at h;exact h
     ·rw[show 5-k=(4-k)+1 by omega,aI,if_pos (by omega)]at h;exact h
    go_wp2;exact bodyPost_ret (v:=.tuple #[bg.zero.val,.int .i64 0]) (by simp[results,results228,go_sem,bg.zero]) rfl ⟨.inr (by rw[hH.out];exact⟨by decide,rfl⟩),bN (below_drewN ((Below.refl _ _).alloc (Nat.le_refl _) _) _) (Nat.le_refl _) _ _ _ _ _ _ _ _ _⟩
   ·have Tj:k=5:=by have:=HN.out;omega
    have hH:Hid (eW s=(⟨1,s.extract 5 6,0,0,0,0,0,⟨#[]⟩,0⟩,6)):=by have h:=hp.out;rw[Tj,show 5-5=0 from rfl,aI,if_neg (by omega)]at h;exact h
    have n5:5<s.size:=by omega
    have i5:(5:Int)<s.size:=by omega
    have e5:=ep s 5 n5;have r5:=bO s 5
    have Ef:∀W,Calls prog 237 #[.int .u8 (bt s 5)] W fun e w'=>e=.returned (.string (s.extract 5 6))/\Below W.heap.size W w':=fun W=>by have:=sx s[5] W;rw[e5]at this;rw[rU s 5 n5];exact this
    have XK:Hid (∀W,Calls prog 237 #[.int .u8 (bt s 5)] W fun e w'=>e=.returned (.string (s.extract 5 6))/\Below W.heap.size W w'):=Ef;clear Ef;go_wp2_with (go_at_call 237;refine(XK.out _).mono ?_;rintro e w1 ⟨rfl,bz⟩;obtain⟨hc,hf⟩:=cZ bz);exact bodyPost_ret (v:=.tuple #[bg.val ⟨1,s.extract 5 6,0,0,0,0,0,⟨#[]⟩,0⟩,.int .i64 6]) (by simp[results,results228,go_sem, *]) rfl ⟨.inr (by rw[hH.out];exact⟨show(1:Int)≠4 by decide,rfl⟩),bN ((below_drewN ((Below.refl _ _).alloc (Nat.le_refl _) _) _).trans (bz.mono (by simp))) (Nat.le_refl _) _ _ _ _ _ _ _ _ _⟩
end
section
open Go.Proofs.Tryz
open Go.RowKit
theorem sR(sz cl qu mx qn rt bu wk ou:Int)(wh:Int)(nm:ByteArray)(kd fl ck of ln:Int)(dt:ByteArray)(er:Int)(w:World)
  (hk:0<=kd) (hf:0<=fl) (ho:0<=of) (ho':of<=65535) (hl:0<=ln) (hl':ln<=65535):
  Calls prog 248 #[.agg (dr sz cl qu mx qn rt bu wk ou),.agg (aL wh nm kd fl ck of ln dt er)] w fun e w'=>e=.returned (.int .i64 (verdict sz kd fl of ln))/\Below w.heap.size w w':=by
 have FV:kd=0\/kd=1\/kd=2\/kd=3\/kd=4\/kd=5\/5<kd:=by omega
 have hfl:fl=0\/fl=1\/1<fl:=by omega
 clear hk hf;rcases FV with rfl|rfl|rfl|rfl|rfl|rfl|FV<;>rcases hfl with rfl|rfl|hfl
 all_goals
  go_enter func248,ntmps248;go_wp2
  all_goals (go_ret;refine⟨tM ?_,((Below.refl _ _).alloc (Nat.le_refl _) _).alloc (by simp) _⟩;go_light;simp_all[verdict];try omega)
end
section
open Go.Proofs.Tryz
open Go.RowKit
attribute [local go_sem ↓] Go.wp_at_zero Go.wp_at_succ
attribute [local go_sem] au aj
theorem kJ(w:World)(o1 o2 o3:Obj)(d:Nat):Below w.heap.size w ((((w.alloc o1).alloc o2).alloc o3).drewN d):=
 below_drewN ((((Below.refl _ _).alloc (Nat.le_refl _) _).alloc (by simp) _).alloc (by simp;omega) _) d
theorem aZ{w:World}{b o:Nat}{v:Value}(h:w.cell? ⟨b,o,none⟩=some v):b<w.heap.size:=by
 by_cases hb:b<w.heap.size
 ·exact hb
 ·simp[World.cell?,Array.getElem?_eq_none (Nat.le_of_not_lt hb)]at h
theorem lR.later{w w':World}{a:Option Addr}{l:List Int}(h:lR w a l)(hb:Below w.heap.size w w'):lR w' a l:=by
 rcases h with h|⟨b,off,rfl,h⟩
 ·exact .inl h
 ·exact .inr ⟨b,off,rfl,fun i hi=>(hb.cell (aZ (h i hi))).trans (h i hi)⟩
theorem lD(s:ByteArray)(i:Nat)(j:Int)(w:World)(hs:s.size<=maxLen)(hi:i+1<s.size)(hj:j=i):
  Calls prog 246 #[.string s,.int .i64 j] w fun e w'=>e=.returned (.int .i64 (two s i))/\∃n,w'=w.drewN n:=by
 subst hj;exact OP s i w hs hi
theorem On(sz cl qu mx qn rt bu wk ou:Int)(a:Option Addr)(cap:Nat)(used:List Int)(s:ByteArray)(w:World)(hs:s.size<=maxLen)(hu:used.length<=maxLen)(hc:lR w a used):
  Calls prog 214 #[.agg (dr sz cl qu mx qn rt bu wk ou),.slice a used.length cap,.string s] w fun e w'=>(∃m n,(m,n)=cS sz mx used s/\e=.returned (.tuple #[.agg (aL m.wh m.nm m.kd m.fl m.ck m.of m.ln m.dt m.er),.int .i64 n]))/\Below w.heap.size w w':=by
 have hs':=hs;unfold maxLen at hs'
 by_cases h9:s.size<9
 ·have hH:Hid (cS sz mx used s=(.zero,0)):=by unfold cS;rw[if_pos h9];rfl
  go_enter func214,ntmps214;go_wp2;exact bodyPost_ret (v:=.tuple #[.agg (aL 0 ⟨#[]⟩ 0 0 0 0 0 ⟨#[]⟩ 0),.int .i64 0]) (by simp[results,results214,go_sem]) rfl ⟨⟨.zero,0,hH.out.symm,rfl⟩,((Below.refl _ _).alloc (Nat.le_refl _) _).alloc (by simp) _⟩
 ·have Uq:9<=s.size:=by omega
  have n0:0<s.size:=by omega
  have n1:1<s.size:=by omega
  have n2:2<s.size:=by omega
  have i0:(0:Int)<s.size:=by omega
  have i1:(1:Int)<s.size:=by omega
  have i2:(2:Int)<s.size:=by omega
  have e0:=ep s 0 (by omega);have e1:=ep s 1 (by omega);have e2:=ep s 2 (by omega);have r0:=bO s 0;have r1:=bO s 1;have r2:=bO s 2;have k1:IntKind.i64.wrap (bt s 1)=bt s 1:=by rw[IntKind.wrap_i64];omega
  have k2:IntKind.i64.wrap (bt s 2)=bt s 2:=by rw[IntKind.wrap_i64];omega
  have r3:=cj s 3;have r5:=cj s 5;have r7:=cj s 7;go_enter func214,ntmps214
  go_upto_region 3 with fail
  go_cut [8] (fun p w'=>∃d,p=.pointer (some ⟨w.heap.size+2,0,none⟩)/\w'=(((w.alloc (.cells (dr sz cl qu mx qn rt bu wk ou) 35)).alloc (.cells (aL 0 ⟨#[]⟩ 0 0 0 0 0 ⟨#[]⟩ 0) 132)).alloc (.cells (aL 3 ⟨#[]⟩ (bt s 1) (bt s 2) (two s 3) (two s 5) (two s 7) ⟨#[]⟩ 0) 132)).drewN d)
  case first=>
   refine wp_region_noPanic ?_;refine wp_region_held_drew (S:=fun _=>True) (by kernel_rfl) trivial ?_;intro hHeld;refine wpAnyH_take (i:=0) (oi:=_) (v:=?_) rfl (by kernel_rfl) (by kernel_rfl) (by kernel_rfl) (fun _ _ _ h=>h) (Or.inl ⟨by rfl,?_⟩) (by assumption) ?_
   rotate_left
   ·(intro w' hSw;go_simp;try with_reducible rfl)
   try simp only[Act.put,List.setIfInBounds_toArray,List.set_cons_zero,List.set_cons_succ]
   refine wpAnyH_take (i:=1) (oi:=_) (v:=?_) rfl (by kernel_rfl) (by kernel_rfl) (by kernel_rfl) (fun _ _ _ h=>h) (Or.inl ⟨by rfl,?_⟩) (by assumption) ?_
   rotate_left
   ·(intro w' hSw;go_simp;try with_reducible rfl)
   try simp only[Act.put,List.setIfInBounds_toArray,List.set_cons_zero,List.set_cons_succ]
   refine wpAnyH_take (i:=2) (oi:=_) (v:=?_) rfl (by kernel_rfl) (by kernel_rfl) (by kernel_rfl) (fun _ _ _ h=>h) (Or.inl ⟨by rfl,?_⟩) (by assumption) ?_
   rotate_left
   ·(intro w' hSw;go_simp;try with_reducible rfl)
   try simp only[Act.put,List.setIfInBounds_toArray,List.set_cons_zero,List.set_cons_succ]
   refine wpAnyH_take (i:=3) (oi:=_) (v:=?_) rfl (by kernel_rfl) (by kernel_rfl) (by kernel_rfl) (fun _ _ _ h=>h) (Or.inl ⟨by rfl,?_⟩) (by assumption) ?_
   rotate_left
   ·(intro w' hSw;go_simp;try with_reducible rfl)
   try simp only[Act.put,List.setIfInBounds_toArray,List.set_cons_zero,List.set_cons_succ]
   refine wpAnyH_take (i:=4) (oi:=_) (v:=?_) rfl (by kernel_rfl) (by kernel_rfl) (by kernel_rfl) (fun _ _ _ h=>h) (Or.inl ⟨by rfl,?_⟩) (by assumption) ?_
   rotate_left
   ·(intro w' hSw;go_simp;try with_reducible rfl)
   try simp only[Act.put,List.setIfInBounds_toArray,List.set_cons_zero,List.set_cons_succ]
   refine wpAnyH_take (i:=5) (oi:=_) (v:=?_) rfl (by kernel_rfl) (by kernel_rfl) (by kernel_rfl) (fun _ _ _ h=>h) (Or.inl ⟨by rfl,?_⟩) (by assumption) ?_
   rotate_left
   ·(intro w' hSw;go_simp;try with_reducible rfl)
   try simp only[Act.put,List.setIfInBounds_toArray,List.set_cons_zero,List.set_cons_succ]
   refine wpAnyH_take (i:=6) (oi:=_) (v:=?_) rfl (by kernel_rfl) (by kernel_rfl) (by kernel_rfl) (fun _ _ _ h=>h) (Or.inl ⟨by rfl,?_⟩) (by assumption) ?_
   rotate_left
   ·(intro w' hSw;go_simp;try with_reducible rfl)
   try simp only[Act.put,List.setIfInBounds_toArray,List.set_cons_zero,List.set_cons_succ]
   refine wpAnyH_take (i:=8) (oi:=_) (v:=?_) rfl (by kernel_rfl) (by kernel_rfl) (by kernel_rfl) (fun _ _ _ h=>h) (Or.inl ⟨by rfl,?_⟩) (by assumption) ?_
   rotate_left
   ·(intro w' hSw;go_simp;try with_reducible rfl)
   try simp only[Act.put,List.setIfInBounds_toArray,List.set_cons_zero,List.set_cons_succ]
   refine wpAnyH_take (i:=10) (oi:=_) (v:=?_) rfl (by kernel_rfl) (by kernel_rfl) (by kernel_rfl) (fun _ _ _ h=>h) (Or.inl ⟨by rfl,?_⟩) (by assumption) ?_
   rotate_left
   ·(intro w' hSw;go_simp;try with_reducible rfl)
   try simp only[Act.put,List.setIfInBounds_toArray,List.set_cons_zero,List.set_cons_succ]
   refine aH [7,13] (.cons rfl (fun K hK=>?_) ?_)
   ·go_simp
    (refine(lD s 3 _ _ hs (by omega) rfl).mono ?_;rintro e w' ⟨rfl,d,rfl⟩)
    go_wp2_with fail;refine hK.out _ _ trivial (fun hHeld=>?_);clear hK K;refine aH [9,13] (.cons rfl (fun K hK=>?_) ?_)
    ·go_simp
     (refine(lD s 5 _ _ hs (by omega) rfl).mono ?_;rintro e w' ⟨rfl,d,rfl⟩)
     go_wp2_with fail;refine hK.out _ _ trivial (fun hHeld=>?_);clear hK K;refine aH [11,13] (.cons rfl (fun K hK=>?_) ?_)
     ·go_simp
      (refine(lD s 7 _ _ hs (by omega) rfl).mono ?_;rintro e w' ⟨rfl,d,rfl⟩)
      go_wp2_with fail;refine hK.out _ _ trivial (fun hHeld=>?_);clear hK K;refine wpAnyH_take (i:=12) (oi:=_) (v:=?_) rfl (by kernel_rfl) (by kernel_rfl) (by kernel_rfl) (fun _ _ _ h=>h) (Or.inl ⟨by rfl,?_⟩) (by assumption) ?_
      rotate_left
      ·(intro w' hSw;go_simp;try with_reducible rfl)
      try simp only[Act.put,List.setIfInBounds_toArray,List.set_cons_zero,List.set_cons_succ]
      refine rH 13 fun K hK=>?_;go_simp;refine hK.out _ _ trivial (fun hHeld=>?_);clear hK K;refine rH 14 fun K hK=>?_;go_simp;refine hK.out _ _ trivial (fun hHeld=>?_);clear hK K;refine wpAnyH_done (by kernel_rfl) ?_ _;refine NoPanic.normal ?_;go_wp2_with fail
      go_meet
      case rel=>exact⟨_,rfl,rfl⟩
     refine .cons rfl (fun K hK=>?_) .nil;go_simp;refine hK.out _ _ trivial (fun hHeld=>?_);clear hK K;refine rH 11 fun K hK=>?_;go_simp
     (refine(lD s 7 _ _ hs (by omega) rfl).mono ?_;rintro e w' ⟨rfl,d,rfl⟩)
     go_wp2_with fail;refine hK.out _ _ trivial (fun hHeld=>?_);clear hK K;refine wpAnyH_take (i:=12) (oi:=_) (v:=?_) rfl (by kernel_rfl) (by kernel_rfl) (by kernel_rfl) (fun _ _ _ h=>h) (Or.inl ⟨by rfl,?_⟩) (by assumption) ?_
     rotate_left
     ·(intro w' hSw;go_simp;try with_reducible rfl)
     try simp only[Act.put,List.setIfInBounds_toArray,List.set_cons_zero,List.set_cons_succ]
     refine rH 14 fun K hK=>?_;go_simp;refine hK.out _ _ trivial (fun hHeld=>?_);clear hK K;refine wpAnyH_done (by kernel_rfl) ?_ _;refine NoPanic.normal ?_;go_wp2_with fail
     go_meet
     case rel=>exact⟨_,rfl,rfl⟩
    refine .cons rfl (fun K hK=>?_) .nil;go_simp;refine hK.out _ _ trivial (fun hHeld=>?_);clear hK K;refine rH 9 fun K hK=>?_;go_simp
    (refine(lD s 5 _ _ hs (by omega) rfl).mono ?_;rintro e w' ⟨rfl,d,rfl⟩)
    go_wp2_with fail;refine hK.out _ _ trivial (fun hHeld=>?_);clear hK K;refine rH 11 fun K hK=>?_;go_simp
    (refine(lD s 7 _ _ hs (by omega) rfl).mono ?_;rintro e w' ⟨rfl,d,rfl⟩)
    go_wp2_with fail;refine hK.out _ _ trivial (fun hHeld=>?_);clear hK K;refine wpAnyH_take (i:=12) (oi:=_) (v:=?_) rfl (by kernel_rfl) (by kernel_rfl) (by kernel_rfl) (fun _ _ _ h=>h) (Or.inl ⟨by rfl,?_⟩) (by assumption) ?_
    rotate_left
    ·(intro w' hSw;go_simp;try with_reducible rfl)
    try simp only[Act.put,List.setIfInBounds_toArray,List.set_cons_zero,List.set_cons_succ]
    refine rH 14 fun K hK=>?_;go_simp;refine hK.out _ _ trivial (fun hHeld=>?_);clear hK K;refine wpAnyH_done (by kernel_rfl) ?_ _;refine NoPanic.normal ?_;go_wp2_with fail
    go_meet
    case rel=>exact⟨_,rfl,rfl⟩
   refine .cons rfl (fun K hK=>?_) .nil;go_simp;refine hK.out _ _ trivial (fun hHeld=>?_);clear hK K;refine rH 7 fun K hK=>?_;go_simp
   (refine(lD s 3 _ _ hs (by omega) rfl).mono ?_;rintro e w' ⟨rfl,d,rfl⟩)
   go_wp2_with fail;refine hK.out _ _ trivial (fun hHeld=>?_);clear hK K;refine rH 9 fun K hK=>?_;go_simp
   (refine(lD s 5 _ _ hs (by omega) rfl).mono ?_;rintro e w' ⟨rfl,d,rfl⟩)
   go_wp2_with fail;refine hK.out _ _ trivial (fun hHeld=>?_);clear hK K;refine rH 11 fun K hK=>?_;go_simp
   (refine(lD s 7 _ _ hs (by omega) rfl).mono ?_;rintro e w' ⟨rfl,d,rfl⟩)
   go_wp2_with fail;refine hK.out _ _ trivial (fun hHeld=>?_);clear hK K;refine wpAnyH_take (i:=12) (oi:=_) (v:=?_) rfl (by kernel_rfl) (by kernel_rfl) (by kernel_rfl) (fun _ _ _ h=>h) (Or.inl ⟨by rfl,?_⟩) (by assumption) ?_
   rotate_left
   ·(intro w' hSw;go_simp;try with_reducible rfl)
   try simp only[Act.put,List.setIfInBounds_toArray,List.set_cons_zero,List.set_cons_succ]
   refine rH 14 fun K hK=>?_;go_simp;refine hK.out _ _ trivial (fun hHeld=>?_);clear hK K;refine wpAnyH_done (by kernel_rfl) ?_ _;refine NoPanic.normal ?_;go_wp2_with fail
   go_meet
   case rel=>exact⟨_,rfl,rfl⟩
  case rest=>
   obtain⟨d,rfl,rfl⟩:=hcut
   have dw:lR ((((w.alloc (.cells (dr sz cl qu mx qn rt bu wk ou) 35)).alloc (.cells (aL 0 ⟨#[]⟩ 0 0 0 0 0 ⟨#[]⟩ 0) 132)).alloc (.cells (aL 3 ⟨#[]⟩ (bt s 1) (bt s 2) (two s 3) (two s 5) (two s 7) ⟨#[]⟩ 0) 132)).drewN d) a used:=
    hc.later (kJ _ _ _ _ _)
   have kC:Below w.heap.size w ((((w.alloc (.cells (dr sz cl qu mx qn rt bu wk ou) 35)).alloc (.cells (aL 0 ⟨#[]⟩ 0 0 0 0 0 ⟨#[]⟩ 0) 132)).alloc (.cells (aL 3 ⟨#[]⟩ (bt s 1) (bt s 2) (two s 3) (two s 5) (two s 7) ⟨#[]⟩ 0) 132)).drewN d):=
    kJ _ _ _ _ _
   by_cases kX:bt s 0≠81\/mx<two s 7\/two s 3∈used
   ·have hH:Hid (cS sz mx used s=(.closing,9)):=by unfold cS;rw[if_neg h9,if_pos kX];rfl
    by_cases q0:bt s 0=81
    ·have q0':(bt s 0 !=81)=false:=by simp[q0]
     by_cases q1:mx<two s 7
     ·go_wp2_with (go_at_call 247;refine(nu a cap used (two s 3) _ hu dw).mono ?_;rintro e w' ⟨rfl,rfl⟩);exact bodyPost_ret (v:=.tuple #[.agg (aL 4 ⟨#[]⟩ 0 0 0 0 0 ⟨#[]⟩ 0),.int .i64 9]) (by simp[results,results214,go_sem]) rfl ⟨⟨.closing,9,hH.out.symm,rfl⟩,kJ _ _ _ _ _⟩
     ·have q2:decide (two s 3∈used)=true:=by
       rcases kX with h|h|h
       ·exact absurd q0 h
       ·exact absurd h q1
       ·simpa using h
      go_wp2_with (go_at_call 247;refine(nu a cap used (two s 3) _ hu dw).mono ?_;rw[q2];rintro e w' ⟨rfl,rfl⟩);exact bodyPost_ret (v:=.tuple #[.agg (aL 4 ⟨#[]⟩ 0 0 0 0 0 ⟨#[]⟩ 0),.int .i64 9]) (by simp[results,results214,go_sem]) rfl ⟨⟨.closing,9,hH.out.symm,rfl⟩,kJ _ _ _ _ _⟩
    ·have q0':(bt s 0 !=81)=true:=by simp[q0]
     go_wp2_with (go_at_call 247;refine(nu a cap used (two s 3) _ hu dw).mono ?_;rintro e w' ⟨rfl,rfl⟩);exact bodyPost_ret (v:=.tuple #[.agg (aL 4 ⟨#[]⟩ 0 0 0 0 0 ⟨#[]⟩ 0),.int .i64 9]) (by simp[results,results214,go_sem]) rfl ⟨⟨.closing,9,hH.out.symm,rfl⟩,kJ _ _ _ _ _⟩
   ·have q0:bt s 0=81:=by
     by_cases h:bt s 0=81
     ·exact h
     ·exact absurd (.inl h) kX
    have q0':(bt s 0 !=81)=false:=by simp[q0]
    have q1:two s 7<=mx:=by
     by_cases h:mx<two s 7
     ·exact absurd (.inr (.inl h)) kX
     ·omega
    have q2:decide (two s 3∈used)=false:=by
     by_cases h:two s 3∈used
     ·exact absurd (.inr (.inr h)) kX
     ·simpa using h
    by_cases kw:bt s 1=1
    ·by_cases La:(s.size:Int)<9+two s 7
     ·have hH:Hid (cS sz mx used s=(.zero,0)):=by unfold cS;rw[if_neg h9,if_neg kX,if_pos kw,if_pos La];rfl
      have kw':(bt s 1==1)=true:=by simpa using kw
      clear kw kX;go_wp2_with (go_at_call 247;refine(nu a cap used (two s 3) _ hu dw).mono ?_;rw[q2];rintro e w' ⟨rfl,rfl⟩);exact bodyPost_ret (v:=.tuple #[.agg (aL 0 ⟨#[]⟩ 0 0 0 0 0 ⟨#[]⟩ 0),.int .i64 0]) (by simp[results,results214,go_sem]) rfl ⟨⟨.zero,0,hH.out.symm,rfl⟩,kJ _ _ _ _ _⟩
     ·obtain⟨n,hn⟩:∃n:Nat,(n:Int)=9+two s 7:=⟨(9+two s 7).toNat,by omega⟩
      have hH:Hid (cS sz mx used s=(⟨3,⟨#[]⟩,bt s 1,bt s 2,two s 3,two s 5,two s 7,s.extract 9 n,verdict sz (bt s 1) (bt s 2) (two s 5) (two s 7)⟩,(n:Int))):=by unfold cS;rw[if_neg h9,if_neg kX,if_pos kw,if_neg La,<-hn];rfl
      have hn':9+two s 7=(n:Int):=hn.symm;have hn9:9<=n:=by omega
      have hns:n<=s.size:=by omega
      have kw':(bt s 1==1)=true:=by simpa using kw
      clear kw kX hn;go_wp2_with (first|(go_at_call 247;refine(nu a cap used (two s 3) _ hu dw).mono ?_;rw[q2];rintro e w' ⟨rfl,rfl⟩)|(go_at_call 248;refine(sR sz cl qu mx qn rt bu wk ou 3 ⟨#[]⟩ (bt s 1) (bt s 2) (two s 3) (two s 5) (two s 7) (s.extract 9 n) 0 _ r1.1 r2.1 r5.1 r5.2 r7.1 r7.2).mono ?_;rintro e w4 ⟨rfl,BI⟩;obtain⟨UO,hf4⟩:=cZ BI;have ZI:w.heap.size+2<w4.heap.size:=by(have:=BI.size;simp at this;omega)));exact bodyPost_ret (v:=.tuple #[.agg (aL 3 ⟨#[]⟩ (bt s 1) (bt s 2) (two s 3) (two s 5) (two s 7) (s.extract 9 n) (verdict sz (bt s 1) (bt s 2) (two s 5) (two s 7))),.int .i64 n]) (by simp[results,results214,go_sem,UO,ZI]) rfl ⟨⟨_,_,hH.out.symm,rfl⟩,bN (((kJ w _ _ _ _).trans (BI.mono (B':=w.heap.size) (by simp;omega))).setCell (p:=⟨w.heap.size+2,8,none⟩) (by simp) _) (by omega) _ _ _ _ _ _ _ _ _⟩
    ·have hH:Hid (cS sz mx used s=(⟨3,⟨#[]⟩,bt s 1,bt s 2,two s 3,two s 5,two s 7,⟨#[]⟩,verdict sz (bt s 1) (bt s 2) (two s 5) (two s 7)⟩,9)):=by
      unfold cS;rw[if_neg h9,if_neg kX,if_neg kw];rfl
     have kw':(bt s 1==1)=false:=by simpa using kw
     clear kw kX;go_wp2_with (first|(go_at_call 247;refine(nu a cap used (two s 3) _ hu dw).mono ?_;rw[q2];rintro e w' ⟨rfl,rfl⟩)|(go_at_call 248;refine(sR sz cl qu mx qn rt bu wk ou 3 ⟨#[]⟩ (bt s 1) (bt s 2) (two s 3) (two s 5) (two s 7) ⟨#[]⟩ 0 _ r1.1 r2.1 r5.1 r5.2 r7.1 r7.2).mono ?_;rintro e w4 ⟨rfl,BI⟩;obtain⟨UO,hf4⟩:=cZ BI;have ZI:w.heap.size+2<w4.heap.size:=by(have:=BI.size;simp at this;omega)));exact bodyPost_ret (v:=.tuple #[.agg (aL 3 ⟨#[]⟩ (bt s 1) (bt s 2) (two s 3) (two s 5) (two s 7) ⟨#[]⟩ (verdict sz (bt s 1) (bt s 2) (two s 5) (two s 7))),.int .i64 9]) (by simp[results,results214,go_sem,UO,ZI]) rfl ⟨⟨_,_,hH.out.symm,rfl⟩,bN (((kJ w _ _ _ _).trans (BI.mono (B':=w.heap.size) (by simp;omega))).setCell (p:=⟨w.heap.size+2,8,none⟩) (by simp) _) (by omega) _ _ _ _ _ _ _ _ _⟩
end
end Go.Proofs.YtpobhljcainmdaaGreat
