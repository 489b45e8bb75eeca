/- Proved here: a part of what Doors keeps (Wire4, Ref5, Ref6, Ref7). -/
import Derived.Deep.AppendLies
import Derived.Deep.DrawnRows
import Derived.Deep.RegionHeld3
import Derived.Maps.OwnSet
import Derived.Test.YtpobhljcainmdaaGreatJ01
import Derived.Test.YtpobhljcainmdaaGreatJ03
set_option maxRecDepth 100000
set_option maxHeartbeats 8000000
set_option linter.all false
namespace Go.Proofs.YtpobhljcainmdaaGreat
section
open Go.Proofs.Tryz
open Go.RowKit
attribute [local go_sem ↓] Go.wp_at_zero Go.wp_at_succ
attribute [local go_sem] au aj
theorem My(us:List Int)(ck:Int):Maps.has (Maps.setOf (H:=Unit) (.agg []) (us.map (Lit.int .i64))) (.int .i64 ck)=decide (ck∈us):=by rw[Maps.has_setOf _ _ _ (by intro x hx;simp at hx;obtain⟨a,_,rfl⟩:=hx;trivial)];rw[Bool.eq_iff_iff];simp[Lit.sameKey,List.any_eq_true]
abbrev Uses(w:World)(mb:Nat)(us:List Int):Prop:=w.ownsMap prog 3 (unitElem (H:=Unit)) mb us.length (Maps.setOf (.agg []) (us.map (Lit.int .i64)))
theorem Jh{w:World}{mb:Nat}{us:List Int}(h:Uses w mb us)(ck:Int)(zl:0<=ck/\ck<=65535):
  (Instr.lookup 226 (.map (some mb)) (.int .i64 ck) true).run prog w=.ok (.tuple #[.agg #[],.bool (decide (ck∈us))]) w:=by
 have hz:(zeroValue 169).run prog w=.ok (.agg #[]) w:=zeroValue169 w;obtain⟨v,ps,hrun,hv⟩:=h.look_ok (Maps.int_keyed underlying3) underlying226 hz unitElem_mk (key:=.int .i64 ck) (kl:=.int .i64 ck) (Maps.keyOf_int_mk underlying3 (by simp[Lit.wf,IntKind.min,IntKind.max,IntKind.signed,IntKind.bits];omega));obtain⟨rfl,_⟩:=unitElem_inv hv;rw[My]at hrun;exact hrun
structure cW(w:World)(rb mb:Nat)(sz mx ph:Int)(us:List Int):Prop where
 box:w.heap[rb]? =some (.cells #[.int .i64 sz,.int .i64 mx,.int .i64 ph,.map (some mb)] 228 (0,0))
 uses:Uses w mb us
theorem cW.lt{w:World}{rb mb:Nat}{sz mx ph:Int}{us:List Int}(h:cW w rb mb sz mx ph us):rb<w.heap.size/\mb<w.heap.size:=
 ⟨(Array.getElem?_eq_some_iff.1 h.box).1,h.uses.lt⟩
theorem cW.cell{w:World}{rb mb:Nat}{sz mx ph:Int}{us:List Int}(h:cW w rb mb sz mx ph us):
  w.cell? ⟨rb,0,none⟩=some (.int .i64 sz)/\w.cell? ⟨rb,1,none⟩=some (.int .i64 mx)/\w.cell? ⟨rb,2,none⟩=some (.int .i64 ph)/\w.cell? ⟨rb,3,none⟩=some (.map (some mb)):=by
 simp[World.cell?,h.box]
theorem cW.kept{w w':World}{rb mb:Nat}{sz mx ph:Int}{us:List Int}(h:cW w rb mb sz mx ph us){row:Option Nat}(hg:w.grownBy w' row)(h1:some rb≠row)(h2:some mb≠row):cW w' rb mb sz mx ph us:=
 ⟨(hg.block _ h.lt.1 h1).trans h.box,h.uses.kept hg h2⟩
theorem iB{w w':World}(h:Below w.heap.size w w'):w.grownBy w' none:=⟨h.os,h.tape,h.output,h.size,fun k hk _=>h.block k hk⟩
theorem cW.later{w w':World}{rb mb:Nat}{sz mx ph:Int}{us:List Int}(h:cW w rb mb sz mx ph us)(hb:Below w.heap.size w w'):cW w' rb mb sz mx ph us:=
 h.kept (iB hb) (by simp) (by simp)
theorem OQ(s:ByteArray)(i:Nat)(h:i+1<s.size):two (s.extract i s.size) 0=two s i:=by
 have e:∀j,i+j<s.size->bt (s.extract i s.size) j=bt s (i+j):=fun j hj=>by
  unfold bt
  congr 1
  simp[ByteArray.data_extract,Array.getD,hj];split
  ·rfl
  ·rename_i hh;have:s.data.size=s.size:=rfl;omega
 unfold two;rw[e 0 (by omega),e (0+1) (by omega)];rfl
theorem eo(s:ByteArray)(i:Nat)(s':ByteArray)(w:World)(hs:s.size<=maxLen)(hi:i+1<s.size)(hj:s'=s.extract i s.size):
  Calls prog 273 #[.string s'] w fun e w'=>e=.returned (.int .i64 (two s i))/\∃n,w'=w.drewN n:=by
 subst hj;have hz:(s.extract i s.size).size=s.size-i:=by simp[ByteArray.size_extract]
 have:=Aw (s.extract i s.size) w (by omega) (by omega);rw[OQ s i hi]at this;exact this
abbrev oZ(rb mb b:Nat)(ck:Int)(us:List Int)(W:World):Prop:=
 W.cell? ⟨rb,3,none⟩=some (.map (some mb))/\W.cell? ⟨b,4,none⟩=some (.int .i64 ck)/\(Instr.lookup 226 (.map (some mb)) (.int .i64 ck) true).run prog W=.ok (.tuple #[.agg #[],.bool (decide (ck∈us))]) W/\Uses W mb us/\(0<=ck/\ck<=65535)
theorem oZ.mk'{rb mb b:Nat}{ck:Int}{us:List Int}{W:World}(h1:W.cell? ⟨rb,3,none⟩=some (.map (some mb)))(h2:W.cell? ⟨b,4,none⟩=some (.int .i64 ck))(h3:Uses W mb us)(h4:0<=ck/\ck<=65535):oZ rb mb b ck us W:=
 ⟨h1,h2,Jh h3 ck h4,h3,h4⟩
theorem oZ.keep{rb mb b:Nat}{ck:Int}{us:List Int}{W:World}{o:Obj}(h:oZ rb mb b ck us W):oZ rb mb b ck us (W.alloc o):=
 have hb:=(Below.refl W.heap.size W).alloc (Nat.le_refl _) o
 .mk' ((hb.cell (aZ h.1)).trans h.1) ((hb.cell (aZ h.2.1)).trans h.2.1) (h.2.2.2.1.alloc o) h.2.2.2.2
abbrev PD(s:ByteArray):bg:=⟨3,⟨#[]⟩,bt s 1,bt s 2,two s 3,two s 5,two s 7,⟨#[]⟩,0⟩
theorem pZ(rb mb:Nat)(sz mx ph:Int)(us:List Int)(s:ByteArray)(w:World)(hs:s.size<=maxLen)(h9:9<=s.size)(hR:cW w rb mb sz mx ph us):
  Calls prog 260 #[.pointer (some ⟨rb,0,none⟩),.string s] w fun e w'=>
   (if bt s 0≠81\/mx<two s 7\/two s 3∈us then e=.panicked [{v:=GC 9,recovered:=false}]else e=.returned (PD s).val)/\Below w.heap.size w w':=by
 have hs':=hs;unfold maxLen at hs';have n0:0<s.size:=by omega
 have n1:1<s.size:=by omega
 have n2:2<s.size:=by omega
 have i0:(0:Int)<s.size:=by omega
 have i1:(1:Int)<s.size:=by omega
 have i2:(2:Int)<s.size:=by omega
 have i3:(3:Int)<=s.size:=by omega
 have i5:(5:Int)<=s.size:=by omega
 have i7:(7:Int)<=s.size:=by omega
 have e0:=ep s 0 (by omega);have e1:=ep s 1 (by omega);have e2:=ep s 2 (by omega);have r0:=bO s 0;have r1:=bO s 1;have r2:=bO s 2;have k1:IntKind.i64.wrap (bt s 1)=bt s 1:=by rw[IntKind.wrap_i64];omega
 have k2:IntKind.i64.wrap (bt s 2)=bt s 2:=by rw[IntKind.wrap_i64];omega
 have r3:=cj s 3;have r5:=cj s 5;have r7:=cj s 7;obtain⟨g0,g1,g2,g3⟩:=hR.cell;have hlt:=hR.lt;have hrb:=hlt.1;have HR:Hid (cW w rb mb sz mx ph us):=hR;clear hR hlt;go_enter func260,ntmps260
 go_upto_region 1 with fail
 go_cut [5] (fun p w'=>∃d,p=.pointer (some ⟨w.heap.size+1,0,none⟩)/\w'=((w.alloc (.cells (aL 0 ⟨#[]⟩ 0 0 0 0 0 ⟨#[]⟩ 0) 132)).alloc (.cells (aL 3 ⟨#[]⟩ (bt s 1) (bt s 2) (two s 3) (two s 5) (two s 7) ⟨#[]⟩ 0) 132)).drewN d)
 case first=>
  refine wp_region_noPanic ?_;refine wp_region_held_drew (S:=fun _=>True) (by kernel_rfl) trivial ?_;intro hHeld;refine tk 0 ?_;refine tk 1 ?_;refine tk 2 ?_;refine tk 3 ?_;refine tk 4 ?_;refine tk 5 ?_;refine tk 6 ?_;refine tk 7 ?_;refine tk 9 ?_;refine tk 10 ?_;refine tk 12 ?_;refine tk 13 ?_;refine aH [8,16] (.cons rfl (fun K hK=>?_) ?_)
  ·go_simp
   (refine(eo s 3 _ _ hs (by omega) rfl).mono ?_;rintro e w' ⟨rfl,d,rfl⟩)
   go_wp2_with fail;refine hK.out _ _ (trivial) (fun UC=>?_);clear hK K;refine aH [11,16] (.cons rfl (fun K hK=>?_) ?_)
   ·go_simp
    (refine(eo s 5 _ _ hs (by omega) rfl).mono ?_;rintro e w' ⟨rfl,d,rfl⟩)
    go_wp2_with fail;refine hK.out _ _ (trivial) (fun YH=>?_);clear hK K;refine aH [14,16] (.cons rfl (fun K hK=>?_) ?_)
    ·go_simp
     (refine(eo s 7 _ _ hs (by omega) rfl).mono ?_;rintro e w' ⟨rfl,d,rfl⟩)
     go_wp2_with fail;refine hK.out _ _ (trivial) (fun Ta=>?_);clear hK K;refine tk 15 ?_;refine rH 16 fun K hK=>?_;go_simp;refine hK.out _ _ (trivial) (fun NH=>?_);clear hK K;refine rH 17 fun K hK=>?_;go_simp;refine hK.out _ _ (trivial) (fun Ju=>?_);clear hK K;refine wpAnyH_done (by kernel_rfl) ?_ _
     (refine NoPanic.normal ?_;go_wp2_with fail;go_meet;case rel=>exact⟨_,rfl,rfl⟩)
    refine .cons rfl (fun K hK=>?_) .nil;go_simp;refine hK.out _ _ (trivial) (fun Tb=>?_);clear hK K;refine rH 14 fun K hK=>?_;go_simp
    (refine(eo s 7 _ _ hs (by omega) rfl).mono ?_;rintro e w' ⟨rfl,d,rfl⟩)
    go_wp2_with fail;refine hK.out _ _ (trivial) (fun NI=>?_);clear hK K;refine tk 15 ?_;refine rH 17 fun K hK=>?_;go_simp;refine hK.out _ _ (trivial) (fun Jv=>?_);clear hK K;refine wpAnyH_done (by kernel_rfl) ?_ _
    (refine NoPanic.normal ?_;go_wp2_with fail;go_meet;case rel=>exact⟨_,rfl,rfl⟩)
   refine .cons rfl (fun K hK=>?_) .nil;go_simp;refine hK.out _ _ (trivial) (fun YI=>?_);clear hK K;refine rH 11 fun K hK=>?_;go_simp
   (refine(eo s 5 _ _ hs (by omega) rfl).mono ?_;rintro e w' ⟨rfl,d,rfl⟩)
   go_wp2_with fail;refine hK.out _ _ (trivial) (fun Tc=>?_);clear hK K;refine rH 14 fun K hK=>?_;go_simp
   (refine(eo s 7 _ _ hs (by omega) rfl).mono ?_;rintro e w' ⟨rfl,d,rfl⟩)
   go_wp2_with fail;refine hK.out _ _ (trivial) (fun NJ=>?_);clear hK K;refine tk 15 ?_;refine rH 17 fun K hK=>?_;go_simp;refine hK.out _ _ (trivial) (fun Jw=>?_);clear hK K;refine wpAnyH_done (by kernel_rfl) ?_ _
   (refine NoPanic.normal ?_;go_wp2_with fail;go_meet;case rel=>exact⟨_,rfl,rfl⟩)
  refine .cons rfl (fun K hK=>?_) .nil;go_simp;refine hK.out _ _ (trivial) (fun aas=>?_);clear hK K;refine rH 8 fun K hK=>?_;go_simp
  (refine(eo s 3 _ _ hs (by omega) rfl).mono ?_;rintro e w' ⟨rfl,d,rfl⟩)
  go_wp2_with fail;refine hK.out _ _ (trivial) (fun YA=>?_);clear hK K;refine rH 11 fun K hK=>?_;go_simp
  (refine(eo s 5 _ _ hs (by omega) rfl).mono ?_;rintro e w' ⟨rfl,d,rfl⟩)
  go_wp2_with fail;refine hK.out _ _ (trivial) (fun SW=>?_);clear hK K;refine rH 14 fun K hK=>?_;go_simp
  (refine(eo s 7 _ _ hs (by omega) rfl).mono ?_;rintro e w' ⟨rfl,d,rfl⟩)
  go_wp2_with fail;refine hK.out _ _ (trivial) (fun ND=>?_);clear hK K;refine tk 15 ?_;refine rH 17 fun K hK=>?_;go_simp;refine hK.out _ _ (trivial) (fun Jt=>?_);clear hK K;refine wpAnyH_done (by kernel_rfl) ?_ _
  (refine NoPanic.normal ?_;go_wp2_with fail;go_meet;case rel=>exact⟨_,rfl,rfl⟩)
 case rest=>
  obtain⟨d,rfl,rfl⟩:=hcut;have oX:Below w.heap.size w ((w.alloc (.cells (aL 0 ⟨#[]⟩ 0 0 0 0 0 ⟨#[]⟩ 0) 132)).alloc (.cells (aL 3 ⟨#[]⟩ (bt s 1) (bt s 2) (two s 3) (two s 5) (two s 7) ⟨#[]⟩ 0) 132)):=((Below.refl _ _).alloc (Nat.le_refl _) _).alloc (by simp) _
  have mD:oZ rb mb (w.heap.size+1) (two s 3) us (((w.alloc (.cells (aL 0 ⟨#[]⟩ 0 0 0 0 0 ⟨#[]⟩ 0) 132)).alloc (.cells (aL 3 ⟨#[]⟩ (bt s 1) (bt s 2) (two s 3) (two s 5) (two s 7) ⟨#[]⟩ 0) 132)).drewN d).drew:=
   oZ.mk' (by simp only[World.drew_drewN,World.cell?_drewN];exact(oX.cell (p:=⟨rb,3,none⟩) hrb).trans g3) (by simp[go_sem]) (HR.out.later oX).uses r3
  go_upto_region 2 with fail
  go_cut [7] (fun q w'=>∃d,q=.bool (decide (two s 3∈us))/\w'=(((w.alloc (.cells (aL 0 ⟨#[]⟩ 0 0 0 0 0 ⟨#[]⟩ 0) 132)).alloc (.cells (aL 3 ⟨#[]⟩ (bt s 1) (bt s 2) (two s 3) (two s 5) (two s 7) ⟨#[]⟩ 0) 132)).alloc (.cells #[] 169)).drewN d)
  case first=>
   refine wp_region_noPanic ?_;refine wp_region_held_drew (S:=fun w'=>oZ rb mb (w.heap.size+1) (two s 3) us w') (by kernel_rfl) mD ?_;intro hHeld;refine tk 0 ?_;refine tk 1 ?_;refine tk 2 ?_;refine tk 3 ?_;refine tk 4 ?_;refine tk 5 ?_;refine tk 6 ?_;refine tk 7 ?_;refine tk 8 ?_;refine tk 9 ?_;refine rH 10 fun K hK=>?_;go_simp;refine hK.out _ _ (oZ.keep hHeld) (fun DY=>?_);clear hK K;refine rH 11 fun K hK=>?_;go_simp;refine hK.out _ _ (DY) (fun WO=>?_);clear hK K;refine tk 12 ?_;refine wpAnyH_done (by kernel_rfl) ?_ _
   (refine NoPanic.normal ?_;go_wp2_with fail;go_meet;case rel=>exact⟨_,rfl,rfl⟩)
  case rest=>
   clear mD;obtain⟨d2,rfl,rfl⟩:=hcut;have q0:¬rb=w.heap.size:=by omega
   have q1:¬rb=w.heap.size+1:=by omega
   have q2:¬rb=w.heap.size+1+1:=by omega
   have kC:Below w.heap.size w (((w.alloc (.cells (aL 0 ⟨#[]⟩ 0 0 0 0 0 ⟨#[]⟩ 0) 132)).alloc (.cells (aL 3 ⟨#[]⟩ (bt s 1) (bt s 2) (two s 3) (two s 5) (two s 7) ⟨#[]⟩ 0) 132)).alloc (.cells #[] 169)):=oX.trans ((Below.refl _ _).alloc (by simp;omega) _);have m1:(((w.alloc (.cells (aL 0 ⟨#[]⟩ 0 0 0 0 0 ⟨#[]⟩ 0) 132)).alloc (.cells (aL 3 ⟨#[]⟩ (bt s 1) (bt s 2) (two s 3) (two s 5) (two s 7) ⟨#[]⟩ 0) 132)).alloc (.cells #[] 169)).cell? ⟨rb,1,none⟩=some (.int .i64 mx):=(kC.cell (p:=⟨rb,1,none⟩) hrb).trans g1
   by_cases c0:bt s 0=81
   ·have hb0:(bt s 0 !=81)=false:=by simpa using c0
    have C0:Hid (bt s 0=81):=c0;clear c0
    by_cases c1:mx<two s 7
    ·have HP:Hid (bt s 0≠81\/mx<two s 7\/two s 3∈us):=.inr (.inl c1);have hd:decide (mx<two s 7)=true:=by simpa using c1
     clear c1;go_wp2
     go_quiet (fail)
     go_wp2;exact⟨rfl,by first|rfl|(rw[if_pos HP.out]),below_drewN kC _⟩
    ·have hd:decide (mx<two s 7)=false:=by simpa using c1
     have C1:Hid (¬mx<two s 7):=c1;clear c1
     by_cases c2:two s 3∈us
     ·have HP:Hid (bt s 0≠81\/mx<two s 7\/two s 3∈us):=.inr (.inr c2);have hd2:decide (two s 3∈us)=true:=by simpa using c2
      clear c2;go_wp2
      go_quiet (fail)
      go_wp2;exact⟨rfl,by first|rfl|(rw[if_pos HP.out]),below_drewN kC _⟩
     ·have HP:Hid (¬(bt s 0≠81\/mx<two s 7\/two s 3∈us)):=by
       rintro(h|h|h)
       ·exact h C0.out
       ·exact C1.out h
       ·exact c2 h
      have hd2:decide (two s 3∈us)=false:=by simpa using c2
      clear c2;go_wp2
      go_quiet (fail)
      go_wp2;exact bodyPost_ret (v:=(PD s).val) (by simp[results,results260,go_sem]) rfl ⟨by first|rfl|(rw[if_neg HP.out]),kJ _ _ _ _ _⟩
   ·have HP:Hid (bt s 0≠81\/mx<two s 7\/two s 3∈us):=.inl c0;have hb0:(bt s 0 !=81)=true:=by simpa using c0
    clear c0;go_wp2
    go_quiet (fail)
    go_wp2;exact⟨rfl,by first|rfl|(rw[if_pos HP.out]),below_drewN kC _⟩
end
section
open Go.Proofs.Tryz
open Go.RowKit
attribute [local go_sem] au aj
theorem GI(s:ByteArray)(h:s.size=0):s.toList.isEmpty=true:=by rw[ByteArray.toList_eq,List.isEmpty_iff];exact List.eq_nil_of_length_eq_zero (by rw[Array.length_toList];exact h)
theorem Kk(s:ByteArray)(h:¬s.size=0):s.toList.isEmpty=false:=by rw[ByteArray.toList_eq,List.isEmpty_eq_false_iff];intro e;exact h (by rw[<-ByteArray.size_data,<-Array.length_toList,e];rfl)
abbrev Qj(r:bg×Int)(e:Ending):Prop:=∃m n,(m,n)=r/\e=.returned (.tuple #[.agg (aL m.wh m.nm m.kd m.fl m.ck m.of m.ln m.dt m.er),.int .i64 n])
theorem qR(sz cl qu mx qn rt bu wk ou ph:Int)(a:Option Addr)(cap:Nat)(used:List Int)(s:ByteArray)(w:World)(hs:s.size<=maxLen)(hu:used.length<=maxLen)(hc:lR w a used):
  Calls prog 173 #[.agg (dr sz cl qu mx qn rt bu wk ou),.int .i64 ph,.slice a used.length cap,.string s] w fun e w'=>Qj (first sz mx ph used s) e/\Below w.heap.size w w':=by
 have hs':=hs;unfold maxLen at hs'
 have dw:lR ((w.alloc (.cells (dr sz cl qu mx qn rt bu wk ou) 35)).alloc (.cells (aL 0 ⟨#[]⟩ 0 0 0 0 0 ⟨#[]⟩ 0) 132)) a used:=
  hc.later (((Below.refl _ _).alloc (Nat.le_refl _) _).alloc (by simp) _)
 by_cases h0:ph=0
 ·subst h0;go_enter func173,ntmps173;go_wp2_with (go_at_call 213;refine(GQ s _ hs).mono ?_;rintro e w1 ⟨⟨m,n,hmn,rfl⟩,hb⟩;have Hm:Hid ((m,n)=eW s):=hmn;clear hmn;obtain⟨hc1,Zc⟩:=cZ hb;have iC:w.heap.size+1<w1.heap.size:=by(have:=hb.size;simp at this;omega));exact bodyPost_ret (v:=.tuple #[.agg (aL m.wh m.nm m.kd m.fl m.ck m.of m.ln m.dt m.er),.int .i64 n]) (by simp[results,results173,go_sem,hc1]) rfl ⟨⟨m,n,Hm.out,rfl⟩,bN ((((Below.refl _ _).alloc (Nat.le_refl _) _).alloc (by simp) _).trans (hb.mono (B':=w.heap.size) (by simp;omega))) (by omega) _ _ _ _ _ _ _ _ _⟩
 ·by_cases h1:ph=1
  ·subst h1
   by_cases hz:s.size=0
   ·have hH:Hid (first sz mx 1 used s=(.zero,0)):=by simp[first,opt,hz,Hid]
    have Xs:s.toList.isEmpty=true:=GI s hz;go_enter func173,ntmps173;go_wp2;exact bodyPost_ret (v:=.tuple #[.agg (aL 0 ⟨#[]⟩ 0 0 0 0 0 ⟨#[]⟩ 0),.int .i64 0]) (by simp[results,results173,go_sem]) rfl ⟨⟨.zero,0,hH.out.symm,rfl⟩,((Below.refl _ _).alloc (Nat.le_refl _) _).alloc (by simp) _⟩
   ·have Xs:s.toList.isEmpty=false:=Kk s hz;have e0:=ep s 0 (by omega);have n0:0<s.size:=by omega
    have n0':(0:Int)<s.size:=by omega
    have n1:1<=s.size:=by omega
    have r0:=bO s 0
    by_cases ha:bt s 0<97
    ·have hH:Hid (first sz mx 1 used s=(.closing,1)):=by simp[first,opt,hz,Hid,ha]
     go_enter func173,ntmps173;go_wp2;exact bodyPost_ret (v:=.tuple #[.agg (aL 4 ⟨#[]⟩ 0 0 0 0 0 ⟨#[]⟩ 0),.int .i64 1]) (by simp[results,results173,go_sem]) rfl ⟨⟨.closing,1,hH.out.symm,rfl⟩,((Below.refl _ _).alloc (Nat.le_refl _) _).alloc (by simp) _⟩
    ·by_cases hb:122<bt s 0
     ·have hH:Hid (first sz mx 1 used s=(.closing,1)):=by simp[first,opt,hz,Hid,hb]
      go_enter func173,ntmps173;go_wp2;exact bodyPost_ret (v:=.tuple #[.agg (aL 4 ⟨#[]⟩ 0 0 0 0 0 ⟨#[]⟩ 0),.int .i64 1]) (by simp[results,results173,go_sem]) rfl ⟨⟨.closing,1,hH.out.symm,rfl⟩,((Below.refl _ _).alloc (Nat.le_refl _) _).alloc (by simp) _⟩
     ·have hH:Hid (first sz mx 1 used s=(⟨2,s.extract 0 1,0,0,0,0,0,⟨#[]⟩,0⟩,1)):=by
       have:¬(bt s 0<97\/122<bt s 0):=by omega
       simp only[first,opt,Hid];rw[if_neg (by omega),if_pos trivial,if_neg hz,if_neg this]
      go_enter func173,ntmps173;go_wp2;exact bodyPost_ret (v:=.tuple #[.agg (aL 2 (s.extract 0 1) 0 0 0 0 0 ⟨#[]⟩ 0),.int .i64 1]) (by simp[results,results173,go_sem]) rfl ⟨⟨_,1,hH.out.symm,rfl⟩,((Below.refl _ _).alloc (Nat.le_refl _) _).alloc (by simp) _⟩
  ·by_cases h2:ph=2
   ·subst h2;have e2:first sz mx 2 used s=cS sz mx used s:=by simp[first]
    rw[e2];clear e2 h0 h1;go_enter func173,ntmps173;go_wp2_with (go_at_call 214;refine(On sz cl qu mx qn rt bu wk ou a cap used s _ hs hu dw).mono ?_;rintro e w1 ⟨⟨m,n,hmn,rfl⟩,hb⟩;have Hm:Hid ((m,n)=cS sz mx used s):=hmn;clear hmn;obtain⟨hc1,Zc⟩:=cZ hb;have iC:w.heap.size+1<w1.heap.size:=by(have:=hb.size;simp at this;omega));exact bodyPost_ret (v:=.tuple #[.agg (aL m.wh m.nm m.kd m.fl m.ck m.of m.ln m.dt m.er),.int .i64 n]) (by simp[results,results173,go_sem,hc1]) rfl ⟨⟨m,n,Hm.out,rfl⟩,bN ((((Below.refl _ _).alloc (Nat.le_refl _) _).alloc (by simp) _).trans (hb.mono (B':=w.heap.size) (by simp;omega))) (by omega) _ _ _ _ _ _ _ _ _⟩
   ·have hH:Hid (first sz mx ph used s=(.zero,0)):=by simp[first,h0,h1,h2,Hid]
    have b0:(ph==0)=false:=by simpa using h0
    have b1:(ph==1)=false:=by simpa using h1
    have b2:(ph==2)=false:=by simpa using h2
    clear h0 h1 h2;go_enter func173,ntmps173;go_wp2;exact bodyPost_ret (v:=.tuple #[.agg (aL 0 ⟨#[]⟩ 0 0 0 0 0 ⟨#[]⟩ 0),.int .i64 0]) (by simp[results,results173,go_sem]) rfl ⟨⟨.zero,0,hH.out.symm,rfl⟩,((Below.refl _ _).alloc (Nat.le_refl _) _).alloc (by simp) _⟩
end
section
open Go.Proofs.Tryz
open Go.RowKit
attribute [local go_sem ↓] Go.wp_at_zero Go.wp_at_succ
attribute [local go_sem] au aj
def bg.cells(m:bg):List Value:=[.int .i64 m.wh,.string m.nm,.int .i64 m.kd,.int .i64 m.fl,.int .i64 m.ck,.int .i64 m.of,.int .i64 m.ln,.string m.dt,.int .i64 m.er]
theorem yX(s:ByteArray)(f i:Nat):0<=(aI s f i).2/\(aI s f i).2<=s.size:=by
 induction f generalizing i with
 |zero=>unfold aI;split<;>simp<;>omega
 |succ f ih=>
  unfold aI;split
  ·simp
  ·split
   ·exact ih (i+1)
   ·simp;omega
theorem Kr(sz mx ph:Int)(used:List Int)(s:ByteArray):0<=(first sz mx ph used s).2/\(first sz mx ph used s).2<=s.size:=by
 have r7:=cj s 7;unfold first
 split
 ·exact yX s 5 0
 ·split
  ·unfold opt;repeat' split
   all_goals simp
   all_goals omega
  ·split
   ·unfold cS;repeat' split
    all_goals simp
    all_goals omega
   ·simp
end
section
open Go.Proofs.Tryz
open Go.RowKit
attribute [local go_sem ↓] Go.wp_at_zero Go.wp_at_succ
attribute [local go_sem] au aj
theorem IB{B:Nat}{e:TypeId}{k:Nat}{v:Value}{n:Nat}{xs:List Value}{w w':World}(h:w.ownsRow B e k v n xs)(hb:Below w.heap.size w w'):w'.ownsRow B e k v n xs:=
 h.kept (row:=none) ⟨hb.os,hb.tape,hb.output,hb.size,fun j hj _=>hb.block j hj⟩ (by cases hv:v.ownBlock<;>simp)
abbrev cL(w:World)(b:Nat)(m:bg):Prop:=
 w.cell? ⟨b,0,none⟩=some (.int .i64 m.wh)/\w.cell? ⟨b,1,none⟩=some (.string m.nm)/\w.cell? ⟨b,2,none⟩=some (.int .i64 m.kd)/\w.cell? ⟨b,3,none⟩=some (.int .i64 m.fl)/\w.cell? ⟨b,4,none⟩=some (.int .i64 m.ck)/\w.cell? ⟨b,5,none⟩=some (.int .i64 m.of)/\w.cell? ⟨b,6,none⟩=some (.int .i64 m.ln)/\w.cell? ⟨b,7,none⟩=some (.string m.dt)/\w.cell? ⟨b,8,none⟩=some (.int .i64 m.er)
theorem cL.cG{w w':World}{row:Option Nat}{b:Nat}{m:bg}(h:cL w b m)(hg:w.grownBy w' row)(hlt:b<w.heap.size)(hne:some b≠row):cL w' b m:=by obtain⟨h0,h1,h2,h3,h4,h5,h6,h7,h8⟩:=h;exact⟨(hg.cell_far _ hlt hne).trans h0,(hg.cell_far _ hlt hne).trans h1,(hg.cell_far _ hlt hne).trans h2,(hg.cell_far _ hlt hne).trans h3,(hg.cell_far _ hlt hne).trans h4,(hg.cell_far _ hlt hne).trans h5,(hg.cell_far _ hlt hne).trans h6,(hg.cell_far _ hlt hne).trans h7,(hg.cell_far _ hlt hne).trans h8⟩
theorem cL.later{w w':World}{b:Nat}{m:bg}(h:cL w b m)(hb:Below w.heap.size w w')(hlt:b<w.heap.size):cL w' b m:=
 h.cG (row:=none) ⟨hb.os,hb.tape,hb.output,hb.size,fun j hj _=>hb.block j hj⟩ hlt (by simp)
end
end Go.Proofs.YtpobhljcainmdaaGreat
