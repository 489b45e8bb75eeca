/- Proved here: a part of what Doors keeps (Wire5, Wire6). -/
import Derived.Defers
import Derived.Recover
import Derived.Tactics2
import Derived.Test.YtpobhljcainmdaaGreatJ01
import Derived.Test.YtpobhljcainmdaaGreatJ04
set_option maxRecDepth 100000
set_option maxHeartbeats 8000000
set_option linter.all false
namespace Go.Proofs.YtpobhljcainmdaaGreat
section
open Go.Proofs.Tryz
open Go.RowKit
attribute [local go_sem ↓] Go.wp_at_zero Go.wp_at_succ
attribute [local go_sem] au aj
abbrev jI(rb b:Nat)(sz:Int)(m:bg)(W:World):Prop:=W.cell? ⟨rb,0,none⟩=some (.int .i64 sz)/\cL W b m/\W.frozen? ⟨b,8,none⟩=false
theorem jI.later{rb b:Nat}{sz:Int}{m:bg}{W W':World}(h:jI rb b sz m W)(hb:Below W.heap.size W W'):jI rb b sz m W':=by have hlt:b<W.heap.size:=aZ h.2.1.1;exact⟨(hb.cell (aZ h.1)).trans h.1,h.2.1.later hb hlt,(hb.frozen (p:=⟨b,8,none⟩) hlt).trans h.2.2⟩
theorem tL{W:World}{b:Nat}(m:bg)(h:∀j,j<9->(W.cell? ⟨b,j,none⟩).isSome=true):cL (W.setCells b 0 m.cells) b m:=by have key:=World.cell?_setCells_in b m.cells 0 W (fun j hj=>by simpa using h j hj);exact⟨key 0 (by simp[bg.cells]),key 1 (by simp[bg.cells]),key 2 (by simp[bg.cells]),key 3 (by simp[bg.cells]),key 4 (by simp[bg.cells]),key 5 (by simp[bg.cells]),key 6 (by simp[bg.cells]),key 7 (by simp[bg.cells]),key 8 (by simp[bg.cells])⟩
theorem sG{W:World}{b:Nat}{m:bg}(h:cL W b m)(tmps:Array Value)(v:Value)(h4:tmps.getD 4 undef=.pointer (some ⟨b,0,none⟩))(h5:tmps.getD 5 undef=v):
  (results f230 tmps).run prog W=.ok (.tuple #[m.val,v]) W:=by
 obtain⟨h0,h1,h2,h3,h4',Yw,h6,h7,h8⟩:=h;simp only[Array.getD_eq_getD_getElem?]at h4 h5;simp[results,results230,go_sem,h4,h5,h0,h1,h2,h3,h4',Yw,h6,h7,h8]
theorem Wc{w w1:World}{o:Obj}(hb:Below (w.alloc o).heap.size (w.alloc o) w1){m:bg}(ho:o=.cells (aL m.wh m.nm m.kd m.fl m.ck m.of m.ln m.dt m.er) 132):∀j,j<9->(w1.cell? ⟨w.heap.size,j,none⟩).isSome=true:=fun j hj=>by
 subst ho;rw[hb.cell (p:=⟨w.heap.size,j,none⟩) (by simp)]
 match j,hj with
 |0,_|1,_|2,_|3,_|4,_|5,_|6,_|7,_|8,_=>simp[go_sem]
theorem kK{B b:Nat}{w W:World}(h:Below B w W)(hb:B<=b)(m:bg):Below B w (W.setCells b 0 m.cells):=bN h hb _ _ _ _ _ _ _ _ _
theorem Cf(rb:Nat)(s:ByteArray)(w:World)(h9:s.size<9):
  Calls prog 230 #[.pointer (some ⟨rb,0,none⟩),.string s] w fun e w'=>e=.returned (.tuple #[bg.zero.val,.int .i64 0])/\Below w.heap.size w w':=by
 go_enter func230,ntmps230;go_wp2;exact bodyPost_ret (v:=.tuple #[bg.zero.val,.int .i64 0]) (by simp[results,results230,go_sem,bg.zero]) rfl ⟨rfl,(Below.refl _ _).alloc (Nat.le_refl _) _⟩
theorem Aa(rb mb:Nat)(sz mx ph:Int)(us:List Int)(s:ByteArray)(w:World)(hs:s.size<=maxLen)(h9:9<=s.size)(hR:cW w rb mb sz mx ph us)(hc:bt s 0≠81\/mx<two s 7\/two s 3∈us):
  Calls prog 230 #[.pointer (some ⟨rb,0,none⟩),.string s] w fun e w'=>e=.panicked [{v:=GC 9,recovered:=false}]/\Below w.heap.size w w':=by
 have hh:Hid (∀W,Below w.heap.size w W->Calls prog 260 #[.pointer (some ⟨rb,0,none⟩),.string s] W fun e w'=>e=.panicked [{v:=GC 9,recovered:=false}]/\Below W.heap.size W w'):=fun W hW=>by exact(pZ rb mb sz mx ph us s W hs h9 (hR.later hW)).mono (fun e w' h=>by rw[if_pos hc]at h;exact h)
 unfold maxLen at hs;clear hR hc;go_enter func230,ntmps230;go_wp2_with (go_at_call 260;refine(hh.out _ ((Below.refl _ _).alloc (Nat.le_refl _) _)).mono ?_;rintro e w1 ⟨rfl,bz⟩);exact⟨rfl,rfl,((Below.refl _ _).alloc (Nat.le_refl _) _).trans (bz.mono (by simp))⟩
theorem zZ(rb mb:Nat)(sz mx ph:Int)(us:List Int)(s:ByteArray)(w:World)(hs:s.size<=maxLen)(h9:9<=s.size)(hR:cW w rb mb sz mx ph us)(hc:¬(bt s 0≠81\/mx<two s 7\/two s 3∈us))(hk:bt s 1=1)(hl:(s.size:Int)<9+two s 7):
  Calls prog 230 #[.pointer (some ⟨rb,0,none⟩),.string s] w fun e w'=>e=.returned (.tuple #[bg.zero.val,.int .i64 0])/\Below w.heap.size w w':=by
 have hh:Hid (∀W,Below w.heap.size w W->Calls prog 260 #[.pointer (some ⟨rb,0,none⟩),.string s] W fun e w'=>e=.returned (.agg (aL 3 ⟨#[]⟩ (bt s 1) (bt s 2) (two s 3) (two s 5) (two s 7) ⟨#[]⟩ 0))/\Below W.heap.size W w'):=fun W hW=>by exact(pZ rb mb sz mx ph us s W hs h9 (hR.later hW)).mono (fun e w' h=>by rw[if_neg hc]at h;exact h)
 have r7:=cj s 7;have kb:(bt s 1==1)=true:=by simpa using hk
 unfold maxLen at hs;clear hR hc hk;go_enter func230,ntmps230;go_wp2_with (go_at_call 260;refine(hh.out _ ((Below.refl _ _).alloc (Nat.le_refl _) _)).mono ?_;rintro e w1 ⟨rfl,bz⟩;obtain⟨zk,KO⟩:=cZ bz;have iC:w.heap.size<w1.heap.size:=(by have:=bz.size;simp at this;omega);have hx:∀(ob:Obj) (o:Nat),(w1.alloc ob).cell? ⟨w.heap.size,o,none⟩=w1.cell? ⟨w.heap.size,o,none⟩:=(fun ob o=>World.cell?_of_block (Below.heap_alloc w1 ob _ iC));have hy:∀(ob:Obj) (o:Nat),(w1.alloc ob).frozen? ⟨w.heap.size,o,none⟩=w1.frozen? ⟨w.heap.size,o,none⟩:=(fun ob o=>World.frozen?_of_block (Below.heap_alloc w1 ob _ iC)));have oX:Below w.heap.size w w1:=((Below.refl _ _).alloc (Nat.le_refl _) _).trans (bz.mono (by simp));have hA:=tL bg.zero (Wc (m:=bg.zero) bz rfl);have hlt:w.heap.size<(w1.setCells w.heap.size 0 bg.zero.cells).heap.size:=aZ hA.1
 exact bodyPost_ret (v:=.tuple #[bg.zero.val,.int .i64 0]) (sG (b:=w.heap.size) (m:=bg.zero) (cL.later (w:=w1.setCells w.heap.size 0 bg.zero.cells) hA ((Below.refl _ _).alloc (Nat.le_refl _) _) hlt) _ _ rfl rfl) rfl
  ⟨rfl,(kK oX (Nat.le_refl _) bg.zero).alloc (Nat.le_of_lt hlt) _⟩
theorem yj{W:World}{rb b:Nat}{sz:Int}{m:bg}{d:ByteArray}(h:W.cell? ⟨rb,0,none⟩=some (.int .i64 sz))(hne:rb≠b)(hb:W.heap[b]? =some (.cells (aL m.wh m.nm m.kd m.fl m.ck m.of m.ln ⟨#[]⟩ m.er) 132 (0,0))):
  jI rb b sz {m with dt:=d} (W.setCell ⟨b,7,none⟩ (.string d)).drew:=by
 refine⟨(World.cell?_setCell_far W ⟨b,7,none⟩ ⟨rb,0,none⟩ _ (Ne.symm hne)).trans h,?_,?_⟩
 ·have hc:∀j,j≠7->((W.setCell ⟨b,7,none⟩ (.string d)).drew).cell? ⟨b,j,none⟩=W.cell? ⟨b,j,none⟩:=fun j hj=>World.cell?_setCell_other W ⟨b,7,none⟩ ⟨b,j,none⟩ _ (fun e=>hj (by cases e;rfl));have h7:((W.setCell ⟨b,7,none⟩ (.string d)).drew).cell? ⟨b,7,none⟩=some (.string d):=World.cell?_setCell_same' W ⟨b,7,none⟩ _ (by simp[World.cell?,hb]);refine⟨?_,?_,?_,?_,?_,?_,?_,h7,?_⟩<;>(rw[hc _ (by decide)];simp[World.cell?,hb])
 ·show(W.setCell ⟨b,7,none⟩ (.string d)).frozen? ⟨b,8,none⟩=false;rw[World.frozen?_setCell];simp[World.frozen?,hb]
theorem jI.err{rb b:Nat}{sz:Int}{m:bg}{W:World}(h:jI rb b sz m W)(e:Int):cL (W.setCell ⟨b,8,none⟩ (.int .i64 e)) b {m with er:=e}:=by obtain⟨_,⟨h0,h1,h2,h3,h4,h5,h6,h7,h8⟩,_⟩:=h;have hc:∀j,j≠8->(W.setCell ⟨b,8,none⟩ (.int .i64 e)).cell? ⟨b,j,none⟩=W.cell? ⟨b,j,none⟩:=fun j hj=>World.cell?_setCell_other W ⟨b,8,none⟩ ⟨b,j,none⟩ _ (fun e=>hj (by cases e;rfl));exact⟨(hc 0 (by decide)).trans h0,(hc 1 (by decide)).trans h1,(hc 2 (by decide)).trans h2,(hc 3 (by decide)).trans h3,(hc 4 (by decide)).trans h4,(hc 5 (by decide)).trans h5,(hc 6 (by decide)).trans h6,(hc 7 (by decide)).trans h7,World.cell?_setCell_same' W ⟨b,8,none⟩ _ (by rw[h8];rfl)⟩
theorem tG{W:World}{b b' j:Nat}{o:Obj}{v:Value}(h:W.heap[b]? =some o)(hne:b≠b'):(W.setCell ⟨b',j,none⟩ v).heap[b]? =some o:=(Below.heap_setCell W ⟨b',j,none⟩ v b hne).trans h
theorem qO{W:World}{b:Nat}(h:W.heap[b]? =some (.cells (aL 0 ⟨#[]⟩ 0 0 0 0 0 ⟨#[]⟩ 0) 132 (0,0))):cL W b bg.zero:=by refine⟨?_,?_,?_,?_,?_,?_,?_,?_,?_⟩<;>simp[World.cell?,h,bg.zero]
theorem pG{W:World}{b:Nat}(h:W.heap[b]? =some (.cells (aL 0 ⟨#[]⟩ 0 0 0 0 0 ⟨#[]⟩ 0) 132 (0,0))):∀j,j<9->(W.cell? ⟨b,j,none⟩).isSome=true:=fun j hj=>by
 match j,hj with
 |0,_|1,_|2,_|3,_|4,_|5,_|6,_|7,_|8,_=>simp[World.cell?,h]
theorem Gi{w W:World}(m:bg)(tmps:Array Value)(v:Value)(h4:tmps.getD 4 undef=.pointer (some ⟨w.heap.size,0,none⟩))(h5:tmps.getD 5 undef=v)(hP:∀j,j<9->(W.cell? ⟨w.heap.size,j,none⟩).isSome=true)(hB:Below w.heap.size w W):
  bodyPost prog f230 (fun e w'=>e=.returned (.tuple #[m.val,v])/\Below w.heap.size w w') Exit.ret {tmps:=tmps,defers:=[]}
   (((((((((W.setCell ⟨w.heap.size,0,none⟩ (.int .i64 m.wh)).setCell ⟨w.heap.size,1,none⟩ (.string m.nm)).setCell ⟨w.heap.size,2,none⟩ (.int .i64 m.kd)).setCell ⟨w.heap.size,3,none⟩ (.int .i64 m.fl)).setCell ⟨w.heap.size,4,none⟩ (.int .i64 m.ck)).setCell ⟨w.heap.size,5,none⟩ (.int .i64 m.of)).setCell ⟨w.heap.size,6,none⟩ (.int .i64 m.ln)).setCell ⟨w.heap.size,7,none⟩ (.string m.dt)).setCell ⟨w.heap.size,8,none⟩ (.int .i64 m.er)):=
 bodyPost_ret (v:=.tuple #[m.val,v]) (sG (b:=w.heap.size) (tL (W:=W) m hP) tmps v h4 h5) rfl ⟨rfl,kK hB (Nat.le_refl _) m⟩
theorem mY{W W':World}{b:Nat}{o:Obj}(h:W.heap[b]? =some o)(hb:Below W.heap.size W W'):W'.heap[b]? =some o:=(hb.block b (Array.getElem?_eq_some_iff.1 h).1).trans h
theorem wZ(rb mb:Nat)(sz mx ph:Int)(us:List Int)(s:ByteArray)(w:World)(hs:s.size<=maxLen)(h9:9<=s.size)(hR:cW w rb mb sz mx ph us)(hc:¬(bt s 0≠81\/mx<two s 7\/two s 3∈us))(hk:bt s 1=1)(hl:¬(s.size:Int)<9+two s 7)(oF:s.size<=281474976710656):
  Calls prog 230 #[.pointer (some ⟨rb,0,none⟩),.string s] w fun e w'=>e=.returned (.tuple #[bg.val ⟨3,⟨#[]⟩,bt s 1,bt s 2,two s 3,two s 5,two s 7,s.extract 9 (9+two s 7).toNat,dL ⟨3,⟨#[]⟩,bt s 1,bt s 2,two s 3,two s 5,two s 7,s.extract 9 (9+two s 7).toNat,0⟩ sz⟩,.int .i64 (9+two s 7)])/\Below w.heap.size w w':=by
 have hh:Hid (∀W,Below w.heap.size w W->Calls prog 260 #[.pointer (some ⟨rb,0,none⟩),.string s] W fun e w'=>e=.returned (.agg (aL 3 ⟨#[]⟩ (bt s 1) (bt s 2) (two s 3) (two s 5) (two s 7) ⟨#[]⟩ 0))/\Below W.heap.size W w'):=fun W hW=>by exact(pZ rb mb sz mx ph us s W hs h9 (hR.later hW)).mono (fun e w' h=>by rw[if_neg hc]at h;exact h)
 have r5:=cj s 5;have r7:=cj s 7;have kb:(bt s 1==1)=true:=by simpa using hk
 have i9:(9:Int)<=s.size:=by omega
 have UR:=hR.cell;have hrb:=hR.lt.1;have HC:Hid (w.cell? ⟨rb,0,none⟩=some (.int .i64 sz)):=UR.1;unfold maxLen at hs;clear hR hc UR;clear hk;go_enter func230,ntmps230
 go_upto_region 10 with(first|(go_at_call 260;refine(hh.out _ ((Below.refl _ _).alloc (Nat.le_refl _) _)).mono ?_;rintro e w1 ⟨rfl,bz⟩;obtain⟨zk,KO⟩:=cZ bz;have iC:w.heap.size<w1.heap.size:=(by have:=bz.size;simp at this;omega))|(go_at_call 117;refine(ng _ _ (by simp<;>omega)).mono ?_;rintro e w2 ⟨rfl,bE⟩;obtain⟨Rc,Rg⟩:=cZ bE))
 have oX:Below w.heap.size w w1:=((Below.refl _ _).alloc (Nat.le_refl _) _).trans (bz.mono (by simp));have iX:Below w.heap.size w w2:=(oX.alloc (Nat.le_of_lt iC) _).trans (bE.mono (by simp;exact Nat.le_of_lt (Nat.lt_succ_of_lt iC)));have wS:w1.heap.size<w2.heap.size:=by have:=bE.size;simp at this;omega
 have hmb:w2.heap[w1.heap.size]? =some (.cells (aL 3 ⟨#[]⟩ (bt s 1) (bt s 2) (two s 3) (two s 5) (two s 7) ⟨#[]⟩ 0) 132 (0,0)):=(bE.block _ (by simp)).trans (heap_alloc_new w1 _);have eD:w2.heap[w.heap.size]? =some (.cells (aL 0 ⟨#[]⟩ 0 0 0 0 0 ⟨#[]⟩ 0) 132 (0,0)):=(bE.block _ (by simp;omega)).trans ((Below.heap_alloc _ _ _ iC).trans ((bz.block _ (by simp)).trans (heap_alloc_new w _)));have mD:jI rb w1.heap.size sz ⟨3,⟨#[]⟩,bt s 1,bt s 2,two s 3,two s 5,two s 7,s.extract 9 (9+two s 7).toNat,0⟩ (w2.setCell ⟨w1.heap.size,7,none⟩ (.string (s.extract 9 (9+two s 7).toNat))).drew:=yj (W:=w2) (rb:=rb) (b:=w1.heap.size) (m:=⟨3,⟨#[]⟩,bt s 1,bt s 2,two s 3,two s 5,two s 7,⟨#[]⟩,0⟩) (d:=(s.extract 9 (9+two s 7).toNat)) (((iX.cell (p:=⟨rb,0,none⟩) hrb).trans HC.out)) (by omega) hmb;have HX:Hid ((w2.setCell ⟨w1.heap.size,7,none⟩ (.string (s.extract 9 (9+two s 7).toNat))).heap[w.heap.size]? =some (.cells (aL 0 ⟨#[]⟩ 0 0 0 0 0 ⟨#[]⟩ 0) 132 (0,0))):=tG eD (by omega);have HW:Hid (Below w.heap.size w (w2.setCell ⟨w1.heap.size,7,none⟩ (.string (s.extract 9 (9+two s 7).toNat)))):=iX.setCell (p:=⟨w1.heap.size,7,none⟩) (Nat.le_of_lt iC) _;clear zk KO Rc Rg bz bE oX iX hmb eD;have HB:Hid (jI rb w1.heap.size sz ⟨3,⟨#[]⟩,bt s 1,bt s 2,two s 3,two s 5,two s 7,s.extract 9 (9+two s 7).toNat,0⟩ (w2.setCell ⟨w1.heap.size,7,none⟩ (.string (s.extract 9 (9+two s 7).toNat))).drew):=mD;obtain⟨hb0,⟨hm0,hm1,hm2,Vh,PF,MP,Zi,Zj,Zk⟩,KI⟩:=mD
 go_cut [7] (fun q w'=>q=.int .i64 (9+two s 7)/\cL w' w1.heap.size ⟨3,⟨#[]⟩,bt s 1,bt s 2,two s 3,two s 5,two s 7,s.extract 9 (9+two s 7).toNat,dL ⟨3,⟨#[]⟩,bt s 1,bt s 2,two s 3,two s 5,two s 7,s.extract 9 (9+two s 7).toNat,0⟩ sz⟩/\Below w.heap.size w w'/\w'.heap[w.heap.size]? =some (.cells (aL 0 ⟨#[]⟩ 0 0 0 0 0 ⟨#[]⟩ 0) 132 (0,0)))
 case first=>
  refine wp_region_noPanic ?_;refine wp_region_held_drew (S:=fun w'=>w'.cell? ⟨rb,0,none⟩=some (.int .i64 sz)/\w'.frozen? ⟨w1.heap.size,8,none⟩=false) (by kernel_rfl) ⟨hb0,KI⟩ ?_;intro hHeld;refine tk 1 ?_;refine tk 2 ?_;refine tk 3 ?_;refine tk 4 ?_;refine rH 0 fun K hK=>?_;go_simp;refine hK.out _ _ (hHeld) (fun hH0=>?_);clear hK K;refine rH 5 fun K hK=>?_;go_simp
  (refine(xE ⟨3,⟨#[]⟩,bt s 1,bt s 2,two s 3,two s 5,two s 7,s.extract 9 (9+two s 7).toNat,0⟩ sz _ r5.1 r5.2 r7.1 r7.2).mono ?_;rintro e w3 ⟨rfl,jS⟩;have hq8:w3.cell? ⟨w1.heap.size,8,none⟩=some (.int .i64 0):=(jI.later HB.out jS).2.1.2.2.2.2.2.2.2.2;have hqf:w3.frozen? ⟨w1.heap.size,8,none⟩=false:=(jI.later HB.out jS).2.2)
  go_wp2_with fail;refine hK.out _ _ (⟨(jI.later HB.out jS).1,(jI.later HB.out jS).2.2⟩) (fun BG=>?_);clear hK K;refine tk 6 ?_;refine rH 7 fun K hK=>?_;go_simp;refine hK.out _ _ (⟨(World.cell?_setCell_far _ ⟨w1.heap.size,8,none⟩ ⟨rb,0,none⟩ _ (by show w1.heap.size≠rb;omega)).trans BG.1,(World.frozen?_setCell _ _ _ _).trans BG.2⟩) (fun NC=>?_);clear hK K;refine wpAnyH_done (by kernel_rfl) ?_ _
  (refine NoPanic.normal ?_;go_wp2_with fail;go_meet;case rel=>exact⟨rfl,(jI.later HB.out jS).err _,((HW.out.drew).trans (jS.mono (by exact HW.out.size))).setCell (p:=⟨w1.heap.size,8,none⟩) (Nat.le_of_lt iC) _,tG (mY (by exact HX.out) jS) (by omega)⟩)
 case rest=>
  clear hm0 hm1 hm2 Vh PF MP Zi Zj Zk hb0 KI HB HX HW HC hh;obtain⟨rfl,⟨z0,z1,z2,z3,z4,z5,z6,z7,z8⟩,hBw,eD⟩:=hcut;have p9:∀j,j<9->(wc.cell? ⟨w.heap.size,j,none⟩).isSome=true:=fun j hj=>pG eD j hj;have P9:Hid (∀j,j<9->(wc.cell? ⟨w.heap.size,j,none⟩).isSome=true):=p9;obtain⟨p0,p1,p2,p3,p4,p5,p6,p7,p8⟩:=qO eD;have pf:∀j,wc.frozen? ⟨w.heap.size,j,none⟩=false:=fun j=>by simp[World.frozen?,eD]
  have HBx:Hid (wc.heap[w.heap.size]? =some (.cells (aL 0 ⟨#[]⟩ 0 0 0 0 0 ⟨#[]⟩ 0) 132 (0,0))):=eD;have XI:Hid (Below w.heap.size w wc):=hBw;clear eD p9 hBw;go_wp2;exact Gi (W:=wc) ⟨3,⟨#[]⟩,bt s 1,bt s 2,two s 3,two s 5,two s 7,s.extract 9 (9+two s 7).toNat,dL ⟨3,⟨#[]⟩,bt s 1,bt s 2,two s 3,two s 5,two s 7,s.extract 9 (9+two s 7).toNat,0⟩ sz⟩ _ _ rfl rfl P9.out XI.out
theorem wY(rb mb:Nat)(sz mx ph:Int)(us:List Int)(s:ByteArray)(w:World)(hs:s.size<=maxLen)(h9:9<=s.size)(hR:cW w rb mb sz mx ph us)(hc:¬(bt s 0≠81\/mx<two s 7\/two s 3∈us))(hk:¬bt s 1=1)(oF:s.size<=281474976710656):
  Calls prog 230 #[.pointer (some ⟨rb,0,none⟩),.string s] w fun e w'=>e=.returned (.tuple #[bg.val ⟨3,⟨#[]⟩,bt s 1,bt s 2,two s 3,two s 5,two s 7,ByteArray.empty,dL ⟨3,⟨#[]⟩,bt s 1,bt s 2,two s 3,two s 5,two s 7,ByteArray.empty,0⟩ sz⟩,.int .i64 9])/\Below w.heap.size w w':=by
 have hh:Hid (∀W,Below w.heap.size w W->Calls prog 260 #[.pointer (some ⟨rb,0,none⟩),.string s] W fun e w'=>e=.returned (.agg (aL 3 ⟨#[]⟩ (bt s 1) (bt s 2) (two s 3) (two s 5) (two s 7) ⟨#[]⟩ 0))/\Below W.heap.size W w'):=fun W hW=>by exact(pZ rb mb sz mx ph us s W hs h9 (hR.later hW)).mono (fun e w' h=>by rw[if_neg hc]at h;exact h)
 have r5:=cj s 5;have r7:=cj s 7;have kb:(bt s 1==1)=false:=by simpa using hk
 have i9:(9:Int)<=s.size:=by omega
 have UR:=hR.cell;have hrb:=hR.lt.1;have HC:Hid (w.cell? ⟨rb,0,none⟩=some (.int .i64 sz)):=UR.1;unfold maxLen at hs;clear hR hc UR;clear hk;go_enter func230,ntmps230
 go_upto_region 10 with(first|(go_at_call 260;refine(hh.out _ ((Below.refl _ _).alloc (Nat.le_refl _) _)).mono ?_;rintro e w1 ⟨rfl,bz⟩;obtain⟨zk,KO⟩:=cZ bz;have iC:w.heap.size<w1.heap.size:=(by have:=bz.size;simp at this;omega))|(go_at_call 117;refine(ng _ _ (by simp<;>omega)).mono ?_;rintro e w2 ⟨rfl,bE⟩;obtain⟨Rc,Rg⟩:=cZ bE))
 have oX:Below w.heap.size w w1:=((Below.refl _ _).alloc (Nat.le_refl _) _).trans (bz.mono (by simp));have iX:Below w.heap.size w w2:=(oX.alloc (Nat.le_of_lt iC) _).trans (bE.mono (by simp;exact Nat.le_of_lt (Nat.lt_succ_of_lt iC)));have wS:w1.heap.size<w2.heap.size:=by have:=bE.size;simp at this;omega
 have hmb:w2.heap[w1.heap.size]? =some (.cells (aL 3 ⟨#[]⟩ (bt s 1) (bt s 2) (two s 3) (two s 5) (two s 7) ⟨#[]⟩ 0) 132 (0,0)):=(bE.block _ (by simp)).trans (heap_alloc_new w1 _);have eD:w2.heap[w.heap.size]? =some (.cells (aL 0 ⟨#[]⟩ 0 0 0 0 0 ⟨#[]⟩ 0) 132 (0,0)):=(bE.block _ (by simp;omega)).trans ((Below.heap_alloc _ _ _ iC).trans ((bz.block _ (by simp)).trans (heap_alloc_new w _)));have mD:jI rb w1.heap.size sz ⟨3,⟨#[]⟩,bt s 1,bt s 2,two s 3,two s 5,two s 7,ByteArray.empty,0⟩ (w2.setCell ⟨w1.heap.size,7,none⟩ (.string (ByteArray.empty))).drew:=yj (W:=w2) (rb:=rb) (b:=w1.heap.size) (m:=⟨3,⟨#[]⟩,bt s 1,bt s 2,two s 3,two s 5,two s 7,⟨#[]⟩,0⟩) (d:=(ByteArray.empty)) (((iX.cell (p:=⟨rb,0,none⟩) hrb).trans HC.out)) (by omega) hmb;have HX:Hid ((w2.setCell ⟨w1.heap.size,7,none⟩ (.string (ByteArray.empty))).heap[w.heap.size]? =some (.cells (aL 0 ⟨#[]⟩ 0 0 0 0 0 ⟨#[]⟩ 0) 132 (0,0))):=tG eD (by omega);have HW:Hid (Below w.heap.size w (w2.setCell ⟨w1.heap.size,7,none⟩ (.string (ByteArray.empty)))):=iX.setCell (p:=⟨w1.heap.size,7,none⟩) (Nat.le_of_lt iC) _;clear zk KO Rc Rg bz bE oX iX hmb eD;have HB:Hid (jI rb w1.heap.size sz ⟨3,⟨#[]⟩,bt s 1,bt s 2,two s 3,two s 5,two s 7,ByteArray.empty,0⟩ (w2.setCell ⟨w1.heap.size,7,none⟩ (.string (ByteArray.empty))).drew):=mD;obtain⟨hb0,⟨hm0,hm1,hm2,Vh,PF,MP,Zi,Zj,Zk⟩,KI⟩:=mD
 go_cut [7] (fun q w'=>q=.int .i64 9/\cL w' w1.heap.size ⟨3,⟨#[]⟩,bt s 1,bt s 2,two s 3,two s 5,two s 7,ByteArray.empty,dL ⟨3,⟨#[]⟩,bt s 1,bt s 2,two s 3,two s 5,two s 7,ByteArray.empty,0⟩ sz⟩/\Below w.heap.size w w'/\w'.heap[w.heap.size]? =some (.cells (aL 0 ⟨#[]⟩ 0 0 0 0 0 ⟨#[]⟩ 0) 132 (0,0)))
 case first=>
  refine wp_region_noPanic ?_;refine wp_region_held_drew (S:=fun w'=>w'.cell? ⟨rb,0,none⟩=some (.int .i64 sz)/\w'.frozen? ⟨w1.heap.size,8,none⟩=false) (by kernel_rfl) ⟨hb0,KI⟩ ?_;intro hHeld;refine tk 1 ?_;refine tk 2 ?_;refine tk 3 ?_;refine tk 4 ?_;refine rH 0 fun K hK=>?_;go_simp;refine hK.out _ _ (hHeld) (fun hH0=>?_);clear hK K;refine rH 5 fun K hK=>?_;go_simp
  (refine(xE ⟨3,⟨#[]⟩,bt s 1,bt s 2,two s 3,two s 5,two s 7,ByteArray.empty,0⟩ sz _ r5.1 r5.2 r7.1 r7.2).mono ?_;rintro e w3 ⟨rfl,jS⟩;have hq8:w3.cell? ⟨w1.heap.size,8,none⟩=some (.int .i64 0):=(jI.later HB.out jS).2.1.2.2.2.2.2.2.2.2;have hqf:w3.frozen? ⟨w1.heap.size,8,none⟩=false:=(jI.later HB.out jS).2.2)
  go_wp2_with fail;refine hK.out _ _ (⟨(jI.later HB.out jS).1,(jI.later HB.out jS).2.2⟩) (fun BG=>?_);clear hK K;refine tk 6 ?_;refine rH 7 fun K hK=>?_;go_simp;refine hK.out _ _ (⟨(World.cell?_setCell_far _ ⟨w1.heap.size,8,none⟩ ⟨rb,0,none⟩ _ (by show w1.heap.size≠rb;omega)).trans BG.1,(World.frozen?_setCell _ _ _ _).trans BG.2⟩) (fun NC=>?_);clear hK K;refine wpAnyH_done (by kernel_rfl) ?_ _
  (refine NoPanic.normal ?_;go_wp2_with fail;go_meet;case rel=>exact⟨rfl,(jI.later HB.out jS).err _,((HW.out.drew).trans (jS.mono (by exact HW.out.size))).setCell (p:=⟨w1.heap.size,8,none⟩) (Nat.le_of_lt iC) _,tG (mY (by exact HX.out) jS) (by omega)⟩)
 case rest=>
  clear hm0 hm1 hm2 Vh PF MP Zi Zj Zk hb0 KI HB HX HW HC hh;obtain⟨rfl,⟨z0,z1,z2,z3,z4,z5,z6,z7,z8⟩,hBw,eD⟩:=hcut;have p9:∀j,j<9->(wc.cell? ⟨w.heap.size,j,none⟩).isSome=true:=fun j hj=>pG eD j hj;have P9:Hid (∀j,j<9->(wc.cell? ⟨w.heap.size,j,none⟩).isSome=true):=p9;obtain⟨p0,p1,p2,p3,p4,p5,p6,p7,p8⟩:=qO eD;have pf:∀j,wc.frozen? ⟨w.heap.size,j,none⟩=false:=fun j=>by simp[World.frozen?,eD]
  have HBx:Hid (wc.heap[w.heap.size]? =some (.cells (aL 0 ⟨#[]⟩ 0 0 0 0 0 ⟨#[]⟩ 0) 132 (0,0))):=eD;have XI:Hid (Below w.heap.size w wc):=hBw;clear eD p9 hBw;go_wp2;exact Gi (W:=wc) ⟨3,⟨#[]⟩,bt s 1,bt s 2,two s 3,two s 5,two s 7,ByteArray.empty,dL ⟨3,⟨#[]⟩,bt s 1,bt s 2,two s 3,two s 5,two s 7,ByteArray.empty,0⟩ sz⟩ _ _ rfl rfl P9.out XI.out
theorem Wj(s:ByteArray)(sz:Int)(d:ByteArray)(hz:0<=sz):dL ⟨3,⟨#[]⟩,bt s 1,bt s 2,two s 3,two s 5,two s 7,d,0⟩ sz=verdict sz (bt s 1) (bt s 2) (two s 5) (two s 7):=
 GK _ sz (bO s 1).1 (bO s 2).1 hz
theorem sF(rb mb:Nat)(sz mx ph:Int)(us:List Int)(s:ByteArray)(w:World)(hz:0<=sz)(oF:s.size<=281474976710656)(hR:cW w rb mb sz mx ph us):
  Calls prog 230 #[.pointer (some ⟨rb,0,none⟩),.string s] w fun e w'=>Ends (cS sz mx us s) e/\Below w.heap.size w w':=by
 have hs:s.size<=maxLen:=by unfold maxLen;omega
 by_cases h9:s.size<9
 ·refine(Cf rb s w h9).mono fun e w' h=>⟨.inr ?_,h.2⟩;unfold cS;rw[if_pos h9];exact⟨by decide,h.1⟩
 ·have Uq:9<=s.size:=by omega
  by_cases hc:bt s 0≠81\/mx<two s 7\/two s 3∈us
  ·refine(Aa rb mb sz mx ph us s w hs Uq hR hc).mono fun e w' h=>⟨.inl ?_,h.2⟩;unfold cS;rw[if_neg h9,if_pos hc];exact⟨rfl,h.1⟩
  ·by_cases hk:bt s 1=1
   ·by_cases hl:(s.size:Int)<9+two s 7
    ·refine(zZ rb mb sz mx ph us s w hs Uq hR hc hk hl).mono fun e w' h=>⟨.inr ?_,h.2⟩;unfold cS;rw[if_neg h9,if_neg hc,if_pos hk,if_pos hl];exact⟨by decide,h.1⟩
    ·refine(wZ rb mb sz mx ph us s w hs Uq hR hc hk hl oF).mono fun e w' h=>⟨.inr ?_,h.2⟩;unfold cS;rw[if_neg h9,if_neg hc,if_pos hk,if_neg hl];refine⟨show(3:Int)≠4 by decide,?_⟩;rw[h.1,Wj s sz _ hz]
   ·refine(wY rb mb sz mx ph us s w hs Uq hR hc hk oF).mono fun e w' h=>⟨.inr ?_,h.2⟩;unfold cS;rw[if_neg h9,if_neg hc,if_neg hk];refine⟨show(3:Int)≠4 by decide,?_⟩;rw[h.1,Wj s sz _ hz];rfl
end
section
open Go.Proofs.Tryz
open Go.RowKit
attribute [local go_sem ↓] Go.wp_at_zero Go.wp_at_succ
attribute [local go_sem] au aj
theorem vF(n:Int)(w:World):(Instr.typeAssert (GC n) 20 294 true).run prog w=.ok (.tuple #[.agg #[.int .i64 n],.bool true]) w:=by simp[Instr.typeAssert,run_underlying underlying294,go_sem,Result.andThen]
theorem Bi(n:Int)(w:World):
  Calls prog 227 #[GC n] w fun e w'=>e=.returned (.tuple #[bg.closing.val,.int .i64 n])/\Below w.heap.size w w':=by
 have hta:=vF n;go_enter func227,ntmps227;go_wp2
 go_region
 all_goals (go_wp2)
 exact bodyPost_ret (v:=.tuple #[bg.closing.val,.int .i64 n]) (by simp[results,results227,go_sem,bg.closing]) rfl ⟨rfl,(((Below.refl _ _).alloc (Nat.le_refl _) _).alloc (by simp) _).drew⟩
theorem jN(W:World)(b j:Nat)(v:Value):W.grownBy (W.setCell ⟨b,j,none⟩ v) (some b):=⟨rfl,rfl,rfl,by simp[World.setCell],fun k _ hk=>Below.heap_setCell W ⟨b,j,none⟩ v k (fun e=>hk (by rw[e]))⟩
theorem xB(p q:Addr)(w:World):
  CallsD prog 226 #[.pointer (some p),.pointer (some q)] .returning w fun e u' w'=>e=.returned (.tuple #[])/\u'=.returning/\w'=w:=by
 refine callsD_of_wpS func226 rfl fun c₀ cs hu=>?_;apply wpS_seq;apply wpS_region;simp[wpOpsS,go_sem,recoverD,hu,ntmps226,Exit.thenS];apply wpS_seq;apply wpS_region;simp[wpOpsS,go_sem,Exit.thenS];refine wpS_cond (t:=false) (by simp[Act.eval,Array.replicate]) ?_;simp only[Bool.false_eq_true,if_false];refine wpS_of_wp (wp_skip ?_);cases c₀
 simp_all[bodyPostS,results,results226]
theorem Bq(bm bn:Nat)(n:Int)(older:List PanicEntry)(w:World)(hne:bm≠bn)(hm:w.heap[bm]? =some (.cells (aL 0 ⟨#[]⟩ 0 0 0 0 0 ⟨#[]⟩ 0) 132 (0,0)))(hn:w.heap[bn]? =some (.cells #[.int .i64 0] 3 (0,0))):
  CallsD prog 226 #[.pointer (some ⟨bm,0,none⟩),.pointer (some ⟨bn,0,none⟩)] (.panicking ({v:=GC n,recovered:=false}::older)) w fun e u' w'=>
   e=.returned (.tuple #[])/\u'=.panicking ({v:=GC n,recovered:=true}::older)/\cL w' bm bg.closing/\w'.cell? ⟨bn,0,none⟩=some (.int .i64 n)/\∀B,B<=bm->B<=bn->B<=w.heap.size->Below B w w':=by
 refine callsD_of_wpS func226 rfl fun c₀ cs hu=>?_;apply wpS_seq;apply wpS_region;simp[wpOpsS,go_sem,recoverD,hu,ntmps226,Exit.thenS];apply wpS_seq;apply wpS_region;simp[wpOpsS,go_sem,Exit.thenS];refine wpS_cond (t:=true) (by simp[Act.eval,Array.replicate]) ?_;simp only[if_true];refine wpS_of_wp ?_;simp only[Array.replicate_succ,Array.replicate_zero,List.push_toArray,List.nil_append,List.cons_append,List.append_toArray,List.setIfInBounds_toArray,List.set_cons_zero,List.set_cons_succ];have HM:Hid (w.heap[bm]? =some (.cells (aL 0 ⟨#[]⟩ 0 0 0 0 0 ⟨#[]⟩ 0) 132 (0,0))):=hm;have HN:Hid (w.heap[bn]? =some (.cells #[.int .i64 0] 3 (0,0))):=hn;clear hm hn hu;go_wp2_with (go_at_call 227;refine(Bi n _).mono ?_;rintro e w1 ⟨rfl,bz⟩;have hm1:=mY HM.out bz;have hn1:=mY HN.out bz;obtain⟨p0,p1,p2,p3,p4,p5,p6,p7,p8⟩:=qO hm1;have pf:∀j,w1.frozen? ⟨bm,j,none⟩=false:=(fun j=>by simp[World.frozen?,hm1]);have q0:w1.cell? ⟨bn,0,none⟩=some (.int .i64 0):=(by simp[World.cell?,hn1]);have qf:w1.frozen? ⟨bn,0,none⟩=false:=(by simp[World.frozen?,hn1]);have HM1:Hid (w1.heap[bm]? =some (.cells (aL 0 ⟨#[]⟩ 0 0 0 0 0 ⟨#[]⟩ 0) 132 (0,0))):=hm1;have HN1:Hid (w1.heap[bn]? =some (.cells #[.int .i64 0] 3 (0,0))):=hn1;clear hm1 hn1);have hA:=tL (W:=w1) (b:=bm) bg.closing (pG HM1.out);refine⟨rfl,_,rfl,.tuple #[],by simp[results,results226],rfl,rfl,?_,?_,?_⟩
 ·exact cL.cG (w:=w1.setCells bm 0 bg.closing.cells) (row:=some bn) hA (jN _ _ _ _) (aZ hA.1) (by simp;exact hne)
 ·refine World.cell?_setCell_same' (w1.setCells bm 0 bg.closing.cells) ⟨bn,0,none⟩ _ ?_;have e:(w1.setCells bm 0 bg.closing.cells).cell? ⟨bn,0,none⟩=w1.cell? ⟨bn,0,none⟩:=World.cell?_setCells_out bm bg.closing.cells 0 w1 ⟨bn,0,none⟩ (fun h=>absurd h (Ne.symm hne));rw[e,q0];rfl
 ·intro B h1 h2 h3;exact(kK (bz.mono h3) h1 bg.closing).setCell (p:=⟨bn,0,none⟩) h2 _
end
end Go.Proofs.YtpobhljcainmdaaGreat
