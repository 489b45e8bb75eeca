/- Proved here: a part of what Doors keeps (Dr2, Dr3, Dr4, Dr5, Dr6). -/
import Derived.Test.YtpobhljcainmdaaGreatJ01
import Derived.Test.YtpobhljcainmdaaGreatJ41
set_option maxRecDepth 100000
set_option maxHeartbeats 8000000
set_option linter.all false
namespace Go.Proofs.YtpobhljcainmdaaGreat
section
open Go.Proofs.Tryz
open Go Go.Conc Go.RowKit
theorem qF{X:Nat->Prop}{W W':World}(hh:W'.heap=W.heap)(ho:W'.os=W.os):aF X W W':=⟨ho,by rw[hh];exact Nat.le_refl _,fun k _ _=>by rw[hh]⟩
theorem jM{B:Nat->Prop}{W W':World}(h:∀b,B b->b<W.heap.size)(hs:W.heap.size<=W'.heap.size):∀b,grown B W W' b->b<W'.heap.size:=fun b hb=>hb.elim (fun hb=>Nat.lt_of_lt_of_le (h b hb) hs) (·.2)
section
variable [aR]
structure Duo(W:World)(f:Fy)(pb:Nat)(B:Nat->Prop):Prop where
 at_:∃xb yb Bx By,W.heap[pb]? =some (.cells #[pt xb,pt yb] 143 (0,0))/\dS W f xb Bx/\ed W f yb By/\(∀b,Bx b->¬By b)/\(∀b,Bx b\/By b->B b)
 out:¬B pb
 lt:∀b,B b->b<W.heap.size
variable {w w' w1 w2:World} {f f':Fy} {pb xb yb n:Nat} {B Bx By X:Nat->Prop}
theorem Duo.old(h:Duo w f pb B)(ht:aF X w w')(hX:∀b,B b->¬X b)(hp:¬X pb):Duo w' f pb B:=by obtain⟨⟨xb,yb,Bx,By,h1,h2,h3,h4,h5⟩,ho,hl⟩:=h;exact⟨⟨xb,yb,Bx,By,aN ht h1 hp,h2.old ht (fun b hb=>hX b (h5 b (.inl hb))),h3.old ht (fun b hb=>hX b (h5 b (.inr hb))),h4,h5⟩,ho,fun b hb=>Nat.lt_of_lt_of_le (hl b hb) ht.size⟩
theorem Duo.below(h:Duo w f pb B)(hb:Below w.heap.size w w'):Duo w' f pb B:=h.old (X:=fun _=>False) (aF.below hb) (fun _ _ h=>h) (fun h=>h)
theorem Duo.same(h:Duo w f pb B)(hh:w'.heap=w.heap)(ho:w'.os=w.os):Duo w' f pb B:=h.old (X:=fun _=>False) (qF hh ho) (fun _ _ h=>h) (fun h=>h)
theorem Duo.grow(h:Duo w' f pb B)(hp:pb<w.heap.size):Duo w' f pb (grown B w w'):=by obtain⟨⟨xb,yb,Bx,By,h1,h2,h3,h4,h5⟩,ho,hl⟩:=h;exact⟨⟨xb,yb,Bx,By,h1,h2,h3,h4,fun b hb=>.inl (h5 b hb)⟩,fun hb=>hb.elim ho (fun h=>by omega),fun b hb=>hb.elim (hl b) (·.2)⟩
theorem Duo.nX(h:Duo w f pb B):pb<w.heap.size:=by obtain⟨xb,yb,Bx,By,h1,_⟩:=h.at_;exact(Array.getElem?_eq_some_iff.1 h1).1
structure cm(W:World)(f g:Fy)(pb xb yb:Nat)(Bx By B:Nat->Prop):Prop where
 box:W.heap[pb]? =some (.cells #[pt xb,pt yb] 143 (0,0))
 pr:dS W f xb Bx
 re:ed W g yb By
 apart:∀b,Bx b->¬By b
 dO:∀b,Bx b\/By b->B b
 out:¬B pb
 lt:∀b,B b->b<W.heap.size
theorem Duo.open(h:Duo w f pb B):∃xb yb Bx By,cm w f f pb xb yb Bx By B:=by obtain⟨⟨xb,yb,Bx,By,h1,h2,h3,h4,h5⟩,ho,hl⟩:=h;exact⟨xb,yb,Bx,By,h1,h2,h3,h4,h5,ho,hl⟩
theorem cm.shut(h:cm w f f pb xb yb Bx By B):Duo w f pb B:=⟨⟨xb,yb,Bx,By,h.box,h.pr,h.re,h.apart,h.dO⟩,h.out,h.lt⟩
theorem cm.same{g:Fy}(h:cm w f g pb xb yb Bx By B)(hh:w'.heap=w.heap)(ho:w'.os=w.os):cm w' f g pb xb yb Bx By B:=
 ⟨by rw[hh];exact h.box,h.pr.old (X:=fun _=>False) (qF hh ho) (fun _ _ h=>h),h.re.old (X:=fun _=>False) (qF hh ho) (fun _ _ h=>h),h.apart,h.dO,h.out,by rw[hh];exact h.lt⟩
theorem cm.nX{g:Fy}(h:cm w f g pb xb yb Bx By B):pb<w.heap.size:=(Array.getElem?_eq_some_iff.1 h.box).1
theorem cm.left{g:Fy}(h:cm w f g pb xb yb Bx By B)(hp:dS w1 f' xb (grown Bx w w1))(ht:aF Bx w w1):cm w1 f' g pb xb yb (grown Bx w w1) By (grown B w w1):=by
 have NS:=h.nX;refine⟨aN ht h.box fun e=>h.out (h.dO _ (.inl e)),hp,h.re.old ht fun b hb hx=>h.apart b hx hb,fun b hb hy=>?_,fun b hb=>?_,fun hb=>?_,jM h.lt ht.size⟩
 ·rcases hb with hb|hb
  ·exact h.apart b hb hy
  ·have:=h.re.lt b hy;omega
 ·rcases hb with(hb|hb)|hb
  ·exact .inl (h.dO b (.inl hb))
  ·exact .inr hb
  ·exact .inl (h.dO b (.inr hb))
 ·rcases hb with hb|hb
  ·exact h.out hb
  ·omega
theorem cm.right{g:Fy}(h:cm w f g pb xb yb Bx By B)(hp:ed w1 f' yb (grown By w w1))(ht:aF By w w1):cm w1 f f' pb xb yb Bx (grown By w w1) (grown B w w1):=by
 have NS:=h.nX;refine⟨aN ht h.box fun e=>h.out (h.dO _ (.inr e)),h.pr.old ht fun b hb hx=>h.apart b hb hx,hp,fun b hb hy=>?_,fun b hb=>?_,fun hb=>?_,jM h.lt ht.size⟩
 ·rcases hy with hy|hy
  ·exact h.apart b hb hy
  ·have:=h.pr.lt b hb;omega
 ·rcases hb with hb|hb|hb
  ·exact .inl (h.dO b (.inl hb))
  ·exact .inl (h.dO b (.inr hb))
  ·exact .inr hb
 ·rcases hb with hb|hb
  ·exact h.out hb
  ·omega
theorem cm.below{g:Fy}(h:cm w f g pb xb yb Bx By B)(hb:Below w.heap.size w w1):cm w1 f g pb xb yb Bx By B:=
 ⟨aM hb h.box,h.pr.old (X:=fun _=>False) (aF.below hb) (fun _ _ h=>h),h.re.old (X:=fun _=>False) (aF.below hb) (fun _ _ h=>h),h.apart,h.dO,h.out,fun b hB=>Nat.lt_of_lt_of_le (h.lt b hB) hb.size⟩
theorem cm.cells{g:Fy}(h:cm w f g pb xb yb Bx By B):w.cell? ⟨pb,0,none⟩=some (pt xb)/\w.cell? ⟨pb,1,none⟩=some (pt yb):=⟨af h.box rfl,af h.box rfl⟩
theorem xK{b:Nat}(h:grown (grown B w w1) w1 w2 b)(hs:w1.heap.size<=w2.heap.size)(hs0:w.heap.size<=w1.heap.size):grown B w w2 b:=by
 rcases h with(h|h)|h
 ·exact .inl h
 ·exact .inr (by omega)
 ·exact .inr (by omega)
theorem cm.into{g:Fy}{B':Nat->Prop}(h:cm w f g pb xb yb Bx By B)(hB:∀b,B b->B' b)(ho:¬B' pb)(hl:∀b,B' b->b<w.heap.size):cm w f g pb xb yb Bx By B':=
 ⟨h.box,h.pr,h.re,h.apart,fun b hb=>hB b (h.dO b hb),ho,hl⟩
end
end
section
open Go.Proofs.Tryz
open Go Go.Conc Go.RowKit
attribute [local go_sem ↓] Go.wp_at_zero Go.wp_at_succ
attribute [local go_sem] au aj
abbrev OJ(a0 a1 a2 a3 a4 a5 a6 a7:Int):Array Value:=#[.int .i64 a0,.int .i64 a1,.int .i64 a2,.int .i64 a3,.int .i64 a4,.int .i64 a5,.int .i64 a6,.int .i64 a7]
theorem Cm(a0 a1 a2 a3 a4 a5 a6 a7:Int)(w:World):Calls prog 136 #[.agg (OJ a0 a1 a2 a3 a4 a5 a6 a7),.agg (OJ a0 a1 a2 a3 a4 a5 a6 a7)] w fun e w'=>e=.returned (.bool true)/\Below w.heap.size w w':=by have bb:Below w.heap.size w ((w.alloc (.cells (OJ a0 a1 a2 a3 a4 a5 a6 a7) 68)).alloc (.cells (OJ a0 a1 a2 a3 a4 a5 a6 a7) 68)):=((Below.refl _ _).alloc (Nat.le_refl _) _).alloc (by simp) _;go_enter func136,ntmps136;go_wp2;go_ret;exact⟨rfl,bb⟩
theorem Fl(f:Fy)(u:Int):∃a0 a1 a2 a3 a4 a5 a6 a7,f.tells u=.agg (OJ a0 a1 a2 a3 a4 a5 a6 a7):=by
 unfold Fy.tells;cases cH f.K u with
 |none=>exact⟨0,0,0,0,0,0,0,0,rfl⟩
 |some k=>exact⟨_,_,_,_,_,_,_,_,rfl⟩
section
variable [aR] {f:Fy} {pb xb yb n:Nat} {B Bx By:Nat->Prop}
theorem uq(u:Int)(w:World)(h:cm w f f pb xb yb Bx By B)(hok:f.Ok n):
  Calls prog 87 #[pt pb,.int .i64 u] w fun e w'=>e=.returned (.bool true)/\Below w.heap.size w w':=by
 obtain⟨a0,a1,a2,a3,a4,a5,a6,a7,ht⟩:=Fl f u
 have HX:Hid (∀W,Below w.heap.size w W->Calls prog 34 #[.pointer (some ⟨xb,0,none⟩),.int .i64 u] W fun e w'=>e=.returned (.tuple #[.agg (OJ a0 a1 a2 a3 a4 a5 a6 a7),.int .i64 (f.gp u)])/\Below W.heap.size W w'):=fun W hW=>by have:=(h.below hW).pr.tells hok u;rw[ht]at this;exact this
 have HY:Hid (∀W,Below w.heap.size w W->Calls prog 135 #[.pointer (some ⟨yb,0,none⟩),.int .i64 u] W fun e w'=>e=.returned (.tuple #[.agg (OJ a0 a1 a2 a3 a4 a5 a6 a7),.int .i64 (f.gp u)])/\Below W.heap.size W w'):=fun W hW=>by have:=(h.below hW).re.tells hok u;rw[ht]at this;exact this
 have c0:w.cell? ⟨pb,0,none⟩=some (pt xb):=h.cells.1;have c1:w.cell? ⟨pb,1,none⟩=some (pt yb):=h.cells.2;have hp:=h.nX;generalize f.gp u=ee at*;clear h ht;go_enter func87,ntmps87
 go_wp2_with (first
  |(go_at_call 34;refine(HX.out _ (Below.refl _ _)).mono ?_;rintro e w1 ⟨rfl,bz⟩;have d1:=eK bz c1;have hp1:pb<w1.heap.size:=Nat.lt_of_lt_of_le hp bz.size;have hn1:¬pb=w1.heap.size:=(by omega))
  |(go_at_call 135;refine(HY.out _ (bz.alloc bz.size _)).mono ?_;rintro e w2 ⟨rfl,bE⟩;obtain⟨AD,UU⟩:=cZ bE;have wS:w1.heap.size<w2.heap.size:=(by have:=bE.size;simp at this;omega);have hn2:¬w1.heap.size=w2.heap.size:=(by omega))
  |(go_at_call 136;refine(Cm a0 a1 a2 a3 a4 a5 a6 a7 _).mono ?_;rintro e w3 ⟨rfl,jS⟩)
  |(go_at_call 80;refine(lq ee _).mono ?_;rintro e w3 ⟨rfl,rfl⟩))
 go_ret;have h1:=bz.alloc bz.size (.cells (OJ a0 a1 a2 a3 a4 a5 a6 a7) 68);have h2:=h1.trans (bE.mono h1.size);have h3:=h2.alloc h2.size (.cells (OJ a0 a1 a2 a3 a4 a5 a6 a7) 68);exact⟨rfl,h3.trans (jS.mono h3.size)⟩
end
end
section
open Go.Proofs.Tryz
open Go Go.Conc Go.RowKit
attribute [local go_sem ↓] Go.wp_at_zero Go.wp_at_succ
attribute [local go_sem] au aj
theorem lf(a:Act)(hs:a.tmps.size=162)(hd:a.defers=[]):∃x:Nat->Value,a=⟨#[x 0,x 1,x 2,x 3,x 4,x 5,x 6,x 7,x 8,x 9,x 10,x 11,x 12,x 13,x 14,x 15,x 16,x 17,x 18,x 19,x 20,x 21,x 22,x 23,x 24,x 25,x 26,x 27,x 28,x 29,x 30,x 31,x 32,x 33,x 34,x 35,x 36,x 37,x 38,x 39,x 40,x 41,x 42,x 43,x 44,x 45,x 46,x 47,x 48,x 49,x 50,x 51,x 52,x 53,x 54,x 55,x 56,x 57,x 58,x 59,x 60,x 61,x 62,x 63,x 64,x 65,x 66,x 67,x 68,x 69,x 70,x 71,x 72,x 73,x 74,x 75,x 76,x 77,x 78,x 79,x 80,x 81,x 82,x 83,x 84,x 85,x 86,x 87,x 88,x 89,x 90,x 91,x 92,x 93,x 94,x 95,x 96,x 97,x 98,x 99,x 100,x 101,x 102,x 103,x 104,x 105,x 106,x 107,x 108,x 109,x 110,x 111,x 112,x 113,x 114,x 115,x 116,x 117,x 118,x 119,x 120,x 121,x 122,x 123,x 124,x 125,x 126,x 127,x 128,x 129,x 130,x 131,x 132,x 133,x 134,x 135,x 136,x 137,x 138,x 139,x 140,x 141,x 142,x 143,x 144,x 145,x 146,x 147,x 148,x 149,x 150,x 151,x 152,x 153,x 154,x 155,x 156,x 157,x 158,x 159,x 160,x 161],[]⟩:=by
 refine⟨fun i=>a.tmps.toList.getD i undef,?_⟩;obtain⟨⟨l⟩,d⟩:=a;obtain rfl:d=[]:=hd;have h:=uV l;have hl:l.length=162:=hs;rw[hl]at h;have h2:(⟨⟨l⟩,[]⟩:Act)=⟨⟨(List.range 162).map fun i=>l.getD i undef⟩,[]⟩:=by rw[<-h]
 exact h2.trans (by kernel_rfl)
def dB(fn:Func):Code:=fn.body.getD .skip
def fB(fn:Func):Code:=kN (bR (cr (bR (dB fn))))
abbrev oV(pb xb yb ob:Nat)(s:ByteArray)(x y:Int)(W:World):Prop:=W.cell? ⟨pb,0,none⟩=some (pt xb)/\W.cell? ⟨pb,1,none⟩=some (pt yb)/\W.cell? ⟨ob,11,none⟩=some (.string s)/\W.cell? ⟨ob,12,none⟩=some (.int .i64 x)/\W.cell? ⟨ob,13,none⟩=some (.int .i64 y)
theorem mg{X:Nat->Prop}{W W':World}(ht:aF X W W'){a:Addr}(ha:¬X a.block){v:Value}(h:W.cell? a=some v):W'.cell? a=some v:=by
 have hlt:a.block<W.heap.size:=by
  unfold World.cell? at h;cases e:W.heap[a.block]? with
  |none=>rw[e]at h;cases h
  |some o=>exact(Array.getElem?_eq_some_iff.1 e).1
 rw[World.cell?_of_block (ht.block a.block hlt ha)];exact h
theorem oV.fK{pb xb yb ob:Nat}{s:ByteArray}{x y:Int}{X:Nat->Prop}{W W':World}(h:oV pb xb yb ob s x y W)(ht:aF X W W')(hp:¬X pb)(ho:¬X ob):oV pb xb yb ob s x y W':=
 ⟨mg ht hp h.1,mg ht hp h.2.1,mg ht ho h.2.2.1,mg ht ho h.2.2.2.1,mg ht ho h.2.2.2.2⟩
section
variable [aR]
def eA(φ:Fy->Prop)(pb:Nat)(B:Nat->Prop)(w w':World):Prop:=∃f',φ f'/\Duo w' f' pb (grown B w w')/\aF B w w'
variable {w w1 w2:World} {f f':Fy} {pb xb yb ob n:Nat} {B Bx By:Nat->Prop} {a:Act} {s:ByteArray} {x y:Int} {φ:Fy->Prop}
theorem eA.of(hok:φ f')(hlt:∀b,B b->b<w.heap.size){Bx1 By1:Nat->Prop}(h1:cm w1 f' f pb xb yb Bx1 By (grown B w.drew w1))(t1:aF Bx w w1)(hin:∀b,Bx b\/By b->B b)(h2:cm w2 f' f' pb xb yb Bx1 By1 (grown (grown B w.drew w1) w1.drew w2))(t2:aF By w1.drew w2):eA φ pb B w w2:=by
 have hs1:w.heap.size<=w1.heap.size:=t1.size;have xP:w1.heap.size<=w2.heap.size:=t2.size;refine⟨f',hok,(h2.into (B':=grown B w w2) (fun b hb=>xK (w1:=w1) hb xP hs1) (fun hb=>h2.out ?_) (jM hlt (Nat.le_trans hs1 xP))).shut,(t1.mono fun b _ hb=>hin b (.inl hb)).trans ((⟨t2.os,t2.size,t2.block⟩:aF By w1 w2).mono fun b _ hb=>hin b (.inr hb))⟩;rcases hb with hb|hb
 ·exact .inl (.inl hb)
 ·by_cases hl:pb<w1.heap.size
  ·exact .inl (.inr ⟨hb.1,hl⟩)
  ·exact .inr ⟨by show w1.heap.size<=pb;omega,hb.2⟩
theorem MZ(h:cm w f f pb xb yb Bx By B)(hok:f.Ok n)(hn:n<=281474976710656)(hb:¬B ob)(ho:oV pb xb yb ob s x y w)(hφ:φ (f.conn x))(hs:a.tmps.size=162)(hd:a.defers=[])(e0:a.eval (.tmp 0)=pt pb)(e3:a.eval (.tmp 3)=pt ob):
  (arm (fB f85)).wp prog (fun e a' w'=>e=.ret/\a'.defers=[]/\a'.eval (.tmp 4)=.bool true/\eA φ pb B w w') a w:=by
 obtain⟨z,rfl⟩:=lf a hs hd;have jf:z 0=pt pb:=e0;have jA:z 3=pt ob:=e3;rw[jf,jA];clear hs hd e0 e3 jf jA;have HD:Hid (cm w f f pb xb yb Bx By B):=h;have HO:Hid (f.Ok n):=hok;have HF:Hid (φ (f.conn x)):=hφ;have HS:oV pb xb yb ob s x y w.drew:=ho;clear h hok ho hφ;simp only[arm,nx,fB,dB,ct,cf,cr,bR,kN,Option.getD_some,f85]
 go_upto_region 3 with fail
 refine wp_region_noPanic ?_;refine wp_region_held_drew (S:=fun W=>oV pb xb yb ob s x y W) (by kernel_rfl) HS ?_;intro hHeld;refine tk 0 ?_;refine tk 1 ?_;refine tk 2 ?_;refine tk 3 ?_;refine tk 4 ?_;refine tk 5 ?_;refine rH 6 fun K hK=>?_;go_simp
 (refine((HD.out.same (w':=w.drew) rfl rfl).pr.conn HO.out hn x).mono ?_;rintro e w1 ⟨rfl,h1,t1⟩;have HL:Hid (cm w1 (f.conn x) f pb xb yb (grown Bx w.drew w1) By (grown B w.drew w1)/\aF Bx w w1):=⟨(HD.out.same (w':=w.drew) rfl rfl).left h1 t1,t1.os,t1.size,t1.block⟩;have hk1:oV pb xb yb ob s x y w1:=hHeld.fK t1 (fun e=>HD.out.out (HD.out.dO _ (.inl e))) (fun e=>hb (HD.out.dO _ (.inl e)));clear h1 t1)
 go_wp2_with fail;refine hK.out _ _ (hk1) (fun SZ=>?_);clear hK K;refine tk 7 ?_;refine tk 8 ?_;refine tk 9 ?_;refine tk 10 ?_;refine tk 11 ?_;refine wpAnyH_done (by kernel_rfl) ?_ _;refine NoPanic.normal ?_
 go_upto_region 4 with fail
 refine wp_region_noPanic ?_;refine wp_region_held_drew (S:=fun W=>oV pb xb yb ob s x y W) (by kernel_rfl) hk1 ?_;intro oC;refine tk 0 ?_;refine tk 1 ?_;refine tk 2 ?_;refine tk 3 ?_;refine tk 4 ?_;refine tk 5 ?_;refine rH 6 fun K hK=>?_;go_simp
 (refine((HL.out.1.same (w':=w1.drew) rfl rfl).re.conn HO.out hn x).mono ?_;rintro e w2 ⟨rfl,h2,t2⟩;have HR:Hid (eA φ pb B w w2):=eA.of HF.out HD.out.lt HL.out.1 HL.out.2 HD.out.dO ((HL.out.1.same (w':=w1.drew) rfl rfl).right h2 t2) t2;have hk2:oV pb xb yb ob s x y w2:=oC.fK t2 (fun e=>HD.out.out (HD.out.dO _ (.inr e))) (fun e=>hb (HD.out.dO _ (.inr e)));clear h2 t2)
 go_wp2_with fail;refine hK.out _ _ (hk2) (fun SZ=>?_);clear hK K;refine tk 7 ?_;refine tk 8 ?_;refine tk 9 ?_;refine tk 10 ?_;refine tk 11 ?_;refine wpAnyH_done (by kernel_rfl) ?_ _;refine NoPanic.normal ?_;go_wp2_with (go_at_call 80;refine(lq _ _).mono ?_;rintro e w2 ⟨rfl,rfl⟩);exact HR.out
theorem Na(h:cm w f f pb xb yb Bx By B)(hok:f.Ok n)(hn:n<=281474976710656)(hb:¬B ob)(ho:oV pb xb yb ob s x y w)(hss:s.size<=140737488355328)(hq:fT s)(hφ:φ (f.send x s))(hs:a.tmps.size=162)(hd:a.defers=[])(e0:a.eval (.tmp 0)=pt pb)(e3:a.eval (.tmp 3)=pt ob):
  (arm (nx (fB f85))).wp prog (fun e a' w'=>e=.ret/\a'.defers=[]/\a'.eval (.tmp 4)=.bool true/\eA φ pb B w w') a w:=by
 obtain⟨z,rfl⟩:=lf a hs hd;have jf:z 0=pt pb:=e0;have jA:z 3=pt ob:=e3;rw[jf,jA];clear hs hd e0 e3 jf jA;have HD:Hid (cm w f f pb xb yb Bx By B):=h;have HO:Hid (f.Ok n):=hok;have HF:Hid (φ (f.send x s)):=hφ;have HS:oV pb xb yb ob s x y w.drew:=ho;clear h hok ho hφ;simp only[arm,nx,fB,dB,ct,cf,cr,bR,kN,Option.getD_some,f85]
 go_upto_region 7 with fail
 refine wp_region_noPanic ?_;refine wp_region_held_drew (S:=fun W=>oV pb xb yb ob s x y W) (by kernel_rfl) HS ?_;intro hHeld;refine tk 0 ?_;refine tk 1 ?_;refine tk 2 ?_;refine tk 3 ?_;refine tk 4 ?_;refine tk 5 ?_;refine tk 6 ?_;refine tk 7 ?_;refine rH 8 fun K hK=>?_;go_simp
 (refine((HD.out.same (w':=w.drew) rfl rfl).pr.send HO.out x s).mono ?_;rintro e w1 ⟨rfl,h1,t1⟩;have HL:Hid (cm w1 (f.send x s) f pb xb yb (grown Bx w.drew w1) By (grown B w.drew w1)/\aF Bx w w1):=⟨(HD.out.same (w':=w.drew) rfl rfl).left h1 t1,t1.os,t1.size,t1.block⟩;have hk1:oV pb xb yb ob s x y w1:=hHeld.fK t1 (fun e=>HD.out.out (HD.out.dO _ (.inl e))) (fun e=>hb (HD.out.dO _ (.inl e)));clear h1 t1)
 go_wp2_with fail;refine hK.out _ _ (hk1) (fun UC=>?_);clear hK K;refine tk 9 ?_;refine wpAnyH_done (by kernel_rfl) ?_ _;refine NoPanic.normal ?_
 go_upto_region 8 with fail
 refine wp_region_noPanic ?_;refine wp_region_held_drew (S:=fun W=>oV pb xb yb ob s x y W) (by kernel_rfl) hk1 ?_;intro oC;refine tk 0 ?_;refine tk 1 ?_;refine tk 2 ?_;refine tk 3 ?_;refine tk 4 ?_;refine tk 5 ?_;refine tk 6 ?_;refine tk 7 ?_;refine rH 8 fun K hK=>?_;go_simp
 (refine((HL.out.1.same (w':=w1.drew) rfl rfl).re.send HO.out x s hss).mono ?_;rintro e w2 ⟨rfl,h2,t2⟩;have HR:Hid (eA φ pb B w w2):=eA.of HF.out HD.out.lt HL.out.1 HL.out.2 HD.out.dO ((HL.out.1.same (w':=w1.drew) rfl rfl).right h2 t2) t2;have hk2:oV pb xb yb ob s x y w2:=oC.fK t2 (fun e=>HD.out.out (HD.out.dO _ (.inr e))) (fun e=>hb (HD.out.dO _ (.inr e)));clear h2 t2)
 go_wp2_with fail;refine hK.out _ _ (hk2) (fun UC=>?_);clear hK K;refine tk 9 ?_;refine wpAnyH_done (by kernel_rfl) ?_ _;refine NoPanic.normal ?_;go_wp2_with (go_at_call 80;refine(lq _ _).mono ?_;rintro e w2 ⟨rfl,rfl⟩);exact HR.out
theorem Nb(h:cm w f f pb xb yb Bx By B)(hok:f.Ok n)(hn:n<=281474976710656)(hb:¬B ob)(ho:oV pb xb yb ob s x y w)(hφ:φ (f.take x y))(hs:a.tmps.size=162)(hd:a.defers=[])(e0:a.eval (.tmp 0)=pt pb)(e3:a.eval (.tmp 3)=pt ob):
  (arm (nx (nx (fB f85)))).wp prog (fun e a' w'=>e=.ret/\a'.defers=[]/\a'.eval (.tmp 4)=.bool true/\eA φ pb B w w') a w:=by
 obtain⟨z,rfl⟩:=lf a hs hd;have jf:z 0=pt pb:=e0;have jA:z 3=pt ob:=e3;rw[jf,jA];clear hs hd e0 e3 jf jA;have HD:Hid (cm w f f pb xb yb Bx By B):=h;have HO:Hid (f.Ok n):=hok;have HF:Hid (φ (f.take x y)):=hφ;have HS:oV pb xb yb ob s x y w.drew:=ho;clear h hok ho hφ;simp only[arm,nx,fB,dB,ct,cf,cr,bR,kN,Option.getD_some,f85]
 go_upto_region 11 with fail
 refine wp_region_noPanic ?_;refine wp_region_held_drew (S:=fun W=>oV pb xb yb ob s x y W) (by kernel_rfl) HS ?_;intro hHeld;refine tk 0 ?_;refine tk 1 ?_;refine tk 2 ?_;refine tk 3 ?_;refine tk 4 ?_;refine tk 5 ?_;refine tk 6 ?_;refine tk 7 ?_;refine rH 8 fun K hK=>?_;go_simp
 (refine((HD.out.same (w':=w.drew) rfl rfl).pr.take HO.out x y).mono ?_;rintro e w1 ⟨rfl,h1,t1⟩;have HL:Hid (cm w1 (f.take x y) f pb xb yb (grown Bx w.drew w1) By (grown B w.drew w1)/\aF Bx w w1):=⟨(HD.out.same (w':=w.drew) rfl rfl).left h1 t1,t1.os,t1.size,t1.block⟩;have hk1:oV pb xb yb ob s x y w1:=hHeld.fK t1 (fun e=>HD.out.out (HD.out.dO _ (.inl e))) (fun e=>hb (HD.out.dO _ (.inl e)));clear h1 t1)
 go_wp2_with fail;refine hK.out _ _ (hk1) (fun UC=>?_);clear hK K;refine tk 9 ?_;refine tk 10 ?_;refine tk 11 ?_;refine tk 12 ?_;refine tk 13 ?_;refine wpAnyH_done (by kernel_rfl) ?_ _;refine NoPanic.normal ?_
 go_upto_region 12 with fail
 refine wp_region_noPanic ?_;refine wp_region_held_drew (S:=fun W=>oV pb xb yb ob s x y W) (by kernel_rfl) hk1 ?_;intro oC;refine tk 0 ?_;refine tk 1 ?_;refine tk 2 ?_;refine tk 3 ?_;refine tk 4 ?_;refine tk 5 ?_;refine tk 6 ?_;refine tk 7 ?_;refine rH 8 fun K hK=>?_;go_simp
 (refine((HL.out.1.same (w':=w1.drew) rfl rfl).re.take HO.out x y).mono ?_;rintro e w2 ⟨rfl,h2,t2⟩;have HR:Hid (eA φ pb B w w2):=eA.of HF.out HD.out.lt HL.out.1 HL.out.2 HD.out.dO ((HL.out.1.same (w':=w1.drew) rfl rfl).right h2 t2) t2;have hk2:oV pb xb yb ob s x y w2:=oC.fK t2 (fun e=>HD.out.out (HD.out.dO _ (.inr e))) (fun e=>hb (HD.out.dO _ (.inr e)));clear h2 t2)
 go_wp2_with fail;refine hK.out _ _ (hk2) (fun UC=>?_);clear hK K;refine tk 9 ?_;refine tk 10 ?_;refine tk 11 ?_;refine tk 12 ?_;refine tk 13 ?_;refine wpAnyH_done (by kernel_rfl) ?_ _;refine NoPanic.normal ?_;go_wp2_with (go_at_call 80;refine(lq _ _).mono ?_;rintro e w2 ⟨rfl,rfl⟩);exact HR.out
theorem Nc(h:cm w f f pb xb yb Bx By B)(hok:f.Ok n)(hn:n<=281474976710656)(hb:¬B ob)(ho:oV pb xb yb ob s x y w)(hφ:φ (f.jB x))(hs:a.tmps.size=162)(hd:a.defers=[])(e0:a.eval (.tmp 0)=pt pb)(e3:a.eval (.tmp 3)=pt ob):
  (arm (nx (nx (nx (fB f85))))).wp prog (fun e a' w'=>e=.ret/\a'.defers=[]/\a'.eval (.tmp 4)=.bool true/\eA φ pb B w w') a w:=by
 obtain⟨z,rfl⟩:=lf a hs hd;have jf:z 0=pt pb:=e0;have jA:z 3=pt ob:=e3;rw[jf,jA];clear hs hd e0 e3 jf jA;have HD:Hid (cm w f f pb xb yb Bx By B):=h;have HO:Hid (f.Ok n):=hok;have HF:Hid (φ (f.jB x)):=hφ;have HS:oV pb xb yb ob s x y w.drew:=ho;clear h hok ho hφ;simp only[arm,nx,fB,dB,ct,cf,cr,bR,kN,Option.getD_some,f85]
 go_upto_region 15 with fail
 refine wp_region_noPanic ?_;refine wp_region_held_drew (S:=fun W=>oV pb xb yb ob s x y W) (by kernel_rfl) HS ?_;intro hHeld;refine tk 0 ?_;refine tk 1 ?_;refine tk 2 ?_;refine tk 3 ?_;refine tk 4 ?_;refine tk 5 ?_;refine rH 6 fun K hK=>?_;go_simp
 (refine((HD.out.same (w':=w.drew) rfl rfl).pr.jB HO.out x).mono ?_;rintro e w1 ⟨rfl,h1,t1⟩;have HL:Hid (cm w1 (f.jB x) f pb xb yb (grown Bx w.drew w1) By (grown B w.drew w1)/\aF Bx w w1):=⟨(HD.out.same (w':=w.drew) rfl rfl).left h1 t1,t1.os,t1.size,t1.block⟩;have hk1:oV pb xb yb ob s x y w1:=hHeld.fK t1 (fun e=>HD.out.out (HD.out.dO _ (.inl e))) (fun e=>hb (HD.out.dO _ (.inl e)));clear h1 t1)
 go_wp2_with fail;refine hK.out _ _ (hk1) (fun SZ=>?_);clear hK K;refine tk 7 ?_;refine wpAnyH_done (by kernel_rfl) ?_ _;refine NoPanic.normal ?_
 go_upto_region 16 with fail
 refine wp_region_noPanic ?_;refine wp_region_held_drew (S:=fun W=>oV pb xb yb ob s x y W) (by kernel_rfl) hk1 ?_;intro oC;refine tk 0 ?_;refine tk 1 ?_;refine tk 2 ?_;refine tk 3 ?_;refine tk 4 ?_;refine tk 5 ?_;refine rH 6 fun K hK=>?_;go_simp
 (refine((HL.out.1.same (w':=w1.drew) rfl rfl).re.jB HO.out x).mono ?_;rintro e w2 ⟨rfl,h2,t2⟩;have HR:Hid (eA φ pb B w w2):=eA.of HF.out HD.out.lt HL.out.1 HL.out.2 HD.out.dO ((HL.out.1.same (w':=w1.drew) rfl rfl).right h2 t2) t2;have hk2:oV pb xb yb ob s x y w2:=oC.fK t2 (fun e=>HD.out.out (HD.out.dO _ (.inr e))) (fun e=>hb (HD.out.dO _ (.inr e)));clear h2 t2)
 go_wp2_with fail;refine hK.out _ _ (hk2) (fun SZ=>?_);clear hK K;refine tk 7 ?_;refine wpAnyH_done (by kernel_rfl) ?_ _;refine NoPanic.normal ?_;go_wp2_with (go_at_call 80;refine(lq _ _).mono ?_;rintro e w2 ⟨rfl,rfl⟩);exact HR.out
end
end
section
open Go.Proofs.Tryz
open Go Go.Conc Go.RowKit
open Go.ConcR (Payload)
attribute [local go_sem ↓] Go.wp_at_zero Go.wp_at_succ
attribute [local go_sem] au aj
def gM(fn:Func):Code:=bR (bR (dB fn))
def Jr(fn:Func):Code:=cr (dB fn)
def Js(fn:Func):Code:=cr (cr (bR (dB fn)))
section
variable [aR] {w w1 w2:World} {f f':Fy} {pb xb yb ob n:Nat} {B Bx By:Nat->Prop} {a:Act} {s:ByteArray} {x y:Int} {φ:Fy->Prop}
theorem cm.GU{g:Fy}(h:cm w f g pb xb yb Bx By B):¬grown B w w1 pb:=fun hb=>by
 have:=h.nX;rcases hb with hb|hb
 ·exact h.out hb
 ·omega
theorem Nd(hφ:φ f.halt)(h:cm w f f pb xb yb Bx By B)(hok:f.Ok n)(ho:oV pb xb yb ob s x y w)(hs:a.tmps.size=162)(hd:a.defers=[])(e0:a.eval (.tmp 0)=pt pb):
  (arm (nx (nx (nx (nx (nx (fB f85))))))).wp prog (fun e a' w'=>e=.ret/\a'.defers=[]/\a'.eval (.tmp 4)=.bool true/\eA φ pb B w w') a w:=by
 obtain⟨z,rfl⟩:=lf a hs hd;have jf:z 0=pt pb:=e0;rw[jf];clear hs hd e0 jf;have HD:Hid (cm w f f pb xb yb Bx By B):=h;have HO:Hid (f.Ok n):=hok;have HF:Hid (φ f.halt):=hφ;have c0:w.cell? ⟨pb,0,none⟩=some (pt xb):=ho.1;clear h hok ho hφ;simp only[arm,nx,fB,dB,ct,cf,cr,bR,kN,Option.getD_some,f85];go_wp2_with (go_at_call 42;refine(HD.out.pr.halt).mono ?_;rintro e w1 ⟨rfl,h1,t1⟩;have HL:Hid (cm w1 f.halt f pb xb yb (grown Bx w w1) By (grown B w w1)/\aF Bx w w1):=⟨HD.out.left h1 t1,t1⟩;clear h1 t1;have c1:w1.cell? ⟨pb,1,none⟩=some (pt yb):=HL.out.1.cells.2;have Dt:w1.cell? ⟨yb,18,none⟩=some (.bool f.stop):=HL.out.1.re.halt.1;have f18:w1.frozen? ⟨yb,18,none⟩=false:=HL.out.1.re.halt.2.1);obtain⟨_,_,g1,g2⟩:=HL.out.1.re.halt;have hs1:w.heap.size<=w1.heap.size:=HL.out.2.size;have xP:(w1.setCell ⟨yb,18,none⟩ (.bool true)).heap.size=w1.heap.size:=by simp
 refine⟨f.halt,HF.out,((HL.out.1.right g1.grow g2).into (B':=grown B w (w1.setCell ⟨yb,18,none⟩ (.bool true))) (fun b hb=>xK (w1:=w1) hb (by omega) hs1) HD.out.GU (jM HD.out.lt (by omega))).shut,(HL.out.2.mono fun b _ hb=>HD.out.dO b (.inl hb)).trans (g2.mono fun b _ hb=>HD.out.dO b (.inr hb))⟩
theorem Np(hφ:φ f)(h:cm w f f pb xb yb Bx By B)(hok:f.Ok n)(ho:oV pb xb yb ob s x y w)(hs:a.tmps.size=162)(hd:a.defers=[])(e0:a.eval (.tmp 0)=pt pb)(e3:a.eval (.tmp 3)=pt ob):
  (gM f85).wp prog (fun e a' w'=>e=.ret/\a'.defers=[]/\a'.eval (.tmp 4)=.bool true/\eA φ pb B w w') a w:=by
 obtain⟨z,rfl⟩:=lf a hs hd;have jf:z 0=pt pb:=e0;have jA:z 3=pt ob:=e3;rw[jf,jA];clear hs hd e0 e3 jf jA;have HD:Hid (cm w f f pb xb yb Bx By B):=h;have HO:Hid (f.Ok n):=hok;have HF:Hid (φ f):=hφ;have Xw:w.cell? ⟨ob,12,none⟩=some (.int .i64 x):=ho.2.2.2.1;clear h hok ho hφ;simp only[gM,dB,cr,bR,Option.getD_some,f85];go_wp2_with (go_at_call 87;refine(uq x _ HD.out HO.out).mono ?_;rintro e w1 ⟨rfl,bz⟩);exact⟨f,HF.out,(HD.out.shut.below bz).grow HD.out.nX,aF.below bz⟩
def CQ(fn:Func):Code:=bR (arm (nx (nx (nx (nx (fB fn))))))
theorem Mv(hφ:φ f.tick){B1:Nat->Prop}(h:cm w1 f.tick f pb xb yb Bx By B1)(hok:f.Ok n)(hn:n<=281474976710656)(hs1:w.heap.size<=w1.heap.size)(hB:∀b,B1 b->grown B w w1 b)(hlt:∀b,B b->b<w.heap.size)(NS:¬B pb)(hpl:pb<w.heap.size)(ht:aF B w w1)(hy:∀b,By b->B b)(hs:a.tmps.size=162)(hd:a.defers=[])(e0:a.eval (.tmp 0)=pt pb):
  (CQ f85).wp prog (fun e a' w'=>e=.ret/\a'.defers=[]/\a'.eval (.tmp 4)=.bool true/\eA φ pb B w w') a w1:=by
 obtain⟨z,rfl⟩:=lf a hs hd;have jf:z 0=pt pb:=e0;rw[jf];clear hs hd e0 jf;have HD:Hid (cm w1 f.tick f pb xb yb Bx By B1):=h;have HO:Hid (f.Ok n):=hok;have HF:Hid (φ f.tick):=hφ;have c1:w1.cell? ⟨pb,1,none⟩=some (pt yb):=h.cells.2;have HA:Hid ((∀b,B1 b->grown B w w1 b)/\(∀b,B b->b<w.heap.size)/\¬B pb/\aF B w w1/\(∀b,By b->B b)):=⟨hB,hlt,NS,ht,hy⟩;clear h hok hφ hB hlt NS ht hy;simp only[CQ,arm,nx,fB,dB,ct,cf,cr,bR,kN,Option.getD_some,f85];go_wp2_with (go_at_call 128;refine(HD.out.re.tick HO.out hn).mono ?_;rintro e w2 ⟨rfl,h2,t2⟩;have HR:Hid (cm w2 f.tick f.tick pb xb yb Bx (grown By w1 w2) (grown B1 w1 w2)/\aF By w1 w2):=⟨HD.out.right h2 t2,t2⟩;clear h2 t2);obtain⟨g1,g2⟩:=HR.out;obtain⟨hB,hlt,NS,ht,hy⟩:=HA.out;have xP:=g2.size;refine⟨f.tick,HF.out,(g1.into (B':=grown B w w2) (fun b hb=>?_) (fun hb=>?_) (jM hlt (by omega))).shut,ht.trans (g2.mono fun b _ hb=>hy b hb)⟩
 ·rcases hb with hb|hb
  ·rcases hB b hb with hb|hb
   ·exact .inl hb
   ·exact .inr (by omega)
  ·exact .inr (by omega)
 ·rcases hb with hb|hb
  ·exact NS hb
  ·omega
end
end
section
open Go.Proofs.Tryz
open Go Go.Conc Go.RowKit
open Go.ConcR (Payload)
attribute [local go_sem ↓] Go.wp_at_zero Go.wp_at_succ
attribute [local go_sem] au aj
abbrev fE(kd dm sz cl qu mx qn rt bu wk ou:Int)(s:ByteArray)(x y:Int)(on:Bool):Array Value:=#[.int .i64 kd,.int .i64 dm,.int .i64 sz,.int .i64 cl,.int .i64 qu,.int .i64 mx,.int .i64 qn,.int .i64 rt,.int .i64 bu,.int .i64 wk,.int .i64 ou,.string s,.int .i64 x,.int .i64 y,.bool on]
section
variable [aR] {w w1 w2:World} {f f':Fy} {pb xb yb ob n:Nat} {B Bx By:Nat->Prop} {a:Act} {s:ByteArray} {x y kd dm sz cl qu mx qn rt bu wk ou:Int} {on:Bool}
theorem QA(hs:a.tmps.size=162)(hd:a.defers=[])(e0:a.eval (.tmp 0)=pt pb)(e1:a.eval (.tmp 1)=.agg (fE kd dm sz cl qu mx qn rt bu wk ou s x y on)):
  (Jr f85).wp prog (fun e a' w'=>e=.normal/\a'.tmps.size=162/\a'.defers=[]/\a'.eval (.tmp 0)=pt pb/\a'.eval (.tmp 3)=pt w.heap.size/\w'=w.alloc (.cells (fE kd dm sz cl qu mx qn rt bu wk ou s x y on) 90)) a w:=by
 obtain⟨z,rfl⟩:=lf a hs hd;have jf:z 0=pt pb:=e0;have TS:z 1=.agg (fE kd dm sz cl qu mx qn rt bu wk ou s x y on):=e1;rw[jf,TS];clear hs hd e0 jf e1 TS;simp only[Jr,dB,cr,Option.getD_some,f85];go_wp2
theorem QB(hk:w.cell? ⟨ob,0,none⟩=some (.int .i64 kd))(hs:a.tmps.size=162)(hd:a.defers=[])(e0:a.eval (.tmp 0)=pt pb)(e3:a.eval (.tmp 3)=pt ob):
  (Js f85).wp prog (fun e a' w'=>e=.normal/\a'.tmps.size=162/\a'.defers=[]/\a'.eval (.tmp 0)=pt pb/\a'.eval (.tmp 3)=pt ob/\a'.eval (.tmp 18)=.int .i64 kd/\w'=w) a w:=by
 obtain⟨z,rfl⟩:=lf a hs hd;have jf:z 0=pt pb:=e0;have jA:z 3=pt ob:=e3;rw[jf,jA];clear hs hd e0 jf e3 jA;simp only[Js,dB,cr,bR,Option.getD_some,f85];go_wp2
end
end
end Go.Proofs.YtpobhljcainmdaaGreat
