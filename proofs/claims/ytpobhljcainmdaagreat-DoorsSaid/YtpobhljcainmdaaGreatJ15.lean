/- Proved here: a part of what Doors keeps (Rf6, Rf7, Fe17, Dm3, Ab1, Rt1). -/
import Derived.Test.YtpobhljcainmdaaGreatJ01
import Derived.Test.YtpobhljcainmdaaGreatJ07
import Derived.Test.YtpobhljcainmdaaGreatJ13
import Derived.Test.YtpobhljcainmdaaGreatJ14
set_option maxRecDepth 100000
set_option maxHeartbeats 8000000
set_option linter.all false
namespace Go.Proofs.YtpobhljcainmdaaGreat
section
open Go.Proofs.Tryz
open Go.RowKit
attribute [local go_sem ↓] Go.wp_at_zero Go.wp_at_succ
attribute [local go_sem] au aj
theorem ET(yb sb N:Nat)(ys:List (Option Nat))(kr:Nat->Cl)(sz qu mx qn rt bu wk ou many clock:Int)(aA:Nat)(stop:Bool)(u n:Int)(w:World)(h:bL w yb sb N ys kr sz qu mx qn rt bu wk ou many clock aA stop)(hN:N<=65535)(hu:lI kr ys u=none):
  Calls prog 126 #[.pointer (some ⟨yb,0,none⟩),.int .i64 u,.int .i64 n] w fun e w'=>e=.returned (.tuple #[.string ⟨#[]⟩,.int .i64 2])/\w'=w:=by
 have HI:Hid (Calls prog 176 #[.pointer (some ⟨yb,0,none⟩),.int .i64 u] w fun e w'=>e=.returned (.pointer none)/\w'=w):=by have:=h.find hN u;rw[hu]at this;exact this
 clear h hu;go_enter func126,ntmps126;go_wp2_with (go_at_call 176;refine HI.out.mono ?_;rintro e w1 ⟨rfl,rfl⟩)
 go_ret2
 exact⟨rfl,rfl⟩
theorem ID(yb sb N y:Nat)(ys:List (Option Nat))(kr:Nat->Cl)(sz qu mx qn rt bu wk ou many clock:Int)(aA:Nat)(stop:Bool)(u n:Int)(w:World)(h:bL w yb sb N ys kr sz qu mx qn rt bu wk ou many clock aA stop)(hN:N<=65535)(hu:lI kr ys u=some y)(hn:n<0):
  Calls prog 126 #[.pointer (some ⟨yb,0,none⟩),.int .i64 u,.int .i64 n] w fun e w'=>e=.returned (.tuple #[.string ⟨#[]⟩,.int .i64 5])/\w'=w:=by
 have HI:Hid (Calls prog 176 #[.pointer (some ⟨yb,0,none⟩),.int .i64 u] w fun e w'=>e=.returned (.pointer (some ⟨y,0,none⟩))/\w'=w):=by have:=h.find hN u;rw[hu]at this;exact this
 have hd:decide (n<0)=true:=by simpa using hn
 clear h hu hn;go_enter func126,ntmps126;go_wp2_with (go_at_call 176;refine HI.out.mono ?_;rintro e w1 ⟨rfl,rfl⟩)
 go_ret2
 exact⟨rfl,rfl⟩
theorem Hw{gone:Nat->Bool}{ys:List (Option Nat)}(h:∀y∈ay ys,gone y=false):lets gone ys=ys:=xU h
theorem LW(yb sb N y:Nat)(ys:List (Option Nat))(kr:Nat->Cl)(sz qu mx qn rt bu wk ou many clock:Int)(aA:Nat)(stop:Bool)(u n:Int)(m:Nat)(w:World)(h:bL w yb sb N ys kr sz qu mx qn rt bu wk ou many clock aA stop)(hN:N<=65535)(hu:lI kr ys u=some y)(nw:∀y∈ay ys,(kr y).ph<=2)(hm:(m:Int)=min n (kr y).out.size)(ho:(kr y).out.size<=1048576):
  Calls prog 126 #[.pointer (some ⟨yb,0,none⟩),.int .i64 u,.int .i64 n] w fun e w'=>e=.returned (.tuple #[.string ((kr y).out.extract 0 m),.int .i64 0])/\bL w' yb sb N ys (gJ kr y ((kr y).take m)) sz qu mx qn rt bu wk ou many clock aA stop/\aF (yF yb sb ys) w w':=by
 have hy:=fX hu;have hb:=h.all y hy;have c6:w.cell? ⟨y,6,none⟩=some (.string (kr y).out):=af hb rfl;have f6:=aY hb 6
 have HI:Hid (Calls prog 176 #[.pointer (some ⟨yb,0,none⟩),.int .i64 u] w fun e w'=>e=.returned (.pointer (some ⟨y,0,none⟩))/\w'=w):=by have:=h.find hN u;rw[hu]at this;exact this
 have ht:aF (fun i=>i=y) w (w.setCell ⟨y,6,none⟩ (.string ((kr y).out.extract m (kr y).out.size))):=(aF.refl (fun i=>i=y) w).set (p:=⟨y,6,none⟩) rfl _;have h1:bL (w.setCell ⟨y,6,none⟩ (.string ((kr y).out.extract m (kr y).out.size))) yb sb N ys (gJ kr y ((kr y).take m)) sz qu mx qn rt bu wk ou many clock aA stop:=h.client hy (dg hb 6 _) ht
 have HL:Hid (Calls prog 177 #[.pointer (some ⟨yb,0,none⟩)] (w.setCell ⟨y,6,none⟩ (.string ((kr y).out.extract m (kr y).out.size))) fun e w'=>e=.returned (.tuple #[])/\bL w' yb sb N ys (gJ kr y ((kr y).take m)) sz qu mx qn rt bu wk ou many clock aA stop/\aF (yF yb sb ys) w w'):=by
  have hp:∀x∈ay ys,(gJ kr y ((kr y).take m) x).ph<=2:=fun x hx=>by
   by_cases e:x=y
   ·subst e;simp only[gJ,if_true];exact nw x hx
   ·simp only[gJ,e,if_false];exact nw x hx
  refine(nA yb sb N ys _ sz qu mx qn rt bu wk ou many clock aA stop _ h1 hN fun x hx=>.inl (hp x hx)).mono ?_;rintro e w' ⟨e1,e2,e3⟩;rw[Hw fun x hx=>by have:=hp x hx;simp;omega]at e2;exact⟨e1,e2,(ht.mono fun i _ e=>.inr (.inr (e▸hy))).trans (e3.mono fun i _ e=>e.elim (fun e=>.inr (.inl e)) .inl)⟩
 clear h hu hb nw ht h1;have hn0:decide (n<0)=false:=by simp;omega
 by_cases hc:((kr y).out.size:Int)<n
 ·obtain rfl:m=(kr y).out.size:=by omega
  have hd:decide (((kr y).out.size:Int)<n)=true:=by simpa using hc
  have q1:(kr y).out.extract (kr y).out.size (kr y).out.size=ByteArray.empty:=by simp
  have q2:(kr y).out.extract 0 (kr y).out.size=(kr y).out:=by simp
  rw[q1]at HL;rw[q2];clear hm hc q1 q2;go_enter func126,ntmps126
  go_wp2_with (first
   |(go_at_call 176;refine HI.out.mono ?_;rintro e w1 ⟨rfl,rfl⟩)
   |(go_at_call 177;refine HL.out.mono ?_;rintro e w3 ⟨rfl,h3,t3⟩))
  go_ret2
  exact⟨rfl,h3,t3⟩
 ·have hd:decide (((kr y).out.size:Int)<n)=false:=by simpa using hc
  obtain rfl:n=(m:Int):=by omega
  have hml:m<=(kr y).out.size:=by omega
  clear hm hc;go_enter func126,ntmps126
  go_wp2_with (first
   |(go_at_call 176;refine HI.out.mono ?_;rintro e w1 ⟨rfl,rfl⟩)
   |(go_at_call 177;refine HL.out.mono ?_;rintro e w3 ⟨rfl,h3,t3⟩))
  go_ret2
  exact⟨rfl,h3,t3⟩
end
section
open Go.Proofs.Tryz
open Go.RowKit
attribute [local go_sem ↓] Go.wp_at_zero Go.wp_at_succ
attribute [local go_sem] au aj
theorem rj(yb:Nat)(wt:Int)(w:World)(h:w.cell? ⟨yb,18,none⟩=some (.bool true)):
  Calls prog 124 #[.pointer (some ⟨yb,0,none⟩),.int .i64 wt] w fun e w'=>e=.returned (.tuple #[.int .i64 0,.int .i64 4])/\w'=w:=by
 go_enter func124,ntmps124;go_wp2
 go_ret2
 exact⟨rfl,rfl⟩
theorem zV(yb:Nat)(wt:Int)(w:World)(h:w.cell? ⟨yb,18,none⟩=some (.bool false))(hw:gu wt 1 4=false):
  Calls prog 124 #[.pointer (some ⟨yb,0,none⟩),.int .i64 wt] w fun e w'=>e=.returned (.tuple #[.int .i64 0,.int .i64 5])/\w'=w:=by
 have h1:wt<1\/4<wt:=by simp[gu]at hw;omega
 clear hw
 by_cases hl:wt<1
 ·have hd:decide (wt<1)=true:=by simpa using hl
  clear h1 hl;go_enter func124,ntmps124;go_wp2
  go_ret2
  exact⟨rfl,rfl⟩
 ·have hd:decide (wt<1)=false:=by simpa using hl
  have hd2:decide (4<wt)=true:=by simp;omega
  clear h1 hl;go_enter func124,ntmps124;go_wp2
  go_ret2
  exact⟨rfl,rfl⟩
theorem wX(yb sb N:Nat)(ys:List (Option Nat))(kr:Nat->Cl)(sz qu mx qn rt bu wk ou many clock:Int)(aA:Nat)(wt:Int)(w:World)(h:bL w yb sb N ys kr sz qu mx qn rt bu wk ou many clock aA false)(hN:N<=65535)(hw:gu wt 1 4=true)(hfull:∀i:Nat,ys[i]? ≠some none):
  Calls prog 124 #[.pointer (some ⟨yb,0,none⟩),.int .i64 wt] w fun e w'=>e=.returned (.tuple #[.int .i64 0,.int .i64 3])/\w'=w:=by
 have Dt:w.cell? ⟨yb,18,none⟩=some (.bool false):=af h.box rfl;have c9:w.cell? ⟨yb,9,none⟩=some (.slice (some ⟨sb,0,none⟩) N N):=af h.box rfl;have h1:¬wt<1/\¬4<wt:=by simp[gu]at hw;omega
 have hd:decide (wt<1)=false:=by simpa using h1.1
 have hd2:decide (4<wt)=false:=by simpa using h1.2
 have hl:=h.len;have HH:Hid (AQ w sb ys/\∀i:Nat,ys[i]? ≠some none):=⟨h.row,hfull⟩;clear h hw h1 hfull;go_enter func124,ntmps124;go_wp2
 go_loop [6] (fun i=>∃q:Nat,q<=N/\i=.int .i64 q) (fun i=>N-(intOf i).toNat)
 case atStart=>exact⟨0,Nat.zero_le _,rfl⟩
 case round=>
  obtain⟨q,hq,rfl⟩:=hrel
  by_cases hlt:q<N
  ·have wP:decide ((q:Int)<(N:Int))=true:=by simp;omega
   obtain⟨v,hv⟩:∃v,ys[q]? =some v:=⟨ys[q],by rw[List.getElem?_eq_getElem]⟩;cases v with
   |none=>exact absurd hv (HH.out.2 q)
   |some y=>
    have hc:w.cell? ⟨sb,q,none⟩=some (.pointer (some ⟨y,0,none⟩)):=af HH.out.1 (gx hv);clear hv;go_wp2;refine⟨⟨q+1,by omega,by go_num⟩,?_⟩;simp[intOf];omega
  ·have wP:decide ((q:Int)<(N:Int))=false:=by simp;omega
   go_wp2
   go_ret2
   exact⟨rfl,rfl⟩
theorem Cc(yb sb N j:Nat)(ys:List (Option Nat))(kr:Nat->Cl)(sz qu mx qn rt bu wk ou many clock:Int)(aA:Nat)(wt:Int)(w:World)(h:bL w yb sb N ys kr sz qu mx qn rt bu wk ou many clock aA false)(hN:N<=65535)(hw:gu wt 1 4=true)(hj:oB ys j)(hmy:0<=many/\many<=281474976710656):
  Calls prog 124 #[.pointer (some ⟨yb,0,none⟩),.int .i64 wt] w fun e w'=>e=.returned (.tuple #[.int .i64 many,.int .i64 0])/\∃y,bL w' yb sb N (ys.set j (some y)) (gJ kr y (Cl.fresh many wt bu)) sz qu mx qn rt bu wk ou (many+1) clock aA false/\w.heap.size<=y/\aF (fun i=>i=sb\/i=yb) w w':=by
 have Dt:w.cell? ⟨yb,18,none⟩=some (.bool false):=af h.box rfl;have c9:w.cell? ⟨yb,9,none⟩=some (.slice (some ⟨sb,0,none⟩) N N):=af h.box rfl;have ow:w.cell? ⟨yb,10,none⟩=some (.int .i64 many):=af h.box rfl;have c6:w.cell? ⟨yb,6,none⟩=some (.int .i64 bu):=af h.box rfl;have f10:=aY h.box 10;have h1:¬wt<1/\¬4<wt:=by simp[gu]at hw;omega
 have hd:decide (wt<1)=false:=by simpa using h1.1
 have hd2:decide (4<wt)=false:=by simpa using h1.2
 have hl:=h.len
 have hjN:j<N:=by have:=(List.getElem?_eq_some_iff.1 hj.1).1;omega
 have HH:Hid (bL w yb sb N ys kr sz qu mx qn rt bu wk ou many clock aA false/\oB ys j):=⟨h,hj⟩;clear h hw h1 hj;go_enter func124,ntmps124;go_wp2
 go_loop [6] (fun i=>∃q:Nat,q<=j/\i=.int .i64 q) (fun i=>N-(intOf i).toNat)
 case atStart=>exact⟨0,Nat.zero_le _,rfl⟩
 case round=>
  obtain⟨q,hq,rfl⟩:=hrel;have hlt:q<N:=by omega
  have wP:decide ((q:Int)<(N:Int))=true:=by simp;omega
  by_cases Hs:q=j
  ·subst Hs;have hc:w.cell? ⟨sb,q,none⟩=some (.pointer none):=af HH.out.1.row (gx HH.out.2.1);have fq:=aY HH.out.1.row q;have hw1:wrap64 (many+1)=many+1:=by unfold wrap64;omega
   have B2:dA (w.setCell ⟨yb,10,none⟩ (.int .i64 (many+1))) yb sz N qu mx qn rt bu wk ou sb N (many+1) clock aA false false:=dg HH.out.1.box 10 _;have T2:aF (fun i=>i=yb) w (w.setCell ⟨yb,10,none⟩ (.int .i64 (many+1))):=(aF.refl (fun i=>i=yb) w).set (p:=⟨yb,10,none⟩) rfl _
   go_upto_region 11 with fail
   generalize w.setCell ⟨yb,10,none⟩ (.int .i64 (many+1))=W2 at*;have R2:AQ W2 sb ys:=aN T2 HH.out.1.row fun e=>aJ HH.out.1.row HH.out.1.box (by simp) e;have d9:W2.cell? ⟨yb,9,none⟩=some (.slice (some ⟨sb,0,none⟩) N N):=af B2 rfl;have d6:W2.cell? ⟨yb,6,none⟩=some (.int .i64 bu):=af B2 rfl;have g2:=aY R2 q;have hcq:W2.cell? ⟨sb,q,none⟩=some (.pointer none):=af R2 (gx HH.out.2.1);have HB:Hid (dA W2 yb sz N qu mx qn rt bu wk ou sb N (many+1) clock aA false false/\aF (fun i=>i=yb) w W2/\AQ W2 sb ys):=⟨B2,T2,R2⟩;have xN:Below W2.heap.size W2 (W2.alloc (.cells #[.int .i64 many,.int .i64 wt,.int .i64 0,.string ⟨#[]⟩,.slice none 0 0,.slice none 0 0,.string ⟨#[]⟩,.int .i64 bu,.int .i64 0,.int .i64 0] 237)):=(Below.refl _ W2).alloc (Nat.le_refl _) _;have R3:=aM xN R2;have k1:(W2.alloc (.cells #[.int .i64 many,.int .i64 wt,.int .i64 0,.string ⟨#[]⟩,.slice none 0 0,.slice none 0 0,.string ⟨#[]⟩,.int .i64 bu,.int .i64 0,.int .i64 0] 237)).cell? ⟨sb,q,none⟩=some (.pointer none):=af R3 (gx HH.out.2.1);have k2:=aY R3 q;have HS:Hid ((∀W:World,Below W2.heap.size W2 W->W.cell? ⟨yb,9,none⟩=some (.slice (some ⟨sb,0,none⟩) N N)/\W.cell? ⟨yb,6,none⟩=some (.int .i64 bu))/\sb≠yb):=⟨fun W hb=>⟨aP hb d9,aP hb d6⟩,aJ HH.out.1.row HH.out.1.box (by simp)⟩
   have HQ:Hid (bL ((W2.alloc (.cells #[.int .i64 many,.int .i64 wt,.int .i64 0,.string ⟨#[]⟩,.slice none 0 0,.slice none 0 0,.string ⟨#[]⟩,.int .i64 bu,.int .i64 0,.int .i64 0] 237)).setCell ⟨sb,q,none⟩ (.pointer (some ⟨W2.heap.size,0,none⟩))).drew yb sb N (ys.set q (some W2.heap.size)) (gJ kr W2.heap.size (Cl.fresh many wt bu)) sz qu mx qn rt bu wk ou (many+1) clock aA false/\w.heap.size<=W2.heap.size/\aF (fun i=>i=sb\/i=yb) w ((W2.alloc (.cells #[.int .i64 many,.int .i64 wt,.int .i64 0,.string ⟨#[]⟩,.slice none 0 0,.slice none 0 0,.string ⟨#[]⟩,.int .i64 bu,.int .i64 0,.int .i64 0] 237)).setCell ⟨sb,q,none⟩ (.pointer (some ⟨W2.heap.size,0,none⟩))).drew):=by
    have hne:=HS.out.2;have FZ:=T2.size
    have hnew:∀x∈ay ys,x≠W2.heap.size:=fun x hx e=>by have:=(Array.getElem?_eq_some_iff.1 (HH.out.1.all x hx)).1;omega
    have hss:sb<W2.heap.size:=(Array.getElem?_eq_some_iff.1 R2).1;have wQ:∀k,k≠sb->(((W2.alloc (.cells #[.int .i64 many,.int .i64 wt,.int .i64 0,.string ⟨#[]⟩,.slice none 0 0,.slice none 0 0,.string ⟨#[]⟩,.int .i64 bu,.int .i64 0,.int .i64 0] 237)).setCell ⟨sb,q,none⟩ (.pointer (some ⟨W2.heap.size,0,none⟩))).drew).heap[k]? =(W2.alloc (.cells #[.int .i64 many,.int .i64 wt,.int .i64 0,.string ⟨#[]⟩,.slice none 0 0,.slice none 0 0,.string ⟨#[]⟩,.int .i64 bu,.int .i64 0,.int .i64 0] 237)).heap[k]? :=fun k hk=>dV hk;refine⟨⟨(wQ yb fun e=>hne e.symm).trans (aM xN B2),?_,by rw[List.length_set];exact hl,xW HH.out.2.1 HH.out.1.nodup fun hm=>hnew _ hm rfl,fun x hx=>?_⟩,FZ,?_⟩
    ·have:=dg R3 q (.pointer (some ⟨W2.heap.size,0,none⟩));rw[show(Value.pointer (some ⟨W2.heap.size,0,none⟩))=tO (some W2.heap.size) from rfl,Ad]at this;exact this
    ·rcases(eI HH.out.2.1 x).1 hx with e|hx'
     ·subst e;have:(W2.alloc (.cells #[.int .i64 many,.int .i64 wt,.int .i64 0,.string ⟨#[]⟩,.slice none 0 0,.slice none 0 0,.string ⟨#[]⟩,.int .i64 bu,.int .i64 0,.int .i64 0] 237)).heap[W2.heap.size]? =some (.cells #[.int .i64 many,.int .i64 wt,.int .i64 0,.string ⟨#[]⟩,.slice none 0 0,.slice none 0 0,.string ⟨#[]⟩,.int .i64 bu,.int .i64 0,.int .i64 0] 237):=World.alloc_heap_new W2 _;simp only[gJ,if_true];exact(wQ _ (by omega)).trans this
     ·simp only[gJ,hnew x hx',if_false];have hb:=HH.out.1.all x hx';refine(wQ x fun e=>aJ hb HH.out.1.row (by simp) e).trans (aM xN (aN T2 hb fun e=>aJ hb HH.out.1.box (by simp) e))
    ·have t3:aF (fun i=>i=sb\/i=yb) w (W2.alloc (.cells #[.int .i64 many,.int .i64 wt,.int .i64 0,.string ⟨#[]⟩,.slice none 0 0,.slice none 0 0,.string ⟨#[]⟩,.int .i64 bu,.int .i64 0,.int .i64 0] 237)):=(T2.mono fun _ _ e=>.inr e).trans (.below xN);exact(t3.set (p:=⟨sb,q,none⟩) (.inl rfl) _).drew'
   clear B2 T2 R2 R3 hw1 xN;refine wp_region_noPanic ?_;refine wp_region_held_drew (S:=fun W=>W.cell? ⟨yb,9,none⟩=some (.slice (some ⟨sb,0,none⟩) N N)/\W.cell? ⟨yb,6,none⟩=some (.int .i64 bu)) (by kernel_rfl) ⟨d9,d6⟩ ?_;intro hHeld;refine tk 0 ?_;refine tk 1 ?_;refine tk 2 ?_;refine tk 3 ?_;refine tk 4 ?_;refine tk 5 ?_;refine tk 6 ?_;refine tk 7 ?_;refine tk 8 ?_;refine tk 9 ?_;refine tk 10 ?_;refine tk 11 ?_;refine tk 12 ?_;refine rH 13 fun K hK=>?_;go_simp;refine hK.out _ _ (HS.out.1 _ ((Below.refl _ W2).alloc (Nat.le_refl _) _).drew) (fun aar=>?_);clear hK K;refine tk 14 ?_;refine rH 15 fun K hK=>?_;go_simp;refine hK.out _ _ ⟨af HQ.out.1.box rfl,af HQ.out.1.box rfl⟩ (fun WT=>?_);clear hK K;refine wpAnyH_done (by kernel_rfl) ?_ _;refine NoPanic.normal ?_;go_wp2_with fail
   go_ret2
   exact⟨rfl,_,HQ.out⟩
  ·obtain⟨v,hv⟩:∃v,ys[q]? =some v:=⟨ys[q],by rw[List.getElem?_eq_getElem]⟩;cases v with
   |none=>exact absurd hv (HH.out.2.2 q (by omega))
   |some y=>
    have hc:w.cell? ⟨sb,q,none⟩=some (.pointer (some ⟨y,0,none⟩)):=af HH.out.1.row (gx hv);clear hv;go_wp2;refine⟨⟨q+1,by omega,by go_num⟩,?_⟩;simp[intOf];omega
end
section
open Go.Proofs.Tryz
open Go.RowKit
def aK.add(p:aK)(c rb mb ch:Nat)(k:Cl):aK:=⟨fun x=>if x=c then rb else p.rb x,fun x=>if x=c then mb else p.mb x,fun x=>if x=c then ch else p.ch x,fun x=>if x=c then k else p.k x⟩
def jJ(C:Nat->Nat->Prop)(c rb mb ch:Nat)(x b:Nat):Prop:=if x=c then(b=c\/b=rb\/b=mb\/b=ch)else C x b
theorem Bv(xb sb N j:Nat)(cs:List (Option Nat))(p:aK)(C:Nat->Nat->Prop)(sz qu mx qn rt bu wk ou av clock:Int)(jt:Nat)(db:Option Addr)(wt:Int)(w:World)(h:bf w xb sb N cs p C sz qu mx qn rt bu wk ou av clock false jt db)(hN:N<=65535)(hw:gu wt 1 4=true)(hj:oB cs j)(hcm:0<=av/\av<=281474976710656):
  Calls prog 36 #[.pointer (some ⟨xb,0,none⟩),.int .i64 wt] w fun e w'=>e=.returned (.tuple #[.int .i64 av,.int .i64 0])/\∃c rb mb ch,bf w' xb sb N (cs.set j (some c)) (p.add c rb mb ch (Cl.fresh av wt bu)) (jJ C c rb mb ch) sz qu mx qn rt bu wk ou (av+1) clock false jt db/\c∉ay cs/\bC w' c av wt sz N qu mx qn rt bu wk ou rb ⟨#[]⟩ (.slice none 0 0) bu 0 ch/\aF (fun i=>i=sb\/i=xb) w w'/\w.heap.size<=c/\w.heap.size<=rb/\w.heap.size<=mb/\w.heap.size<=ch:=by
 refine(Dy xb sb N j cs sz N qu mx qn rt bu wk ou av clock jt db wt w h.box h.row h.len hN hw hj hcm).mono ?_;rintro e w' ⟨h1,h2,c,rb,mb,ch,h3,h4,h5,h6,g1,g2,g3,g4⟩;have hlt:∀x∈ay cs,∀b,C x b->b<w.heap.size:=h.lt;have hc:c∉ay cs:=fun hx=>by have:=hlt c hx c (h.owns c hx).dO.1;omega
 have hne:∀x∈ay cs,x≠c:=fun x hx e=>hc (e▸hx)
 have hX:∀x∈ay cs,∀b,C x b->¬(b=sb\/b=xb):=fun x hx b hb=>by
  rintro(e|e)
  ·exact(h.cG x hx).2 (e▸hb)
  ·exact(h.cG x hx).1 (e▸hb)
 have lx:=(Array.getElem?_eq_some_iff.1 h.box).1;have ls:=(Array.getElem?_eq_some_iff.1 h.row).1;have big:∀b,(b=c\/b=rb\/b=mb\/b=ch)->w.heap.size<=b:=by rintro b (rfl|rfl|rfl|rfl)<;>assumption
 obtain⟨rp,r1,_⟩:=h4.rd;obtain⟨es,ck,r2,_⟩:=r1.uses
 have top:∀b,(b=c\/b=rb\/b=mb\/b=ch)->b<w'.heap.size:=by
  rintro b (rfl|rfl|rfl|rfl)
  ·exact(Array.getElem?_eq_some_iff.1 h5).1
  ·exact(Array.getElem?_eq_some_iff.1 r1.box).1
  ·exact(Array.getElem?_eq_some_iff.1 r2).1
  ·exact(Array.getElem?_eq_some_iff.1 h4.chan).1
 refine⟨h1,c,rb,mb,ch,⟨h2,h3,by rw[List.length_set];exact h.len,fun x hx=>?_,xW hj.1 h.nodup hc,fun x hx=>?_,fun x hx y hy hxy b hb hb'=>?_,fun x hx=>?_,fun x hx b hb=>?_⟩,hc,h5,h6,g1,g2,g3,g4⟩
 ·rcases(eI hj.1 x).1 hx with rfl|hx
  ·simp only[aK.add,if_true];exact h4
  ·have e:=hne x hx;simp only[aK.add,e,if_false];exact(h.all x hx).apart (h.owns x hx) h6 (hX x hx)
 ·rcases(eI hj.1 x).1 hx with rfl|hx
  ·simp only[aK.add,if_true];refine⟨by simp[jJ],fun v hv g hg=>?_⟩;have e:v=.slice none 0 0:=Option.some.inj (hv.symm.trans (aa h5 rfl));rw[e]at hg;cases hg
  ·have e:=hne x hx;have:=(h.owns x hx).apart (h.all x hx) h6 (hX x hx);simp only[aK.add,e,if_false];refine⟨?_,?_⟩
   ·simp only[jJ,e,if_false];exact this.dO
   ·intro v hv g hg;simp only[jJ,e,if_false];exact this.out v hv g hg
 ·rcases(eI hj.1 x).1 hx with ex|hx1
  ·rcases(eI hj.1 y).1 hy with ey|hy1
   ·exact hxy (ex.trans ey.symm)
   ·simp only[jJ,ex,if_true]at hb;simp only[jJ,hne y hy1,if_false]at hb';have:=hlt y hy1 b hb';have:=big b hb;omega
  ·rcases(eI hj.1 y).1 hy with ey|hy1
   ·simp only[jJ,hne x hx1,if_false]at hb;simp only[jJ,ey,if_true]at hb';have:=hlt x hx1 b hb;have:=big b hb';omega
   ·simp only[jJ,hne x hx1,if_false]at hb;simp only[jJ,hne y hy1,if_false]at hb';exact h.apart x hx1 y hy1 hxy b hb hb'
 ·rcases(eI hj.1 x).1 hx with rfl|hx
  ·simp only[jJ,if_true];exact⟨fun hb=>by have:=big xb hb;omega,fun hb=>by have:=big sb hb;omega⟩
  ·simp only[jJ,hne x hx,if_false];exact h.cG x hx
 ·rcases(eI hj.1 x).1 hx with rfl|hx
  ·simp only[jJ,if_true]at hb;exact top b hb
  ·simp only[jJ,hne x hx,if_false]at hb;exact Nat.lt_of_lt_of_le (hlt x hx b hb) h6.size
end
section
theorem uh(sz mx:Int)(m:bg)(h:m.nm.size<=1):(answer sz mx m).size<=5:=by
 unfold answer;split
 ·split<;>exact(by decide:(1:Nat)<=5)
 ·split
  ·split
   ·rw[ByteArray.size_append,ByteArray.size_append];exact(by decide:1+2+2<=5)
   ·split
    ·exact(by decide:(1:Nat)<=5)
    ·rw[ByteArray.size_append];show 1+m.nm.size<=5;omega
  ·exact(by decide:(0:Nat)<=5)
theorem ug{ph:Int}{m:bg}(hp:0<=ph/\ph<=2)(h3:m.wh≠3)(h4:m.wh≠4):0<=after ph m/\after ph m<=2:=by
 unfold after;split
 ·omega
 ·split
  ·omega
  ·split
   ·rename_i h;exact absurd h.1 h3
   ·exact hp
theorem sD(sz mx ou:Int)(f:Nat)(k:Cl)(hp:0<=k.ph/\k.ph<=2)(hq:fT k.aO):
  ((0<=(Cl.read sz mx ou f k).ph/\(Cl.read sz mx ou f k).ph<=2)\/((Cl.read sz mx ou f k).ph=4/\(Cl.read sz mx ou f k).out.size=0))/\fT (Cl.read sz mx ou f k).aO/\(Cl.read sz mx ou f k).aO.size<=k.aO.size/\((Cl.read sz mx ou f k).out.size<=k.out.size\/((Cl.read sz mx ou f k).out.size:Int)<ou):=by
 induction f generalizing k with
 |zero=>exact⟨.inl hp,hq,Nat.le_refl _,.inl (Nat.le_refl _)⟩
 |succ f ih=>
  unfold Cl.read;split
  ·rename_i hh;dsimp only;split
   ·exact⟨.inl hp,hq,Nat.le_refl _,.inl (Nat.le_refl _)⟩
   ·rename_i h0;split
    ·refine⟨.inr ⟨rfl,rfl⟩,fun i hi=>?_,Nat.zero_le _,.inl (Nat.zero_le _)⟩;exact absurd hi (Nat.not_lt_zero i)
    ·rename_i h4
     have h3:(first sz mx k.ph [] k.aO).1.wh≠3:=by
      rcases iz sz mx k.ph [] k.aO hq with h|h|h|h
      ·exact absurd h h0
      ·omega
      ·omega
      ·rw[h]at h4;exact absurd rfl h4
     have ha:=uh sz mx _ (pP sz mx k.ph [] k.aO)
     have hi:(k.hear sz mx (first sz mx k.ph [] k.aO)).aO.size<=k.aO.size:=by simp only[Cl.hear,ByteArray.size_extract];omega
     have ho:((k.hear sz mx (first sz mx k.ph [] k.aO)).out.size:Int)<ou:=by simp only[Cl.hear,ByteArray.size_append];have:=hh.2;omega
     obtain⟨g1,g2,g3,g4⟩:=ih (k.hear sz mx (first sz mx k.ph [] k.aO)) (ug hp h3 h4) (hq.rest _);exact⟨g1,g2,Nat.le_trans g3 hi,.inr (by omega)⟩
  ·exact⟨.inl hp,hq,Nat.le_refl _,.inl (Nat.le_refl _)⟩
theorem Iv(sz mx ou:Int)(f:Nat)(k:Cl):(Cl.read sz mx ou f k).no=k.no/\(Cl.read sz mx ou f k).wt=k.wt/\(Cl.read sz mx ou f k).tok=k.tok:=by
 induction f generalizing k with
 |zero=>exact⟨rfl,rfl,rfl⟩
 |succ f ih=>
  unfold Cl.read;split
  ·dsimp only;split
   ·exact⟨rfl,rfl,rfl⟩
   ·split
    ·exact⟨rfl,rfl,rfl⟩
    ·exact ih _
  ·exact⟨rfl,rfl,rfl⟩
end
section
open Go.Proofs.Tryz
def bH(k:Nat->Cl)(cs:List (Option Nat)):List (Option Cl):=cs.map (Option.map k)
def iH(K:List (Option Cl)):List Cl:=K.filterMap id
def cH(K:List (Option Cl))(u:Int):Option Cl:=(iH K).find? fun k=>decide (k.no=u)
def iZ(u:Int)(g:Cl->Cl):List (Option Cl)->List (Option Cl)
 |[]=>[]
 |none::r=>none::iZ u g r
 |some k::r=>if k.no=u then some (g k)::r else some k::iZ u g r
def mj(u:Int):List (Option Cl)->List (Option Cl)
 |[]=>[]
 |none::r=>none::mj u r
 |some k::r=>if k.no=u then none::r else some k::mj u r
def Ek(g:Cl->Bool):Option Cl->Option Cl
 |none=>none
 |some k=>if g k then none else some k
def Pj(K:List (Option Cl))(j:Nat):Prop:=K[j]? =some none/\∀i,i<j->K[i]? ≠some none
theorem xX(k:Nat->Cl)(cs:List (Option Nat)):iH (bH k cs)=(ay cs).map k:=by
 induction cs with
 |nil=>rfl
 |cons a r ih=>
  cases a with
  |none=>exact ih
  |some c=>exact congrArg (k c::·) ih
theorem kg{k:Nat->Cl}{cs:List (Option Nat)}{c:Nat}(h:c∈ay cs):k c∈iH (bH k cs):=by rw[xX];exact List.mem_map_of_mem h
theorem sI{k k':Nat->Cl}{cs:List (Option Nat)}(h:∀c∈ay cs,k c=k' c):bH k cs=bH k' cs:=by
 induction cs with
 |nil=>rfl
 |cons a r ih=>
  cases a with
  |none=>exact congrArg (none::·) (ih h)
  |some c=>
   have h1:k c=k' c:=h c (List.mem_cons_self ..);show some (k c)::_=some (k' c)::_;rw[h1];exact congrArg (_::·) (ih fun x hx=>h x (List.mem_cons_of_mem _ hx))
theorem Bw(k:Nat->Cl)(cs:List (Option Nat))(u:Int):cH (bH k cs) u=((ay cs).find? fun c=>decide ((k c).no=u)).map k:=by unfold cH;rw[xX,List.find?_map];rfl
theorem dW{k:Nat->Cl}{cs:List (Option Nat)}{u:Int}(h:cH (bH k cs) u=none):(ay cs).find? (fun c=>decide ((k c).no=u))=none:=by
 rw[Bw]at h;cases e:(ay cs).find? (fun c=>decide ((k c).no=u))with
 |none=>rfl
 |some c=>rw[e]at h;cases h
theorem cv{k:Nat->Cl}{cs:List (Option Nat)}{u:Int}{x:Cl}(h:cH (bH k cs) u=some x):∃c,(ay cs).find? (fun c=>decide ((k c).no=u))=some c/\k c=x:=by
 rw[Bw]at h;cases e:(ay cs).find? (fun c=>decide ((k c).no=u))with
 |none=>rw[e]at h;cases h
 |some c=>rw[e]at h;exact⟨c,rfl,Option.some.inj h⟩
theorem jK{K:List (Option Cl)}{u:Int}{x:Cl}(h:cH K u=some x):x∈iH K:=List.mem_of_find?_eq_some h
theorem tS{k:Nat->Cl}{cs:List (Option Nat)}{u:Int}{c:Nat}(g:Cl->Cl)(hn:(ay cs).Nodup)(h:(ay cs).find? (fun c=>decide ((k c).no=u))=some c):bH (fun x=>if x=c then g (k c)else k x) cs=iZ u g (bH k cs):=by
 induction cs with
 |nil=>cases h
 |cons a r ih=>
  cases a with
  |none=>exact congrArg (none::·) (ih hn h)
  |some d=>
   have hs:ay (some d::r)=d::ay r:=rfl;rw[hs]at hn h;rw[List.nodup_cons]at hn;rw[List.find?_cons]at h
   by_cases hd:(k d).no=u
   ·have hdc:d=c:=by simpa[hd]using h
    subst hdc;show some (if d=d then g (k d)else k d)::bH _ r=iZ u g (some (k d)::bH k r);rw[if_pos rfl,iZ,if_pos hd];refine congrArg (_::·) (sI fun x hx=>?_);have hne:x≠d:=fun e=>hn.1 (e▸hx);exact if_neg hne
   ·rw[decide_eq_false hd]at h;have hdc:d≠c:=fun e=>hn.1 (e▸List.mem_of_find?_eq_some h);show some (if d=c then g (k c)else k d)::bH _ r=iZ u g (some (k d)::bH k r);rw[if_neg hdc,iZ,if_neg hd];exact congrArg (_::·) (ih hn.2 h)
theorem El{r:List (Option Nat)}{c:Nat}(h:c∉ay r):lets (fun x=>decide (x=c)) r=r:=by
 induction r with
 |nil=>rfl
 |cons a r ih=>
  cases a with
  |none=>exact congrArg (none::·) (ih h)
  |some d=>
   have hd:d≠c:=fun e=>h (e▸List.mem_cons_self ..);have h2:c∉ay r:=fun e=>h (List.mem_cons_of_mem _ e);show mI _ (some d)::lets _ r=_;rw[ih h2];simp[mI,hd]
theorem FI{k:Nat->Cl}{cs:List (Option Nat)}{u:Int}{c:Nat}(hn:(ay cs).Nodup)(h:(ay cs).find? (fun c=>decide ((k c).no=u))=some c):bH k (lets (fun x=>decide (x=c)) cs)=mj u (bH k cs):=by
 induction cs with
 |nil=>cases h
 |cons a r ih=>
  cases a with
  |none=>exact congrArg (none::·) (ih hn h)
  |some d=>
   have hs:ay (some d::r)=d::ay r:=rfl;rw[hs]at hn h;rw[List.nodup_cons]at hn;rw[List.find?_cons]at h
   by_cases hd:(k d).no=u
   ·have hdc:d=c:=by simpa[hd]using h
    subst hdc;show bH k (mI _ (some d)::lets _ r)=mj u (some (k d)::bH k r);rw[El hn.1,mj,if_pos hd];simp[mI,bH]
   ·rw[decide_eq_false hd]at h;have hdc:d≠c:=fun e=>hn.1 (e▸List.mem_of_find?_eq_some h);show bH k (mI _ (some d)::lets _ r)=mj u (some (k d)::bH k r);rw[mj,if_neg hd,<-ih hn.2 h];simp[mI,hdc,bH]
theorem Ga(k:Nat->Cl)(g:Cl->Bool)(cs:List (Option Nat)):bH k (lets (fun c=>g (k c)) cs)=(bH k cs).map (Ek g):=by
 unfold bH lets;rw[List.map_map,List.map_map];refine List.map_congr_left fun a _=>?_;cases a with
 |none=>rfl
 |some c=>
  show Option.map k (if g (k c)=true then none else some c)=Ek g (some (k c))
  by_cases hg:g (k c)=true<;>simp[Ek,hg]
theorem Gc(k:Nat->Cl)(g:Cl->Cl)(cs:List (Option Nat)):bH (fun c=>g (k c)) cs=(bH k cs).map (Option.map g):=by unfold bH;rw[List.map_map];refine List.map_congr_left fun a _=>?_;cases a<;>rfl
theorem Gl{k:Nat->Cl}{cs:List (Option Nat)}{c j:Nat}{x:Cl}(hc:c∉ay cs):bH (fun y=>if y=c then x else k y) (cs.set j (some c))=(bH k cs).set j (some x):=by
 have h1:bH (fun y=>if y=c then x else k y) cs=bH k cs:=sI fun y hy=>by have hne:y≠c:=fun e=>hc (e▸hy);exact if_neg hne
 unfold bH at h1⊢;rw[List.map_set,h1];simp
theorem pR{k:Nat->Cl}{cs:List (Option Nat)}(i:Nat):(bH k cs)[i]? =some none↔cs[i]? =some none:=by
 unfold bH;rw[List.getElem?_map];cases h:cs[i]? with
 |none=>simp
 |some a=>cases a<;>simp
theorem pQ{k:Nat->Cl}{cs:List (Option Nat)}{j:Nat}(h:Pj (bH k cs) j):oB cs j:=⟨(pR j).1 h.1,fun i hi e=>h.2 i hi ((pR i).2 e)⟩
structure Gx(k:Cl):Prop where
 ph:0<=k.ph/\k.ph<=2
 jU:fT k.aO
 aO:k.aO.size<=1024
 out:k.out.size<=256
 wt:1<=k.wt/\k.wt<=4
 tok:0<=k.tok/\k.tok<=32
theorem Bz{u:Int}{g:Cl->Cl}{K:List (Option Cl)}{x:Cl}(h:x∈iH (iZ u g K)):x∈iH K\/∃k,cH K u=some k/\x=g k:=by
 induction K with
 |nil=>cases h
 |cons a r ih=>
  cases a with
  |none=>exact ih h
  |some k=>
   have hf:cH (some k::r) u=if k.no=u then some k else cH r u:=by
    unfold cH;show List.find? _ (k::iH r)=_;rw[List.find?_cons]
    by_cases hk:k.no=u<;>simp[hk]
   rw[iZ]at h;rw[hf];split at h
   ·rename_i hk;rw[if_pos hk];rcases List.mem_cons.1 h with e|e
    ·exact .inr ⟨k,rfl,e⟩
    ·exact .inl (List.mem_cons_of_mem _ e)
   ·rename_i hk;rw[if_neg hk];rcases List.mem_cons.1 h with e|e
    ·exact .inl (e▸List.mem_cons_self ..)
    ·rcases ih e with e|h2
     ·exact .inl (List.mem_cons_of_mem _ e)
     ·exact .inr h2
theorem LA{u:Int}{K:List (Option Cl)}{x:Cl}(h:x∈iH (mj u K)):x∈iH K:=by
 induction K with
 |nil=>cases h
 |cons a r ih=>
  cases a with
  |none=>exact ih h
  |some k=>
   rw[mj]at h;split at h
   ·exact List.mem_cons_of_mem _ h
   ·rcases List.mem_cons.1 h with e|e
    ·exact e▸List.mem_cons_self ..
    ·exact List.mem_cons_of_mem _ (ih e)
theorem qo{K:List (Option Cl)}{x:Cl}:x∈iH K↔some x∈K:=by unfold iH;rw[List.mem_filterMap];exact⟨fun⟨a,h1,h2⟩=>by cases h2;exact h1,fun h=>⟨_,h,rfl⟩⟩
theorem LB{K:List (Option Cl)}{j:Nat}{y x:Cl}(h:x∈iH (K.set j (some y))):x∈iH K\/x=y:=by
 rw[qo]at h⊢;rcases List.mem_or_eq_of_mem_set h with h|h
 ·exact .inl h
 ·exact .inr (Option.some.inj h)
theorem Gq(u:Int)(g:Cl->Cl)(K:List (Option Cl)):(iZ u g K).length=K.length:=by
 induction K with
 |nil=>rfl
 |cons a r ih=>
  cases a with
  |none=>simp[iZ,ih]
  |some k=>unfold iZ;split<;>simp[ih]
theorem Nn(u:Int)(K:List (Option Cl)):(mj u K).length=K.length:=by
 induction K with
 |nil=>rfl
 |cons a r ih=>
  cases a with
  |none=>simp[mj,ih]
  |some k=>unfold mj;split<;>simp[ih]
end
section
open Go.Proofs.Tryz
open Go.RowKit
attribute [local go_sem ↓] Go.wp_at_zero Go.wp_at_succ
theorem Bj{P:Program}{f:FuncId}{fn:Func}{c:Code}{a:Act}{w:World}{R:Ending->World->Prop}{n:Nat}{b:Frame}(hf:P.funcs[f]? =some fn)(hfn:b.fn=f)(hk:b.kind=.normal)(hro:b.roundOf=none)(h:c.wpIn Fence.wide n P (bodyPostM Fence.wide n P fn R) a w)(cs:List Frame):
  ∃e w' fr',R e w'/\Comes P (lone (b.at a [.code c]) cs w) (lone fr' cs w') e/\fr'.fn=f/\fr'.leaving P w' e:=by
 have hr:Fence.wide.room (cs.length+1+n):=room_wide _;obtain⟨e,a',w',hq,KG⟩:=h b [] cs hro trivial hr;have XZ:b.atR a [.code c]=b.at a [.code c]:=Frame.atR_of_none hro _ _;rw[XZ]at KG
 have fin:∀(m:FrameMode) (todo:List Item),LeavesInM Fence.wide n P fn a'.tmps R a'.defers m w'->StepsIn (Machine.fenced P Fence.wide) P (lone (b.at a [.code c]) cs w) (lone {b.atR a' todo with mode:=m} cs w')->
   ∃e w' fr',R e w'/\Comes P (lone (b.at a [.code c]) cs w) (lone fr' cs w') e/\fr'.fn=f/\fr'.leaving P w' e:=fun m todo hl hs=>by
  obtain⟨e',w'',fr',hR,hs',KP,hl'⟩:=leaves_stepsInM a'.defers m w' {b.atR a' todo with mode:=m} cs rfl rfl rfl (by rw[<-hfn]at hf;exact hf) hk trivial hr hl;exact⟨e',w'',fr',hR,comesIn_wide.1 (ComesIn.of_steps hs hs'),KP.trans hfn,hl'⟩
 cases e with
 |normal=>exact fin .returning [] hq (StepsIn.trans KG (.one (fenced_calm (fr:=b.atR a' []) trivial hr rfl) (stepR_end hro)))
 |ret=>
  obtain⟨todo,Lb⟩:=KG.1 hro;exact fin .returning todo hq Lb
 |panic chain=>
  obtain⟨todo,Lb⟩:=KG;exact fin (.panicking chain) todo hq Lb
 |exit id=>exact hq.elim
 |goto l=>exact hq.elim
 |outgrown=>exact⟨.outgrown,w',{b with fn:=f},hq,comesIn_wide.1 (KG.resolve_left (by rw[hk];simp)),rfl,trivial⟩
theorem az(c:Nat)(n:Int)(w:World)(h:w.cell? ⟨c,13,none⟩=some (.slice none 0 0)):
  Calls prog 102 #[.pointer (some ⟨c,0,none⟩),.int .i64 n] w fun e w'=>e=.returned (.int .i64 n)/\w'=w:=by
 go_enter func102,ntmps102;go_wp2
 go_loop [1,11] (fun x i=>x=.int .i64 n/\i=.int .i64 0) (fun _ _=>0)
 case atStart=>exact⟨rfl,rfl⟩
 case round=>
  obtain⟨rfl,rfl⟩:=hrel;go_wp2;go_ret;exact⟨rfl,rfl⟩
end
end Go.Proofs.YtpobhljcainmdaaGreat
