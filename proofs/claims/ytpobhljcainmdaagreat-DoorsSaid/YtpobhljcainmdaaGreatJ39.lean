/- Proved here: a part of what Doors keeps (Ab3, Rf8, Rf9, Rf10, Rf11). -/
import Derived.Test.YtpobhljcainmdaaGreatJ01
import Derived.Test.YtpobhljcainmdaaGreatJ15
import Derived.Test.YtpobhljcainmdaaGreatJ37
import Derived.Test.YtpobhljcainmdaaGreatJ38
set_option maxRecDepth 100000
set_option maxHeartbeats 8000000
set_option linter.all false
namespace Go.Proofs.YtpobhljcainmdaaGreat
section
open Go.Proofs.Tryz
open Go Go.Conc Go.RowKit
open Go.ConcR (Payload)
def grown(B:Nat->Prop)(W W':World)(b:Nat):Prop:=B b\/(W.heap.size<=b/\b<W'.heap.size)
theorem dI{gone:Nat->Bool}{cs:List (Option Nat)}{c:Nat}(h:c∈ay (lets gone cs)):c∈ay cs/\gone c=false:=by rw[eZ]at h;have h:=List.mem_filter.1 h;exact⟨h.1,by simpa using h.2⟩
def Fy.new(S0 N:Nat)(qu mx qn rt bu wk ou:Int):Fy:=⟨S0,qu,mx,qn,rt,bu,wk,ou,N,List.replicate N none,0,0,false⟩
theorem iJ(N:Nat):ay (List.replicate N none)=[]:=by
 induction N with
 |zero=>rfl
 |succ N ih=>rw[List.replicate_succ];exact ih
theorem Fy.Ok.new{S0 N:Nat}{qu mx qn rt bu wk ou:Int}(h:iV S0 N qu mx qn rt bu wk ou=true)(n:Nat):(Fy.new S0 N qu mx qn rt bu wk ou).Ok n:=by refine⟨h,List.length_replicate,fun k hk=>?_,⟨Int.le_refl 0,Int.natCast_nonneg n⟩,⟨Int.le_refl 0,Int.natCast_nonneg n⟩⟩;rw[qo]at hk;have:=List.eq_of_mem_replicate hk;cases this
section
variable [aR]
structure dS(W:World)(f:Fy)(xb:Nat)(B:Nat->Prop):Prop where
 at_:∃sb cs p C j db,bf W xb sb f.N cs p C f.sz f.qu f.mx f.qn f.rt f.bu f.wk f.ou f.av f.clock f.stop j db/\j<f.N/\bH p.k cs=f.K/\(∀c∈ay cs,Closed (C c) W)/\B xb/\B sb/\∀c∈ay cs,∀b,C c b->B b
 lt:∀b,B b->b<W.heap.size
variable {w w':World} {f:Fy} {xb n:Nat} {B X:Nat->Prop}
theorem dS.old(h:dS w f xb B)(ht:aF X w w')(hX:∀b,B b->¬X b):dS w' f xb B:=by obtain⟨⟨sb,cs,p,C,j,db,h1,h2,h3,h4,h5,h6,h7⟩,hl⟩:=h;exact⟨⟨sb,cs,p,C,j,db,h1.later ht (fun c hc b hb=>hX b (h7 c hc b hb)) (aN ht h1.box (hX _ h5)) (aN ht h1.row (hX _ h6)),h2,h3,fun c hc=>(h4 c hc).apart ht (fun b hb=>hX b (h7 c hc b hb)),h5,h6,h7⟩,fun b hb=>Nat.lt_of_lt_of_le (hl b hb) ht.size⟩
theorem dS.grow(h:dS w' f xb B):dS w' f xb (grown B w w'):=by obtain⟨⟨sb,cs,p,C,j,db,h1,h2,h3,h4,h5,h6,h7⟩,hl⟩:=h;exact⟨⟨sb,cs,p,C,j,db,h1,h2,h3,h4,.inl h5,.inl h6,fun c hc b hb=>.inl (h7 c hc b hb)⟩,fun b hb=>hb.elim (hl b) (·.2)⟩
theorem dS.below(h:dS w f xb B)(hb:Below w.heap.size w w'):dS w' f xb (grown B w w'):=(h.old (X:=fun _=>False) (aF.below hb) (fun _ _ h=>h)).grow
theorem dS.send(h:dS w f xb B)(hok:f.Ok n)(u:Int)(s:ByteArray):
  Calls prog 37 #[.pointer (some ⟨xb,0,none⟩),.int .i64 u,.string s] w fun e w'=>e=.returned (.int .i64 (f.jr u s))/\dS w' (f.send u s) xb (grown B w w')/\aF B w w':=by
 have hN:f.N<=65535:=by have:=(bk hok.cfg).2.1;omega
 obtain⟨⟨sb,cs,p,C,j,db,h1,h2,h3,h4,h5,h6,h7⟩,hl⟩:=id h;cases hf:cH f.K u with
 |none=>
  have e1:f.jr u s=2:=by unfold Fy.jr;rw[hf]
  have e2:f.send u s=f:=by unfold Fy.send;rw[hf]
  rw[e1,e2];rw[<-h3]at hf;refine(DV xb sb f.N cs p C _ _ _ _ _ _ _ _ _ _ _ j db u s w h1 hN (dW hf)).mono ?_;rintro e w' ⟨rfl,hb⟩;exact⟨rfl,h.below hb,aF.below hb⟩
 |some k=>
  have hs:=hok.vO k (jK hf)
  by_cases mF:1024<k.aO.size+s.size
  ·have e1:f.jr u s=6:=by unfold Fy.jr;rw[hf];exact if_pos mF
   have e2:f.send u s=f:=by unfold Fy.send;rw[hf];dsimp only;rw[if_pos mF]
   rw[e1,e2];rw[<-h3]at hf;obtain⟨c,hc,rfl⟩:=cv hf;refine(DU xb sb f.N c cs p C _ _ _ _ _ _ _ _ _ _ _ j db u s w h1 hN hc (by have:=hs.ph;omega) hs.aO mF).mono ?_;rintro e w' ⟨rfl,hb⟩;exact⟨rfl,h.below hb,aF.below hb⟩
  ·have e1:f.jr u s=0:=by unfold Fy.jr;rw[hf];exact if_neg mF
   have e2:f.send u s={f with K:=iZ u (Cl.send s) f.K}:=by unfold Fy.send;rw[hf];dsimp only;rw[if_neg mF]
   rw[e1,e2];rw[<-h3]at hf;obtain⟨c,hc,rfl⟩:=cv hf;have hm:c∈ay cs:=aK.mem hc;refine(Kt xb sb f.N c cs p C _ _ _ _ _ _ _ _ _ _ _ j db u s w h1 hN hc (by have:=hs.ph;omega) (by omega)).mono ?_;rintro e w' ⟨rfl,g1,g2,g3⟩;refine⟨rfl,⟨⟨sb,cs,_,C,j,db,g1,h2,?_,fun x hx=>?_,.inl h5,.inl h6,fun x hx b hb=>.inl (h7 x hx b hb)⟩,fun b hb=>hb.elim (fun hb=>Nat.lt_of_lt_of_le (hl b hb) g2.size) (·.2)⟩,g2.mono fun b _ hb=>h7 c hm b hb⟩
   ·show _=iZ u (Cl.send s) f.K;rw[<-h3];exact tS (Cl.send s) h1.nodup hc
   ·by_cases AE:x=c
    ·subst AE;exact(h4 x hx).Ry g3 (g1.all x hx) (g1.owns x hx)
    ·exact(h4 x hx).apart g2 (h1.apart x hx c hm AE)
theorem dS.take(h:dS w f xb B)(hok:f.Ok n)(u m:Int):
  Calls prog 33 #[.pointer (some ⟨xb,0,none⟩),.int .i64 u,.int .i64 m] w fun e w'=>e=.returned (.tuple #[.string (f.jw u m),.int .i64 (f.jv u m)])/\dS w' (f.take u m) xb (grown B w w')/\aF B w w':=by
 have hN:f.N<=65535:=by have:=(bk hok.cfg).2.1;omega
 obtain⟨⟨sb,cs,p,C,j,db,h1,h2,h3,h4,h5,h6,h7⟩,hl⟩:=id h;have hg:∀c∈ay cs,(p.k c).ph<=2:=fun c hc=>(hok.vO _ (h3▸kg hc)).ph.2;cases hf:cH f.K u with
 |none=>
  have e0:f.jw u m=⟨#[]⟩:=by unfold Fy.jw;rw[hf]
  have e1:f.jv u m=2:=by unfold Fy.jv;rw[hf]
  have e2:f.take u m=f:=by unfold Fy.take;rw[hf]
  rw[e0,e1,e2];rw[<-h3]at hf;refine(DW xb sb f.N cs p C _ _ _ _ _ _ _ _ _ _ _ j db u m w h1 hN (dW hf)).mono ?_;rintro e w' ⟨rfl,hb⟩;exact⟨rfl,h.below hb,aF.below hb⟩
 |some k=>
  by_cases hneg:m<0
  ·have e0:f.jw u m=⟨#[]⟩:=by unfold Fy.jw;rw[hf];exact if_pos hneg
   have e1:f.jv u m=5:=by unfold Fy.jv;rw[hf];exact if_pos hneg
   have e2:f.take u m=f:=by unfold Fy.take;rw[hf];dsimp only;rw[if_pos hneg]
   rw[e0,e1,e2];rw[<-h3]at hf;obtain⟨c,hc,rfl⟩:=cv hf;have hm:c∈ay cs:=aK.mem hc;refine(GN xb sb f.N c cs p C _ _ _ _ _ _ _ _ _ _ _ j db u m w h1 hN hc hg hneg).mono ?_;rintro e w' ⟨rfl,g1,g2,g3⟩;refine⟨rfl,⟨⟨sb,cs,_,C,j,db,g1,h2,h3,fun x hx=>?_,.inl h5,.inl h6,fun x hx b hb=>.inl (h7 x hx b hb)⟩,fun b hb=>hb.elim (fun hb=>Nat.lt_of_lt_of_le (hl b hb) g2.size) (·.2)⟩,g2.mono fun b _ hb=>?_⟩
   ·by_cases AE:x=c
    ·subst AE;exact(h4 x hx).Ry g3 (g1.all x hx) (g1.owns x hx)
    ·refine(h4 x hx).apart g2 fun b hb=>?_;rintro(e|e|e)
     ·exact h1.apart x hx c hm AE b hb e
     ·exact(h1.cG x hx).2 (e▸hb)
     ·exact(h1.cG x hx).1 (e▸hb)
   ·rcases hb with e|e|e
    ·exact h7 c hm b e
    ·exact e▸h6
    ·exact e▸h5
  ·have e0:f.jw u m=k.out.extract 0 (min m k.out.size).toNat:=by unfold Fy.jw;rw[hf];exact if_neg hneg
   have e1:f.jv u m=0:=by unfold Fy.jv;rw[hf];exact if_neg hneg
   have e2:f.take u m={f with K:=iZ u (Cl.take (min m k.out.size).toNat) f.K}:=by unfold Fy.take;rw[hf];dsimp only;rw[if_neg hneg]
   rw[e0,e1,e2];rw[<-h3]at hf;obtain⟨c,hc,rfl⟩:=cv hf;have hm:c∈ay cs:=aK.mem hc;refine(Ku xb sb f.N c cs p C _ _ _ _ _ _ _ _ _ _ _ j db u m (min m (p.k c).out.size).toNat w h1 hN hc hg (by omega)).mono ?_;rintro e w' ⟨rfl,g1,g2,g3⟩;refine⟨rfl,⟨⟨sb,cs,_,C,j,db,g1,h2,?_,fun x hx=>?_,.inl h5,.inl h6,fun x hx b hb=>.inl (h7 x hx b hb)⟩,fun b hb=>hb.elim (fun hb=>Nat.lt_of_lt_of_le (hl b hb) g2.size) (·.2)⟩,g2.mono fun b _ hb=>?_⟩
   ·show _=iZ u _ f.K;rw[<-h3];exact tS (Cl.take _) h1.nodup hc
   ·by_cases AE:x=c
    ·subst AE;exact(h4 x hx).Ry g3 (g1.all x hx) (g1.owns x hx)
    ·refine(h4 x hx).apart g2 fun b hb=>?_;rintro(e|e|e)
     ·exact h1.apart x hx c hm AE b hb e
     ·exact(h1.cG x hx).2 (e▸hb)
     ·exact(h1.cG x hx).1 (e▸hb)
   ·rcases hb with e|e|e
    ·exact h7 c hm b e
    ·exact e▸h6
    ·exact e▸h5
theorem dS.jB(h:dS w f xb B)(hok:f.Ok n)(u:Int):
  Calls prog 39 #[.pointer (some ⟨xb,0,none⟩),.int .i64 u] w fun e w'=>e=.returned (.int .i64 (f.nP u))/\dS w' (f.jB u) xb (grown B w w')/\aF B w w':=by
 have hN:f.N<=65535:=by have:=(bk hok.cfg).2.1;omega
 obtain⟨⟨sb,cs,p,C,j,db,h1,h2,h3,h4,h5,h6,h7⟩,hl⟩:=id h;have hg:∀c∈ay cs,(p.k c).ph<=2:=fun c hc=>(hok.vO _ (h3▸kg hc)).ph.2;cases hf:cH f.K u with
 |none=>
  have e1:f.nP u=2:=by unfold Fy.nP;rw[hf]
  have e2:f.jB u=f:=by unfold Fy.jB;rw[hf]
  rw[e1,e2];rw[<-h3]at hf;refine(DL xb sb f.N cs p C _ _ _ _ _ _ _ _ _ _ _ j db u w h1 hN (dW hf)).mono ?_;rintro e w' ⟨rfl,hb⟩;exact⟨rfl,h.below hb,aF.below hb⟩
 |some k=>
  have e1:f.nP u=0:=by unfold Fy.nP;rw[hf]
  have e2:f.jB u={f with K:=mj u f.K}:=by unfold Fy.jB;rw[hf]
  rw[e1,e2];rw[<-h3]at hf;obtain⟨c,hc,rfl⟩:=cv hf;have hm:c∈ay cs:=aK.mem hc;refine(DM xb sb f.N c cs p C _ _ _ _ _ _ _ _ _ _ _ j db u w h1 hN hc hg).mono ?_;rintro e w' ⟨rfl,g1,g2⟩;refine⟨rfl,⟨⟨sb,_,p,C,j,db,g1,h2,?_,fun x hx=>?_,.inl h5,.inl h6,fun x hx b hb=>.inl (h7 x (dI hx).1 b hb)⟩,fun b hb=>hb.elim (fun hb=>Nat.lt_of_lt_of_le (hl b hb) g2.size) (·.2)⟩,g2.mono fun b _ hb=>?_⟩
  ·show _=mj u f.K;rw[<-h3];exact FI h1.nodup hc
  ·obtain⟨hx1,PT⟩:=dI hx;have AE:x≠c:=by simpa using PT
   refine(h4 x hx1).apart g2 fun b hb=>?_;rintro(e|e|e)
   ·exact h1.apart x hx1 c hm AE b hb e
   ·exact(h1.cG x hx1).2 (e▸hb)
   ·exact(h1.cG x hx1).1 (e▸hb)
  ·rcases hb with e|e|e
   ·exact h7 c hm b e
   ·exact e▸h6
   ·exact e▸h5
theorem dS.halt(h:dS w f xb B):
  Calls prog 42 #[.pointer (some ⟨xb,0,none⟩)] w fun e w'=>e=.returned (.tuple #[])/\dS w' f.halt xb (grown B w w')/\aF B w w':=by
 obtain⟨⟨sb,cs,p,C,j,db,h1,h2,h3,h4,h5,h6,h7⟩,hl⟩:=id h;refine(Mu xb sb f.N cs p C _ _ _ _ _ _ _ _ _ _ _ j db w h1).mono ?_;rintro e w' ⟨rfl,g1,g2⟩;refine⟨rfl,⟨⟨sb,cs,p,C,j,db,g1,h2,h3,fun x hx=>?_,.inl h5,.inl h6,fun x hx b hb=>.inl (h7 x hx b hb)⟩,fun b hb=>hb.elim (fun hb=>Nat.lt_of_lt_of_le (hl b hb) g2.size) (·.2)⟩,g2.mono fun b _ hb=>hb▸h5⟩;exact(h4 x hx).apart g2 fun b hb e=>(h1.cG x hx).1 (e▸hb)
theorem dS.tells(h:dS w f xb B)(hok:f.Ok n)(u:Int):
  Calls prog 34 #[.pointer (some ⟨xb,0,none⟩),.int .i64 u] w fun e w'=>e=.returned (.tuple #[f.tells u,.int .i64 (f.gp u)])/\Below w.heap.size w w':=by
 have hN:f.N<=65535:=by have:=(bk hok.cfg).2.1;omega
 obtain⟨⟨sb,cs,p,C,j,db,h1,h2,h3,h4,h5,h6,h7⟩,hl⟩:=id h;cases hf:cH f.K u with
 |none=>
  have e0:f.tells u=.agg tR:=by unfold Fy.tells;rw[hf]
  have e1:f.gp u=2:=by unfold Fy.gp;rw[hf]
  rw[e0,e1];rw[<-h3]at hf;exact yQ xb sb f.N cs p C _ _ _ _ _ _ _ _ _ _ _ j db u w h1 hN (dW hf)
 |some k=>
  have e0:f.tells u=MT k 0:=by unfold Fy.tells;rw[hf]
  have e1:f.gp u=0:=by unfold Fy.gp;rw[hf]
  rw[e0,e1];rw[<-h3]at hf;obtain⟨c,hc,rfl⟩:=cv hf;exact yR xb sb f.N c cs p C _ _ _ _ _ _ _ _ _ _ _ j db u w h1 hN hc
theorem dS.conn(h:dS w f xb B)(hok:f.Ok n)(hn:n<=281474976710656)(wt:Int):
  Calls prog 36 #[.pointer (some ⟨xb,0,none⟩),.int .i64 wt] w fun e w'=>e=.returned (.tuple #[.int .i64 (f.fQ wt),.int .i64 (f.fP wt)])/\dS w' (f.conn wt) xb (grown B w w')/\aF B w w':=by
 have hN:f.N<=65535:=by have:=(bk hok.cfg).2.1;omega
 obtain⟨⟨sb,cs,p,C,j,db,h1,h2,h3,h4,h5,h6,h7⟩,hl⟩:=id h;have pI:w.cell? ⟨xb,14,none⟩=some (.bool f.stop):=aa h1.box rfl;cases hst:f.stop with
 |true=>
  have e0:f.fQ wt=0:=by unfold Fy.fQ;rw[hst];rfl
  have e1:f.fP wt=4:=by unfold Fy.fP;rw[hst];rfl
  have e2:f.conn wt=f:=by unfold Fy.conn;rw[hst];rfl
  rw[e0,e1,e2];rw[hst]at pI;refine(sU xb wt w pI).mono ?_;rintro e w' ⟨rfl,rfl⟩;exact⟨rfl,h.grow,aF.refl _ _⟩
 |false=>
  rw[hst]at pI;cases hw:gu wt 1 4 with
  |false=>
   have e0:f.fQ wt=0:=by unfold Fy.fQ;rw[hst,hw];rfl
   have e1:f.fP wt=5:=by unfold Fy.fP;rw[hst,hw];rfl
   have e2:f.conn wt=f:=by unfold Fy.conn;rw[hst,hw];rfl
   rw[e0,e1,e2];refine(Bl xb wt w pI hw).mono ?_;rintro e w' ⟨rfl,rfl⟩;exact⟨rfl,h.grow,aF.refl _ _⟩
  |true=>
   cases hf:gN f.K with
   |none=>
    have e0:f.fQ wt=0:=by unfold Fy.fQ;rw[hst,hw,hf];rfl
    have e1:f.fP wt=3:=by unfold Fy.fP;rw[hst,hw,hf];rfl
    have e2:f.conn wt=f:=by unfold Fy.conn;rw[hst,hw,hf];rfl
    rw[e0,e1,e2];have eD:=h1.box;rw[hst]at eD;refine(yK xb sb f.N cs _ _ _ _ _ _ _ _ _ _ _ _ db wt w eD h1.row h1.len hN hw fun i hi=>rV hf i (h3▸(pR i).2 hi)).mono ?_;rintro e w' ⟨rfl,rfl⟩;exact⟨rfl,h.grow,aF.refl _ _⟩
   |some i=>
    have e0:f.fQ wt=f.av:=by unfold Fy.fQ;rw[hst,hw,hf];rfl
    have e1:f.fP wt=0:=by unfold Fy.fP;rw[hst,hw,hf];rfl
    have e2:f.conn wt={f with K:=f.K.set i (some (Cl.fresh f.av wt f.bu)),av:=f.av+1,stop:=false}:=by unfold Fy.conn;rw[hw,hf];simp[hst]
    rw[e0,e1,e2];have h1':=h1;rw[hst]at h1';have hfr:=rW hf;rw[<-h3]at hfr;refine(Bv xb sb f.N i cs p C _ _ _ _ _ _ _ _ _ _ j db wt w h1' hN hw (pQ hfr) (by have:=hok.av;omega)).mono ?_;rintro e w' ⟨rfl,c,rb,mb,ch,g1,g2,g3,g4,l1,l2,l3,l4⟩;have wQ:=eI (c:=c) (pQ hfr).1;refine⟨rfl,⟨⟨sb,_,_,_,j,db,g1,h2,?_,fun x hx=>?_,.inl h5,.inl h6,fun x hx b hb=>?_⟩,fun b hb=>hb.elim (fun hb=>Nat.lt_of_lt_of_le (hl b hb) g4.size) (·.2)⟩,g4.mono fun b _ hb=>?_⟩
    ·show _=f.K.set i _;rw[<-h3];exact Gl g2
    ·by_cases AE:x=c
     ·subst AE;refine Dw (g1.all x hx) (g1.owns x hx) fun b hb=>?_;have hb:jJ C x rb mb ch x b:=hb;unfold jJ at hb;rw[if_pos rfl]at hb;simpa[aK.add]using hb
     ·have hx':x∈ay cs:=((wQ x).1 hx).resolve_left AE;have he:jJ C c rb mb ch x=C x:=by funext b;unfold jJ;rw[if_neg AE]
      rw[he];refine(h4 x hx').apart g4 fun b hb=>?_;rintro(e|e)
      ·exact(h1.cG x hx').2 (e▸hb)
      ·exact(h1.cG x hx').1 (e▸hb)
    ·by_cases AE:x=c
     ·refine .inr ⟨?_,g1.lt x hx b hb⟩;unfold jJ at hb;rw[if_pos AE]at hb;rcases hb with e|e|e|e<;>omega
     ·have hx':x∈ay cs:=((wQ x).1 hx).resolve_left AE;unfold jJ at hb;rw[if_neg AE]at hb;exact .inl (h7 x hx' b hb)
    ·rcases hb with e|e
     ·exact e▸h6
     ·exact e▸h5
theorem VT(S0 N:Nat)(qu mx qn rt bu wk ou:Int)(hc:iV S0 N qu mx qn rt bu wk ou=true):
  Calls prog 66 #[.agg (dr S0 N qu mx qn rt bu wk ou)] w fun e w'=>∃xb,e=.returned (.tuple #[.pointer (some ⟨xb,0,none⟩),.int .i64 0])/\dS w' (Fy.new S0 N qu mx qn rt bu wk ou) xb (grown (fun _=>False) w w')/\Below w.heap.size w w':=by
 have hb:=bk hc;refine(RH S0 N qu mx qn rt bu wk ou w (by omega) (by omega) hc).mono ?_;rintro e w' ⟨xb,sb,db,rfl,g1,g2,g3,g4,g5⟩;have hn:∀c,c∉ay (List.replicate N none):=fun c hc=>by rw[iJ]at hc;cases hc
 have hx:xb<w'.heap.size:=(Array.getElem?_eq_some_iff.1 g1).1;have hs:sb<w'.heap.size:=(Array.getElem?_eq_some_iff.1 g2).1;refine⟨xb,rfl,⟨⟨sb,List.replicate N none,⟨fun _=>0,fun _=>0,fun _=>0,fun _=>Cl.fresh 0 0 0⟩,fun _ _=>False,0,db,⟨g1,g2,List.length_replicate,fun c hc=>absurd hc (hn c),by rw[iJ];exact List.nodup_nil,fun c hc=>absurd hc (hn c),fun c hc=>absurd hc (hn c),fun c hc=>absurd hc (hn c),fun c hc=>absurd hc (hn c)⟩,?_,?_,fun c hc=>absurd hc (hn c),.inr ⟨g4,hx⟩,.inr ⟨g5,hs⟩,fun c hc=>absurd hc (hn c)⟩,fun b hb=>hb.elim False.elim (·.2)⟩,g3⟩
 ·show 0<N;omega
 ·show bH _ _=List.replicate N none;simp[bH]
variable [Payload] {l:List FuncId}
theorem dS.tick(G:MX l)(h:dS w f xb B)(hok:f.Ok n)(hn:n<=281474976710656):
  bG prog 26 #[pt xb] w fun e w'=>e=.returned (.tuple #[])/\dS w' f.tick xb (grown B w w')/\aF B w w':=by
 obtain⟨⟨sb,cs,p,C,j,db,h1,h2,h3,h4,h5,h6,h7⟩,hl⟩:=id h;have hb:=bk hok.cfg;have hs:∀c∈ay cs,Gx (p.k c):=fun c hc=>hok.vO _ (h3▸kg hc);have zl:=hok.clock;refine(h1.GF G (by omega) (by omega) h2 (fun c hc=>⟨(hs c hc).ph,(hs c hc).jU,by have:=(hs c hc).aO;omega,by have:=(hs c hc).out;omega⟩) h4 (by omega) (by omega) (by omega) (by omega) (by omega) (by omega) (by omega) (by omega) (fun c hc=>by have:=(hs c hc).wt;omega) (fun c hc=>by have:=(hs c hc).tok;omega)).mono ?_;rintro e w' ⟨rfl,C',d⟩
 have hk:(p.gq f.sz f.mx f.rt f.bu f.ou f.stop).k=fun c=>Cl.tick f (p.k c):=by
  funext c
  unfold aK.gq Cl.tick;cases f.stop<;>rfl
 refine⟨rfl,⟨⟨sb,_,_,C',_,db,d.fe,Nat.mod_lt _ (by omega),?_,fun x hx=>d.closed x (dI hx).1,.inl h5,.inl h6,fun x hx b hb=>?_⟩,fun b hb=>hb.elim (fun hb=>Nat.lt_of_lt_of_le (hl b hb) d.fK.size) (·.2)⟩,d.fK.mono fun b _ hb=>?_⟩
 ·show _=(f.K.map (Option.map (Cl.tick f))).map (Ek Cl.gone);rw[Ga _ Cl.gone cs,hk,Gc,h3]
 ·have hx':=(dI hx).1
  by_cases hlt:b<w.heap.size
  ·exact .inl (h7 x hx' b (d.old x hx' b hb hlt))
  ·exact .inr ⟨by omega,d.fe.lt x hx b hb⟩
 ·rcases hb with e|e|⟨c,hc,e⟩
  ·exact e▸h5
  ·exact e▸h6
  ·exact h7 c hc b e
end
end
section
open Go.Proofs.Tryz
open Go.RowKit
attribute [local go_sem ↓] Go.wp_at_zero Go.wp_at_succ
attribute [local go_sem] au aj
theorem Cj(yb y:Nat)(w:World)(h:w.cell? ⟨y,4,none⟩=some (.slice none 0 0)):
  Calls prog 256 #[.pointer (some ⟨yb,0,none⟩),.pointer (some ⟨y,0,none⟩)] w fun e w'=>e=.returned (.bool false)/\w'=w:=by
 go_enter func256,ntmps256;go_wp2;go_ret;exact⟨rfl,rfl⟩
theorem EJ(yb y:Nat)(w:World)(h:w.cell? ⟨y,4,none⟩=some (.slice none 0 0)):
  Calls prog 220 #[.pointer (some ⟨yb,0,none⟩),.pointer (some ⟨y,0,none⟩)] w fun e w'=>e=.returned (.bool false)/\w'=w:=by
 go_enter func220,ntmps220;go_wp2_with (go_at_call 256;refine(Cj yb y _ h).mono ?_;rintro e w1 ⟨rfl,rfl⟩);go_ret;exact⟨rfl,rfl⟩
theorem Lz(yb sb N:Nat)(sz qu mx qn rt bu wk ou many clock:Int)(aA:Nat)(opn stop:Bool)(w:World)(hB:dA w yb sz N qu mx qn rt bu wk ou sb N many clock aA opn stop)(hN:1<=N)(zi:N<=65535)(ht:aA<N):
  Calls prog 219 #[.pointer (some ⟨yb,0,none⟩)] w fun e w'=>e=.returned (.tuple #[])/\dA w' yb sz N qu mx qn rt bu wk ou sb N many clock (((aA+1)%N:Nat):Int) opn stop/\aF (fun i=>i=yb) w w':=by
 have Jq:w.cell? ⟨yb,16,none⟩=some (.int .i64 aA):=af hB rfl;have c1:w.cell? ⟨yb,1,none⟩=some (.int .i64 N):=af hB rfl;have f16:=aY hB 16;have hN0:¬N=0:=by omega
 have HQ:Hid (dA (w.setCell ⟨yb,16,none⟩ (.int .i64 ((IntKind.i64.wrap ((aA:Int)+1)).tmod (N:Int)))).drew yb sz N qu mx qn rt bu wk ou sb N many clock (((aA+1)%N:Nat):Int) opn stop/\aF (fun i=>i=yb) w (w.setCell ⟨yb,16,none⟩ (.int .i64 ((IntKind.i64.wrap ((aA:Int)+1)).tmod (N:Int)))).drew):=by
  have Zv:(IntKind.i64.wrap ((aA:Int)+1)).tmod (N:Int)=(((aA+1)%N:Nat):Int):=by rw[lH (by omega) (by omega),Int.tmod_eq_emod_of_nonneg (by omega)];simp
  rw[Zv];exact⟨dg hB 16 _,((aF.refl (fun i=>i=yb) w).set (p:=⟨yb,16,none⟩) rfl _).drew'⟩
 clear hB;go_enter func219,ntmps219
 go_upto_region 0 with fail
 refine wp_region_noPanic ?_;refine wp_region_held_drew (S:=fun W=>W.cell? ⟨yb,1,none⟩=some (.int .i64 N)) (by kernel_rfl) c1 ?_;intro hHeld;refine tk 0 ?_;refine tk 1 ?_;refine tk 2 ?_;refine tk 3 ?_;refine tk 6 ?_;refine tk 7 ?_;refine tk 8 ?_;refine tk 9 ?_;refine tk 10 ?_;refine rH 4 fun K hK=>?_;go_simp;refine hK.out _ _ (c1) (fun uM=>?_);clear hK K;refine tk 5 ?_;refine tk 11 ?_;refine tk 12 ?_;refine tk 13 ?_;refine rH 14 fun K hK=>?_;go_simp;refine hK.out _ _ (af HQ.out.1 rfl) (fun YE=>?_);clear hK K;refine wpAnyH_done (by kernel_rfl) ?_ _;refine NoPanic.normal ?_;go_wp2_with fail;exact cw rfl rfl ⟨rfl,HQ.out⟩
end
section
open Go.Proofs.Tryz
open Go.RowKit
attribute [local go_sem ↓] Go.wp_at_zero Go.wp_at_succ
attribute [local go_sem] au aj
theorem yd(yb:Nat)(w:World)(h:w.cell? ⟨yb,13,none⟩=some (.slice none 0 0)):
  Calls prog 180 #[.pointer (some ⟨yb,0,none⟩)] w fun e w'=>e=.returned (.tuple #[])/\w'=w:=by
 go_enter func180,ntmps180;go_wp2
 go_loop [2,3] (fun _ _=>True) (fun _ _=>0)
 case atStart=>trivial
 case round=>
  go_wp2
  go_loop [2,3] (fun b i=>b=.int .i64 (-1)/\i=.int .i64 0) (fun _ _=>0)
  case atStart=>exact⟨rfl,rfl⟩
  case round=>
   obtain⟨rfl,rfl⟩:=hrel;go_wp2;exact bodyPost_ret (results_none rfl _ _ _) rfl ⟨rfl,rfl⟩
end
section
open Go.Proofs.Tryz
open Go.RowKit
attribute [local go_sem ↓] Go.wp_at_zero Go.wp_at_succ
attribute [local go_sem] au aj
theorem Rt:(prog.info? 234).map (fun i=>(i.zero,i.size,i.bytes))=some (some (.pointer none),1,8):=by kernel_rfl
theorem Ib(N:Nat):madeCells (Value.pointer none).cells N=EP (List.replicate N none):=by apply Array.ext';rw[show(Value.pointer none).cells=#[.pointer none] from rfl,toList_madeCells_one];simp[EP,tO]
theorem Ig(N:Nat)(hn:N<=65535)(W:World):(Instr.makeSlice 146 (.int .i64 (N:Int)) (.int .i64 (N:Int))).run prog W=.ok (.slice (some ⟨W.heap.size,0,none⟩) N N) (W.alloc (.cells (EP (List.replicate N none)) 234)):=by obtain⟨i0,hi,AH,iC,wS⟩:=info_parts Rt;have h:=run_make (P:=prog) W 146 234 i0 (.pointer none) underlying146 hi AH .i64 .i64 (N:Int) (N:Int) (by omega) (by omega) (by rw[wS];omega) (by omega);rw[iC]at h;simp only[Int.toNat_natCast,Nat.mul_one]at h;rw[Ib]at h;exact h
theorem LS(S0 N qu mx qn rt bu wk ou:Int)(w:World)(hc:iV S0 N qu mx qn rt bu wk ou=false):
  Calls prog 79 #[.agg (dr S0 N qu mx qn rt bu wk ou)] w fun e w'=>e=.returned (.tuple #[.pointer none,.int .i64 1])/\Below w.heap.size w w':=by
 go_enter func79,ntmps79;go_wp2_with (go_at_call 118;refine(uu S0 N qu mx qn rt bu wk ou _).mono ?_;rw[hc];rintro e w1 ⟨rfl,hb⟩)
 go_ret2
 exact⟨rfl,((Below.refl _ w).alloc (Nat.le_refl _) _).trans (hb.mono (by simp))⟩
theorem LU{kr:Nat->Cl}{w w1:World}{S0 N:Nat}{qu mx qn rt bu wk ou:Int}(h1:Below w.heap.size w w1):
  ∃yb sb,Ending.returned (.tuple #[.pointer (some ⟨w1.heap.size+1,0,none⟩),.int .i64 0])=.returned (.tuple #[.pointer (some ⟨yb,0,none⟩),.int .i64 0])/\bL ((w1.alloc (.cells (EP (List.replicate N none)) 234)).alloc (.cells (RP S0 N qu mx qn rt bu wk ou w1.heap.size N 0 0 0 false false) 151)).drew yb sb N (List.replicate N none) kr S0 qu mx qn rt bu wk ou 0 0 0 false/\Below w.heap.size w ((w1.alloc (.cells (EP (List.replicate N none)) 234)).alloc (.cells (RP S0 N qu mx qn rt bu wk ou w1.heap.size N 0 0 0 false false) 151)).drew/\w.heap.size<=yb/\w.heap.size<=sb:=by
 have hs:=h1.size
 have e0:ay (List.replicate N none)=[]:=by
  induction N with
  |zero=>rfl
  |succ n ih=>exact ih
 have n1:((w1.alloc (.cells (EP (List.replicate N none)) 234)).alloc (.cells (RP S0 N qu mx qn rt bu wk ou w1.heap.size N 0 0 0 false false) 151)).heap[w1.heap.size+1]? =some (.cells (RP S0 N qu mx qn rt bu wk ou w1.heap.size N 0 0 0 false false) 151):=by
  have:=World.alloc_heap_new (w1.alloc (.cells (EP (List.replicate N none)) 234)) (.cells (RP S0 N qu mx qn rt bu wk ou w1.heap.size N 0 0 0 false false) 151)
  rwa [World.size_alloc]at this
 have n2:((w1.alloc (.cells (EP (List.replicate N none)) 234)).alloc (.cells (RP S0 N qu mx qn rt bu wk ou w1.heap.size N 0 0 0 false false) 151)).heap[w1.heap.size]? =some (.cells (EP (List.replicate N none)) 234):=
  (Below.heap_alloc _ _ _ (by simp)).trans (World.alloc_heap_new w1 _)
 refine⟨w1.heap.size+1,w1.heap.size,rfl,⟨n1,n2,by simp,by rw[e0];exact .nil,fun y hy=>by rw[e0]at hy;cases hy⟩,((h1.alloc hs _).alloc (by simp;omega) _).drew,by omega,hs⟩
theorem Ot(kr:Nat->Cl)(S0 N:Nat)(qu mx qn rt bu wk ou:Int)(w:World)(hN:N<=65535)(hc:iV S0 N qu mx qn rt bu wk ou=true):
  Calls prog 79 #[.agg (dr S0 N qu mx qn rt bu wk ou)] w fun e w'=>∃yb sb,e=.returned (.tuple #[.pointer (some ⟨yb,0,none⟩),.int .i64 0])/\bL w' yb sb N (List.replicate N none) kr S0 qu mx qn rt bu wk ou 0 0 0 false/\Below w.heap.size w w'/\w.heap.size<=yb/\w.heap.size<=sb:=by
 have hmk:=Ig N hN;go_enter func79,ntmps79
 go_upto_region 4 with(go_at_call 118;refine(uu S0 N qu mx qn rt bu wk ou _).mono ?_;rw[hc];rintro e w1 ⟨rfl,hb⟩)
 have oX:Below w.heap.size w w1:=((Below.refl _ w).alloc (Nat.le_refl _) _).trans (hb.mono (by simp));have eD:w1.heap[w.heap.size]? =some (.cells (dr S0 N qu mx qn rt bu wk ou) 35 (0,0)):=(hb.block _ (by simp)).trans (heap_alloc_new w _);have HB:Hid (Below w.heap.size w w1):=oX;clear hb oX;refine wp_region_noPanic ?_;refine wp_region_held_drew (S:=qK w.heap.size S0 N qu mx qn rt bu wk ou) (by kernel_rfl) ⟨aa eD rfl,aa eD rfl,aa eD rfl,aa eD rfl,aa eD rfl,aa eD rfl,aa eD rfl,aa eD rfl,aa eD rfl⟩ ?_;intro hHeld;refine tk 0 ?_;refine tk 1 ?_;refine tk 2 ?_;refine rH 3 fun K hK=>?_;go_simp;refine hK.out _ _ (qK.a1 hHeld) (fun AB=>?_);clear hK K;refine tk 4 ?_;refine rH 5 fun K hK=>?_;go_simp;refine hK.out _ _ (qK.a1 AB) (fun Uw=>?_);clear hK K;refine tk 6 ?_;refine tk 7 ?_;refine wpAnyH_done (by kernel_rfl) ?_ _;refine NoPanic.normal ?_;go_wp2_with fail;go_ret2;exact LU HB.out
end
section
open Go.Proofs.Tryz
open Go.RowKit
attribute [local go_sem ↓] Go.wp_at_zero Go.wp_at_succ
attribute [local go_sem] au aj
theorem Af(yb sb N:Nat)(ys:List (Option Nat))(kr:Nat->Cl)(sz qu mx qn rt bu wk ou many clock:Int)(aA:Nat)(stop:Bool)(u:Int)(w:World)(h:bL w yb sb N ys kr sz qu mx qn rt bu wk ou many clock aA stop)(hN:N<=65535)(hu:lI kr ys u=none):
  Calls prog 135 #[.pointer (some ⟨yb,0,none⟩),.int .i64 u] w fun e w'=>e=.returned (.tuple #[.agg tR,.int .i64 2])/\Below w.heap.size w w':=by
 have hb0:Below w.heap.size w (w.alloc (.cells tR 68)):=(Below.refl _ w).alloc (Nat.le_refl _) _
 have HI:Hid (Calls prog 176 #[.pointer (some ⟨yb,0,none⟩),.int .i64 u] (w.alloc (.cells tR 68)) fun e w'=>e=.returned (.pointer none)/\w'=w.alloc (.cells tR 68)):=by have:=(h.old (X:=fun _=>False) (.below hb0) (fun _ _ h=>h)).find hN u;rw[hu]at this;exact this
 clear h hu;go_enter func135,ntmps135;go_wp2_with (go_at_call 176;refine HI.out.mono ?_;rintro e w1 ⟨rfl,rfl⟩);exact bodyPost_ret (v:=.tuple #[.agg tR,.int .i64 2]) (by simp[results,results135,go_sem]) rfl ⟨rfl,hb0⟩
abbrev TG(y:Nat)(k:Cl)(W:World):Prop:=W.cell? ⟨y,2,none⟩=some (.int .i64 k.ph)/\W.cell? ⟨y,3,none⟩=some (.string k.aO)/\W.cell? ⟨y,4,none⟩=some (.slice none 0 0)/\W.cell? ⟨y,5,none⟩=some (.slice none 0 0)/\W.cell? ⟨y,6,none⟩=some (.string k.out)/\W.cell? ⟨y,7,none⟩=some (.int .i64 k.tok)/\W.cell? ⟨y,8,none⟩=some (.int .i64 0)/\W.cell? ⟨y,9,none⟩=some (.int .i64 0)
theorem TG.of{y:Nat}{k:Cl}{W:World}(h:cE W y k 0):TG y k W:=⟨af h rfl,af h rfl,af h rfl,af h rfl,af h rfl,af h rfl,af h rfl,af h rfl⟩
theorem Ag(yb sb N y:Nat)(ys:List (Option Nat))(kr:Nat->Cl)(sz qu mx qn rt bu wk ou many clock:Int)(aA:Nat)(stop:Bool)(u:Int)(w:World)(h:bL w yb sb N ys kr sz qu mx qn rt bu wk ou many clock aA stop)(hN:N<=65535)(hu:lI kr ys u=some y):
  Calls prog 135 #[.pointer (some ⟨yb,0,none⟩),.int .i64 u] w fun e w'=>e=.returned (.tuple #[MT (kr y) 0,.int .i64 0])/\Below w.heap.size w w':=by
 have hb0:Below w.heap.size w (w.alloc (.cells tR 68)):=(Below.refl _ w).alloc (Nat.le_refl _) _
 have HI:Hid (Calls prog 176 #[.pointer (some ⟨yb,0,none⟩),.int .i64 u] (w.alloc (.cells tR 68)) fun e w'=>e=.returned (.pointer (some ⟨y,0,none⟩))/\w'=w.alloc (.cells tR 68)):=by have:=(h.old (X:=fun _=>False) (.below hb0) (fun _ _ h=>h)).find hN u;rw[hu]at this;exact this
 have eD:=h.all y (fX hu);have HS:Hid (∀W:World,Below w.heap.size w W->TG y (kr y) W):=fun W hb=>TG.of ((hb.block _ (Array.getElem?_eq_some_iff.1 eD).1).trans eD);clear h hu eD;generalize kr y=kk at*;go_enter func135,ntmps135
 go_upto_region 4 with(go_at_call 176;refine HI.out.mono ?_;rintro e w1 ⟨rfl,rfl⟩)
 refine wp_region_noPanic ?_;refine wp_region_held_drew (S:=TG y kk) (by kernel_rfl) (HS.out _ hb0.drew) ?_;intro hHeld;refine tk 0 ?_;refine tk 1 ?_;refine tk 2 ?_;refine tk 3 ?_;refine tk 4 ?_;refine tk 5 ?_;refine tk 6 ?_;refine tk 7 ?_;refine tk 8 ?_;refine tk 9 ?_;refine tk 10 ?_;refine tk 11 ?_;refine tk 12 ?_;refine tk 13 ?_;refine tk 14 ?_;refine tk 15 ?_;refine tk 16 ?_;refine tk 17 ?_;refine tk 18 ?_;refine tk 19 ?_;refine tk 20 ?_;refine tk 21 ?_;refine tk 22 ?_;refine tk 23 ?_;refine tk 24 ?_;refine tk 25 ?_;refine tk 26 ?_;refine tk 27 ?_;refine tk 28 ?_;refine tk 29 ?_;refine tk 30 ?_;refine tk 31 ?_;refine tk 32 ?_;refine tk 33 ?_;refine tk 34 ?_;refine tk 35 ?_;refine tk 36 ?_;refine rH 37 fun K hK=>?_;go_simp;refine hK.out _ _ (HS.out _ ((Below.refl _ w).alloc (Nat.le_refl _) _).drew) (fun aat=>?_);clear hK K;refine tk 38 ?_;refine wpAnyH_done (by kernel_rfl) ?_ _;refine NoPanic.normal ?_;go_wp2_with fail;exact bodyPost_ret (v:=.tuple #[MT kk 0,.int .i64 0]) (by simp[results,results135,go_sem]) rfl ⟨rfl,((Below.refl _ w).alloc (Nat.le_refl _) _).drew⟩
end
end Go.Proofs.YtpobhljcainmdaaGreat
