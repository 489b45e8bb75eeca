/- Proved here: a part of what Doors keeps (Rd10, Rd11, Rd12, Rd13, Rd14). -/
import Derived.Test.YtpobhljcainmdaaGreatJ33
import Derived.Test.YtpobhljcainmdaaGreatJ34
set_option maxRecDepth 100000
set_option maxHeartbeats 8000000
set_option linter.all false
namespace Go.Proofs.YtpobhljcainmdaaGreat
section
open Go.Proofs.Tryz
open Go Go.Conc Go.RowKit Go.Conc.Lib Go.ConcR.Gen Go.ConcN.Gen
open Classical
open Go.ConcN (ShN WgLive Has)
open Go.ConcR (Payload stA smA WgAt)
section
variable [aR]
structure Enters(l:List FuncId)(C:Nat->Nat->Prop)(R:Nat->Ending->World->Prop)(u:World)(cl:List (Option Nat))(xb sb n:Nat):Prop where
 fit:Fit prog l
 ZQ:aR.ok 100
 okS:aR.ok 96
 kn:aR.known 61
 len:cl.length=n
 small:n<2147483647
 sl:u.cell? ⟨xb,9,none⟩=some (.slice (some ⟨sb,0,none⟩) n n)
 at_:∀(j:Nat) v,cl[j]? =some v->u.cell? ⟨sb,j,none⟩=some (vp v)
 sJ:∃o,u.heap[sb]? =some o/\o≠aV
 closed:∀(j:Nat) c,cl[j]? =some (some c)->Closed (C c) u/\C c c
 Qz:∀(j j':Nat) c c',cl[j]? =some (some c)->cl[j']? =some (some c')->j≠j'->∀b,C c b->¬C c' b
 cG:∀(j:Nat) c,cl[j]? =some (some c)->¬C c xb/\¬C c sb
 LX:∀c e u τ,R c e u->R c e (World.tp u τ)
 RS:∀c e u,R c e u->∃v,e=.returned v
 calls:∀(j:Nat) c,cl[j]? =some (some c)->∀w,(∀b,C c b->w.heap[b]? =u.heap[b]?)->u.heap.size<=w.heap.size->w.os=u.os->∀τ,Calls prog 100 #[pt c] ((mask (C c) w).tp τ) (R c)
structure After(C:Nat->Nat->Prop)(R:Nat->Ending->World->Prop)(cl:List (Option Nat))(u u':World)(xb B1 Wg B2 D:Nat):Prop where
 size:u.heap.size<=u'.heap.size
 os:u'.os=u.os
 news:u.heap.size<=B1/\u.heap.size<=Wg/\u.heap.size<=B2/\u.heap.size<=D
 kept:∀b,b<u.heap.size->(∀(j:Nat) c,cl[j]? =some (some c)->¬C c b)->u'.heap[b]? =u.heap[b]?
 b1:u'.heap[B1]? =some (.cells #[pt xb] 36)
 b2:u'.heap[B2]? =some (.cells #[pt xb] 36)
 df:u'.heap[D]? =some (.deferred (some []))
 reads:∃Im:Nat->Nat->Prop,(∀c c' b,c∈sat cl->c'∈sat cl->c≠c'->Im c b->¬Im c' b)/\(∀c b,c∈sat cl->Im c b->b≠B1/\b≠B2/\b≠D/\(b<u.heap.size->C c b))/\
  ∀c,c∈sat cl->∃uc nN v,R c (.returned v) uc/\(cP (C c)).le nN/\nK prog nN uc u'/\Whole (fun _=>False) nN uc/\∀a b,nN a b->Im c b
theorem Gd{cl:List (Option Nat)}{c:Nat}:c∈sat cl↔∃j:Nat,cl[j]? =some (some c):=by
 unfold sat;rw[List.mem_filterMap];constructor
 ·rintro⟨x,hx,e⟩;obtain rfl:x=some c:=e;exact List.mem_iff_getElem?.1 hx
 ·rintro⟨j,hj⟩;exact⟨some c,List.mem_iff_getElem?.2 ⟨j,hj⟩,rfl⟩
theorem CX{X:Nat->Prop}{b:Nat}(h:X b):VR (cP X) (pt b) (pt b):=.ptr ⟨⟨rfl,h⟩,rfl,rfl⟩
theorem RL{X:Nat->Prop}{b:Nat}(t:TypeId)(h:X b):OR (cP X) (.cells #[pt b] t) (.cells #[pt b] t):=.cells _ _ ⟨rfl,fun i v v' h1 h2=>by
 rw[h1]at h2;cases h2
 match i,h1 with
 |0,h1=>cases h1;exact CX h
 |i+1,h1=>simp at h1⟩
variable [aB] {l:List FuncId} {C:Nat->Nat->Prop} {R:Nat->Ending->World->Prop} {cl:List (Option Nat)} {xb sb n:Nat} {u u1 w w1:World} {cs:List Frame} {fr:Frame} {gs:Array Goroutine} {t:Trace} {q:Nat->Nat} {Shun:Loc->Prop} {S:Nat->Prop} {ρ:Ren} {x:Obj}
def Kb(C:Nat->Nat->Prop)(cl:List (Option Nat))(S:Nat->Prop)(ρ:Ren)(b:Nat):Prop:=(ρ b b/\¬S b)/\∀(j:Nat) c,cl[j]? =some (some c)->¬C c b
theorem Enters.own(E:Enters l C R u cl xb sb n)(hu:∀b,b<u.heap.size->u1.heap[b]? =u.heap[b]?)(hB:eP prog Shun S fr cs u1 ρ gs w t q){j c:Nat}(hj:cl[j]? =some (some c)){b:Nat}(hb:C c b):b<u.heap.size/\ρ b b/\¬S b/\w.heap[b]? =u.heap[b]? /\∃o,w.heap[b]? =some o/\OR (cP (C c)) o o:=by obtain⟨o,ho,dP⟩:=(E.closed j c hj).1 b hb;have hlt:=(Array.getElem?_eq_some_iff.1 ho).1;obtain⟨h1,h2,h3,_⟩:=hB.heap ((hu b hlt).trans ho) (bp dP);exact⟨hlt,h1,h2,h3.trans ho.symm,o,h3,dP⟩
theorem Enters.setup(E:Enters l C R u cl xb sb n)(hu:∀b,b<u.heap.size->u1.heap[b]? =u.heap[b]?)(Tp:u1.heap.size=u.heap.size+1)(oX:u1.cell? ⟨u.heap.size,0,none⟩=some (pt xb))(Ro:u1.os=u.os)(hB:eP prog Shun S fr cs u1 ρ gs w t q)(hw1:w1.heap=w.heap.push x)(Vw:w1.os=w.os):
  Setup l C R (Kb C cl S ρ) w1 cl xb sb u.heap.size w.heap.size n:=by
 have hsz:u1.heap.size=w.heap.size:=hB.size;have hs1:w1.heap.size=w.heap.size+1:=by rw[hw1];simp
 have hold:∀b,b<w.heap.size->w1.heap[b]? =w.heap[b]? :=fun b hb=>by rw[hw1,Array.getElem?_push,if_neg (by omega)]
 have hown:=fun{j c:Nat} (hj:cl[j]? =some (some c)) {b:Nat} (hb:C c b)=>E.own hu hB hj hb
 have kx:∀b,(∃o,u1.heap[b]? =some o/\o≠aV)->(∀(j:Nat) c,cl[j]? =some (some c)->¬C c b)->Kb C cl S ρ b:=fun b ⟨o,ho,hn⟩ hc=>by obtain⟨h1,h2,_,_⟩:=hB.heap ho hn;exact⟨⟨h1,h2⟩,hc⟩
 refine⟨E.fit,E.ZQ,?_,E.len,E.small,fun j c hj=>⟨fun b hb=>?_,(E.closed j c hj).2⟩,E.Qz,fun j c hj b hb=>?_,⟨kx _ ?_ fun j c hj=>(E.cG j c hj).1,kx _ ?_ fun j c hj=>(E.cG j c hj).2,kx _ (bY oX) fun j c hj h=>?_⟩,fun b hb=>?_,E.LX,E.RS,fun j c hj w' h1 h2 h3=>?_⟩
 ·have:=hB.world.base;omega
 ·obtain⟨h1,_,_,_,o,h5,h6⟩:=hown hj hb;exact⟨o,(hold b (by omega)).trans h5,h6⟩
 ·obtain⟨h1,_⟩:=hown hj hb;exact⟨fun hk=>hk.2 j c hj hb,by omega,by omega⟩
 ·obtain⟨o,ho,hn⟩:=bY E.sl;exact⟨o,(hu _ (Array.getElem?_eq_some_iff.1 ho).1).trans ho,hn⟩
 ·obtain⟨o,ho,hn⟩:=E.sJ;exact⟨o,(hu _ (Array.getElem?_eq_some_iff.1 ho).1).trans ho,hn⟩
 ·have:=(hown hj h).1;exact Nat.lt_irrefl _ this
 ·have:=(hB.world.lt b b hb.1.1).2;omega
 ·refine E.calls j c hj w' (fun b hb=>?_) (by omega) ?_
  ·obtain⟨g1,_,_,g4,_⟩:=hown hj hb;exact(h1 b hb).trans ((hold b (by omega)).trans g4)
  ·rw[h3,Vw,hB.world.os,Ro]
end
end
section
open Go.Proofs.Tryz
open Go Go.Conc Go.RowKit Go.Conc.Lib Go.ConcR.Gen Go.ConcN.Gen
open Classical
open Go.ConcN (ShN WgLive Has)
open Go.ConcR (Payload stA smA WgAt)
section
variable [aR] [aB] {l:List FuncId} {C:Nat->Nat->Prop} {R:Nat->Ending->World->Prop} {cl:List (Option Nat)} {xb sb n:Nat} {u u1 w w1 w':World} {cs:List Frame} {fr:Frame} {gs:Array Goroutine} {t:Trace} {q:Nat->Nat} {Shun:Loc->Prop} {S:Nat->Prop} {ρ:Ren} {x:Obj} {Oq:Nat->Nat->Prop} {O':Nat->Prop} {m B2 D L:Nat}
def JD(C:Nat->Nat->Prop)(R:Nat->Ending->World->Prop)(cl:List (Option Nat))(m:Nat)(Oq:Nat->Nat->Prop)(w':World)(i c:Nat)(uc:World)(nN:Ren)(v:Value):Prop:=
 i<m/\(sat cl)[i]? =some c/\R c (.returned v) uc/\(cP (C c)).le nN/\nK prog nN uc w'/\Whole (fun _=>False) nN uc/\∀a b,nN a b->Oq i b
def Ob(C:Nat->Nat->Prop)(R:Nat->Ending->World->Prop)(cl:List (Option Nat))(S:Nat->Prop)(ρ:Ren)(m:Nat)(Oq:Nat->Nat->Prop)(w':World)(B2 D:Nat)(b:Nat):Prop:=
 Kb C cl S ρ b\/b=B2\/b=D\/∃i c uc nN v,JD C R cl m Oq w' i c uc nN v/\∃a,nN a b
theorem Enters.over(E:Enters l C R u cl xb sb n)(hu:∀b,b<u.heap.size->u1.heap[b]? =u.heap[b]?)(Tp:u1.heap.size=u.heap.size+1)(eD:u1.heap[u.heap.size]? =some (.cells #[pt xb] 36))(Ro:u1.os=u.os)(hB:eP prog Shun S fr cs u1 ρ gs w t q)(hw1:w1.heap=w.heap.push x)(Vw:w1.os=w.os)
  (hm:m=(sat cl).length) (hH:ew f61 xb sb u.heap.size w.heap.size B2 D L n cl .exhausted O' w') (hF:jy C (Kb C cl S ρ) w1 cl n O' w') (iX:w1.heap.size<=B2) (hD:w1.heap.size<=D)
  (hQ:∀i,i<m->Qs C R cl i (Oq i) w') (hd:∀b,O' b->∀i,i<m->¬Oq i b) (hd2:∀b i j,i<m->j<m->Oq i b->Oq j b->i=j) (Ef:∀b,O' b\/(∃i,i<m/\Oq i b)->b≠w.heap.size/\b<w'.heap.size/\¬S b/\((ρ b b/\¬S b)\/w.heap.size<b)) (hsame:dD w1 w'):
  (∀b,ρ b b->Ob C R cl S ρ m Oq w' B2 D b\/S b\/b=w.heap.size)/\
  (∀b,Ob C R cl S ρ m Oq w' B2 D b->b≠w.heap.size/\(b<w.heap.size->ρ b b/\¬S b)/\∃o,w'.heap[b]? =some o/\OR (cP fun b=>Ob C R cl S ρ m Oq w' B2 D b\/S b\/b=w.heap.size) o o)/\
  After C R cl u (mask (Ob C R cl S ρ m Oq w' B2 D) w') xb u.heap.size w.heap.size B2 D:=by
 have hsz:u1.heap.size=w.heap.size:=hB.size;have hs1:w1.heap.size=w.heap.size+1:=by rw[hw1];simp
 have hs':=hsame.size;have hold:∀b,b<w.heap.size->w1.heap[b]? =w.heap[b]? :=fun b hb=>by rw[hw1,Array.getElem?_push,if_neg (by omega)]
 have zw:∀b,ρ b b->b<w.heap.size:=fun b hb=>(hB.world.lt b b hb).2
 have good:∀c,c∈sat cl->∃i uc nN v,JD C R cl m Oq w' i c uc nN v:=fun c hc=>by
  obtain⟨i,hi⟩:=List.mem_iff_getElem?.1 hc;have NN:i<m:=by rw[hm];exact(List.getElem?_eq_some_iff.1 hi).1
  obtain⟨c',h1,uc,nN,v,h2,h3,h4,h5,h6⟩:=hQ i NN;rw[hi]at h1;cases h1;exact⟨i,uc,nN,v,NN,hi,h2,h3,h4,h5,h6⟩
 have ZR:∀i c,i<m->(sat cl)[i]? =some c->∀b,Oq i b->b<w.heap.size->C c b:=fun i c NN hi b hb hlt=>by
  have Zq:=(Ef b (.inr ⟨i,NN,hb⟩)).2.2.2.resolve_right (by omega);refine Classical.byContradiction fun hno=>?_
  by_cases hk:Kb C cl S ρ b
  ·exact hd b (hF.kept b hk).1 i NN hb
  ·obtain⟨j,hj⟩:∃j c',cl[j]? =some (some c')/\C c' b:=Classical.byContradiction fun h=>hk ⟨Zq,fun j c' hj hc=>h ⟨j,c',hj,hc⟩⟩;obtain⟨c',hj,fN⟩:=hj;obtain⟨i',uc,nN,v,g1,g2,_,g4,_,_,g7⟩:=good c' (Gd.2 ⟨j,hj⟩);have:=hd2 b i i' NN g1 hb (g7 b b (g4 b b ⟨rfl,fN⟩));subst this;rw[hi]at g2;cases g2;exact hno fN
 have Vz:∀b,ρ b b->Ob C R cl S ρ m Oq w' B2 D b\/S b\/b=w.heap.size:=fun b hb=>by
  by_cases hS:S b
  ·exact .inr (.inl hS)
  by_cases hk:Kb C cl S ρ b
  ·exact .inl (.inl hk)
  ·obtain⟨j,c',hj,fN⟩:∃j c',cl[j]? =some (some c')/\C c' b:=Classical.byContradiction fun h=>hk ⟨⟨hb,hS⟩,fun j c' hj hc=>h ⟨j,c',hj,hc⟩⟩;obtain⟨i,uc,nN,v,hg⟩:=good c' (Gd.2 ⟨j,hj⟩);exact .inl (.inr (.inr (.inr ⟨i,c',uc,nN,v,hg,b,hg.2.2.2.1 b b ⟨rfl,fN⟩⟩)))
 have hKx:Kb C cl S ρ xb:=by obtain⟨o,ho,hn⟩:=bY E.sl;obtain⟨h1,h2,_,_⟩:=hB.heap ((hu _ (Array.getElem?_eq_some_iff.1 ho).1).trans ho) hn;exact⟨⟨h1,h2⟩,fun j c hj=>(E.cG j c hj).1⟩
 have Te:Kb C cl S ρ u.heap.size:=by obtain⟨h1,h2,_,_⟩:=hB.heap eD (by intro e;cases e);exact⟨⟨h1,h2⟩,fun j c hj h=>Nat.lt_irrefl _ (E.own hu hB hj h).1⟩
 have hkeep:∀b,Kb C cl S ρ b->∃o,u1.heap[b]? =some o/\o≠aV/\w'.heap[b]? =some o/\OR (cP fun b=>ρ b b) o o:=fun b hk=>by obtain⟨o,ho,hn⟩:=hB.zJ hk.1.1 hk.1.2;obtain⟨_,_,h3,h4⟩:=hB.heap ho hn;exact⟨o,ho,hn,(hF.kept b hk).2.trans ((hold b (zw b hk.1.1)).trans h3),h4⟩
 have UW:∀b,Ob C R cl S ρ m Oq w' B2 D b->(b<w.heap.size->(ρ b b/\¬S b)):=fun b hb hlt=>by
  rcases hb with hb|rfl|rfl|⟨i,c,uc,nN,v,hg,a,hab⟩
  ·exact hb.1
  ·omega
  ·omega
  ·exact(Ef b (.inr ⟨i,hg.1,hg.2.2.2.2.2.2 a b hab⟩)).2.2.2.resolve_right (by omega)
 refine⟨Vz,fun b hb=>⟨?_,UW b hb,?_⟩,?_⟩
 ·rcases hb with hb|rfl|rfl|⟨i,c,uc,nN,v,hg,a,hab⟩
  ·have:=zw b hb.1.1;omega
  ·omega
  ·omega
  ·exact(Ef b (.inr ⟨i,hg.1,hg.2.2.2.2.2.2 a b hab⟩)).1
 ·rcases hb with hb|rfl|rfl|⟨i,c,uc,nN,v,hg,a,hab⟩
  ·obtain⟨o,_,_,h3,h4⟩:=hkeep b hb;exact⟨o,h3,h4.mono (xQ Vz)⟩
  ·exact⟨_,hH.bx,RL _ (.inl (.inl hKx))⟩
  ·exact⟨_,hH.df,.cy⟩
  ·obtain⟨o,ho,dP⟩:=nK.closed hg.2.2.2.2.1 hg.2.2.2.2.2.1 b ⟨a,hab⟩;exact⟨o,ho,dP.mono (xQ fun b' hb'=>.inl (.inr (.inr (.inr ⟨i,c,uc,nN,v,hg,hb'⟩))))⟩
 ·refine⟨by rw[eY];omega,?_,⟨Nat.le_refl _,by omega,by omega,by omega⟩,fun b hb hc=>?_,?_,?_,?_,fun c b=>∃i,i<m/\(sat cl)[i]? =some c/\Oq i b,?_,?_,?_⟩
  ·show w'.os=u.os;rw[hsame.os,Vw,hB.world.os,Ro]
  ·have hlt:b<w.heap.size:=by omega
   have YU:u.heap[b]? =some u.heap[b]:=Array.getElem?_eq_getElem hb
   by_cases hn:u.heap[b]=aV
   ·have hno:¬Ob C R cl S ρ m Oq w' B2 D b:=fun ho=>by
     obtain⟨h1,h2⟩:=UW b ho hlt;obtain⟨o,h3,h4⟩:=hB.zJ h1 h2;rw[hu b hb,YU]at h3;exact h4 ((Option.some.inj h3).symm.trans hn)
    rw[qm hno (by omega),YU,hn]
   ·obtain⟨h1,h2,_,_⟩:=hB.heap ((hu b hb).trans YU) hn;have hk:Kb C cl S ρ b:=⟨⟨h1,h2⟩,hc⟩;obtain⟨o,h3,_,h4,_⟩:=hkeep b hk;rw[ef (.inl hk),h4,<-h3,hu b hb]
  ·obtain⟨o,h3,_,h4,_⟩:=hkeep _ Te;rw[ef (.inl Te),h4,<-h3,eD]
  ·rw[ef (.inr (.inl rfl)),hH.bx]
  ·rw[ef (.inr (.inr (.inl rfl))),hH.df]
  ·rintro c c' b hc fN hne ⟨i,h1,h2,h3⟩ ⟨i',k1,k2,k3⟩;have:=hd2 b i i' h1 k1 h3 k3;subst this;rw[h2]at k2;cases k2;exact hne rfl
  ·rintro c b hc ⟨i,h1,h2,h3⟩;exact⟨fun e=>hd _ hH.o1 i h1 (e▸h3),fun e=>hd _ hH.o2 i h1 (e▸h3),fun e=>hd _ hH.oD i h1 (e▸h3),fun hlt=>ZR i c h1 h2 b h3 (by omega)⟩
  ·intro c hc;obtain⟨i,uc,nN,v,hg⟩:=good c hc;have hg':=hg;obtain⟨g1,g2,g3,g4,g5,g6,g7⟩:=hg;exact⟨uc,nN,v,g3,g4,g5.zJ fun a b hab=>.inr (.inr (.inr ⟨i,c,uc,nN,v,hg',a,hab⟩)),g6,fun a b hab=>⟨i,g1,g2,g7 a b hab⟩⟩
end
end
section
open Go.Proofs.Tryz
open Go Go.Conc Go.RowKit Go.Conc.Lib Go.ConcR.Gen Go.ConcN.Gen
open Go.ConcN (ShN WgLive Has)
open Go.ConcR (Payload stA smA WgAt)
section
variable [aR] {l:List FuncId} {C:Nat->Nat->Prop} {R:Nat->Ending->World->Prop} {cl:List (Option Nat)} {xb sb n:Nat} {u u1 w w1:World} {cs:List Frame} {fr:Frame} {gs gX:Array Goroutine} {t:Trace} {q:Nat->Nat} {Shun:Loc->Prop} {S:Nat->Prop} {ρ:Ren} {x:Obj} {sl:Option (Nat×Nat)}
def JB(gw:Func)(C:Nat->Nat->Prop)(R:Nat->Ending->World->Prop)(cl:List (Option Nat))(u:World)(xb:Nat)(cs:List Frame)(fr':Frame)(cs':List Frame)(u':World):Prop:=
 cs'=cs/\∃B1 Wg B2 D,fr'=Tz gw xb B1 Wg B2 D [] (.tuple #[])/\After C R cl u u' xb B1 Wg B2 D
theorem Wr{X:Nat->Prop}{gw:Func}{B1 Wg B2 D:Nat}(hS:aR.ok 96)(hk:aR.known 61)(hx:X xb)(h1:X B1)(hW:X Wg)(h2:X B2)(hD:X D):XF (cP X) (Tz gw xb B1 Wg B2 D [] (.tuple #[])):=by
 haveI:aB:=aC []
 have hu:VR (cP X) undef undef:=cK _;have ht:VR (cP X) (.tuple #[]) (.tuple #[]):=hu
 have hf:VR (cP X) (.func (.func 96) #[] #[pt B2]) (.func (.func 96) #[] #[pt B2]):=.func (.func _ hS) rfl (fun i v v' hv=>by simp at hv) rfl fun i v v' h h'=>by
  rw[h]at h';cases h'
  match i,h with
  |0,h=>cases h;exact CX h2
  |i+1,h=>simp at h
 refine⟨⟨rfl,fun i v v' h h'=>?_⟩,.cons ⟨.collected ⟨rfl,hD⟩,rfl,fun i v v' h=>by simp at h⟩ .nil,rfl,hk,.run⟩;rw[h]at h';cases h';change((zX xb B1 Wg B2).setIfInBounds 10 (.tuple #[]))[i]? =some v at h
 have hb:∀v∈(zX xb B1 Wg B2).setIfInBounds 10 (.tuple #[]),VR (cP X) v v:=by
  intro v hv;simp only[zX,List.setIfInBounds_toArray,List.set_cons_succ,List.set_cons_zero,List.mem_toArray,List.mem_cons,List.not_mem_nil,or_false]at hv;rcases hv with rfl|rfl|rfl|rfl|rfl|rfl|rfl|rfl|rfl|rfl|rfl|rfl|rfl|rfl|rfl|rfl|rfl|rfl|rfl|rfl|rfl|rfl|rfl
  all_goals first|exact hu|exact CX hx|exact CX h1|exact CX hW|exact hf
 exact hb v (Array.mem_of_getElem? h)
def atA(gw:Func)(xb B1 Wg:Nat):Frame:=jz.at ⟨#[pt xb,pt B1,pt Wg,undef,undef,undef,undef,undef,undef,undef,undef,undef,undef,undef,undef,undef,undef,undef,undef,undef,undef,undef,undef],[]⟩ [.code (oG gw)]
theorem Enters.ms[aB][Payload](E:Enters l C R u cl xb sb n)(hu:∀b,b<u.heap.size->u1.heap[b]? =u.heap[b]?)(Tp:u1.heap.size=u.heap.size+1)(eD:u1.heap[u.heap.size]? =some (.cells #[pt xb] 36))(Ro:u1.os=u.os)(hB:eP prog Shun S fr cs u1 ρ gs w t q)(hw1:w1.heap=w.heap.push x)(Vw:w1.os=w.os)(hwg:WgAt link.tWg w.heap.size w1 0 0):
  MS prog link.tWg w.heap.size (FB f61 C (Kb C cl S ρ) w1 cl xb sb u.heap.size w.heap.size n cs) (Qs C R cl) n 0 .opn (fun b=>ρ b b/\¬S b) (G (atA f61 xb u.heap.size w.heap.size) cs) w1:=by
 have hs1:w1.heap.size=w.heap.size+1:=by rw[hw1];simp
 have hold:∀b,b<w.heap.size->w1.heap[b]? =w.heap[b]? :=fun b hb=>by rw[hw1,Array.getElem?_push,if_neg (by omega)]
 have zw:∀b,ρ b b->b<w.heap.size:=fun b hb=>(hB.world.lt b b hb).2
 have cell1:∀{ad:Addr} {v:Value},u1.cell? ad=some v->(ρ ad.block ad.block/\¬S ad.block)/\w1.cell? ad=some v:=fun{ad v} h=>by obtain⟨h1,h2,h3⟩:=hB.cell h;exact⟨⟨h1,h2⟩,(cell_of (hold _ (zw _ h1))).trans h3⟩
 have JY:∀{ad:Addr} {v:Value},u.cell? ad=some v->u1.cell? ad=some v:=fun{ad v} h=>(cell_of (hu _ (mZ h))).trans h;have bz:u1.cell? ⟨u.heap.size,0,none⟩=some (pt xb):=by simp[World.cell?,eD]
 have wQ:=E.setup hu Tp bz Ro hB hw1 Vw;obtain⟨os_,hso,Xn⟩:=E.sJ;obtain⟨s1,s2,_,_⟩:=hB.heap ((hu _ (Array.getElem?_eq_some_iff.1 hso).1).trans hso) Xn
 refine iF (.inl rfl) (Stop:=fun O' g w'=>∃B2 D L v,g=Hj f61 f96 xb sb u.heap.size w.heap.size B2 D L n 0 v cs/\ew f61 xb sb u.heap.size w.heap.size B2 D L n cl .ready O' w'/\jy C (Kb C cl S ρ) w1 cl 0 O' w'/\w1.heap.size<=B2/\w1.heap.size<=D/\w1.heap.size<=L)
  (aaa (cl:=cl) (n:=n) (cell1 bz).1 (cell1 (JY E.sl)).1 ⟨s1,s2⟩ (fun h=>Nat.lt_irrefl _ (zw _ h.1)) (fun b hb=>by have:=zw b hb.1;omega) ⟨_,_,hwg⟩ (cell1 bz).2 (cell1 (JY E.sl)).2 (fun j v hj=>(cell1 (JY (E.at_ j v hj))).2) E.len fun B2 D L O' w' v h1 h2 h3 h4 h5 h6 g1 g2 g3 hH=>.stop fun w₂ r=>⟨B2,D,L,v,rfl,hH.rel r,?_,g1,g2,g3⟩) fun O' g w' h=>?_
 ·refine jy.rel (w:=w') ?_ r;refine⟨h5,h6,h4,fun j c _ hj b hb=>?_,fun b hb=>⟨h1 b hb.1,h3 b hb.1⟩⟩;obtain⟨_,k2,k3,_⟩:=E.own hu hB hj hb;exact⟨h1 b ⟨k2,k3⟩,h3 b ⟨k2,k3⟩⟩
 ·obtain⟨B2,D,L,v,rfl,hH,hF,g1,g2,g3⟩:=h w' (.refl ..);have:=ve (cs0:=cs) wQ g1 g2 g3 n 0 v O' w' (by omega) hH hF;simpa[sat]using this
theorem Enters.Yp[aB][Payload](E:Enters l C R u cl xb sb n)(hu:∀b,b<u.heap.size->u1.heap[b]? =u.heap[b]?)(Tp:u1.heap.size=u.heap.size+1)(eD:u1.heap[u.heap.size]? =some (.cells #[pt xb] 36))(Ro:u1.os=u.os)(hB:eP prog Shun S fr cs u1 ρ gs w t q)(hw1:w1.heap=w.heap.push x)(FZ:dD w w1)(hwg:WgAt link.tWg w.heap.size w1 0 0)
  {a:Goroutine} (ha:gX[0]? =some a) (hsz:gX.size=gs.size) (hL:Leavers prog t gX q)
  (PI:MS prog link.tWg w.heap.size (FB f61 C (Kb C cl S ρ) w1 cl xb sb u.heap.size w.heap.size n cs) (Qs C R cl) n 0 .opn (fun b=>ρ b b/\¬S b) a w1):
  MY prog (JB f61 C R cl u xb cs) ρ Shun w gX w1 sl t:=by
 refine DX hB hw1 FZ hwg ha hsz hL E.small PI fun m O' a' w' Oq hpost hQ hd hd2 Ef hwg' hsame=>?_;obtain⟨hm,B2,D,L,rfl,hH,hF,g1,g2⟩:=hpost;obtain⟨h1,h2,h3⟩:=E.over hu Tp eD Ro hB hw1 FZ.os hm hH hF g1 g2 hQ hd hd2 Ef hsame
 have hle:ρ.le (cP fun b=>Ob C R cl S ρ m Oq w' B2 D b\/S b\/b=w.heap.size):=fun a b hab=>by obtain rfl:=hB.same _ _ hab;exact⟨rfl,h1 a hab⟩
 have own:∀{b:Nat} {o:Obj},u1.heap[b]? =some o->o≠aV->Ob C R cl S ρ m Oq w' B2 D b\/S b\/b=w.heap.size:=fun ho hn=>h1 _ (hB.heap ho hn).1;refine⟨_,cs,Ob C R cl S ρ m Oq w' B2 D,rfl,⟨rfl,_,_,B2,D,rfl,h3⟩,h2,Wr E.okS E.kn ?_ (own eD (by intro e;cases e)) (.inr (.inr rfl)) (.inl (.inr (.inl rfl))) (.inl (.inr (.inr (.inl rfl)))),h1,hB.below.mono hle⟩;obtain⟨o,ho,hn⟩:=bY E.sl;exact own ((hu _ (Array.getElem?_eq_some_iff.1 ho).1).trans ho) hn
end
end
section
open Go.Proofs.Tryz
open Go Go.Conc Go.RowKit Go.Conc.Lib Go.ConcR.Gen Go.ConcN.Gen
open Go.ConcN (ShN WgLive Has)
open Go.ConcR (Payload stA smA WgAt)
def gP(fn:Func):Array Oper:=match fn.body with|some (.seq (.region _ x _) _)=>x|_=>#[]
def fF(fn:Func):Array Oper:=match fn.body with|some (.seq _ (.seq (.region _ x _) _))=>x|_=>#[]
section
variable [aR] {l:List FuncId} {C:Nat->Nat->Prop} {R:Nat->Ending->World->Prop} {cl:List (Option Nat)} {xb sb n:Nat} {u:World} {cs:List Frame}
theorem Ik{Q:Exit->Act->World->Prop}{k:List Item}(h:∀id a u,¬Q (.exit id) a u):jH Q k:=fun id ⟨a,u,hq⟩=>absurd hq (h id a u)
def zW(xb:Nat)(x y:Value):Act:=⟨#[pt xb,x,y,undef,undef,undef,undef,undef,undef,undef,undef,undef,undef,undef,undef,undef,undef,undef,undef,undef,undef,undef,undef],[]⟩
theorem DG(xb:Nat):Frame.enter prog 61 #[pt xb] .normal=jz.at (zW xb undef undef) [.code (.seq (.region 0 (gP f61) false) (.seq (.region 1 (fF f61) false) (oG f61)))]:=by
 rw[enter_at (c:=.seq (.region 0 (gP f61) false) (.seq (.region 1 (fF f61) false) (oG f61))) _ func61 rfl];generalize (Code.seq _ _)=c;have hn:f61.ntmps=23:=rfl;rw[hn]
 walk_nrm
 rfl
theorem JS(w:World):(execOp (zW xb undef undef).eval ((gP f61).getD 0 default)).run prog w=.ok (.value (pt w.heap.size)) {w with heap:=w.heap.push (.cells #[pt xb] 36)}:=by simp only[gP,f61];unfold execOp;simp[go_sem,zW,Act.eval]
theorem Ic(x:Value)(w:World):(execOp (zW xb x undef).eval ((fF f61).getD 0 default)).run prog w=.ok (.value (pt w.heap.size)) {w with heap:=w.heap.push (Go.ConcR.wgBlock link.tWg 0 0)}:=by simp only[fF,f61];unfold execOp;simp[go_sem,zW,Act.eval];rfl
theorem Es(x:Value)(w:World):listed prog jz.fn (zW xb x undef) ((fF f61).getD 0 default) w=#[]:=by
 have:(execOp (zW xb x undef).eval ((fF f61).getD 0 default)).events prog w #[]=#[]:=by simp only[fF,f61];unfold execOp;simp[go_sem,zW,Act.eval]
 unfold listed;rw[this];exact seen_none _ _
theorem EG[Payload](E:Enters l C R u cl xb sb n):Reach prog (JB f61 C R cl u xb cs) (Frame.enter prog 61 #[pt xb] .normal) cs u:=by
 haveI:aB:=aC []
 have a1:(gP f61)[0]? =some ((gP f61).getD 0 default):=rfl;have a2:Region.wanted ((gP f61).getD 0 default) (yielded (gP f61) (zW xb undef undef).tmps)=true:=rfl;have a3:okB prog l ((gP f61).getD 0 default).op=true:=rfl;have a4:List.range (gP f61).size=[0]:=rfl;have a5:∀v,(zW xb undef undef).put ((gP f61).getD 0 default).dst v=zW xb v undef:=fun v=>rfl;have b1:(fF f61)[0]? =some ((fF f61).getD 0 default):=rfl;have b2:∀v,Region.wanted ((fF f61).getD 0 default) (yielded (fF f61) (zW xb v undef).tmps)=true:=fun v=>rfl;have b4:List.range (fF f61).size=[0]:=rfl;have b5:∀v v',(zW xb v undef).put ((fF f61).getD 0 default).dst v'=zW xb v v':=fun v v'=>rfl;have dX:=fun w=>JS (xb:=xb) w;have Vi:=fun x w=>Ic (xb:=xb) x w;have Vf:=fun x w=>Es (xb:=xb) x w;have hA:∀(y:Nat),jz.at (zW xb (pt u.heap.size) (pt y)) [.code (oG f61)]=atA f61 xb u.heap.size y:=fun y=>rfl;rw[DG];generalize gP f61=aaC at*;generalize fF f61=VM at*;generalize aam:oG f61=rest at*;refine .at_ (fun _=>stepG_seq) (.at_ (fun _=>stepG_region) ?_);rw[a4];refine Reach.bind ((OX.value (Q:=fun e a' u'=>e=.normal/\a'=zW xb (pt u.heap.size) undef/\u'={u with heap:=u.heap.push (.cells #[pt xb] 36)}) (u1:={u with heap:=u.heap.push (.cells #[pt xb] 36)}) (v:=pt u.heap.size) E.fit a1 a2 a3 (fun τ=>dX (u.tp τ)) (OX.nil ⟨rfl,a5 _,rfl⟩)) jz _ cs trivial (Ik fun _ _ _ h=>by cases h.1)) ?_;rintro bT bV u1 ⟨e,a',⟨rfl,rfl,rfl⟩,rfl,rfl⟩;refine .at_ (fun _=>stepG_seq) (.at_ (fun _=>stepG_region) ?_);rw[b4];refine Reach.ZS fun Shun S ρ gs w t q hB _=>?_
 have hs:stepG prog true (G (jz.at (zW xb (pt u.heap.size) undef) [.inRegion VM [0],.code rest]) bV) w=.go (G (jz.at (zW xb (pt u.heap.size) (pt w.heap.size)) [.inRegion VM [],.code rest]) bV) {w with heap:=w.heap.push (Go.ConcR.wgBlock link.tWg 0 0)}:=by rw[stepG_value (v:=pt w.heap.size) b1 (b2 _) (by simp[jz]) (Vi _ w),Vf,b5]
 refine⟨_,_,_,hs,fun gX sl h0 hsz hL=>?_⟩;have hu:∀b,b<u.heap.size->(u.heap.push (.cells #[pt xb] 36))[b]? =u.heap[b]? :=fun b hb=>by rw[Array.getElem?_push,if_neg (by omega)]
 have hwg:WgAt link.tWg w.heap.size {w with heap:=w.heap.push (Go.ConcR.wgBlock link.tWg 0 0)} 0 0:=by show(w.heap.push _)[w.heap.size]? =_;simp
 have PI:=E.ms (u1:={u with heap:=u.heap.push (.cells #[pt xb] 36)}) (w1:={w with heap:=w.heap.push (Go.ConcR.wgBlock link.tWg 0 0)}) hu (by simp) (by simp) rfl hB rfl rfl hwg;refine E.Yp (u1:={u with heap:=u.heap.push (.cells #[pt xb] 36)}) (w1:={w with heap:=w.heap.push (Go.ConcR.wgBlock link.tWg 0 0)}) hu (by simp) (by simp) rfl hB rfl ⟨rfl,rfl,rfl,by simp⟩ hwg h0 hsz hL ?_;rw[<-hA]at PI;refine iF (.inl rfl) (Stop:=fun O' g w'=>O'=(fun b=>ρ b b/\¬S b)/\g=G (jz.at (zW xb (pt u.heap.size) (pt w.heap.size)) [.code rest]) bV/\Rel link.tWg w.heap.size (fun b=>ρ b b/\¬S b) {w with heap:=w.heap.push (Go.ConcR.wgBlock link.tWg 0 0)} w') (.regionEnd (.stop fun w₁ r=>⟨rfl,rfl,r⟩)) fun O' g w' h=>?_;obtain⟨rfl,rfl,r⟩:=h w' (.refl ..);exact PI.rely r
end
end
section
open Go.Proofs.Tryz
open Go Go.Conc Go.RowKit Go.Conc.Lib Go.ConcR.Gen Go.ConcN.Gen
open Go.ConcR (Payload)
section
variable [aR] {l:List FuncId} {C:Nat->Nat->Prop} {R:Nat->Ending->World->Prop} {cl:List (Option Nat)} {xb sb n:Nat} {u:World} {cs:List Frame}
def tlF(gw:Func)(xb B1 Wg B2 D:Nat):Frame:=jz.at ⟨(zX xb B1 Wg B2).setIfInBounds 10 (.tuple #[]),[{target:=.collected D,args:=#[]}]⟩ [.code (mS gw)]
theorem Bc[Payload](E:Enters l C R u cl xb sb n){R':Ending->World->Prop}(hok:dM prog l false (mS f61)=true)(hR:∀e u τ,R' e u->R' e (World.tp u τ))(qd:∀e u,R' e u->∃v,e=.returned v)
  (h:∀u' B1 Wg B2 D,After C R cl u u' xb B1 Wg B2 D->∀τ,∃e Qd fr',R' e Qd/\Comes prog (lone (tlF f61 xb B1 Wg B2 D) [bot prog] (u'.tp τ)) (lone fr' [bot prog] Qd) e/\fr'.fn=61/\fr'.leaving prog Qd e):
  bG prog 61 #[pt xb] u R':=fun cs=>by
 letI:aB:=aC []
 refine(EG (cs:=cs) E).bind ?_;rintro fr cs' u' ⟨rfl,B1,Wg,B2,D,rfl,ha⟩;refine .at_ (k':=[.code (mS f61)]) (fun _=>stepG_region_end) ?_;exact Reach.left (l:=l) E.fit (fun ρ=>.cons (.code hok) .nil) rfl hR qd (h u' B1 Wg B2 D ha)
end
end
end Go.Proofs.YtpobhljcainmdaaGreat
