/- Proved here: a part of what Doors keeps (Rd8, Rd9, Wx1, Wx2, Wx3, Wx4). -/
import Derived.Test.YtpobhljcainmdaaGreatJ29
import Derived.Test.YtpobhljcainmdaaGreatJ30
import Derived.Test.YtpobhljcainmdaaGreatJ32
set_option maxRecDepth 100000
set_option maxHeartbeats 8000000
set_option linter.all false
namespace Go.Proofs.YtpobhljcainmdaaGreat
section
open Go.Proofs.Tryz
open Go Go.Conc Go.RowKit Go.Conc.Lib Go.ConcR.Gen Go.ConcN.Gen
open Go.ConcN (ShN WgLive Has)
open Go.ConcR (Payload stA smA WgAt)
section
variable [aR] [aB] {l:List FuncId} {C:Nat->Nat->Prop} {R:Nat->Ending->World->Prop} {K:Nat->Prop} {w0:World} {cl:List (Option Nat)} {xb sb B1 Wg n B2 D L:Nat} {O:Nat->Prop} {w:World} {i:Nat} {cs0:List Frame}
theorem Ih{M m:Nat}(S:Setup l C R K w0 cl xb sb B1 Wg n)(hm:m=(sat cl).length)(iX:w0.heap.size<=B2)(hD:w0.heap.size<=D)(hH:ew f61 xb sb B1 Wg B2 D L n cl .exhausted O w)(hF:jy C K w0 cl n O w):
  MS prog link.tWg Wg (FB f61 C K w0 cl xb sb B1 Wg n cs0) (Qs C R cl) M m .opn O (G (Frame.enter prog 101 #[pt Wg] .normal) (Tz f61 xb B1 Wg B2 D [0] undef::cs0)) w:=by
 rw[Ft]
 refine Od (J:=fun w=>ew f61 xb sb B1 Wg B2 D L n cl .exhausted O w/\jy C K w0 cl n O w) (fun w w₁ r h=>⟨h.1.rel r,h.2.rel r⟩) (fun w v hl h=>⟨vL rfl h.1 hl,vK rfl h.1.nW h.2⟩) (fun w v hl h=>⟨vL rfl h.1 hl,vK rfl h.1.nW h.2⟩) (b:=2147483646) (Nat.le_refl _)
  (Fin:=fun g w=>g=G (Tz f61 xb B1 Wg B2 D [] (.tuple #[])) cs0) (fun g w hj h=>?_) (Fu wB (fun w _=>rfl)) ⟨hH,hF⟩ (Ay wB w hH.lv)
 have e:=h w (.refl ..);subst e;exact .done fun w₁ r=>⟨hm,B2,D,L,rfl,hj.1.rel r,hj.2.rel r,iX,hD⟩
theorem Lv{Post:Nat->(Nat->Prop)->Goroutine->World->Prop}{Q:Nat->(Nat->Prop)->World->Prop}{M m B c:Nat}{f1 f2:Frame}{gw:Func}(J:World->Prop)(hJ:∀w w₁,Rel link.tWg Wg O w w₁->J w->J w₁)(QV:∀w v,WgLive link.tWg Wg (w.setCell (stA Wg) v)->J w->J (w.setCell (stA Wg) v))
  (hF:∀w,J w->MS prog link.tWg Wg Post Q M m .ready O (G ((Tw gw xb B1 Wg B2 L B c [0] undef).finish (.tuple #[])) (f1::f2::cs0)) w) (hj:J w) (hl:WgLive link.tWg Wg w):
  MS prog link.tWg Wg Post Q M m .opn O (G (Frame.enter prog 97 #[pt Wg,.int .i64 1] .normal) (Tw gw xb B1 Wg B2 L B c [0] undef::f1::f2::cs0)) w:=by
 rw[GA];refine RE (J:=J) hJ QV (Fin:=fun g w=>g=G ((Tw gw xb B1 Wg B2 L B c [0] undef).finish (.tuple #[])) (f1::f2::cs0)) (fun g w hj h=>?_) hj (AX wB (fun w _=>rfl) w hl);have e:=h w (.refl ..);subst e;exact hF w hj
end
end
section
open Go.Proofs.Tryz
open Go Go.Conc Go.RowKit Go.Conc.Lib Go.ConcR.Gen Go.ConcN.Gen
open Go.ConcN (ShN WgLive Has)
open Go.ConcR (Payload stA smA WgAt)
section
variable [aR] [aB] {l:List FuncId} {C:Nat->Nat->Prop} {R:Nat->Ending->World->Prop} {K:Nat->Prop} {w0:World} {cl:List (Option Nat)} {xb sb B1 Wg n B2 D L:Nat} {cs0:List Frame}
theorem ew.split{gw:Func}{st:LoopState}{O A:Nat->Prop}{w:World}(h:ew gw xb sb B1 Wg B2 D L n cl st O w)(hx:¬A xb)(hs:¬A sb)(h1:¬A B1)(h2:¬A B2)(hD:¬A D)(hL:¬A L):ew gw xb sb B1 Wg B2 D L n cl st (fun b=>O b/\¬A b) w:=
 ⟨⟨h.ox,hx⟩,⟨h.os,hs⟩,⟨h.o1,h1⟩,⟨h.o2,h2⟩,⟨h.oD,hD⟩,⟨h.oL,hL⟩,fun k=>h.nW k.1,h.lv,h.b1,h.b2,h.sl,h.at_,h.len,h.df,h.lp,h.bx⟩
theorem ve[Payload](S:Setup l C R K w0 cl xb sb B1 Wg n)(iX:w0.heap.size<=B2)(hD:w0.heap.size<=D)(hL:w0.heap.size<=L):∀(k i:Nat) (v:Nat->Value) (O:Nat->Prop) (w:World),i+k=n->ew f61 xb sb B1 Wg B2 D L n cl .ready O w->jy C K w0 cl i O w->
  MS prog link.tWg Wg (FB f61 C K w0 cl xb sb B1 Wg n cs0) (Qs C R cl) n (sat (cl.take i)).length .opn O (Hj f61 f96 xb sb B1 Wg B2 D L n i v cs0) w
 |0,i,v,O,w,hk,hH,hF=>by
  obtain rfl:i=n:=by omega
  refine iF (.inl rfl) (Oy hH) fun O' g' w' h=>?_;obtain⟨rfl,rfl,hH',he,hs,ho⟩:=h w' (.refl ..);refine Ih S ?_ iX hD hH' (hF.BU S hL (fun _ x=>x) (fun b hb=>Nat.lt_of_lt_of_le (hF.lt b hb) hs) he hs ho);rw[List.take_of_length_le (Nat.le_of_eq S.len)]
 |k+1,i,v,O,w,hk,hH,hF=>by
  have hi:i<n:=by omega
  have hn:n<4294967296:=by have:=S.small;omega
  have hil:i<cl.length:=by rw[S.len];exact hi
  cases hx:cl[i]with
  |none=>
   have dw:cl[i]? =some none:=by rw[List.getElem?_eq_getElem hil,hx]
   refine iF (.inl rfl) (Stop:=fun O' g' w'=>O'=O/\(∃v,g'=Hj f61 f96 xb sb B1 Wg B2 D L n (i+1) v cs0)/\Rel link.tWg Wg O w w') (Sb hH hi hn dw fun v=>.stop fun w₁ r=>⟨rfl,⟨v,rfl⟩,r⟩) fun O' g' w' h=>?_;obtain⟨rfl,⟨v',rfl⟩,r⟩:=h w' (.refl ..);have:=ve S iX hD hL k (i+1) v' O' w' (by omega) (hH.rel r) ((hF.rel r).next (Nat.le_succ i));rw[Ma dw]at this;exact this
  |some c=>
   have dw:cl[i]? =some (some c):=by rw[List.getElem?_eq_getElem hil,hx]
   obtain⟨KZ,hq2⟩:=Mb dw;refine iF (.inl rfl) (Sa hH hF.lt hi hn dw) fun O1 g1 w1 h=>?_;obtain⟨B,v1,rfl,GV,hB,QN,dX,hO1,UD,Zb,hs1,Xm⟩:=h w1 (.refl ..);have Rk:∀b,O1 b->b<w1.heap.size:=fun b hb=>(UD b hb).elim (fun h=>Nat.lt_of_lt_of_le (hF.lt b h) hs1) fun h=>h.2;have hF1:jy C K w0 cl i O1 w1:=hF.BU S hL hO1 Rk Zb hs1 Xm;have aaq:w.heap.size<=B:=(UD B hB).elim (fun h=>absurd h QN) fun h=>h.1
   refine Lv (fun w=>ew f61 xb sb B1 Wg B2 D L n cl .busy O1 w/\jy C K w0 cl i O1 w/\w.cell? ⟨B,0,none⟩=some (pt c)) (fun w w₁ r h=>⟨h.1.rel r,h.2.1.rel r,(r.cell (ad:=⟨B,0,none⟩) hB).trans h.2.2⟩)
    (fun w v hl h=>⟨vL rfl h.1 hl,vK rfl h.1.nW h.2.1,(cell_of (ad:=⟨B,0,none⟩) ((aside_setCell w (stA Wg) v).block B fun e=>h.1.nW ((show B=Wg from e)▸hB))).trans h.2.2⟩) (fun w2 hJ=>?_) ⟨GV,hF1,dX⟩ GV.lv
   obtain⟨pW,hF2,UK⟩:=hJ;refine iF (.inr rfl) Wa fun O3 g3 w3 h=>?_;obtain⟨rfl,rfl,r3⟩:=h w3 (.refl ..);have AB:=pW.rel r3;have Yz:=hF2.rel r3;have UL:=(r3.cell (ad:=⟨B,0,none⟩) hB).trans UK
   have hCB:∀b,C c b->b≠B:=fun b hb e=>by have:=(S.cG i c dw b hb).2.2;have:=hF.size;omega
   have hA:∀b,(C c b\/b=B)->O3 b:=fun b hb=>hb.elim (fun h=>(Yz.rest i c (Nat.le_refl _) dw b h).1) fun h=>h▸hB;have UE:∀b,O b->¬C c b->¬(C c b\/b=B):=fun b hb hc h=>h.elim hc fun e=>QN (e▸hb);have hK:∀b,K b->¬(C c b\/b=B):=fun b hb=>UE b (hF.kept b hb).1 fun h=>(S.cG i c dw b h).1 hb
   have QX:∀b,O b->w0.heap.size<=b->¬(C c b\/b=B):=fun b hb hge=>UE b hb fun h=>by have:=(S.cG i c dw b h).2.2;omega
   refine .spawn (A:=fun b=>C c b\/b=B) (R:=fun b=>O3 b/\¬(C c b\/b=B)) ?_ rfl hA (fun b hb=>hb.1) (fun b hb h=>h.2 hb) (fun b hb=>(Classical.em (C c b\/b=B)).imp id fun h=>⟨hb,h⟩) (fun w4 r4=>⟨_,_,Av _ _ w4,rfl⟩) (fun w4 g4 ch r4 hs=>?_) fun w4 g4 ch r4 hs=>?_
   ·have h1:=RZ cl;have h2:=(List.getElem?_eq_some_iff.1 KZ).1;rw[S.len]at h1;omega
   ·rw[Av]at hs;cases hs;have QO:=Yz.rel r4;have UQ:∀b,C c b->w4.heap[b]? =w0.heap[b]? :=fun b hb=>(QO.rest i c (Nat.le_refl _) dw b hb).2;refine(Jk S.fit S.ZQ (Nat.le_trans S.Yq QO.size) (fun b hb=>?_) (S.closed i c dw).2 (fun h=>hCB B h rfl) (fun h=>(S.cG i c dw Wg h).2.1 rfl) (fun e=>AB.nW (e▸hB)) (r4.live AB.lv) ((r4.cell (ad:=⟨B,0,none⟩) hB).trans UL) (S.LX c) (S.RS c) (S.calls i c dw w4 UQ QO.size QO.os)).mono fun O' w' hq=>⟨c,KZ,hq⟩;obtain⟨o,ho,dP⟩:=(S.closed i c dw).1 b hb;exact⟨o,(UQ b hb).trans ho,dP⟩
   ·rw[Av]at hs;cases hs;have uM:=(AB.rel r4).split (A:=fun b=>C c b\/b=B) (hK _ S.kx.1) (hK _ S.kx.2.1) (hK _ S.kx.2.2) (QX _ hH.o2 iX) (QX _ hH.oD hD) (QX _ hH.oL hL)
    have QO:jy C K w0 cl (i+1) (fun b=>O3 b/\¬(C c b\/b=B)) w4:=by have SV:=Yz.rel r4;refine⟨SV.size,SV.os,fun b hb=>SV.lt b hb.1,fun j c' hj fN b hb=>?_,fun b hb=>⟨⟨(SV.kept b hb).1,hK b hb⟩,(SV.kept b hb).2⟩⟩;obtain⟨h1,h2⟩:=SV.rest j c' (by omega) fN b hb;refine⟨⟨h1,fun h=>h.elim (S.Qz j i c' c fN dw (by omega) b hb) fun e=>?_⟩,h2⟩;have:=(S.cG j c' fN b hb).2.2;have:=hF.size;omega
    refine iF (.inl rfl) (Ox uM hi hn) fun O5 g5 w5 h=>?_;obtain⟨rfl,⟨v5,rfl⟩,YF,he5,hs5,ho5⟩:=h w5 (.refl ..);have:=ve S iX hD hL k (i+1) v5 _ w5 (by omega) YF (QO.BU S hL (fun _ x=>x) (fun b hb=>Nat.lt_of_lt_of_le (QO.lt b hb) hs5) he5 hs5 ho5);rw[hq2]at this;exact this
end
end
section
open Go Go.Conc
open Go.ConcN (sumTo upd sumTo_upd upd_ne upd_same)
def kB(k:List Item)(s:String):Item:=match k[s.length]? with
 |some (.code c)=>.code c
 |some (.inLoop c)=>.inLoop c
 |_=>.code .skip
theorem xq(k:List Item)(s:String):(∃c,kB k s=.code c)\/∃c,kB k s=.inLoop c:=by
 unfold kB;split
 ·exact .inl ⟨_,rfl⟩
 ·exact .inr ⟨_,rfl⟩
 ·exact .inl ⟨_,rfl⟩
abbrev aC(k:List Item):aB:=⟨kB k,xq k⟩
section
variable [aR] {P:Program} {l:List FuncId} {Post wI:Frame->List Frame->World->Prop} {fr:Frame} {cs:List Frame} {u:World}
structure XF(ρ:Ren)(fr:Frame):Prop where
 tmps:cF ρ fr.tmps fr.tmps
 defers:bU (DR ρ) fr.defers fr.defers
 kind:fr.kind=.normal
 known:aR.known fr.fn
 mode:Jo ρ fr.mode fr.mode
theorem XF.mono{ρ σ:Ren}(g:ρ.le σ)(h:XF ρ fr):XF σ fr:=by
 haveI:aB:=aC []
 exact⟨h.tmps.mono g,h.defers.mono fun _ _=>DR.mono g,h.kind,h.known,h.mode.mono g⟩
structure Gv(ρ:Ren)(cs:List Frame):Prop where
 deep:aR.depth<=cs.length
 run:∀f∈cs,f.mode=.run
 xf:∀(i:Nat) f,cs[i]? =some f->i+aR.depth<cs.length->XF ρ f
theorem Gv.mono{ρ σ:Ren}(g:ρ.le σ)(h:Gv ρ cs):Gv σ cs:=⟨h.deep,h.run,fun i f hi hl=>(h.xf i f hi hl).mono g⟩
theorem Gv.push{ρ:Ren}(h:Gv ρ cs)(hx:XF ρ fr)(hm:fr.mode=.run):Gv ρ (fr::cs):=by
 refine⟨by have:=h.deep;simp;omega,fun f hf=>?_,fun i f hi hl=>?_⟩
 ·rcases List.mem_cons.1 hf with rfl|hf
  ·exact hm
  ·exact h.run f hf
 ·cases i with
  |zero=>simp at hi;subst hi;exact hx
  |succ i=>exact h.xf i f (by simpa using hi) (by simp at hl;omega)
theorem Gv.pop{ρ:Ren}(h:Gv ρ (fr::cs))(hd:aR.depth<=cs.length):XF ρ fr/\Gv ρ cs:=
 ⟨h.xf 0 fr rfl (by simp;omega),hd,fun f hf=>h.run f (List.mem_cons_of_mem _ hf),fun i f hi hl=>h.xf (i+1) f (by simpa using hi) (by simp;omega)⟩
def Gy(ρ:Ren)(Shun:Loc->Prop)(w:World):Prop:=∀b o,aR.Sz b=some o->(∀x,¬ρ x b)/\w.heap[b]? =some o/\∀a:Addr,a.block=b->¬Shun (.cell a)
def gL(Shun cO:Loc->Prop)(w:World):Prop:=∀a:Addr,cO (.cell a)->Shun (.cell a)\/w.heap.size<=a.block
theorem gL.refl(Shun:Loc->Prop)(w:World):gL Shun Shun w:=fun _ h=>.inl h
theorem gL.trans{A B C:Loc->Prop}{w w1:World}(h:gL A B w)(hs:w.heap.size<=w1.heap.size)(k:gL B C w1):gL A C w:=fun a hc=>(k a hc).elim (h a) fun e=>.inr (Nat.le_trans hs e)
theorem Gy.went{ρ σ:Ren}{Shun cO:Loc->Prop}{w w1:World}(h:Gy ρ Shun w)(k:eR ρ σ w w1)(c:gL Shun cO w):Gy σ cO w1:=fun b o hb=>by
 obtain⟨h1,h2,h3⟩:=h b o hb;have hlt:b<w.heap.size:=(Array.getElem?_eq_some_iff.1 h2).1;refine⟨fun x hx=>?_,(k.cG b hlt h1).trans h2,fun a ha hs=>?_⟩
 ·rcases k.news x b hx with e|e
  ·exact h1 x e
  ·omega
 ·rcases c a hs with e|e
  ·exact h3 a ha e
  ·omega
theorem Gy.at {ρ:Ren}{Shun:Loc->Prop}{w:World}(h:Gy ρ Shun w)(d:Nat):Gy ρ Shun (w.at d):=h
structure eP(P:Program)(Shun:Loc->Prop)(S:Nat->Prop)(fr:Frame)(cs:List Frame)(u:World)(ρ:Ren)(gs:Array Goroutine)(w:World)(t:Trace)(q:Nat->Nat):Prop where
 Bb:gs[0]? =some (G fr cs)
 top:XF ρ fr
 below:Gv ρ cs
 world:nK P ρ u w
 whole:Whole S ρ u
 bK:Leavers P t gs q
 past:Past Shun w.heap.size t
 clear:Clear Shun S ρ w
 same:∀a b,ρ a b->a=b
 size:u.heap.size=w.heap.size
 wL:∀i j,t.g? i=some j->j<gs.size
 full:Full ρ u
def Reach(P:Program)(Post:Frame->List Frame->World->Prop)(fr:Frame)(cs:List Frame)(u:World):Prop:=
 ∀(Shun:Loc->Prop) (S:Nat->Prop) (ρ:Ren) (gs:Array Goroutine) (w:World) (sl:Option (Nat×Nat)) (t:Trace) (q:Nat->Nat),eP P Shun S fr cs u ρ gs w t q->Gy ρ Shun w->
  ∃N cO S' ρ' fr' cs' u' gs' w' sl' t' q',runNT P N (crowd gs w sl) t=(.next (crowd gs' w' sl'),t')/\Post fr' cs' u'/\eP P cO S' fr' cs' u' ρ' gs' w' t' q'/\eR ρ ρ' w w'/\gL Shun cO w
theorem gH:∀{N:Nat} {K:Nat} {m m1:Machine} {t t1:Trace},runNT P N m t=(.next m1,t1)->runNT P (N+K) m t=runNT P K m1 t1
 |0,K,m,m1,t,t1,h=>by simp only[runNT]at h;cases h;rw[Nat.zero_add]
 |N+1,K,m,m1,t,t1,h=>by
  rw[show N+1+K=(N+K)+1 by omega];simp only[runNT]at h⊢;cases hs:stepT P m with
  |mk x ops=>
   rw[hs]at h;cases x with
   |next m2=>exact gH h
   |ended o w=>cases h
theorem Reach.here(h:Post fr cs u):Reach P Post fr cs u:=
 haveI:aB:=aC []
 fun Shun S ρ gs w sl t q hB _=>⟨0,Shun,S,ρ,fr,cs,u,gs,w,sl,t,q,rfl,h,hB,.refl ρ w,.refl Shun w⟩
theorem Reach.bind(h:Reach P wI fr cs u)(k:∀fr cs u,wI fr cs u->Reach P Post fr cs u):Reach P Post fr cs u:=fun Shun S ρ gs w sl t q hB hV=>by
 haveI:aB:=aC []
 obtain⟨N,JH,S1,ρ1,bT,bV,u1,gX,w1,Gm,t1,q1,r1,r2,r3,r4,r5⟩:=h Shun S ρ gs w sl t q hB hV;obtain⟨K,rN,S2,MK,uF,AA,u2,Pn,w2,Sf,t2,q2,k1,k2,k3,k4,k5⟩:=k _ _ _ r2 JH S1 ρ1 gX w1 Gm t1 q1 r3 (hV.went r4 r5);exact⟨N+K,rN,S2,MK,uF,AA,u2,Pn,w2,Sf,t2,q2,(gH r1).trans k1,k2,k3,r4.trans k4,r5.trans r4.size k5⟩
theorem Reach.mono(h:Reach P wI fr cs u)(k:∀fr cs u,wI fr cs u->Post fr cs u):Reach P Post fr cs u:=h.bind fun fr cs u hm=>.here (k fr cs u hm)
theorem eP.at {Shun:Loc->Prop}{S:Nat->Prop}{ρ:Ren}{gs:Array Goroutine}{w:World}{t:Trace}{q:Nat->Nat}(h:eP P Shun S fr cs u ρ gs w t q)(d:Nat):eP P Shun S fr cs u ρ gs (w.at d) t q:=
 haveI:aB:=aC []
 ⟨h.Bb,h.top,h.below,h.world.at d,h.whole,h.bK,h.past,h.clear,h.same,h.size,h.wL,h.full⟩
structure TJ(P:Program)(S:Nat->Prop)(ρ σ:Ren)(u1 w w1:World)(bT:Frame)(bV:List Frame)(es:Array Event):Prop where
 went:eR ρ σ w w1
 world:nK P σ u1 w1
 whole:Whole S σ u1
 same:∀a b,σ a b->a=b
 size:u1.heap.size=w1.heap.size
 own:∀e∈es,dz S σ e
 top:XF σ bT
 below:Gv σ bV
 full:Full σ u1
theorem Reach.one(h:∀Shun S ρ gs w t q,eP P Shun S fr cs u ρ gs w t q->Gy ρ Shun w->∃bT bV u1 σ w1 es,stepG P true (G fr cs) w=.go (G bT bV) w1 es/\TJ P S ρ σ u1 w w1 bT bV es/\Reach P Post bT bV u1):Reach P Post fr cs u:=by
 haveI:aB:=aC []
 have key:∀(n:Nat) Shun S ρ gs w sl t q,sumTo gs.size q<n->eP P Shun S fr cs u ρ gs w t q->Gy ρ Shun w->
   ∃N cO S' ρ' fr' cs' u' gs' w' sl' t' q',runNT P N (crowd gs w sl) t=(.next (crowd gs' w' sl'),t')/\Post fr' cs' u'/\eP P cO S' fr' cs' u' ρ' gs' w' t' q'/\eR ρ ρ' w w'/\gL Shun cO w:=by
  intro n;induction n with
  |zero=>exact fun Shun S ρ gs w sl t q hS=>absurd hS (by omega)
  |succ n ih=>
   intro Shun S ρ gs w sl t q hS hB hV;have h0:=hB.Bb;have hL:=hB.bK;have hlt:0<gs.size:=(Array.getElem?_eq_some_iff.1 h0).1
   have Ra:∀g∈gs,awake g:=by
    intro g hg;obtain⟨i,hi,rfl⟩:=Array.mem_iff_getElem.1 hg;rcases Nat.eq_zero_or_pos i with rfl|hpos
    ·have:gs[0]=G fr cs:=by simpa[Array.getElem?_eq_getElem hi]using h0
     rw[this];exact awake_of (.inl rfl)
    ·exact awake_of ((hL.old i _ hpos (Array.getElem?_eq_getElem hi)).status.elim .inl fun x=>.inr (.inr x))
   obtain⟨i,g,d,sl',hi,hg,hst⟩:=crowd_pick (P:=P) (w:=w) (sl:=sl) Ra ⟨0,_,h0,rfl⟩;have FN:=hB.at d;rcases Nat.eq_zero_or_pos i with rfl|hpos
   ·
    obtain rfl:g=G fr cs:=by rw[h0]at hi;exact(Option.some.inj hi).symm
    obtain⟨bT,bV,u1,σ,w1,es,hs,hd,hr⟩:=h Shun S ρ gs (w.at d) t q FN (hV.at d);have jT:=runT_crowd_go (P:=P) (sl:=sl') (i:=0) hi (show stepG P (0==0) (G fr cs) (w.at d)=_ from hs);have hop:=MemOp.ofEvents_g 0 (G fr cs).frame.fn (G fr cs).frame.place es;have hact:(MemOp.ofEvents 0 (G fr cs).frame.fn (G fr cs).frame.place es).map (·.act)=es.map .ofEvent:=by rw[ofEvents_eq];simp[Array.map_map,Function.comp_def]
    have hsz:((gs.map (woken P (G fr cs) (G bT bV) w1)).setIfInBounds 0 (G bT bV)).size=gs.size:=by simp
    obtain⟨N,cO,S',ρ',fr',cs',u',gs',w',vP,t',q',r1,r2,r3,r4,r5⟩:=hr Shun S σ ((gs.map (woken P (G fr cs) (G bT bV) w1)).setIfInBounds 0 (G bT bV)) w1 sl' (t++MemOp.ofEvents 0 (G fr cs).frame.fn (G fr cs).frame.place es) q
     ⟨by simp[hlt],hd.top,hd.below,hd.world,hd.whole,⟨fun j x hj hx=>by
      rw[Array.getElem?_setIfInBounds_ne (by omega),Array.getElem?_map]at hx;obtain⟨y,hy,rfl⟩:=Option.map_eq_some_iff.1 hx;have hq:=hL.old j y hj hy;rw[woken_quitsD hq,Deaf_other t (g':=0) (by omega) _ hop];exact hq,fun j hj=>by
      rw[Deaf_other t (g':=0) (by rw[hsz]at hj;omega) _ hop];exact hL.above j (by rw[hsz]at hj;exact hj)⟩,qp FN.past FN.clear hd.went (fun y b AF=>(hd.world.lt y b AF).2) hop (by rw[hact];exact lX hd.own),FN.clear.went hd.went,hd.same,hd.size,kO (by rw[hsz];exact hB.wL) (by rw[hsz];exact hlt) hop,hd.full⟩ ((hV.at d).went hd.went (.refl Shun _))
    refine⟨N+1,cO,S',ρ',fr',cs',u',gs',w',vP,t',q',by simp only[runNT,hst,jT];exact r1,r2,r3,(((eR.refl ρ w).at d).trans hd.went).trans r4,fun a ha=>(r5 a ha).imp id fun e=>Nat.le_trans hd.went.size e⟩
   ·
    have hq:=hL.old i g hpos hi;have hi0:(i==0)=false:=by simp;omega
    have hlt':i<gs.size:=(Array.getElem?_eq_some_iff.1 hi).1;cases Jy:q i with
    |zero=>rw[Jy]at hq;rw[hq.1]at hg;cases hg
    |succ k=>
     rw[Jy]at hq;rcases hq with⟨hf,_⟩|⟨_,g',es,hm,uQ,kY⟩
     ·rw[hf]at hg;cases hg
     have jT:=runT_crowd_go (P:=P) (sl:=sl') (i:=i) hi (by rw[hi0];exact uQ (w.at d));have hsz:((gs.map (woken P g g' (w.at d))).setIfInBounds i g').size=gs.size:=by simp
     have hsum:sumTo gs.size (upd q i k)+q i=sumTo gs.size q+k:=sumTo_upd q k id hlt'
     obtain⟨N,cO,S',ρ',fr',cs',u',gs',w',vP,t',q',r1,r2,r3,r4,r5⟩:=ih Shun S ρ ((gs.map (woken P g g' (w.at d))).setIfInBounds i g') (w.at d) sl' (t++MemOp.ofEvents i g.frame.fn g.frame.place es) (upd q i k) (by rw[hsz];omega)
      ⟨by
       have hne:i≠0:=by omega
       rw[Array.getElem?_setIfInBounds_ne hne,Array.getElem?_map,h0];simp[woken_running (show(G fr cs).status=.running from rfl)],hB.top,hB.below,FN.world,hB.whole,⟨fun j x hj hx=>by
       by_cases hji:i=j
       ·subst hji;rw[Array.getElem?_setIfInBounds_self_of_lt (by simpa using hlt')]at hx;obtain rfl:=Option.some.inj hx;rw[upd_same,Deaf_own];exact kY
       ·rw[Array.getElem?_setIfInBounds_ne hji,Array.getElem?_map]at hx;obtain⟨y,hy,rfl⟩:=Option.map_eq_some_iff.1 hx;have Hs:=hL.old j y hj hy;rw[woken_quitsD Hs,upd_ne q k (Ne.symm hji),Deaf_other t hji _ (MemOp.ofEvents_g _ _ _ _)];exact Hs,fun j hj=>by
       rw[Deaf_other t (g':=i) (by simp at hj;omega) _ (MemOp.ofEvents_g _ _ _ _)];exact hL.above j (by simpa using hj)⟩,FN.past.mute (by omega) hm,FN.clear,hB.same,FN.size,kO (by rw[hsz];exact hB.wL) (by rw[hsz];exact hlt') (MemOp.ofEvents_g _ _ _ _),hB.full⟩ (hV.at d)
     exact⟨N+1,cO,S',ρ',fr',cs',u',gs',w',vP,t',q',by simp only[runNT,hst,jT];exact r1,r2,r3,((eR.refl ρ w).at d).trans r4,r5⟩
 exact fun Shun S ρ gs w sl t q hB hV=>key (sumTo gs.size q+1) Shun S ρ gs w sl t q (by omega) hB hV
theorem Reach.ctl{bT:Frame}(h:∀w,stepG P true (G fr cs) w=.go (G bT cs) w)(hx:∀ρ,XF ρ fr->XF ρ bT)(k:Reach P Post bT cs u):Reach P Post fr cs u:=
 haveI:aB:=aC []
 .one fun Shun S ρ gs w t q hB _=>⟨bT,cs,u,ρ,w,#[],h w,⟨.refl ρ w,hB.world,hB.whole,hB.same,hB.size,by simp,hx ρ hB.top,hB.below,hB.full⟩,k⟩
end
end
section
open Go Go.Conc
open Go.ConcN (sumTo)
def qH:Nat->String
 |0=> ""
 |n+1=> "x" ++qH n
theorem qI:∀n,(qH n).length=n
 |0=>rfl
 |n+1=>by show("x" ++qH n).length=n+1;rw[String.length_append,qI n];show 1+n=n+1;omega
def cX:Nat->List Item->List Item
 |_,[]=>[]
 |i,.inBlock id::k=>.inBlock id::cX (i+1) k
 |i,_::k=>.code (.refuse (qH i))::cX (i+1) k
def gT:List Item->Prop
 |[]=>True
 |.code _::k=>gT k
 |.inLoop _::k=>gT k
 |.inBlock _::k=>gT k
 |_::_=>False
section
variable [aR] {P:Program} {l:List FuncId} {ρ:Ren}
theorem tT(pre k:List Item)(x:Item)(h:(∃c,x=.code c)\/∃c,x=.inLoop c):kB (pre++x::k) (qH pre.length)=x:=by unfold kB;rw[qI,List.getElem?_append_right (Nat.le_refl _)];rcases h with⟨c,rfl⟩|⟨c,rfl⟩<;>simp
theorem wA:∀(k pre:List Item),gT k->@bU _ _ (@IR (aC (pre++k)) P l ρ false) (cX pre.length k) k
 |[],pre,_=>.nil
 |x::k,pre,h=>by
  have ih:∀hk:gT k,@bU _ _ (@IR (aC (pre++x::k)) P l ρ false) (cX (pre.length+1) k) k:=fun hk=>by
   have e:pre++[x]++k=pre++x::k:=by simp
   have h1:=wA k (pre++[x]) hk;rw[e,List.length_append]at h1;exact h1
  cases x with
  |inBlock id=>exact .cons (@IR.inBlock (aC _) _ _ _ _ id) (ih h)
  |code c=>
   have e:=tT pre k (.code c) (.inl ⟨c,rfl⟩);refine .cons ?_ (ih h);have:=@IR.stop (aC (pre++.code c::k)) P l ρ false (qH pre.length)
   rwa [show @aB.wall (aC (pre++.code c::k)) (qH pre.length)=.code c from e]at this
  |inLoop c=>
   have e:=tT pre k (.inLoop c) (.inr ⟨c,rfl⟩);refine .cons ?_ (ih h);have:=@IR.stop (aC (pre++.inLoop c::k)) P l ρ false (qH pre.length)
   rwa [show @aB.wall (aC (pre++.inLoop c::k)) (qH pre.length)=.inLoop c from e]at this
  |_=>exact h.elim
theorem rL:∀(k pre:List Item) {y:List Item},gT k->@bU _ _ (@IR (aC (pre++k)) P l ρ false) (cX pre.length k) y->y=k
 |[],pre,y,_,h=>by cases h;rfl
 |x::k,pre,y,hf,h=>by
  have ih:∀{y:List Item},gT k->@bU _ _ (@IR (aC (pre++x::k)) P l ρ false) (cX (pre.length+1) k) y->y=k:=fun{y} hk h=>by
   have e:pre++[x]++k=pre++x::k:=by simp
   refine rL k (pre++[x]) hk ?_;rw[e,List.length_append];exact h
  cases x with
  |inBlock id=>
   cases h with
   |cons h1 h2=>cases h1;rw[ih hf h2]
  |code c=>
   cases h with
   |cons h1 h2=>
    cases h1 with
    |code hc=>simp[dM]at hc
    |stop _=>rw[ih hf h2];congr 1;exact tT pre k (.code c) (.inl ⟨c,rfl⟩)
  |inLoop c=>
   cases h with
   |cons h1 h2=>
    cases h1 with
    |code hc=>simp[dM]at hc
    |stop _=>rw[ih hf h2];congr 1;exact tT pre k (.inLoop c) (.inr ⟨c,rfl⟩)
  |_=>exact hf.elim
theorem rT(id:Nat):∀(k:List Item) (i:Nat) {k':List Item},gT k->exitTo id k=some k'->∃pre,k=pre++k'/\exitTo id (cX i k)=some (cX (i+pre.length) k')
 |[],i,k',_,h=>by cases h
 |x::k,i,k',hf,h=>by
  have step:gT k->exitTo id k=some k'->∃pre,x::k=pre++k'/\exitTo id (cX (i+1) k)=some (cX (i+pre.length) k'):=fun hk h=>by
   obtain⟨pre,h1,h2⟩:=rT id k (i+1) hk h;refine⟨x::pre,by rw[h1];rfl,?_⟩;rw[h2]
   congr 2
   simp;omega
  cases x with
  |inBlock id'=>
   unfold exitTo at h
   by_cases e:(id'==id)=true
   ·rw[if_pos e]at h;cases h;exact⟨[.inBlock id'],rfl,by show exitTo id (.inBlock id'::cX (i+1) k)=_;unfold exitTo;rw[if_pos e];rfl⟩
   ·rw[if_neg e]at h;obtain⟨pre,h1,h2⟩:=step hf h;exact⟨pre,h1,by show exitTo id (.inBlock id'::cX (i+1) k)=_;unfold exitTo;rw[if_neg e];exact h2⟩
  |code c=>exact step hf h
  |inLoop c=>exact step hf h
  |_=>exact hf.elim
end
end
section
open Go Go.Conc
open Go.ConcN (sumTo)
section
variable [aR] {P:Program} {l:List FuncId} {ρ:Ren}
theorem FD{α:Type}{R:α->α->Prop}(h:∀a b,R a b->a=b):∀{x y:List α},bU R x y->x=y:=fun k=>by
 induction k with
 |nil=>rfl
 |cons h1 _ ih=>rw[h _ _ h1,ih]
theorem FR.eq(hρ:∀a b,ρ a b->a=b){f f':Fn}(h:FR ρ f f'):f=f':=by
 cases h with
 |func f _=>rfl
 |yield h=>rw[hρ _ _ h]
theorem DR.eq(hρ:∀a b,ρ a b->a=b)(d d':Deferred)(h:DR ρ d d'):d=d':=by
 haveI:aB:=aC []
 obtain⟨t,x⟩:=d;obtain⟨t',x'⟩:=d';obtain⟨h1,h2⟩:=h;have e2:x=x':=cF.eq hρ h2
 have e1:t=t':=by
  cases h1 with
  |fn h hx=>rw[FR.eq hρ h,cF.eq hρ hx]
  |nil=>rfl
  |collected h=>rw[hρ _ _ h]
 rw[e1,e2]
theorem MM.eq(hρ:∀a b,ρ a b->a=b)(e e':PanicEntry)(h:MM ρ e e'):e=e':=by
 haveI:aB:=aC []
 obtain⟨v,r,g⟩:=e;obtain⟨v',r',g'⟩:=e';obtain⟨h1,h2,h3,h4⟩:=h;simp only at h1 h2 h3 h4;rw[VR.eq hρ h1,h2,h3,h4]
theorem Jo.eq(hρ:∀a b,ρ a b->a=b){m m':FrameMode}(h:Jo ρ m m'):m=m':=by
 cases h with
 |run=>rfl
 |returning=>rfl
 |panicking h=>rw[FD (MM.eq hρ) h]
theorem dZ.same[aB](hρ:∀a b,ρ a b->a=b){fr fr':Frame}(h:dZ P l ρ fr fr'):fr'={fr with todo:=fr'.todo}:=by
 obtain⟨f1,f2,f3,f4,f5,f6,f7⟩:=fr;obtain⟨k1,k2,k3,k4,k5,k6,k7⟩:=fr';obtain⟨h1,h2,h3,h4,h5,h6,h7,h8,h9⟩:=h;simp only at h1 h3 h5 h6 h7 h9;have e3:=cF.eq hρ h3;have e5:=FD (DR.eq hρ) h5;have e6:=Jo.eq hρ h6
 have e9:f7=k7:=by
  cases h9 with
  |none=>rfl
  |some h=>rw[hρ _ _ h]
 subst h1 e3 e5 e6 h7 e9;rfl
theorem dZ.xf[aB](hρ:∀a b,ρ a b->a=b){fr fr':Frame}(h:dZ P l ρ fr fr')(hk:fr.kind=.normal):XF ρ fr':=by
 have e:=h.same hρ;have e1:fr'.tmps=fr.tmps:=by rw[e]
 have e2:fr'.defers=fr.defers:=by rw[e]
 have e3:fr'.mode=fr.mode:=by rw[e]
 have e4:fr'.kind=fr.kind:=by rw[e]
 have e6:fr'.fn=fr.fn:=by rw[e]
 refine⟨?_,?_,e4.trans hk,by rw[e6];exact h.ok,?_⟩
 ·have:=h.tmps;rw[e1]at this⊢;exact this
 ·have:=h.defers;rw[e2]at this⊢;exact this
 ·have:=h.mode;rw[e3]at this⊢;exact this
end
def tZ(Q:Exit->Act->World->Prop):Prop:=∀e a u τ,Q e a u->Q e a (World.tp u τ)
def Ws(b:Frame)(k:List Item)(cs:List Frame):Exit->Act->Frame->List Frame->Prop
 |.normal,a,fr,cs'=>fr=b.at a k/\cs'=cs
 |.exit id,a,fr,cs'=>(∃k',exitTo id k=some k'/\fr=b.at a k')/\cs'=cs
 |.ret,a,fr,cs'=>(∃todo,fr={b.at a todo with mode:=.returning})/\cs'=cs
 |.panic chain,a,fr,cs'=>(∃todo,fr={b.at a todo with mode:=.panicking chain})/\cs'=cs
 |_,_,_,_=>False
def jH(Q:Exit->Act->World->Prop)(k:List Item):Prop:=∀id,(∃a u,Q (.exit id) a u)->∃k',exitTo id k=some k'
def tW(Q:Exit->Act->World->Prop)(b:Frame)(k:List Item)(cs:List Frame)(fr:Frame)(cs':List Frame)(u:World):Prop:=∃e a,Q e a u/\Ws b k cs e a fr cs'
def XE(b:Frame)(k:List Item):Exit->Act->Frame->Prop
 |.normal,a,fr=>fr=b.at a (cX 0 k)
 |.exit id,a,fr=>∃pre k',k=pre++k'/\exitTo id k=some k'/\fr=b.at a (cX pre.length k')
 |.ret,a,fr=>∃todo,fr={b.at a todo with mode:=.returning}
 |.panic chain,a,fr=>∃todo,fr={b.at a todo with mode:=.panicking chain}
 |_,_,_=>False
section
variable [aR] {P:Program} {l:List FuncId} {Q:Exit->Act->World->Prop} {a:Act} {u:World}
def WX(P:Program)(c:Code)(Q:Exit->Act->World->Prop)(a:Act)(u:World):Prop:=
 ∀(b:Frame) (k:List Item) (cs:List Frame),gT k->jH Q k->Reach P (tW Q b k cs) (b.at a (.code c::k)) cs u
def bG(P:Program)(f:FuncId)(args:Array Value)(u:World)(R:Ending->World->Prop):Prop:=
 ∀(cs:List Frame),Reach P (fun fr cs' u'=>cs'=cs/\fr.fn=f/\∃e,e≠.outgrown/\R e u'/\fr.leaving P u' e) (Frame.enter P f args .normal) cs u
theorem jg:∀{pre k:List Item},gT (pre++k)->gT k
 |[],_,h=>h
 |x::pre,k,h=>by
  cases x with
  |code c=>exact jg (pre:=pre) h
  |inLoop c=>exact jg (pre:=pre) h
  |inBlock c=>exact jg (pre:=pre) h
  |_=>exact h.elim
end
end
section
open Go Go.Conc
open Go.ConcN (sumTo)
section
variable [aR] {P:Program} {l:List FuncId} {Q:Exit->Act->World->Prop} {a:Act} {u:World}
theorem WX.lift(hT:Fit P l){c:Code}(hc:dM P l false c=true)(hQ:tZ Q)(hgo:∀x a u,¬Q (.goto x) a u)(hout:∀a u,¬Q .outgrown a u)(h:∀τ,c.wp P Q a (u.tp τ)):WX P c Q a u:=fun b k cs hf ho Shun S ρ gs w sl t q hB hV=>by
 letI:aB:=aC k
 have hfr:dZ P l ρ (b.at a (.code c::cX 0 k)) (b.at a (.code c::k)):=⟨rfl,hB.top.known,hB.top.tmps,.cons (.code hc) (wA k [] hf),hB.top.defers,.run,rfl,.inl hB.top.kind,.none⟩;have hst:Still cs:=fun f hf=>.inl (hB.below.run f hf);have Ut:Beside P l cs Shun S (b.at a (.code c::cX 0 k)) [] u ρ gs w t q:=⟨⟨_,hB.Bb,⟨_,[],rfl,hfr,.nil⟩⟩,hB.world,hB.whole,hB.bK,hB.past,hB.clear,hB.same,hB.size,hB.wL,hB.full⟩
 have hL:gU P l (b.at a (.code c::cX 0 k)) [] u:=by have:gU P l (b.at a (.code c::cX 0 k)) [] (u.tp (laid u w)):=⟨S,ρ,cs,_,w,hst,⟨_,[],rfl,hfr,.nil⟩,hB.world.lay,hB.whole⟩;exact this.tp u.tape
 have mG:ud P (fun fr cs' u'=>cs'=[]/\∃e a',Q e a' u'/\XE b k e a' fr) (b.at a (.code c::cX 0 k)) [] u:=by
  refine Az hT (fun fr cs' u' τ _ ⟨h1,e,a',h2,h3⟩=>⟨h1,e,a',hQ _ _ _ _ h2,h3⟩) hL fun τ _=>?_;obtain⟨e,a',u',h1,h2⟩:=h τ b (cX 0 k) ([]++[bot P]);cases e with
  |normal=>
   obtain⟨n,hn⟩:=h2;exact⟨n,_,[],u',hn,rfl,.normal,a',h1,rfl⟩
  |exit id=>
   obtain⟨k',hk⟩:=ho id ⟨a',u',h1⟩;obtain⟨pre,p1,p2⟩:=rT id k 0 hf hk;obtain⟨n,hn⟩:=h2 _ p2;exact⟨n,_,[],u',hn,rfl,.exit id,a',h1,pre,k',p1,hk,by rw[Nat.zero_add]⟩
  |goto x=>exact absurd h1 (hgo _ _ _)
  |ret=>
   obtain⟨todo,n,hn⟩:=h2;exact⟨n,_,[],u',hn,rfl,.ret,a',h1,todo,rfl⟩
  |panic ch=>
   obtain⟨todo,n,hn⟩:=h2;exact⟨n,_,[],u',hn,rfl,.panic ch,a',h1,todo,rfl⟩
  |outgrown=>exact absurd h1 (hout _ _)
 obtain⟨N,ρ',fr',cs',u',gs',w',sl',t',q',r1,r2,⟨rfl,e,a',hq,hA⟩,r4,r5⟩:=mV hT hst mG (sumTo gs.size q+1) ρ gs w sl t q (by omega) Ut;obtain⟨⟨g,hg,uE,TQ,rfl,hf',hcs⟩,k2,k3,k4,k5,k6,k7,k8,k9,Tu⟩:=r4;cases hcs;have hs:=hf'.same k7;have hbk:b.kind=.normal:=hB.top.kind;have fin:XF ρ' uE->Ws b k cs e a' uE cs->∃N cO S' ρ' fr' cs' u' gs' w' sl' t' q',runNT P N (crowd gs w sl) t=(.next (crowd gs' w' sl'),t')/\tW Q b k cs fr' cs' u'/\eP P cO S' fr' cs' u' ρ' gs' w' t' q'/\eR ρ ρ' w w'/\gL Shun cO w:=fun hx ha=>⟨N,Shun,S,ρ',uE,cs,u',gs',w',sl',t',q',r1,⟨e,a',hq,ha⟩,⟨hg,hx,hB.below.mono r5.le,k2,k3,k4,k5,k6,k7,k8,k9,Tu⟩,r5,.refl Shun w⟩;cases e with
 |normal=>
  obtain rfl:fr'=b.at a' (cX 0 k):=hA;have e1:uE.todo=k:=rL k [] hf hf'.todo;exact fin (hf'.xf k7 hbk) ⟨by rw[hs,e1];rfl,rfl⟩
 |exit id=>
  obtain⟨pre,k',p1,p2,rfl⟩:=hA;have hfk:gT k':=jg (pre:=pre) (p1▸hf)
  have e1:uE.todo=k':=by refine rL (P:=P) (l:=l) (ρ:=ρ') k' pre hfk ?_;rw[<-p1];exact hf'.todo
  exact fin (hf'.xf k7 hbk) ⟨⟨k',p2,by rw[hs,e1];rfl⟩,rfl⟩
 |goto x=>exact hA.elim
 |ret=>
  obtain⟨todo,rfl⟩:=hA;exact fin (hf'.xf k7 hbk) ⟨⟨uE.todo,hs⟩,rfl⟩
 |panic ch=>
  obtain⟨todo,rfl⟩:=hA;exact fin (hf'.xf k7 hbk) ⟨⟨uE.todo,hs⟩,rfl⟩
 |outgrown=>exact hA.elim
end
end
end Go.Proofs.YtpobhljcainmdaaGreat
