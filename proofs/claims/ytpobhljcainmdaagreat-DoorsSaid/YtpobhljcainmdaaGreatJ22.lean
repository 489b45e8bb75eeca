/- Proved here: a part of what Doors keeps (MirL, Mir21, Mir22). -/
import Derived.Test.YtpobhljcainmdaaGreatJ21
set_option maxRecDepth 100000
set_option maxHeartbeats 8000000
set_option linter.all false
namespace Go.Proofs.YtpobhljcainmdaaGreat
section
open Go
abbrev _root_.Go.World.tp(w:World)(τ:Nat->Question->Nat):World:={w with tape:=τ}
def fO(τ σ:Nat->Question->Nat)(a b:Nat):Prop:=∀i q,a<=i->i<b->τ i q=σ i q
theorem fO.sub{τ σ:Nat->Question->Nat}{a b a' b':Nat}(h:fO τ σ a b)(ha:a<=a')(hb:b'<=b):fO τ σ a' b':=fun i q h1 h2=>h i q (Nat.le_trans ha h1) (Nat.lt_of_lt_of_le h2 hb)
def _root_.Go.Result.world{α:Type}:Result α->World
 |.ok _ w=>w
 |.halt _ w=>w
def _root_.Go.Result.tp{α:Type}(τ:Nat->Question->Nat):Result α->Result α
 |.ok a w=>.ok a (w.tp τ)
 |.halt h w=>.halt h (w.tp τ)
structure dK(w w1:World):Prop where
 drawn:w.drawn<=w1.drawn
 tape:w1.tape=w.tape
theorem dK.refl(w:World):dK w w:=⟨Nat.le_refl _,rfl⟩
theorem dK.trans{a b c:World}(h:dK a b)(k:dK b c):dK a c:=⟨Nat.le_trans h.drawn k.drawn,k.tape.trans h.tape⟩
def gW{α:Type}(p:Program)(s:Sem α)(w:World):Prop:=
 (∃x w1,s.run p w=.halt x w1/\qL x)\/(dK w (s.run p w).world/\∀es τ,fO τ w.tape w.drawn (s.run p w).world.drawn->s.runT p (w.tp τ) es=((s.runT p w es).1.tp τ,(s.runT p w es).2))
theorem gW.step{α:Type}{p:Program}{s s1:Sem α}{w w1:World}(ho:dK w w1)(e:s.run p w=s1.run p w1)
  (h:∀es,∃WK,s.runT p w es=s1.runT p w1 WK/\∀τ,fO τ w.tape w.drawn (s1.run p w1).world.drawn->dK w1 (s1.run p w1).world->s.runT p (w.tp τ) es=s1.runT p (w1.tp τ) WK) (k:gW p s1 w1):gW p s w:=by
 rcases k with⟨x,w2,hx,hd⟩|⟨k1,k2⟩
 ·exact .inl ⟨x,w2,e.trans hx,hd⟩
 ·refine .inr ⟨by rw[e];exact ho.trans k1,fun es τ hA=>?_⟩;rw[e]at hA;obtain⟨WK,h1,h2⟩:=h es;rw[h2 τ hA k1,h1];exact k2 WK τ (by rw[ho.tape];exact hA.sub ho.drawn (Nat.le_refl _))
theorem GM(w:World)(τ:Nat->Question->Nat)(a:Addr)(n:Nat):(w.tp τ).freeze a n=(w.freeze a n).tp τ:=by unfold World.freeze;split<;>rfl
theorem wO(w:World)(a:Addr)(n:Nat):dK w (w.freeze a n):=by
 unfold World.freeze;split
 ·exact .refl w
 ·exact⟨Nat.le_refl _,rfl⟩
theorem wW{p:Program}{r:Nat}{a:Addr}{l:Bool}(es:Array Event):∃y,∀v:World,v.heap[r]? =some (.number a l)->(numberAt r).runT p v es=(.ok (some (a,l)) v,y):=
 ⟨es.push ⟨.obj r,false,false⟩,fun v hv=>by simp only[numberAt,shape,getObj,Sem.runT,Bind.bind,Sem.bind,World.shape?,hv,Pure.pure,Option.isSome_none,Bool.false_eq_true,if_false,Obj.isChan]⟩
theorem nV{p:Program}{r:Nat}{o:Obj}(hn:∀a l,o≠.number a l)(es:Array Event):∃y,∀v:World,v.heap[r]? =some o->(numberAt r).runT p v es=(.ok none v,y):=by
 by_cases hc:∃x t fz,o=.cells x t fz
 ·obtain⟨x,t,fz,rfl⟩:=hc;exact⟨es,fun v hv=>by simp only[numberAt,shape,Sem.runT,Bind.bind,Sem.bind,World.shape?,hv,Pure.pure,Option.isSome_some,if_true]⟩
 ·refine⟨es.push ⟨.obj r,false,o.isChan⟩,fun v hv=>?_⟩;cases o<;>first|exact absurd rfl (hn _ _)|exact absurd ⟨_,_,_,rfl⟩ hc|simp only[numberAt,shape,getObj,Sem.runT,Bind.bind,Sem.bind,World.shape?,hv,Pure.pure,Option.isSome_none,Bool.false_eq_true,if_false]
theorem CW{p:Program}{r:Nat}{o:Obj}(hn:∀a l,o≠.view a l)(es:Array Event):∃y,∀v:World,v.heap[r]? =some o->(viewAt r).runT p v es=(.ok none v,y):=by
 by_cases hc:∃x t fz,o=.cells x t fz
 ·obtain⟨x,t,fz,rfl⟩:=hc;exact⟨es,fun v hv=>by simp only[viewAt,shape,Sem.runT,Bind.bind,Sem.bind,World.shape?,hv,Pure.pure,Option.isSome_some,if_true]⟩
 ·refine⟨es.push ⟨.obj r,false,o.isChan⟩,fun v hv=>?_⟩;cases o<;>first|exact absurd rfl (hn _ _)|exact absurd ⟨_,_,_,rfl⟩ hc|simp only[viewAt,shape,getObj,Sem.runT,Bind.bind,Sem.bind,World.shape?,hv,Pure.pure,Option.isSome_none,Bool.false_eq_true,if_false]
section
variable [aR] {S:Nat->Prop}
theorem SR.loc{α β:Type}{p:Program}{Q:Ren->α->β->Prop}{ρ:Ren}{K:Kn}{s:Sem α}{s':Sem β}(h:SR p Q ρ K s s'):∀w w',WR p ρ w w'->Own K w->Whole S ρ w->gW p s w:=by
 induction h with
 |pure h=>exact fun w w' _ _ _=>.inr ⟨.refl w,fun _ _ _=>rfl⟩
 |@load ρ K m a a' k k' ha _ ih=>
  intro w w' hw hK hW;cases hc:w.cell? a with
  |some v=>
   obtain⟨v',fN,hv⟩:=pK hw ha hc;obtain⟨o,ho,hn⟩:=bY hc;refine gW.step (s1:=k v) (.refl w) (by simp only[Sem.run,hc]) (fun es=>⟨_,by simp only[Sem.runT,hc];rfl,fun τ _ _=>?_⟩) (ih v v' hv w w' hw (hK.and ho hn) hW);have AD:(w.tp τ).cell? a=some v:=hc;simp only[Sem.runT,AD]
  |none=>
   obtain⟨x,hx,zu⟩:=Bt hw ha p (m==.atomic);exact .inl ⟨x,w,by simp only[Sem.run,hc,hx],zu⟩
 |@store ρ K m a a' v v' k k' ha hv _ ih=>
  intro w w' hw hK hW
  by_cases h1:(∃x,v=.agg x)\/∃x,v=.tuple x
  ·rcases h1 with⟨x,rfl⟩|⟨x,rfl⟩<;>exact .inl ⟨_,w,rfl,trivial⟩
  ·have hn:(∀x,v≠.agg x)/\∀x,v≠.tuple x:=⟨fun x e=>h1 (.inl ⟨x,e⟩),fun x e=>h1 (.inr ⟨x,e⟩)⟩;cases hc:w.cell? a with
   |some u=>
    obtain⟨u',fN,_⟩:=pK hw ha hc;obtain⟨o,ho,hno⟩:=bY hc;cases hf:w.frozen? a with
    |true=>exact .inl ⟨.unsupported (.unsafePointer "a write to bytes that a string shares"),w,by rw[iu hn.1 hn.2,hc];simp only[hf,if_true],trivial⟩
    |false=>
     refine gW.step (s1:=k) (w1:=w.setCell a v) ⟨Nat.le_refl _,rfl⟩ (by rw[iu hn.1 hn.2,hc];simp[hf]) (fun es=>⟨es.push ⟨.cell a,true,m==.atomic⟩,by rw[iN hn.1 hn.2,hc];simp[hf],fun τ _ _=>?_⟩) (ih _ _ (hw.set ha hv hc) ((hK.and ho hno).set a v) (hW.set a v));have AD:(w.tp τ).cell? a=some u:=hc;have UU:(w.tp τ).frozen? a=false:=hf;rw[iN hn.1 hn.2,AD];simp only[UU,Bool.false_eq_true,if_false];rfl
   |none=>
    obtain⟨x,hx,zu⟩:=xD hw ha p v (m==.atomic);exact .inl ⟨x,w,by rw[iu hn.1 hn.2,hc];simp only[hx],zu⟩
 |@new ρ K o o' k k' ho _ ih=>
  intro w w' hw hK hW;have hm:=aW.new hw ho;exact gW.step (s1:=k w.heap.size) (w1:={w with heap:=w.heap.push o}) ⟨Nat.le_refl _,rfl⟩ rfl (fun es=>⟨es,rfl,fun τ _ _=>rfl⟩) (ih _ _ _ _ hm.rel (hK.push (bp ho)) (hW.push hw (bp ho)))
 |@shape ρ K r r' k k' hr _ _ h1 ih xR=>
  intro w w' hw hK hW;cases hs:w.shape? r with
  |none=>
   by_cases Tk:K r
   ·refine gW.step (s1:=k none) (.refl w) (by simp only[Sem.run,hs]) (fun es=>⟨es,by simp only[Sem.runT,hs],fun τ _ _=>?_⟩) (xR Tk w w' hw hK hW);have xP:(w.tp τ).shape? r=none:=hs;simp only[Sem.runT,xP]
   ·obtain⟨x,hx,zu⟩:=h1 Tk;exact .inl ⟨x,w,by simp only[Sem.run,hs,hx],zu⟩
  |some x=>
   have ho:∃o,w.heap[r]? =some o/\o≠aV:=by
    unfold World.shape? at hs;split at hs
    ·rename_i c t fz hc;exact⟨_,hc,by intro e;cases e⟩
    ·cases hs
   obtain⟨o,ho,hn⟩:=ho;refine gW.step (s1:=k (some x)) (.refl w) (by simp only[Sem.run,hs]) (fun es=>⟨es,by simp only[Sem.runT,hs],fun τ _ _=>?_⟩) (ih x w w' hw (hK.and ho hn) hW);have xP:(w.tp τ).shape? r=some x:=hs;simp only[Sem.runT,xP]
 |@freeze ρ K a a' n k k' ha hk _ ih=>
  intro w w' hw hK hW;have hm:=aW.freeze hw ha n (hK _ hk);exact gW.step (s1:=k) (w1:=w.freeze a n) (wO w a n) rfl (fun es=>⟨es,rfl,fun τ _ _=>by rw[<-GM];rfl⟩) (ih _ _ hm.rel (hK.freeze a n) (hW.freeze a n))
 |@frozen ρ K a a' k k' ha hk _ ih=>
  intro w w' hw hK hW;exact gW.step (s1:=k (w.frozen? a)) (.refl w) rfl (fun es=>⟨es,rfl,fun τ _ _=>rfl⟩) (ih _ w w' hw hK hW)
 |@getObj ρ K r r' k k' hr _ h0 ih=>
  intro w w' hw hK hW;have hlt:=hw.lt _ _ hr;obtain⟨o,ho⟩:∃o,w.heap[r]? =some o:=⟨_,Array.getElem?_eq_getElem hlt.1⟩
  by_cases dw:∃x t fz,o=.cells x t fz
  ·obtain⟨x,t,fz,rfl⟩:=dw;exact .inl ⟨.stuck "getObj: a row of cells",w,by simp only[Sem.run,ho],trivial⟩
  ·rcases hw.obj _ _ _ hr ho with rfl|⟨o',ho',dP⟩
   ·obtain⟨x,hx,zu⟩:=h0;refine .inl ⟨x,w,?_,zu⟩;simp only[Sem.run,ho,aV];rw[<-aV,hx];rfl
   ·refine gW.step (s1:=k o) (.refl w) ?_ (fun es=>⟨es.push ⟨.obj r,false,o.isChan⟩,?_,fun τ _ _=>?_⟩) (ih o o' dP w w' hw (hK.and ho (bp dP)) hW)
    ·simp only[Sem.run,ho];cases o<;>first|rfl|exact absurd ⟨_,_,_,rfl⟩ dw
    ·simp only[Sem.runT,ho];cases o<;>first|rfl|exact absurd ⟨_,_,_,rfl⟩ dw
    ·have Zn:(w.tp τ).heap[r]? =some o:=ho;simp only[Sem.runT,Zn];cases o<;>first|rfl|exact absurd ⟨_,_,_,rfl⟩ dw
 |@setObj ρ K r r' o o' k k' hr hk ho _ ih=>
  intro w w' hw hK hW;obtain⟨x,hx,NU⟩:=hK r hk;have hm:=aW.put hw hr ho ⟨x,hx,NU⟩
  by_cases dw:∃y t fz,x=.cells y t fz
  ·obtain⟨y,t,fz,rfl⟩:=dw;exact .inl ⟨.stuck "setObj: a row of cells",w,by simp only[Sem.run,hx],trivial⟩
  ·refine gW.step (s1:=k) (w1:={w with heap:=w.heap.setIfInBounds r o}) ⟨Nat.le_refl _,rfl⟩ ?_ (fun es=>⟨es.push ⟨.obj r,true,o.isChan⟩,?_,fun τ _ _=>?_⟩) (ih _ _ hm.rel (hK.put r (bp ho)) (hW.put ⟨x,hx,NU⟩ (bp ho)))
   ·simp only[Sem.run,hx];cases x<;>first|rfl|exact absurd ⟨_,_,_,rfl⟩ dw
   ·simp only[Sem.runT,hx];cases x<;>first|rfl|exact absurd ⟨_,_,_,rfl⟩ dw
   ·have Zn:(w.tp τ).heap[r]? =some x:=hx;simp only[Sem.runT,Zn];cases x<;>first|rfl|exact absurd ⟨_,_,_,rfl⟩ dw
 |@choose ρ K q k k' _ ih=>
  intro w w' hw hK hW
  by_cases hq:q.forced=true
  ·exact gW.step (s1:=k 0) (.refl w) (by simp only[Sem.run,hq,if_true]) (fun es=>⟨es,by simp only[Sem.runT,hq,if_true],fun τ _ _=>by simp only[Sem.runT,hq,if_true]⟩) (ih 0 w w' hw hK hW)
  ·have hm:=aW.draw hw;refine gW.step (s1:=k (q.cut (w.tape w.drawn q))) (w1:={w with drawn:=w.drawn+1}) ⟨Nat.le_succ _,rfl⟩ (by simp only[Sem.run,hq,if_false,Bool.false_eq_true]) (fun es=>⟨es,by simp only[Sem.runT,hq,if_false,Bool.false_eq_true],fun τ hA ho=>?_⟩) (ih _ _ _ hm.rel hK hW);have e:τ w.drawn q=w.tape w.drawn q:=hA _ _ (Nat.le_refl _) (Nat.lt_of_lt_of_le (Nat.lt_succ_self _) ho.drawn);simp only[Sem.runT,hq,if_false,Bool.false_eq_true,e]
 |@program ρ K k k' _ ih=>
  intro w w' hw hK hW;exact gW.step (s1:=k p) (.refl w) rfl (fun es=>⟨es,rfl,fun τ _ _=>rfl⟩) (ih w w' hw hK hW)
 |@env ρ K k k' _ ih=>
  intro w w' hw hK hW;exact gW.step (s1:=k (.strings w.os.env)) (.refl w) rfl (fun es=>⟨_,rfl,fun τ _ _=>rfl⟩) (ih _ w w' hw hK hW)
 |@noRoom ρ K k k' _ ih=>
  intro w w' hw hK hW;exact gW.step (s1:=k) (.refl w) rfl (fun es=>⟨_,rfl,fun τ _ _=>rfl⟩) (ih w w' hw hK hW)
 |panic h=>exact fun w w' _ _ _=>.inr ⟨.refl w,fun _ _ _=>rfl⟩
 |lost h=>exact fun w w' _ _ _=>.inl ⟨_,w,rfl,h⟩
 |Bo h=>
  intro w w' _ _ _;obtain⟨x,w1,e,hx⟩:=h w;exact .inl ⟨x,w1,e,hx⟩
 |assume _ ih=>exact fun w w' hw hK hW=>ih ⟨hw.one,hw.low⟩ w w' hw hK hW
 |@number ρ K r r' k k' hr _ _ xR ih1=>
  intro w w' hw hK hW;obtain⟨o,ho⟩:∃o,w.heap[r]? =some o:=⟨_,Array.getElem?_eq_getElem (hw.lt _ _ hr).1⟩;rcases hw.obj _ _ _ hr ho with rfl|⟨o',ho',dP⟩
  ·have hn:∀a l,aV≠.number a l:=fun a l e=>by cases e
   refine gW.step (s1:=k none) (.refl w) (by rw[Sem.run_bind',jk ho hn];rfl) (fun es=>?_) (xR w w' hw hK hW);obtain⟨y,hy⟩:=nV (p:=p) (r:=r) hn es;exact⟨y,by rw[bq,hy w ho],fun τ _ _=>by rw[bq,hy (w.tp τ) ho]⟩
  ·by_cases hn:∃a l,o=.number a l
   ·obtain⟨a,l,rfl⟩:=hn;cases dP with
    |@number _ a' _ ha=>
     refine gW.step (s1:=k (some (a,l))) (.refl w) (by rw[Sem.run_bind',sw ho];rfl) (fun es=>?_) (ih1 a a' l ha w w' hw (hK.and ho (by intro e;cases e)) hW);obtain⟨y,hy⟩:=wW (p:=p) (r:=r) (a:=a) (l:=l) es;exact⟨y,by rw[bq,hy w ho],fun τ _ _=>by rw[bq,hy (w.tp τ) ho]⟩
   ·refine gW.step (s1:=k none) (.refl w) (by rw[Sem.run_bind',jk ho (fun a l e=>hn ⟨a,l,e⟩)];rfl) (fun es=>?_) (xR w w' hw hK hW);obtain⟨y,hy⟩:=nV (p:=p) (r:=r) (fun a l e=>hn ⟨a,l,e⟩) es;exact⟨y,by rw[bq,hy w ho],fun τ _ _=>by rw[bq,hy (w.tp τ) ho]⟩
 |@Ts ρ K a a' k k' ha _ ih=>
  intro w w' hw hK hW;exact gW.step (s1:=k (w.frozen? a)) (.refl w) rfl (fun es=>⟨es,rfl,fun τ _ _=>rfl⟩) (ih _ w w' hw hK hW)
 |@VB ρ K a a' b b' k k' ha hb _ ih=>
  intro w w' hw hK hW;have e:(mayBeOne a b).run p w=.ok (wU w a b) w:=by rw[<-Sem.runT_fst p _ w #[],iE]
  exact gW.step (s1:=k (wU w a b)) (.refl w) (by rw[Sem.run_bind',e];rfl) (fun es=>⟨es,by rw[bq,iE],fun τ _ _=>by rw[bq,iE];rfl⟩) (ih _ w w' hw hK hW)
 |@view ρ K r r' k k' hr _ xR=>
  intro w w' hw hK hW;obtain⟨o,ho⟩:∃o,w.heap[r]? =some o:=⟨_,Array.getElem?_eq_getElem (hw.lt _ _ hr).1⟩
  have hn:∀a t,o≠.view a t:=fun a t e=>by
   subst e;rcases hw.obj _ _ _ hr ho with h|⟨o',ho',dP⟩
   ·cases h
   ·cases dP
  ·refine gW.step (s1:=k none) (.refl w) (by rw[Sem.run_bind',rI ho hn];rfl) (fun es=>?_) (xR w w' hw hK hW);obtain⟨y,hy⟩:=CW (p:=p) (r:=r) hn es;exact⟨y,by rw[bq,hy w ho],fun τ _ _=>by rw[bq,hy (w.tp τ) ho]⟩
end
end
section
open Go Go.Conc
variable [aR] [aB] {S:Nat->Prop}
def Still(base:List Frame):Prop:=∀b∈base,b.mode=.run\/b.mode=.panicking [goexitEntry]
theorem Jd:Still []:=fun _ h=>by cases h
theorem Still.recover:∀{base:List Frame},Still base->∀fr,tryRecover fr base=none
 |[],_,fr=>by unfold tryRecover;cases fr.kind<;>rfl
 |b::rest,h,fr=>by
  unfold tryRecover;have hr:Still rest:=fun x hx=>h x (by simp[hx]);cases fr.kind with
  |deferred=>rcases h b (by simp)with hm|hm<;>simp only[hm,goexitEntry]
  |wrapped=>simp only[Still.recover hr b];rfl
  |_=>rfl
theorem Still.loop:∀{base:List Frame},Still base->∀n,tryRecoverLoop n base=none
 |[],_,_=>rfl
 |b::rest,h,n=>by
  have hr:Still rest:=fun x hx=>h x (by simp[hx]);unfold tryRecoverLoop;split
  ·simp only[Still.loop hr];rfl
  ·split
   ·simp only[Still.recover hr];rfl
   ·simp only[Still.loop hr];rfl
  ·simp only[Still.loop hr];rfl
def Dm(bl:List Frame)(g:Goroutine):Prop:=∃b rest,bl=b::rest/\(g=G b rest\/(∃v,g=G (b.finish v) rest)\/∃c,g=G (b.raise c) rest)
def JE(u:World)(sL:(Nat->Question->Nat)->GStep)(mk:World->GStep)(u1:World):Prop:=dK u u1/\∀τ,fO τ u.tape u.drawn u1.drawn->sL τ=mk (u1.tp τ)
def SG(S:Nat->Prop)(P:Program)(l:List FuncId)(ρ:Ren)(bl base:List Frame)(u w:World)(s:GStep)(sL:(Nat->Question->Nat)->GStep)(s':GStep):Prop:=
 match s with
 |.go g1 u1 e0=>Dm bl g1\/∃bT bV σ iW gD w1 es,g1=G bT (bV++bl)/\s'=.go (G iW (gD++base)) w1 es/\dZ P l σ bT iW/\bU (dZ P l σ) bV gD/\aW P ρ σ u u1 w w1/\Whole S σ u1/\(∀e∈es,dz S σ e)/\JE u sL (fun x=>.go g1 x e0) u1
 |.comm g1 cs b sh u1 e0=>∃bT bV σ iW gD c c' w1 es,g1=G bT (bV++bl)/\cs=#[c]/\b=false/\sh=.select/\s'=.comm (G iW (gD++base)) #[c'] false .select w1 es/\CR σ c c'/\dZ P l σ bT iW/\bU (dZ P l σ) bV gD/\aW P ρ σ u u1 w w1/\Whole S σ u1/\(∀e∈es,dz S σ e)/\JE u sL (fun x=>.comm g1 cs b sh x e0) u1
 |.ended _ _ _=>True
 |_=>False
section
variable {P:Program} {l:List FuncId} {ρ σ:Ren} {bl base:List Frame} {u w u1 w1:World} {s s':GStep} {sL RY:(Nat->Question->Nat)->GStep}
theorem JE.trans{mk:World->GStep}{u2:World}(ho:dK u u1)(hq:∀τ,fO τ u.tape u.drawn u1.drawn->sL τ=RY τ)(h:JE u1 RY mk u2):JE u sL mk u2:=
 ⟨ho.trans h.1,fun τ hA=>(hq τ (hA.sub (Nat.le_refl _) h.1.drawn)).trans (h.2 τ (by rw[ho.tape];exact hA.sub ho.drawn (Nat.le_refl _)))⟩
theorem Md(hm:aW P ρ σ u u1 w w1)(ho:dK u u1)(hq:∀τ,fO τ u.tape u.drawn u1.drawn->sL τ=RY τ)(h:SG S P l σ bl base u1 w1 s RY s'):SG S P l ρ bl base u w s sL s':=by
 cases s with
 |go g v e=>
  rcases h with h|h
  ·exact .inl h
  obtain⟨bT,bV,τ,iW,gD,w2,es,h1,h2,h3,h4,h5,h6,h7,h8⟩:=h;exact .inr ⟨bT,bV,τ,iW,gD,w2,es,h1,h2,h3,h4,hm.trans h5,h6,h7,h8.trans ho hq⟩
 |comm g x b sh v e=>
  obtain⟨bT,bV,τ,iW,gD,c,c',w2,es,h1,h2,h3,h4,h5,h6,h7,h8,h9,WM,Yr,h12⟩:=h;exact⟨bT,bV,τ,iW,gD,c,c',w2,es,h1,h2,h3,h4,h5,h6,h7,h8,hm.trans h9,WM,Yr,h12.trans ho hq⟩
 |ended o v e=>trivial
 |_=>exact h
theorem Mc(es es':Array Event)(he:∀e∈es',dz S ρ e)(h:SG S P l ρ bl base u w s sL s'):SG S P l ρ bl base u w (GStep.after es s) (fun τ=>GStep.after es (sL τ)) (GStep.after es' s'):=by
 cases s with
 |go g v e=>
  rcases h with h|h
  ·exact .inl h
  obtain⟨bT,bV,τ,iW,gD,w2,x,h1,h2,h3,h4,h5,h6,h7,h8⟩:=h;subst h2;refine .inr ⟨bT,bV,τ,iW,gD,w2,es'++x,h1,rfl,h3,h4,h5,h6,fun e hx=>?_,h8.1,fun τ hA=>by(simp only[h8.2 τ hA];rfl)⟩;rcases Array.mem_append.1 hx with hx|hx
  ·exact(he e hx).mono h5.le
  ·exact h7 e hx
 |comm g x b sh v e=>
  obtain⟨bT,bV,τ,iW,gD,c,c',w2,x,h1,h2,h3,h4,h5,h6,h7,h8,h9,WM,Yr,h12⟩:=h;subst h5;refine⟨bT,bV,τ,iW,gD,c,c',w2,es'++x,h1,h2,h3,h4,rfl,h6,h7,h8,h9,WM,fun e hx=>?_,h12.1,fun τ hA=>by(simp only[h12.2 τ hA];rfl)⟩;rcases Array.mem_append.1 hx with hx|hx
  ·exact(he e hx).mono h9.le
  ·exact Yr e hx
 |ended o v e=>trivial
 |_=>exact h.elim
theorem Qc{bT iW:Frame}{bV gD:List Frame}(es es':Array Event)(he:∀e∈es',dz S σ e)(h1:dZ P l σ bT iW)(h2:bU (dZ P l σ) bV gD)(h3:aW P ρ σ u u1 w w1)(h4:Whole S σ u1)(ho:dK u u1)(hq:∀τ,fO τ u.tape u.drawn u1.drawn->sL τ=.go (G bT (bV++bl)) (u1.tp τ) es):
  SG S P l ρ bl base u w (.go (G bT (bV++bl)) u1 es) sL (.go (G iW (gD++base)) w1 es'):=.inr ⟨bT,bV,σ,iW,gD,w1,es',rfl,rfl,h1,h2,h3,h4,he,ho,hq⟩
theorem aQ{bT iW:Frame}{bV gD:List Frame}(hw:WR P ρ u w)(hW:Whole S ρ u)(h1:dZ P l ρ bT iW)(h2:bU (dZ P l ρ) bV gD)(hq:∀τ,sL τ=.go (G bT (bV++bl)) (u.tp τ)):
  SG S P l ρ bl base u w (.go (G bT (bV++bl)) u) sL (.go (G iW (gD++base)) w):=Qc #[] #[] (by simp) h1 h2 (aW.refl hw) hW (.refl u) (fun τ _=>hq τ)
theorem fZ{σ:Ren}{x:Array Event}(h:dR S σ #[] x):∀e∈x,dz S σ e:=by obtain⟨y,rfl,hy⟩:=h;simpa using hy
theorem qy{σ:Ren}{x:Array Event}(f:FuncId)(h:∀e∈x,dz S σ e):∀e∈seen P f x,dz S σ e:=fun e he=>h e (mem_seen he)
theorem ni(hT:Fit P l){f:FuncId}(hf:aR.ok f){x x':Array Value}(hx:cF ρ x x'){k:CallKind}(hk:k=.normal\/k=.deferred):dZ P l ρ (Frame.enter P f x k) (Frame.enter P f x' k):=by
 have hc:=(hT.ok f).1 hf;obtain⟨fn,c,h1,h2,h3⟩:=hT.body f hc;refine⟨rfl,hT.VL f hf,?_,?_,.nil,.run,rfl,hk,.none⟩
 ·show cF ρ (x++_) (x'++_);rw[hx.1];refine hx.append ⟨rfl,fun i v v' hv hv'=>?_⟩;rw[hv]at hv';cases hv';rw[Array.getElem?_replicate]at hv;split at hv
  ·cases hv;exact cK ρ
  ·cases hv
 ·show bU _ [_] [_];simp only[h1,Option.bind_some,h2,Option.getD_some];exact .cons (.code h3) .nil
theorem yl(hT:Fit P l){n n':Nat}(hn:ρ n n'){f:FuncId}{a b:Code}(h0:aR.known f/\aR.code a/\aR.code b){x x':Array Value}(hx:cF ρ x x'){k:CallKind}(hk:k=.normal\/k=.deferred):dZ P l ρ (Frame.round n f x a b k) (Frame.round n' f x' a b k):=
 ⟨rfl,h0.1,hx,.cons (.code ((hT.code a).1 h0.2.1)) (.cons .beginRound (.cons (.code ((hT.code b).1 h0.2.2)) .nil)),.nil,.run,rfl,hk,.some hn⟩
theorem jo{fr fr':Frame}{cs cs':List Frame}(h:dZ P l ρ fr fr')(hcs:bU (dZ P l ρ) cs cs')(ha:Still bl)(hb:Still base):
  (tryRecover fr (cs++bl)=none/\tryRecover fr' (cs'++base)=none)\/∃v v' c c',tryRecover fr (cs++bl)=some (v,c++bl)/\tryRecover fr' (cs'++base)=some (v',c'++base)/\VR ρ v v'/\bU (dZ P l ρ) c c':=by
 have hk:=h.kind;rcases h.kinds with h1|h1
 ·rw[h1]at hk;refine .inl ⟨?_,?_⟩
  ·unfold tryRecover;rw[h1]
  ·unfold tryRecover;rw[hk]
 ·rw[h1]at hk;cases hcs with
  |nil=>exact .inl ⟨ha.recover fr,hb.recover fr'⟩
  |@cons a b x y hab hxy=>
   obtain⟨a1,a2,a3,a4,a5,a6,a7⟩:=a;obtain⟨b1,b2,b3,b4,b5,b6,b7⟩:=b;obtain⟨k1,k2,k3,k4,k5,k6,k7,k8,k9⟩:=hab;simp only at k6;cases k6 with
   |run=>exact .inl ⟨by unfold tryRecover;rw[h1];rfl,by unfold tryRecover;rw[hk];rfl⟩
   |returning=>exact .inl ⟨by unfold tryRecover;rw[h1];rfl,by unfold tryRecover;rw[hk];rfl⟩
   |panicking hm=>
    cases hm with
    |nil=>exact .inl ⟨by unfold tryRecover;rw[h1];rfl,by unfold tryRecover;rw[hk];rfl⟩
    |@cons e e' t t' he ht=>
     obtain⟨e1,e2,e3⟩:=e;obtain⟨d1,d2,d3⟩:=e';obtain⟨p1,p2,p3,p4⟩:=he;simp only at p1 p2 p3 p4;subst p2 p3 p4;cases d2 with
     |true=>exact .inl ⟨by unfold tryRecover;rw[h1];rfl,by unfold tryRecover;rw[hk];rfl⟩
     |false=>
      refine .inr ⟨e1,d1,⟨a1,a2,a3,a4,.panicking (⟨e1,true,false⟩::t),a6,a7⟩::x,⟨b1,b2,b3,b4,.panicking (⟨d1,true,false⟩::t'),b6,b7⟩::y,by unfold tryRecover;rw[h1];rfl,by unfold tryRecover;rw[hk];rfl,p1,.cons ⟨k1,k2,k3,k4,k5,.panicking (.cons ⟨p1,rfl,rfl,rfl⟩ ht),k7,k8,k9⟩ hxy⟩
theorem sZ(h1:ρ.one){cs cs':List Frame}(hcs:bU (dZ P l ρ) cs cs')(ha:Still bl)(hb:Still base):∀{n n':Nat},ρ n n'->
  (tryRecoverLoop n (cs++bl)=none/\tryRecoverLoop n' (cs'++base)=none)\/∃v v' c c',tryRecoverLoop n (cs++bl)=some (v,c++bl)/\tryRecoverLoop n' (cs'++base)=some (v',c'++base)/\VR ρ v v'/\bU (dZ P l ρ) c c':=by
 induction hcs with
 |nil=>exact fun _=>.inl ⟨ha.loop _,hb.loop _⟩
 |@cons a b x y hab hxy ih=>
  intro n n' hn
  have wrap:∀{r r':Option (Value×List Frame)},((r=none/\r'=none)\/∃v v' c c',r=some (v,c++bl)/\r'=some (v',c'++base)/\VR ρ v v'/\bU (dZ P l ρ) c c')->
    ((r.map fun(v,rest)=>(v,a::rest))=none/\(r'.map fun(v,rest)=>(v,b::rest))=none)\/∃v v' c c',(r.map fun(v,rest)=>(v,a::rest))=some (v,c++bl)/\(r'.map fun(v,rest)=>(v,b::rest))=some (v',c'++base)/\VR ρ v v'/\bU (dZ P l ρ) c c':=by
   rintro r r' (⟨rfl,rfl⟩|⟨v,v',c,c',rfl,rfl,hv,hc⟩)
   ·exact .inl ⟨rfl,rfl⟩
   ·exact .inr ⟨v,v',a::c,b::c',rfl,rfl,hv,.cons hab hc⟩
  rw[List.cons_append,List.cons_append];unfold tryRecoverLoop;obtain⟨k1,k2,k3,k4,k5,k6,k7,k8,k9⟩:=id hab;have hr:=k9;revert k4;cases hat:a.todo with
  |nil=>
   intro k4;cases Xi:b.todo with
   |nil=>exact wrap (ih hn)
   |cons i k=>rw[Xi]at k4;cases k4
  |cons i k=>
   intro k4;cases Xi:b.todo with
   |nil=>rw[Xi]at k4;cases k4
   |cons i' k'=>
    rw[Xi]at k4;cases k4 with
    |cons hi hk=>
     cases hi with
     |@inRangeFunc m m' hm=>
      have UJ:(m'==n')=(m==n):=by
       rw[Bool.eq_iff_iff,beq_iff_eq,beq_iff_eq];constructor
       ·rintro rfl;exact h1.2 _ _ _ hm hn
       ·rintro rfl;exact h1.1 _ _ _ hm hn
      revert hr;cases a.roundOf with
      |none=>
       intro hr;cases Xh:b.roundOf with
       |some _=>rw[Xh]at hr;cases hr
       |none=>
        simp only;rw[UJ];split
        ·exact wrap (jo hab hxy ha hb)
        ·exact wrap (ih hn)
      |some o=>
       intro hr;cases Xh:b.roundOf with
       |none=>rw[Xh]at hr;cases hr
       |some o'=>
        rw[Xh]at hr;cases hr with
        |some ho=>
         simp only;rw[UJ];split
         ·exact wrap (ih ho)
         ·exact wrap (ih hn)
     |stop s=>rcases aB.good s with⟨c,e⟩|⟨c,e⟩<;>(rw[e];exact wrap (ih hn))
     |_=>exact wrap (ih hn)
end
end
section
open Go Go.Conc
variable [aR] [aB] {S:Nat->Prop}
section
variable {P:Program} {l:List FuncId} {ρ σ:Ren} {bl base:List Frame} {u w u1 w1:World} {K:Kn}
theorem bh{s s':GStep}{sL RY:(Nat->Question->Nat)->GStep}(hm:aW P ρ σ u u1 w w1)(ho:dK u u1)(es es':Array Event)(hq:∀τ,fO τ u.tape u.drawn u1.drawn->sL τ=GStep.after es (RY τ))(he:∀e∈es',dz S σ e)(h:SG S P l σ bl base u1 w1 s RY s'):SG S P l ρ bl base u w (GStep.after es s) sL (GStep.after es' s'):=
 Md hm ho hq (Mc es es' he h)
theorem qx{α β:Type}{Q:Ren->α->β->Prop}{s:Sem α}{s':Sem β}(hs:SR P Q ρ K s s')(hK:Own K u)(hw:WR P ρ u w)(hW:Whole S ρ u){r:Result α}(hr:s.run P u=r)(hd:∀x v,r=.halt x v->¬qL x):
  dK u r.world/\∀τ,fO τ u.tape u.drawn r.world.drawn->s.runT P (u.tp τ) #[]=(r.tp τ,(s.runT P u #[]).2):=by
 rcases hs.loc u w hw hK hW with⟨x,v,h1,h2⟩|⟨h1,h2⟩
 ·exact absurd h2 (hd x v (hr.symm.trans h1))
 ·rw[hr]at h1 h2;refine⟨h1,fun τ hA=>?_⟩;rw[h2 #[] τ hA,Sem.runT_fst,hr]
theorem FL{x:Array Event}(f:FuncId)(b:Bool)(h:∀e∈x,dz S σ e):∀e∈seen P f (if b=true then #[]else x),dz S σ e:=by
 intro e he;have:=mem_seen he;split at this
 ·simp at this
 ·exact h e this
theorem cA{α:Type}(s:Sem α)(u:World):s.runT P u #[]=(s.run P u,(s.runT P u #[]).2):=by rw[<-Sem.runT_fst P s u #[]]
theorem Of{r:Bool}{x y:List Item}(h:bU (IR P l ρ r) x y):(∀d b n s k,x≠.call d b n s::k)/\∀d b n s k,y≠.call d b n s::k:=by
 cases h with
 |nil=>exact⟨fun _ _ _ _ _ e=>(by cases e),fun _ _ _ _ _ e=>(by cases e)⟩
 |cons h1 _=>
  cases h1 with
  |stop s=>exact⟨fun _ _ _ _ _ e=>(by cases e),fun _ _ _ _ _ e=>by rcases aB.good s with⟨c,e'⟩|⟨c,e'⟩<;>(rw[e']at e;cases e)⟩
  |_=>exact⟨fun _ _ _ _ _ e=>(by cases e),fun _ _ _ _ _ e=>(by cases e)⟩
theorem rX{c:List PanicEntry}{c':List PanicEntry}(h:bU (MM ρ) c c'):c.dropWhile (!·.goexit)=[]/\c'.dropWhile (!·.goexit)=[]:=by
 induction h with
 |nil=>exact⟨rfl,rfl⟩
 |cons h1 _ ih=>exact⟨by simp only[List.dropWhile_cons,h1.2.2.1,Bool.not_false,if_true,ih.1],by simp only[List.dropWhile_cons,h1.2.2.2,Bool.not_false,if_true,ih.2]⟩
theorem vM(hT:Fit P l)(ha:Still bl)(hb:Still base){s s':Sem Next}(hs:SR P NR ρ K s s')(hK:Own K u)(hw:WR P ρ u w)(hW:Whole S ρ u){fr fr':Frame}{cs cs':List Frame}(h:dZ P l ρ fr fr')(hcs:bU (dZ P l ρ) cs cs'):
  SG S P l ρ bl base u w (stepG.apply P true fr (cs++bl) none s u) (fun τ=>stepG.apply P true fr (cs++bl) none s (u.tp τ)) (stepG.apply P true fr' (cs'++base) none s' w):=by
 have hr:=hs.Gk u w #[] hw hK hW;have hlo:=fun{r:Result Next}=>qx hs hK hw hW (r:=r);obtain⟨hk,hk'⟩:=Of h.todo;generalize PK:(fun τ=>stepG.apply P true fr (cs++bl) none s (u.tp τ))=sL;unfold stepG.apply;simp only[if_true];unfold bM at hr;cases hrun:s.run P u with
 |ok n u1=>
  obtain⟨ho,fD⟩:=hlo hrun (fun x v e=>by cases e);rw[cA s u,hrun];generalize (s.runT P u #[]).2=e0 at fD;have hq:∀τ,fO τ u.tape u.drawn u1.drawn->s.runT P (u.tp τ) #[]=(.ok n (u1.tp τ),e0):=fD;rw[hrun]at hr;obtain⟨σ,n',w1,x,h',hn,hm,sX,Rj⟩:=hr;rw[h'];have hown:=fun(b:Bool)=>FL (P:=P) fr'.fn b (fZ Rj);have hfr:=h.mono hm.le;have jC:=hcs.mono fun _ _=>dZ.mono hm.le;cases hn with
  |value hv=>exact bh hm ho _ _ (fun τ hA=>by rw[<-PK];unfold stepG.apply;simp only[if_true];rw[hq τ hA];rfl) (hown _) (aQ hm.rel sX (hfr.finish hv) jC fun _=>rfl)
  |skip=>exact bh hm ho _ _ (fun τ hA=>by rw[<-PK];unfold stepG.apply;simp only[if_true];rw[hq τ hA];rfl) (hown _) (aQ hm.rel sX (hfr.finish (cK σ)) jC fun _=>rfl)
  |@enter f x x' hf hx=>
   have Hl:dZ P l σ (Frame.enter P f x (match fr.todo with|.call _ true _ _::_=>.wrapped|_=>.normal)) (Frame.enter P f x' (match fr'.todo with|.call _ true _ _::_=>.wrapped|_=>.normal)):=by
    split
    ·exact absurd ‹fr.todo=_› (hk _ _ _ _ _)
    ·split
     ·exact absurd ‹fr'.todo=_› (hk' _ _ _ _ _)
     ·exact ni hT hf hx (.inl rfl)
   exact bh hm ho _ _ (fun τ hA=>by rw[<-PK];unfold stepG.apply;simp only[if_true];rw[hq τ hA];rfl) (hown _) (aQ (bV:=_::_) (gD:=_::_) hm.rel sX Hl (.cons hfr jC) fun _=>rfl)
  |round f a b h0 hl hx=>
   exact bh hm ho _ _ (fun τ hA=>by rw[<-PK];unfold stepG.apply;simp only[if_true];rw[hq τ hA];rfl) (hown _) (aQ (bV:=_::_) (gD:=_::_) hm.rel sX (yl hT hl h0 hx (.inl rfl)) (.cons hfr jC) fun _=>rfl)
  |defer hd=>
   refine bh hm ho _ _ (fun τ hA=>by rw[<-PK];unfold stepG.apply;simp only[if_true];rw[hq τ hA];rfl) (hown _) (aQ hm.rel sX (dZ.finish ?_ (cK σ)) jC fun _=>rfl);exact⟨hfr.fn,hfr.ok,hfr.tmps,hfr.todo,.cons hd hfr.defers,hfr.mode,hfr.kind,hfr.kinds,hfr.round⟩
  |recover=>
   have key:∀{r r':Option (Value×List Frame)},((r=none/\r'=none)\/∃v v' c c',r=some (v,c++bl)/\r'=some (v',c'++base)/\VR σ v v'/\bU (dZ P l σ) c c')->
     SG S P l σ bl base u1 w1 (match r with|some (v,callers)=>.go {frame:=fr.finish v,callers,status:=.running,dying:=none} u1|none=>.go {frame:=fr.finish .nilIface,callers:=cs++bl,status:=.running,dying:=none} u1)
      (fun τ=>match r with|some (v,callers)=>.go {frame:=fr.finish v,callers,status:=.running,dying:=none} (u1.tp τ)|none=>.go {frame:=fr.finish .nilIface,callers:=cs++bl,status:=.running,dying:=none} (u1.tp τ))
      (match r' with|some (v,callers)=>.go {frame:=fr'.finish v,callers,status:=.running,dying:=none} w1|none=>.go {frame:=fr'.finish .nilIface,callers:=cs'++base,status:=.running,dying:=none} w1):=by
    rintro r r' (⟨rfl,rfl⟩|⟨v,v',c,c',rfl,rfl,hv,hc⟩)
    ·exact aQ hm.rel sX (hfr.finish .nilIface) jC fun _=>rfl
    ·exact aQ hm.rel sX (hfr.finish hv) hc fun _=>rfl
   refine bh hm ho _ _ (fun τ hA=>by rw[<-PK];unfold stepG.apply;simp only[if_true];rw[hq τ hA];rfl) (hown _) (key ?_);have hro:=hfr.round;revert hro;cases fr.roundOf with
   |none=>
    intro hro;cases hq:fr'.roundOf with
    |none=>exact jo hfr jC ha hb
    |some _=>rw[hq]at hro;cases hro
   |some n=>
    intro hro;cases hq:fr'.roundOf with
    |none=>rw[hq]at hro;cases hro
    |some n'=>
     rw[hq]at hro;cases hro with
     |some hn=>
      simp only;split
      ·exact jo hfr jC ha hb
      ·exact sZ hm.rel.one jC ha hb hn
  |comm hc=>exact⟨fr,cs,σ,fr',cs',_,_,w1,_,rfl,rfl,rfl,rfl,rfl,hc,hfr,jC,hm,sX,fun e he=>hown (fr'.kind==.early) e (by simpa using he),ho,fun τ hA=>by rw[<-PK];unfold stepG.apply;simp only[if_true];rw[hq τ hA];rfl⟩
 |halt x u1=>
  rw[hrun]at hr;cases x with
  |panic v=>
   obtain⟨ho,fD⟩:=hlo hrun (fun x v e=>by cases e;exact id);rw[cA s u,hrun];generalize (s.runT P u #[]).2=e0 at fD;have hq:∀τ,fO τ u.tape u.drawn u1.drawn->s.runT P (u.tp τ) #[]=(.halt (.panic v) (u1.tp τ),e0):=fD;obtain⟨σ,v',w1,y,h',hv,hm,sX,Rj⟩:=hr;rw[h'];exact bh hm ho _ _ (fun τ hA=>by rw[<-PK];unfold stepG.apply;simp only[if_true];rw[hq τ hA];rfl) (FL (P:=P) fr'.fn _ (fZ Rj)) (aQ hm.rel sX ((h.mono hm.le).raise (.cons ⟨hv,rfl,rfl,rfl⟩ .nil)) (hcs.mono fun _ _=>dZ.mono hm.le) fun _=>rfl)
  |stuck _=>rw[cA s u,hrun];trivial
  |unsupported q=>
   rw[cA s u,hrun];cases q with
   |initOrder _=>exact hr.elim
   |_=>trivial
  |_=>exact hr.elim
theorem yp{main:Bool}(sY:bl≠[])(ha:Still bl)(hw:WR P ρ u w)(hW:Whole S ρ u){fr fr':Frame}{cs cs':List Frame}(h:dZ P l ρ fr fr')(hcs:bU (dZ P l ρ) cs cs'){v v':Value}(hv:VR ρ v v'):
  SG S P l ρ bl base u w (doReturn P true fr (cs++bl) none v u) (fun τ=>doReturn P true fr (cs++bl) none v (u.tp τ)) (doReturn P main fr' (cs'++base) none v' w):=by
 cases hcs with
 |nil=>
  cases bl with
  |nil=>exact absurd rfl sY
  |cons b rest=>
   have hm:=ha b (by simp);unfold doReturn;rcases h.kinds with hk|hk
   ·simp only[List.nil_append,hk];exact .inl ⟨b,rest,rfl,.inr (.inl ⟨v,rfl⟩)⟩
   ·rcases hm with hm|hm<;>simp only[List.nil_append,hk,hm,goexitEntry]<;>exact .inl ⟨b,rest,rfl,.inl rfl⟩
 |@cons a b x y hab hxy=>
  unfold doReturn;have hk':=h.kind;rcases h.kinds with hk|hk
  ·rw[hk]at hk';simp only[List.cons_append,hk,hk'];exact aQ hw hW (hab.finish hv) hxy fun _=>rfl
  ·rw[hk]at hk';simp only[List.cons_append,hk,hk'];refine aQ hw hW ?_ hxy fun _=>rfl;obtain⟨a1,a2,a3,a4,a5,a6,a7⟩:=a;obtain⟨b1,b2,b3,b4,b5,b6,b7⟩:=b;obtain⟨k1,k2,k3,k4,k5,k6,k7,k8,k9⟩:=hab;simp only at k6⊢;cases k6 with
   |run=>exact⟨k1,k2,k3,k4,k5,.run,k7,k8,k9⟩
   |returning=>exact⟨k1,k2,k3,k4,k5,.returning,k7,k8,k9⟩
   |panicking hm=>
    cases hm with
    |nil=>exact⟨k1,k2,k3,k4,k5,.panicking .nil,k7,k8,k9⟩
    |@cons e e' t t' he ht=>
     obtain⟨e1,e2,e3⟩:=e;obtain⟨d1,d2,d3⟩:=e';have hx:=he;obtain⟨p1,p2,p3,p4⟩:=he;simp only at p1 p2 p3 p4;subst p2;cases d2 with
     |false=>exact⟨k1,k2,k3,k4,k5,.panicking (.cons hx ht),k7,k8,k9⟩
     |true=>
      simp only[(rX ht).1,(rX ht).2];exact⟨k1,k2,k3,k4,k5,.returning,k7,k8,k9⟩
theorem vW{α:Type}{f f':α->Sem Value}(h:∀x σ L,ρ.le σ->SR P VR σ L (f x) (f' x)):∀(xs:List α) (σ:Ren) (L:Kn),ρ.le σ->SR P (fun τ y y'=>bU (VR τ) y y') σ L (xs.mapM f) (xs.mapM f')
 |[],σ,L,_=>.pure .nil
 |x::xs,σ,L,g=>by rw[List.mapM_cons,List.mapM_cons];refine SR.then (h x σ L g) fun τ M v v' g2 _ hv=>?_;refine SR.then (vW h xs τ M (Ren.le_trans g g2)) fun φ N y y' g3 _ hy=>?_;exact .pure (.cons (hv.mono g3) hy)
theorem CZ{x y:List Value}(h:bU (VR ρ) x y):cF ρ x.toArray y.toArray:=by
 have hl:y.length=x.length:=by
  induction h with
  |nil=>rfl
  |cons _ _ ih=>simp[ih]
 refine⟨by simpa using hl,?_⟩;induction h with
 |nil=>intro i v v' hv;simp at hv
 |cons h1 _ ih=>
  intro i v v' hv hv';cases i with
  |zero=>simp at hv hv';subst hv hv';exact h1
  |succ i=>exact ih (by simpa using hl) i v v' (by simpa using hv) (by simpa using hv')
theorem pS{x x':Array Value}(h:cF ρ x x')(t:Nat):VR ρ (x.getD t undef) (x'.getD t undef):=by
 by_cases ht:t<x.size
 ·have ht':t<x'.size:=by rw[h.1];exact ht
  simp only[Array.getD,ht,ht',dif_pos];exact h.2 t _ _ (by simp[ht]) (by simp[ht'])
 ·have ht':¬t<x'.size:=by rw[h.1];exact ht
  simp only[Array.getD,ht,ht',dif_neg,not_false_eq_true];exact cK ρ
theorem lC(fn:Func){x x':Array Value}(hx:cF ρ x x'):SR P VR ρ K (results fn x) (results fn x'):=by
 unfold results;rw[Array.mapM_eq_mapM_toList,Array.mapM_eq_mapM_toList];refine SR.then (Q:=cF) ?_ fun σ L y y' _ _ hy=>?_
 ·refine Ar _ _ (Q:=fun τ y y'=>bU (VR τ) y y') (vW (fun r σ L g=>?_) _ ρ K (Ren.le_refl _)) fun _ a b _ hab=>CZ hab;cases r with
  |tmp t=>exact .pure ((pS hx t).mono g)
  |cell a t=>exact SR.then (IQ ((pS hx a).mono g)) fun τ M b b' _ _ hb=>vV hb t
 ·refine .pure ?_
  by_cases h1:y.size=1
  ·have h1':y'.size=1:=by rw[hy.1];exact h1
   simp only[h1,h1',dif_pos];exact hy.2 0 _ _ (by simp[h1]) (by simp[h1'])
  ·have h1':¬y'.size=1:=by rw[hy.1];exact h1
   simp only[h1,h1',dif_neg,not_false_eq_true];exact .tuple hy.1 hy.2
end
end
end Go.Proofs.YtpobhljcainmdaaGreat
