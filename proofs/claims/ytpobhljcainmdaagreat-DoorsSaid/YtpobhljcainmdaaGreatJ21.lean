/- Proved here: a part of what Doors keeps (Mir15, Mir20). -/
import Derived.Conc.Listed
import Derived.Conc.LoneSelect
import Derived.Test.YtpobhljcainmdaaGreatJ16
import Derived.Test.YtpobhljcainmdaaGreatJ20
set_option maxRecDepth 100000
set_option maxHeartbeats 8000000
set_option linter.all false
namespace Go.Proofs.YtpobhljcainmdaaGreat
section
open Go
variable [aR] {S:Nat->Prop}
abbrev Whole(S:Nat->Prop)(ρ:Ren)(w:World):Prop:=(∀a b,ρ a b->(¬S b/\∃o,w.heap[a]? =some o/\o≠aV)\/(S b/\w.heap[a]? =some aV))/\∀b,S b->∃a,ρ a b
theorem Whole.all{ρ:Ren}{w:World}(h:Whole S ρ w):∀a b,ρ a b->(¬S b/\∃o,w.heap[a]? =some o/\o≠aV)\/(S b/\w.heap[a]? =some aV):=h.1
theorem Whole.has{ρ:Ren}{w:World}(h:Whole S ρ w):∀b,S b->∃a,ρ a b:=h.2
theorem Whole.own{ρ:Ren}{w:World}(h:Whole S ρ w){a b:Nat}(hab:ρ a b){o:Obj}(ho:w.heap[a]? =some o)(hn:o≠aV):¬S b:=by
 rcases h.all a b hab with h1|⟨_,h1⟩
 ·exact h1.1
 ·rw[ho]at h1;cases h1;exact absurd rfl hn
def dz(S:Nat->Prop)(ρ:Ren)(e:Event):Prop:=match e.loc with
 |.cell a=>∃x,ρ x a.block/\¬S a.block
 |.obj r=>∃x,ρ x r/\¬S r
 |.mark .noRoom=>True
 |.output=>True
 |_=>False
theorem dz.mono{ρ σ:Ren}(h:ρ.le σ){e:Event}(k:dz S ρ e):dz S σ e:=by
 unfold dz at k⊢;split
 ·rename_i hl;rw[hl]at k;exact k.imp fun x hx=>⟨h _ _ hx.1,hx.2⟩
 ·rename_i hl;rw[hl]at k;exact k.imp fun x hx=>⟨h _ _ hx.1,hx.2⟩
 ·trivial
 ·trivial
 ·rename_i h1 h2 h3 h4;split at k
  ·rename_i hl;exact h1 _ hl
  ·rename_i hl;exact h2 _ hl
  ·rename_i hl;exact h3 hl
  ·rename_i hl;exact h4 hl
  ·exact k
def dR(S:Nat->Prop)(ρ:Ren)(es es':Array Event):Prop:=∃x,es'=es++x/\∀e∈x,dz S ρ e
theorem dR.refl{ρ:Ren}(es:Array Event):dR S ρ es es:=⟨#[],by simp,by simp⟩
theorem dR.push{ρ:Ren}{es:Array Event}{e:Event}(h:dz S ρ e):dR S ρ es (es.push e):=⟨#[e],by simp,by simp;exact h⟩
theorem dR.cell{ρ:Ren}{es:Array Event}{x:Nat}{a:Addr}{u v:Bool}(h:ρ x a.block)(hs:¬S a.block):dR S ρ es (es.push ⟨.cell a,u,v⟩):=.push (e:=⟨.cell a,u,v⟩) ⟨x,h,hs⟩
theorem dR.obj{ρ:Ren}{es:Array Event}{x r:Nat}{u v:Bool}(h:ρ x r)(hs:¬S r):dR S ρ es (es.push ⟨.obj r,u,v⟩):=.push (e:=⟨.obj r,u,v⟩) ⟨x,h,hs⟩
theorem dR.room{ρ:Ren}{es:Array Event}{u v:Bool}:dR S ρ es (es.push ⟨.mark .noRoom,u,v⟩):=.push (e:=⟨.mark .noRoom,u,v⟩) trivial
theorem dR.out{ρ:Ren}{es:Array Event}{u v:Bool}:dR S ρ es (es.push ⟨.output,u,v⟩):=.push (e:=⟨.output,u,v⟩) trivial
theorem dR.trans{ρ σ:Ren}(g:ρ.le σ){a b c:Array Event}(h:dR S ρ a b)(k:dR S σ b c):dR S σ a c:=by
 obtain⟨x,rfl,hx⟩:=h;obtain⟨y,rfl,hy⟩:=k;refine⟨x++y,by simp,fun e he=>?_⟩;rcases Array.mem_append.1 he with h|h
 ·exact(hx e h).mono g
 ·exact hy e h
def bM{α β:Type}(S:Nat->Prop)(p:Program)(Q:Ren->α->β->Prop)(ρ:Ren)(w w':World)(es':Array Event)(r:Result α)(r':Result β×Array Event):Prop:=
 match r with
  |.ok a w1=>∃σ b wy x,r'=(.ok b wy,x)/\Q σ a b/\aW p ρ σ w w1 w' wy/\Whole S σ w1/\dR S σ es' x
  |.halt (.panic v) w1=>∃σ v' wy x,r'=(.halt (.panic v') wy,x)/\VR σ v v'/\aW p ρ σ w w1 w' wy/\Whole S σ w1/\dR S σ es' x
  |.halt h _=>qL h
def TH{α β:Type}(S:Nat->Prop)(p:Program)(Q:Ren->α->β->Prop)(ρ:Ren)(K:Kn)(s:Sem α)(s':Sem β):Prop:=
 ∀w w' es',WR p ρ w w'->Own K w->Whole S ρ w->bM S p Q ρ w w' es' (s.run p w) (s'.runT p w' es')
theorem bM.lost{α β:Type}{p:Program}{Q:Ren->α->β->Prop}{ρ:Ren}{w w':World}{es':Array Event}{r':Result β×Array Event}{h:Halt}(hh:qL h)(w1:World):bM S p Q ρ w w' es' (.halt h w1:Result α) r':=by unfold bM;cases h<;>first|exact hh|exact hh.elim
theorem bM.step{α β:Type}{p:Program}{Q:Ren->α->β->Prop}{ρ σ:Ren}{w w1 w' wy:World}{es' Nu:Array Event}{s s1:Sem α}{s' s1':Sem β}(hm:aW p ρ σ w w1 w' wy)(hl:dR S σ es' Nu)(e:s.run p w=s1.run p w1)(e':s'.runT p w' es'=s1'.runT p wy Nu)
  (h:bM S p Q σ w1 wy Nu (s1.run p w1) (s1'.runT p wy Nu)):bM S p Q ρ w w' es' (s.run p w) (s'.runT p w' es'):=by
 rw[e,e'];revert h;unfold bM;cases s1.run p w1 with
 |ok a w2=>rintro⟨τ,b,Ty,x,h1,h2,h3,h4,h5⟩;exact⟨τ,b,Ty,x,h1,h2,hm.trans h3,h4,hl.trans h3.le h5⟩
 |halt h w2=>
  cases h with
  |panic v=>rintro⟨τ,b,Ty,x,h1,h2,h3,h4,h5⟩;exact⟨τ,b,Ty,x,h1,h2,hm.trans h3,h4,hl.trans h3.le h5⟩
  |_=>intro h;exact h
theorem Whole.set{ρ:Ren}{w:World}(h:Whole S ρ w)(a:Addr)(v:Value):Whole S ρ (w.setCell a v):=⟨fun x y hxy=>by
 rcases h.all x y hxy with⟨h1,h2⟩|⟨h1,h2⟩
 ·exact .inl ⟨h1,Own.set (K:=(·=x)) (w:=w) (fun r hr=>by(obtain rfl:r=x:=hr;exact h2)) a v x rfl⟩
 ·refine .inr ⟨h1,?_⟩;simp only[World.setCell,Array.getElem?_modify,h2];split<;>rfl,h.has⟩
theorem Whole.freeze{ρ:Ren}{w:World}(h:Whole S ρ w)(a:Addr)(n:Nat):Whole S ρ (w.freeze a n):=⟨fun x y hxy=>by
 rcases h.all x y hxy with⟨h1,h2⟩|⟨h1,h2⟩
 ·exact .inl ⟨h1,Own.freeze (K:=(·=x)) (w:=w) (fun r hr=>by(obtain rfl:r=x:=hr;exact h2)) a n x rfl⟩
 ·refine .inr ⟨h1,?_⟩;unfold World.freeze;split
  ·exact h2
  ·simp only[Array.getElem?_modify,h2];split<;>rfl,h.has⟩
theorem Whole.put{ρ:Ren}{w:World}(h:Whole S ρ w){r:Nat}(hk:∃x,w.heap[r]? =some x/\x≠aV){o:Obj}(hn:o≠aV):Whole S ρ {w with heap:=w.heap.setIfInBounds r o}:=⟨fun x y hxy=>by
 rcases h.all x y hxy with⟨h1,h2⟩|⟨h1,h2⟩
 ·exact .inl ⟨h1,Own.put (K:=(·=x)) (w:=w) (fun r hr=>by(obtain rfl:r=x:=hr;exact h2)) r hn x rfl⟩
 ·refine .inr ⟨h1,?_⟩
  have hx:x≠r:=by rintro rfl;obtain⟨q,hq,hn⟩:=hk;rw[h2]at hq;cases hq;exact hn rfl
  exact(Array.getElem?_setIfInBounds_ne (Ne.symm hx)).trans h2,h.has⟩
theorem Whole.push{ρ:Ren}{w w':World}{p:Program}(h:Whole S ρ w)(hw:WR p ρ w w'){o:Obj}(hn:o≠aV):Whole S (ρ.ext w.heap.size w'.heap.size) {w with heap:=w.heap.push o}:=by
 have hS:¬S w'.heap.size:=fun hs=>by obtain⟨a,ha⟩:=h.has _ hs;have:=(hw.lt _ _ ha).2;omega
 refine⟨?_,fun b hb=>(h.has b hb).imp fun a ha=>.inl ha⟩;rintro a b (hab|⟨rfl,rfl⟩)
 ·have hlt:=(hw.lt _ _ hab).1;show(_/\∃q,(w.heap.push o)[a]? =some q/\_)\/(_/\(w.heap.push o)[a]? =_);rw[Array.getElem?_push,if_neg (by omega)];exact h.all a b hab
 ·exact .inl ⟨hS,o,by show(w.heap.push o)[w.heap.size]? =_;simp,hn⟩
theorem iN{α:Type}{p:Program}{w:World}{m:Mode}{a:Addr}{v:Value}{k:Sem α}{es:Array Event}(h1:∀x,v≠.agg x)(h2:∀x,v≠.tuple x):(Sem.store m a v k).runT p w es=(match w.cell? a with
  |some _=>if w.frozen? a then(.halt (.unsupported (.unsafePointer "a write to bytes that a string shares")) w,es)else k.runT p (w.setCell a v) (es.push ⟨.cell a,true,m==.atomic⟩)
  |none=>match w.farStore p a v (m==.atomic)with
   |.ok (w,touched)=>k.runT p w (es++touched.toArray.map (⟨.cell ·,true,m==.atomic⟩))
   |.error h=>(.halt h w,es)):=by
 cases v<;>first|rfl|exact absurd rfl (h1 _)|exact absurd rfl (h2 _)
theorem bq{α β:Type}{p:Program}{f:α->Sem β}(s:Sem α):∀(w:World) (es:Array Event),(s.bind f).runT p w es=(match s.runT p w es with
  |(.ok a w1,x)=>(f a).runT p w1 x
  |(.halt h w1,x)=>(.halt h w1,x)):=by
 induction s with
 |pure a=>intro w es;rfl
 |load m a k ih=>
  intro w es;simp only[Sem.bind,Sem.runT];cases w.cell? a with
  |some v=>exact ih v w _
  |none=>
   dsimp only;cases w.farLoad p a (m==.atomic)with
   |ok r=>exact ih _ w _
   |error h=>rfl
 |store m a v k ih=>
  intro w es
  by_cases h1:(∃x,v=.agg x)\/∃x,v=.tuple x
  ·rcases h1 with⟨x,rfl⟩|⟨x,rfl⟩<;>rfl
  ·have hn:(∀x,v≠.agg x)/\∀x,v≠.tuple x:=⟨fun x e=>h1 (.inl ⟨x,e⟩),fun x e=>h1 (.inr ⟨x,e⟩)⟩;rw[show(Sem.store m a v k).bind f=Sem.store m a v (k.bind f) from rfl,iN hn.1 hn.2,iN hn.1 hn.2];cases w.cell? a with
   |some u=>
    dsimp only;split
    ·rfl
    ·exact ih _ _
   |none=>
    dsimp only;cases w.farStore p a v (m==.atomic)with
    |ok r=>exact ih _ _
    |error h=>rfl
 |new o k ih=>intro w es;exact ih _ _ _
 |shape r k ih=>intro w es;exact ih _ _ _
 |freeze a n k ih=>intro w es;exact ih _ _
 |frozen a k ih=>intro w es;exact ih _ _ _
 |getObj r k ih=>
  intro w es;simp only[Sem.bind,Sem.runT];cases w.heap[r]? with
  |none=>rfl
  |some o=>cases o<;>first|rfl|exact ih _ _ _
 |setObj r o k ih=>
  intro w es;simp only[Sem.bind,Sem.runT];cases w.heap[r]? with
  |none=>rfl
  |some o=>cases o<;>first|rfl|exact ih _ _
 |choose q k ih=>
  intro w es;simp only[Sem.bind,Sem.runT];split
  ·exact ih _ _ _
  ·exact ih _ _ _
 |sys c k ih=>intro w es;exact ih _ _ _
 |program k ih=>intro w es;exact ih _ _ _
 |mark m k ih=>intro w es;exact ih _ _
 |halt h=>intro w es;rfl
theorem mR{p:Program}(w:World)(a:Addr)(es:Array Event):(stringish a).runT p w es=(.ok (Mr w a) w,es):=by
 unfold stringish Mr;show(Sem.frozen a _).runT p w es=_;unfold Sem.runT;cases h1:w.frozen? a with
 |true=>rfl
 |false=>
  show(Sem.shape a.block _).runT p w es=_;unfold Sem.runT;cases h2:w.shape? a.block with
  |none=>rfl
  |some x=>rfl
theorem iE{p:Program}(w:World)(a b:Addr)(es:Array Event):(mayBeOne a b).runT p w es=(.ok (wU w a b) w,es):=by
 unfold mayBeOne;show(Sem.bind (stringish a) _).runT p w es=_;rw[bq,mR];show(Sem.bind (stringish b) _).runT p w es=_;rw[bq,mR];show(Sem.shape a.block _).runT p w es=_;unfold Sem.runT;show(Sem.shape b.block _).runT p w es=_;unfold Sem.runT;unfold wU SP;generalize Mr w a=sa;generalize Mr w b=sb;cases w.shape? a.block with
 |none=>
  cases w.shape? b.block with
  |none=>rfl
  |some y=>obtain⟨t,n⟩:=y;cases n<;>rfl
 |some x=>
  obtain⟨t,n⟩:=x;cases w.shape? b.block with
  |none=>cases n<;>rfl
  |some y=>obtain⟨t',n'⟩:=y;cases n<;>cases n'<;>rfl
theorem Ie{p:Program}{ρ:Ren}{w w':World}(hw:WR p ρ w w'){a a' b b':Addr}(ha:AR ρ a a')(hb:AR ρ b b'):wU w' a' b'=wU w a b:=by
 have key:∀{a a':Addr},AR ρ a a'->Mr w' a'=Mr w a/\SP w' a'=SP w a:=fun{a a'} ha=>by
  unfold Mr SP;rw[tI hw ha];obtain⟨o,ho⟩:∃o,w.heap[a.block]? =some o:=⟨_,Array.getElem?_eq_getElem (hw.lt _ _ ha.1).1⟩;rcases hw.obj _ _ _ ha.1 ho with rfl|⟨o',ho',dP⟩
  ·obtain⟨x,t,fz,h,hs,hf⟩:=hw.calm _ _ ha.1 ho;have e1:w'.shape? a'.block=some (t,x.size):=by unfold World.shape?;rw[h]
   have e2:w.shape? a.block=none:=by unfold World.shape?;rw[ho];rfl
   have e3:∀n,w'.frozen? {block:=a'.block,off:=n}=false:=fun n=>by have:=tI hw (a:={block:=a.block,off:=n}) (a':={block:=a'.block,off:=n}) ⟨ha.1,rfl,rfl⟩;rw[this];unfold World.frozen?;rw[ho];rfl
   rw[e1,e2];refine⟨by simp only[e3],?_⟩;cases hx:x.size with
   |zero=>exact absurd hx hs
   |succ n=>rfl
  ·have e:w'.shape? a'.block=w.shape? a.block:=by
    unfold World.shape?;rw[ho,ho'];cases dP with
    |cells t fz h=>simp only[h.1]
    |_=>rfl
   rw[e];refine⟨?_,rfl⟩;cases hx:w.shape? a.block with
   |none=>rfl
   |some y=>
    obtain⟨t,n⟩:=y;simp only;rw[tI hw (a:={block:=a.block,off:=n}) (a':={block:=a'.block,off:=n}) ⟨ha.1,rfl,rfl⟩]
 unfold wU;rw[(key ha).1,(key hb).1,(key ha).2,(key hb).2]
theorem zQ{p:Program}{w:World}{r:Nat}{o:Obj}(h:w.heap[r]? =some o)(hn:∀a l,o≠.number a l){ρ:Ren}(hr:∃x,ρ x r/\¬S r)(es:Array Event):∃y,(numberAt r).runT p w es=(.ok none w,y)/\dR S ρ es y:=by
 by_cases hc:∃x t fz,o=.cells x t fz
 ·obtain⟨x,t,fz,rfl⟩:=hc;exact⟨es,by simp only[numberAt,shape,Sem.runT,Bind.bind,Sem.bind,World.shape?,h,Pure.pure,Option.isSome_some,if_true],.refl es⟩
 ·refine⟨es.push ⟨.obj r,false,o.isChan⟩,?_,.push hr⟩;cases o<;>first|exact absurd rfl (hn _ _)|exact absurd ⟨_,_,_,rfl⟩ hc|simp only[numberAt,shape,getObj,Sem.runT,Bind.bind,Sem.bind,World.shape?,h,Pure.pure,Option.isSome_none,Bool.false_eq_true,if_false]
theorem zR{p:Program}{w:World}{r:Nat}{a:Addr}{l:Bool}(h:w.heap[r]? =some (.number a l)){ρ:Ren}(hr:∃x,ρ x r/\¬S r)(es:Array Event):∃y,(numberAt r).runT p w es=(.ok (some (a,l)) w,y)/\dR S ρ es y:=
 ⟨es.push ⟨.obj r,false,false⟩,by simp only[numberAt,shape,getObj,Sem.runT,Bind.bind,Sem.bind,World.shape?,h,Pure.pure,Obj.isChan,Option.isSome_none,Bool.false_eq_true,if_false],.push hr⟩
theorem Fo{p:Program}{w:World}{r:Nat}{o:Obj}(h:w.heap[r]? =some o)(hn:∀a l,o≠.view a l){ρ:Ren}(hr:∃x,ρ x r/\¬S r)(es:Array Event):∃y,(viewAt r).runT p w es=(.ok none w,y)/\dR S ρ es y:=by
 by_cases hc:∃x t fz,o=.cells x t fz
 ·obtain⟨x,t,fz,rfl⟩:=hc;exact⟨es,by simp only[viewAt,shape,Sem.runT,Bind.bind,Sem.bind,World.shape?,h,Pure.pure,Option.isSome_some,if_true],.refl es⟩
 ·refine⟨es.push ⟨.obj r,false,o.isChan⟩,?_,.push hr⟩;cases o<;>first|exact absurd rfl (hn _ _)|exact absurd ⟨_,_,_,rfl⟩ hc|simp only[viewAt,shape,getObj,Sem.runT,Bind.bind,Sem.bind,World.shape?,h,Pure.pure,Option.isSome_none,Bool.false_eq_true,if_false]
theorem wV{p:Program}{w:World}{r:Nat}(h:Calm w.heap[r]?)(es:Array Event):(numberAt r).runT p w es=(.ok none w,es):=by obtain⟨x,t,fz,h,_⟩:=h;simp only[numberAt,shape,Sem.runT,Bind.bind,Sem.bind,World.shape?,h,Pure.pure,Option.isSome_some,if_true]
theorem CV{p:Program}{w:World}{r:Nat}(h:Calm w.heap[r]?)(es:Array Event):(viewAt r).runT p w es=(.ok none w,es):=by obtain⟨x,t,fz,h,_⟩:=h;simp only[viewAt,shape,Sem.runT,Bind.bind,Sem.bind,World.shape?,h,Pure.pure,Option.isSome_some,if_true]
theorem SR.Gk{α β:Type}{p:Program}{Q:Ren->α->β->Prop}{ρ:Ren}{K:Kn}{s:Sem α}{s':Sem β}(h:SR p Q ρ K s s'):TH S p Q ρ K s s':=by
 induction h with
 |pure h=>exact fun w w' es' hw _ ho=>⟨_,_,_,_,rfl,h,aW.refl hw,ho,.refl _⟩
 |@load ρ K m a a' k k' ha _ ih=>
  intro w w' es' hw hK hW;cases hc:w.cell? a with
  |some v=>
   obtain⟨v',fN,hv⟩:=pK hw ha hc;obtain⟨o,ho,hn⟩:=bY hc;exact bM.step (aW.refl hw) (.cell (u:=false) (v:=m==.atomic) ha.1 (hW.own ha.1 ho hn)) (by simp only[Sem.run,hc]) (by simp only[Sem.runT,fN]) (ih v v' hv w w' _ hw (hK.and ho hn) hW)
  |none=>
   obtain⟨x,hx,zu⟩:=Bt hw ha p (m==.atomic);have e:(Sem.load m a k).run p w=.halt x w:=by simp only[Sem.run,hc,hx]
   rw[e];exact bM.lost zu w
 |@store ρ K m a a' v v' k k' ha hv _ ih=>
  intro w w' es' hw hK hW
  by_cases h1:(∃x,v=.agg x)\/∃x,v=.tuple x
  ·have e:∃why,(Sem.store m a v k).run p w=.halt (.stuck why) w:=by
    rcases h1 with⟨x,rfl⟩|⟨x,rfl⟩<;>exact⟨_,rfl⟩
   obtain⟨why,e⟩:=e;rw[e];trivial
  ·have hn:(∀x,v≠.agg x)/\∀x,v≠.tuple x:=⟨fun x e=>h1 (.inl ⟨x,e⟩),fun x e=>h1 (.inr ⟨x,e⟩)⟩
   have hn':(∀x,v'≠.agg x)/\∀x,v'≠.tuple x:=by
    constructor
    ·rintro x rfl;cases hv;exact hn.1 _ rfl
    ·rintro x rfl;cases hv;exact hn.2 _ rfl
   cases hc:w.cell? a with
   |some u=>
    obtain⟨u',fN,_⟩:=pK hw ha hc;obtain⟨o,ho,hno⟩:=bY hc;have hfz:w'.frozen? a'=w.frozen? a:=DT hw ha hc;cases hf:w.frozen? a with
    |true=>
     have e:(Sem.store m a v k).run p w=.halt (.unsupported (.unsafePointer "a write to bytes that a string shares")) w:=by rw[iu hn.1 hn.2,hc];simp only[hf,if_true]
     rw[e];trivial
    |false=>
     have e:(Sem.store m a v k).run p w=k.run p (w.setCell a v):=by rw[iu hn.1 hn.2,hc];simp[hf]
     have e':(Sem.store m a' v' k').runT p w' es'=k'.runT p (w'.setCell a' v') (es'.push ⟨.cell a',true,m==.atomic⟩):=by rw[iN hn'.1 hn'.2,fN];simp[hfz,hf]
     exact bM.step (aW.set hw ha hv hc) (.cell ha.1 (hW.own ha.1 ho hno)) e e' (ih _ _ _ (hw.set ha hv hc) ((hK.and ho hno).set a v) (hW.set a v))
   |none=>
    obtain⟨x,hx,zu⟩:=xD hw ha p v (m==.atomic);have e:(Sem.store m a v k).run p w=.halt x w:=by rw[iu hn.1 hn.2,hc];simp only[hx]
    rw[e];exact bM.lost zu w
 |@new ρ K o o' k k' ho _ ih=>
  intro w w' es' hw hK hW;have hm:=aW.new hw ho;exact bM.step hm (.refl _) rfl rfl (ih _ _ _ _ _ hm.rel (hK.push (bp ho)) (hW.push hw (bp ho)))
 |@shape ρ K r r' k k' hr _ _ h1 ih xR=>
  intro w w' es' hw hK hW;cases hs:w.shape? r with
  |none=>
   by_cases Tk:K r
   ·have hs':w'.shape? r'=none:=by
     obtain⟨o,ho,hn⟩:=hK r Tk;rcases hw.obj _ _ _ hr ho with hp|⟨o',ho',dP⟩
     ·exact absurd hp hn
     ·unfold World.shape? at hs⊢;rw[ho]at hs;rw[ho'];cases dP<;>simp_all
    exact bM.step (s1:=k none) (s1':=k' none) (aW.refl hw) (.refl _) (by simp only[Sem.run,hs]) (by simp only[Sem.runT,hs']) (xR Tk w w' _ hw hK hW)
   ·obtain⟨x,hx,zu⟩:=h1 Tk;have e:(Sem.shape r k).run p w=.halt x w:=by simp only[Sem.run,hs,hx]
    rw[e];exact bM.lost zu w
  |some x=>
   have hs':w'.shape? r'=some x:=IJ hw hr hs
   have ho:∃o,w.heap[r]? =some o/\o≠aV:=by
    unfold World.shape? at hs;split at hs
    ·rename_i c t fz hc;exact⟨_,hc,by intro e;cases e⟩
    ·cases hs
   obtain⟨o,ho,hn⟩:=ho;exact bM.step (s1:=k (some x)) (s1':=k' (some x)) (aW.refl hw) (.refl _) (by simp only[Sem.run,hs]) (by simp only[Sem.runT,hs']) (ih x w w' _ hw (hK.and ho hn) hW)
 |@freeze ρ K a a' n k k' ha hk _ ih=>
  intro w w' es' hw hK hW;have hm:=aW.freeze hw ha n (hK _ hk);exact bM.step hm (.refl _) rfl rfl (ih _ _ _ hm.rel (hK.freeze a n) (hW.freeze a n))
 |@frozen ρ K a a' k k' ha hk _ ih=>
  intro w w' es' hw hK hW;have hf:=uG hw ha (hK _ hk);exact bM.step (s1:=k (w.frozen? a)) (s1':=k' (w.frozen? a)) (aW.refl hw) (.refl _) rfl (by simp only[Sem.runT,hf]) (ih _ w w' _ hw hK hW)
 |@getObj ρ K r r' k k' hr _ h0 ih=>
  intro w w' es' hw hK hW;have hlt:=hw.lt _ _ hr;obtain⟨o,ho⟩:∃o,w.heap[r]? =some o:=⟨_,Array.getElem?_eq_getElem hlt.1⟩
  by_cases dw:∃x t fz,o=.cells x t fz
  ·obtain⟨x,t,fz,rfl⟩:=dw;have e:∃why,(Sem.getObj r k).run p w=.halt (.stuck why) w:=⟨ "getObj: a row of cells",by simp only[Sem.run,ho]⟩;obtain⟨why,e⟩:=e;rw[e];trivial
  ·have e:(Sem.getObj r k).run p w=(k o).run p w:=by
    simp only[Sem.run,ho];cases o<;>first|rfl|exact absurd ⟨_,_,_,rfl⟩ dw
   rcases hw.obj _ _ _ hr ho with rfl|⟨o',ho',dP⟩
   ·obtain⟨x,hx,zu⟩:=h0;rw[e,hx];exact bM.lost zu w
   ·have e':(Sem.getObj r' k').runT p w' es'=(k' o').runT p w' (es'.push ⟨.obj r',false,o'.isChan⟩):=by
     simp only[Sem.runT,ho'];cases dP<;>first|rfl|exact absurd ⟨_,_,_,rfl⟩ dw
    exact bM.step (aW.refl hw) (.obj hr (hW.own hr ho (bp dP))) e e' (ih o o' dP w w' _ hw (hK.and ho (bp dP)) hW)
 |@setObj ρ K r r' o o' k k' hr hk ho _ ih=>
  intro w w' es' hw hK hW;obtain⟨x,hx,NU⟩:=hK r hk;rcases hw.obj _ _ _ hr hx with hp|⟨x',hx',dP⟩
  ·exact absurd hp NU
  ·have hm:=aW.put hw hr ho ⟨x,hx,NU⟩
   by_cases dw:∃y t fz,x=.cells y t fz
   ·obtain⟨y,t,fz,rfl⟩:=dw;have e:∃why,(Sem.setObj r o k).run p w=.halt (.stuck why) w:=⟨ "setObj: a row of cells",by simp only[Sem.run,hx]⟩;obtain⟨why,e⟩:=e;rw[e];trivial
   ·have e:(Sem.setObj r o k).run p w=k.run p {w with heap:=w.heap.setIfInBounds r o}:=by
     simp only[Sem.run,hx];cases x<;>first|rfl|exact absurd ⟨_,_,_,rfl⟩ dw
    have e':(Sem.setObj r' o' k').runT p w' es'=k'.runT p {w' with heap:=w'.heap.setIfInBounds r' o'} (es'.push ⟨.obj r',true,o'.isChan⟩):=by simp only[Sem.runT,hx'];cases dP<;>first|rfl|exact absurd ⟨_,_,_,rfl⟩ dw
    exact bM.step hm (.obj hr (hW.own hr hx NU)) e e' (ih _ _ _ hm.rel (hK.put r (bp ho)) (hW.put ⟨x,hx,NU⟩ (bp ho)))
 |@choose ρ K q k k' _ ih=>
  intro w w' es' hw hK hW
  by_cases hq:q.forced=true
  ·exact bM.step (s1:=k 0) (s1':=k' 0) (aW.refl hw) (.refl _) (by simp only[Sem.run,hq,if_true]) (by simp only[Sem.runT,hq,if_true]) (ih 0 w w' _ hw hK hW)
  ·have ht:w'.tape w'.drawn q=w.tape w.drawn q:=hw.tape 0 q;have hm:=aW.draw hw;exact bM.step (s1:=k (q.cut (w.tape w.drawn q))) (s1':=k' (q.cut (w.tape w.drawn q))) hm (.refl _) (by simp only[Sem.run,hq,if_false,Bool.false_eq_true]) (by simp only[Sem.runT,hq,if_false,ht,Bool.false_eq_true]) (ih _ _ _ _ hm.rel hK hW)
 |@program ρ K k k' _ ih=>
  intro w w' es' hw hK hW;exact bM.step (aW.refl hw) (.refl _) rfl rfl (ih w w' _ hw hK hW)
 |@env ρ K k k' _ ih=>
  intro w w' es' hw hK hW;exact bM.step (s1:=k (.strings w.os.env)) (s1':=k' (.strings w.os.env)) (aW.refl hw) (.out (u:=true) (v:=false)) rfl (by rw[<-hw.os];rfl) (ih _ w w' _ hw hK hW)
 |@noRoom ρ K k k' _ ih=>
  intro w w' es' hw hK hW;exact bM.step (aW.refl hw) .room rfl rfl (ih w w' _ hw hK hW)
 |panic h=>exact fun w w' es' hw _ hW=>⟨_,_,_,_,rfl,h,aW.refl hw,hW,.refl _⟩
 |lost h=>exact fun w w' es' _ _ _=>bM.lost h w
 |Bo h=>
  intro w w' es' _ _ _;obtain⟨x,w1,e,hx⟩:=h w;rw[e];exact bM.lost hx w1
 |assume _ ih=>exact fun w w' es' hw hK hW=>ih ⟨hw.one,hw.low⟩ w w' es' hw hK hW
 |@number ρ K r r' k k' hr _ _ xR ih1=>
  intro w w' es' hw hK hW;obtain⟨o,ho⟩:∃o,w.heap[r]? =some o:=⟨_,Array.getElem?_eq_getElem (hw.lt _ _ hr).1⟩;rcases hw.obj _ _ _ hr ho with rfl|⟨o',ho',dP⟩
  ·have e:(numberAt r).run p w=.ok none w:=jk ho (fun a l e=>by cases e);exact bM.step (s1:=k none) (s1':=k' none) (aW.refl hw) (.refl _) (by rw[Sem.run_bind',e];rfl) (by rw[bq,wV (hw.calm _ _ hr ho)]) (xR w w' _ hw hK hW)
  ·have hno:=bp dP
   by_cases hn:∃a l,o=.number a l
   ·obtain⟨a,l,rfl⟩:=hn;cases dP with
    |@number _ a' _ ha=>
     obtain⟨y,hy,hl⟩:=zR (p:=p) ho' ⟨_,hr,hW.own hr ho hno⟩ es';exact bM.step (s1:=k (some (a,l))) (s1':=k' (some (a',l))) (aW.refl hw) hl (by rw[Sem.run_bind',sw ho];rfl) (by rw[bq,hy]) (ih1 a a' l ha w w' _ hw (hK.and ho (by intro e;cases e)) hW)
   ·have e:(numberAt r).run p w=.ok none w:=jk ho (fun a l e=>hn ⟨a,l,e⟩);obtain⟨y,hy,hl⟩:=zQ (p:=p) ho' (fun a l e=>by subst e;cases dP;exact hn ⟨_,_,rfl⟩) ⟨_,hr,hW.own hr ho hno⟩ es';exact bM.step (s1:=k none) (s1':=k' none) (aW.refl hw) hl (by rw[Sem.run_bind',e];rfl) (by rw[bq,hy]) (xR w w' _ hw hK hW)
 |@Ts ρ K a a' k k' ha _ ih=>
  intro w w' es' hw hK hW;have hf:=tI hw ha;exact bM.step (s1:=k (w.frozen? a)) (s1':=k' (w.frozen? a)) (aW.refl hw) (.refl _) rfl (by simp only[Sem.runT,hf]) (ih _ w w' _ hw hK hW)
 |@VB ρ K a a' b b' k k' ha hb _ ih=>
  intro w w' es' hw hK hW;have e:(mayBeOne a b).run p w=.ok (wU w a b) w:=by rw[<-Sem.runT_fst p _ w #[],iE]
  exact bM.step (s1:=k (wU w a b)) (s1':=k' (wU w a b)) (aW.refl hw) (.refl _) (by rw[Sem.run_bind',e];rfl) (by rw[bq,iE,Ie hw ha hb]) (ih _ w w' _ hw hK hW)
 |@view ρ K r r' k k' hr _ xR=>
  intro w w' es' hw hK hW;obtain⟨o,ho⟩:∃o,w.heap[r]? =some o:=⟨_,Array.getElem?_eq_getElem (hw.lt _ _ hr).1⟩;rcases hw.obj _ _ _ hr ho with rfl|⟨o',ho',dP⟩
  ·have e:(viewAt r).run p w=.ok none w:=rI ho (fun a t e=>by cases e);exact bM.step (s1:=k none) (s1':=k' none) (aW.refl hw) (.refl _) (by rw[Sem.run_bind',e];rfl) (by rw[bq,CV (hw.calm _ _ hr ho)]) (xR w w' _ hw hK hW)
  ·have hno:=bp dP;have e:(viewAt r).run p w=.ok none w:=rI ho (fun a t e=>by subst e;cases dP);obtain⟨y,hy,hl⟩:=Fo (p:=p) ho' (fun a t e=>by subst e;cases dP) ⟨_,hr,hW.own hr ho hno⟩ es';exact bM.step (s1:=k none) (s1':=k' none) (aW.refl hw) hl (by rw[Sem.run_bind',e];rfl) (by rw[bq,hy]) (xR w w' _ hw hK hW)
end
section
open Go Go.Conc
def PV:Op->Bool
 |.defer _=>false
 |_=>true
def Oh(P:Program)(l:List FuncId)(r:Bool)(o:Op):Bool:=okB P l o&&(!r||PV o)
def dM(P:Program)(l:List FuncId):Bool->Code->Bool
 |_,.skip|_,.exit _|_,.ret=>true
 |r,.region _ ops _=>ops.all fun o=>Oh P l r o.op
 |r,.seq a b=>dM P l r a&&dM P l r b
 |r,.cond c a b=>bF l c&&dM P l r a&&dM P l r b
 |r,.block _ b=>dM P l r b
 |r,.loop b=>dM P l r b
 |_,.rangeFunc f _ a b=>bF l f&&dM P l true a&&dM P l true b
 |_,.scope _|_,.label _|_,.goto _|_,.refuse _=>false
theorem LC{P:Program}{l:List FuncId}{r:Bool}{o:Op}(h:Oh P l true o=true):Oh P l r o=true:=by
 unfold Oh at h⊢;cases r
 ·simp only[Bool.and_eq_true]at h;simp[h.1]
 ·exact h
theorem iG{P:Program}{l:List FuncId}{r:Bool}:∀{c:Code},dM P l true c=true->dM P l r c=true
 |.skip,_|.exit _,_|.ret,_=>by cases r<;>rfl
 |.region _ ops _,h=>by have h:(ops.all fun o=>Oh P l true o.op)=true:=h;show(ops.all fun o=>Oh P l r o.op)=true;rw[Array.all_eq_true_iff_forall_mem]at h⊢;exact fun o ho=>LC (h o ho)
 |.seq a b,h=>by simp only[dM,Bool.and_eq_true]at h⊢;exact⟨iG h.1,iG h.2⟩
 |.cond c a b,h=>by simp only[dM,Bool.and_eq_true]at h⊢;exact⟨⟨h.1.1,iG h.1.2⟩,iG h.2⟩
 |.block _ b,h=>by simp only[dM]at h⊢;exact iG h
 |.loop b,h=>by simp only[dM]at h⊢;exact iG h
 |.rangeFunc f _ a b,h=>by simp only[dM]at h⊢;exact h
 |.scope _,h|.label _,h|.goto _,h|.refuse _,h=>by simp[dM]at h
class aB where
 wall:String->Item
 good:∀s,(∃c,wall s=.code c)\/∃c,wall s=.inLoop c
section
variable [aR] [aB]
structure Fit(P:Program)(l:List FuncId):Prop where
 zeros:iy P
 fns:qM P
 ok:∀f,aR.ok f↔l.contains f=true
 code:∀c,aR.code c↔dM P l true c=true
 body:∀f,l.contains f=true->∃fn c,P.funcs[f]? =some fn/\fn.body=some c/\dM P l false c=true
 inits:∀f,aR.known f->P.inits.idxOf? f=none
 known:∀f,aR.known f->∃fn c,P.funcs[f]? =some fn/\fn.body=some c
 VL:∀f,aR.ok f->aR.known f
inductive IR(P:Program)(l:List FuncId)(ρ:Ren)(r:Bool):Item->Item->Prop
 |code {c:Code} (h:dM P l r c=true):IR P l ρ r (.code c) (.code c)
 |inBlock (id:Nat):IR P l ρ r (.inBlock id) (.inBlock id)
 |inLoop {b:Code} (h:dM P l r b=true):IR P l ρ r (.inLoop b) (.inLoop b)
 |inRegion {ops:Array Oper} (todo:List Nat) (h:(ops.all fun o=>Oh P l r o.op)=true):IR P l ρ r (.inRegion ops todo) (.inRegion ops todo)
 |inRangeFunc {n n':Nat} (h:ρ n n'):IR P l ρ r (.inRangeFunc n) (.inRangeFunc n')
 |endRangeFunc {n n':Nat} (h:ρ n n'):IR P l ρ r (.endRangeFunc n) (.endRangeFunc n')
 |beginRound:IR P l ρ r .beginRound .beginRound
 |stop (s:String):IR P l ρ r (.code (.refuse s)) (aB.wall s)
def MM(ρ:Ren)(e e':PanicEntry):Prop:=VR ρ e.v e'.v/\e'.recovered=e.recovered/\e.goexit=false/\e'.goexit=false
inductive Jo(ρ:Ren):FrameMode->FrameMode->Prop
 |run:Jo ρ .run .run
 |returning:Jo ρ .returning .returning
 |panicking {c c':List PanicEntry} (h:bU (MM ρ) c c'):Jo ρ (.panicking c) (.panicking c')
structure dZ(P:Program)(l:List FuncId)(ρ:Ren)(fr fr':Frame):Prop where
 fn:fr'.fn=fr.fn
 ok:aR.known fr.fn
 tmps:cF ρ fr.tmps fr'.tmps
 todo:bU (IR P l ρ fr.roundOf.isSome) fr.todo fr'.todo
 defers:bU (DR ρ) fr.defers fr'.defers
 mode:Jo ρ fr.mode fr'.mode
 kind:fr'.kind=fr.kind
 kinds:fr.kind=.normal\/fr.kind=.deferred
 round:Dk ρ fr.roundOf fr'.roundOf
theorem bU.mono{α β:Type}{R S:α->β->Prop}(h:∀a b,R a b->S a b){x:List α}{y:List β}(k:bU R x y):bU S x y:=by
 induction k with
 |nil=>exact .nil
 |cons h1 _ ih=>exact .cons (h _ _ h1) ih
theorem bU.append{α β:Type}{R:α->β->Prop}{x:List α}{y:List β}{x2:List α}{y2:List β}(k:bU R x y)(k2:bU R x2 y2):bU R (x++x2) (y++y2):=by
 induction k with
 |nil=>exact k2
 |cons h1 _ ih=>exact .cons h1 ih
theorem IR.mono{P:Program}{l:List FuncId}{ρ σ:Ren}{r:Bool}(g:ρ.le σ){a b:Item}(h:IR P l ρ r a b):IR P l σ r a b:=by
 cases h with
 |code h=>exact .code h
 |inBlock id=>exact .inBlock id
 |inLoop h=>exact .inLoop h
 |inRegion t h=>exact .inRegion t h
 |inRangeFunc h=>exact .inRangeFunc (g _ _ h)
 |endRangeFunc h=>exact .endRangeFunc (g _ _ h)
 |beginRound=>exact .beginRound
 |stop s=>exact .stop s
theorem MM.mono{ρ σ:Ren}(g:ρ.le σ){a b:PanicEntry}(h:MM ρ a b):MM σ a b:=⟨h.1.mono g,h.2⟩
theorem Jo.mono{ρ σ:Ren}(g:ρ.le σ){a b:FrameMode}(h:Jo ρ a b):Jo σ a b:=by
 cases h with
 |run=>exact .run
 |returning=>exact .returning
 |panicking h=>exact .panicking (h.mono fun _ _=>MM.mono g)
theorem Dk.mono{ρ σ:Ren}(g:ρ.le σ){a b:Option Nat}(h:Dk ρ a b):Dk σ a b:=by
 cases h with
 |none=>exact .none
 |some h=>exact .some (g _ _ h)
theorem dZ.mono{P:Program}{l:List FuncId}{ρ σ:Ren}(g:ρ.le σ){a b:Frame}(h:dZ P l ρ a b):dZ P l σ a b:=
 ⟨h.fn,h.ok,h.tmps.mono g,h.todo.mono fun _ _=>IR.mono g,h.defers.mono fun _ _=>DR.mono g,h.mode.mono g,h.kind,h.kinds,h.round.mono g⟩
theorem dZ.eval{P:Program}{l:List FuncId}{ρ:Ren}{fr fr':Frame}(h:dZ P l ρ fr fr')(hl:∀f,l.contains f=true->aR.ok f):Reads l ρ fr.eval fr'.eval:=by
 intro x hx;cases x with
 |tmp t=>
  show VR ρ (fr.tmps.getD t undef) (fr'.tmps.getD t undef)
  by_cases ht:t<fr.tmps.size
  ·have ht':t<fr'.tmps.size:=by rw[h.tmps.1];exact ht
   simp only[Array.getD,ht,ht',dif_pos];exact h.tmps.2 t _ _ (by simp[ht]) (by simp[ht'])
  ·have ht':¬t<fr'.tmps.size:=by rw[h.tmps.1];exact ht
   simp only[Array.getD,ht,ht',dif_neg,not_false_eq_true];exact .tuple rfl (fun i v v' hv=>by simp at hv)
 |const v=>exact ya hx ρ
 |global g=>cases hx
 |func f=>exact .func (.func f (hl f hx)) rfl (fun i v v' hv=>by simp at hv) rfl (fun i v v' hv=>by simp at hv)
theorem cK(ρ:Ren):VR ρ undef undef:=.tuple rfl (fun i v v' hv=>by simp at hv)
theorem dZ.finish{P:Program}{l:List FuncId}{ρ:Ren}{fr fr':Frame}(h:dZ P l ρ fr fr'){v v':Value}(hv:VR ρ v v'):dZ P l ρ (fr.finish v) (fr'.finish v'):=by
 have h0:=h;obtain⟨h1,h2,h3,h4,h5,h6,h7,h8,h9⟩:=h;unfold Frame.finish;revert h4;cases hx:fr.todo with
 |nil=>intro h4;cases h4k:fr'.todo with
  |nil=>exact h0
  |cons a k=>rw[h4k]at h4;cases h4
 |cons i k=>
  intro h4;cases hy:fr'.todo with
  |nil=>rw[hy]at h4;cases h4
  |cons i' k'=>
   rw[hy]at h4;cases h4 with
   |cons hi hk=>
    cases hi with
    |@inRegion ops todo hop=>
     cases todo with
     |nil=>exact h0
     |cons j rest=>
      refine⟨h1,h2,?_,.cons (.inRegion rest hop) hk,h5,h6,h7,h8,h9⟩;show cF ρ (match(ops[j]?).bind (·.dst)with|some d=>fr.tmps.setIfInBounds d v|none=>fr.tmps) (match(ops[j]?).bind (·.dst)with|some d=>fr'.tmps.setIfInBounds d v'|none=>fr'.tmps);cases (ops[j]?).bind (·.dst)with
      |none=>exact h3
      |some d=>exact h3.set hv d
    |inRangeFunc hn=>exact⟨h1,h2,h3,.cons (.endRangeFunc hn) hk,h5,h6,h7,h8,h9⟩
    |beginRound=>exact⟨h1,h2,h3,hk,h5,h6,h7,h8,h9⟩
    |stop s=>rcases aB.good s with⟨c,e⟩|⟨c,e⟩<;>(rw[e];exact h0)
    |_=>exact h0
theorem dZ.raise{P:Program}{l:List FuncId}{ρ:Ren}{fr fr':Frame}(h:dZ P l ρ fr fr'){c c':List PanicEntry}(hc:bU (MM ρ) c c'):dZ P l ρ (fr.raise c) (fr'.raise c'):=by
 obtain⟨f1,f2,f3,f4,f5,f6,f7⟩:=fr;obtain⟨k1,k2,k3,k4,k5,k6,k7⟩:=fr';obtain⟨h1,h2,h3,h4,h5,h6,h7,h8,h9⟩:=h;unfold Frame.raise;simp only at h6⊢;cases h6 with
 |run=>exact⟨h1,h2,h3,h4,h5,.panicking hc,h7,h8,h9⟩
 |returning=>exact⟨h1,h2,h3,h4,h5,.panicking hc,h7,h8,h9⟩
 |panicking hm=>exact⟨h1,h2,h3,h4,h5,.panicking (hc.append hm),h7,h8,h9⟩
end
end
end Go.Proofs.YtpobhljcainmdaaGreat
