/- Parts of the proof. -/
import Derived.Conc.LeavingOf
import Derived.Test.YtpobhljcainmdaaGreatJ06
set_option maxRecDepth 100000
set_option maxHeartbeats 8000000
set_option linter.all false
namespace Go.Proofs.YtpobhljcainmdaaGreat
open Go renaming World->an,Frame->aJ,Goroutine->bw,FuncId->bh,Value->au,Program->aN,Ending->jP,Func->gn,TypeId->aK,Trace->eW,goexitEntry->Ad,Oper->dW,Code->jO
open _root_.List.range renaming loop->oG
open Go.MemAct renaming ofEvent->cI,touch?->xQ
open _root_.Nat renaming reduceAdd->oJ
open _root_.List renaming range->dM
open Go.World renaming cell?->eO,setCell->fD,frozen?->oK
open Go.MemOp renaming ofEvents_g->lD,ofEvents->jq
open Go.Region renaming wanted->cL
open Go.Conc renaming aside_setCell->Cm,Deaf_other->nC,enter_at->sH,stepG_value->Ai,mem_seen->pX,Leavers->zQ
open Go.Exit renaming inBlock->BI
open Go.Sem renaming events->Cj,runT_fst->iW,bind->cA
open Go.Frame renaming finish_at->xG
open _root_.Array renaming getElem?_mapIdx->TS,replicate->pR
open Go.Deferred renaming ofValue->vM
open Go.Instr renaming yield->zP
open Go.ConcR renaming WgAt->LJ
open Go.GStep renaming after->jo
section
open Classical
open Go.Conc
open Go.ConcN (ShN WgLive sumTo upd)
open Go.ConcR (WgAt)
section
variable [aA] [aW] {P:aN} {Post:aJ->List aJ->an->Prop} {fr:aJ} {cs:List aJ} {u w w1:an} {gs jI:Array bw} {t:eW} {q:Nat->Nat} {Shun:Loc->Prop} {S:Nat->Prop} {ρ:Ren} {ty:aK} {MX:Nat->(Nat->Prop)->bw->an->Prop} {Q:Nat->(Nat->Prop)->an->Prop} {M:Nat} {sl:Option (Nat×Nat)} {x:Obj}
theorem WH{Wg st sm}(h:WgAt ty Wg w st sm):Calm w.heap[Wg]? :=by unfold LJ at h;rw[h];exact⟨_,_,_,rfl,aq,aV _⟩
theorem Zm(d:eY P Shun S fr cs u ρ gs w t q)(W:w1.heap=w.heap.push x)(L:gC w w1)(aQ:WgAt ty w.heap.size w1 0 0){a}(ha:jI[0]? =some a)(aO:jI.size=gs.size)(hL:zQ P t jI q)(hM:M<2147483647)
  (ZO:MS P ty w.heap.size MX Q M 0 .opn (fun b=>ρ b b/\¬S b) a w1)
  (IG:∀m F B n (s:Nat->Nat->Prop),MX m F B n->(∀i,i<m->Q i (s i) n)->(∀b,F b->∀i,i<m->¬s i b)->(∀b i j,i<m->j<m->s i b->s j b->i=j)->(∀b,F b\/(∃i,i<m/\s i b)->b≠w.heap.size/\b<n.heap.size/\¬S b/\((ρ b b/\¬S b)\/w.heap.size<b))->WgAt ty w.heap.size n 0 0->gC w1 n->
   ∃z y Own,B=G z y/\Post z y (mask Own n)/\(∀b,Own b->b≠w.heap.size/\(b<w.heap.size->ρ b b/\¬S b)/\∃o,n.heap[b]? =some o/\OR (dL fun b=>Own b\/S b\/b=w.heap.size) o o)/\XF (dL fun b=>Own b\/S b\/b=w.heap.size) z/\(∀b,ρ b b->Own b\/S b\/b=w.heap.size)/\nH (dL fun b=>Own b\/S b\/b=w.heap.size) y):
  CE P Post ρ Shun w jI w1 sl t:=by
 have bn:w1.heap.size=w.heap.size+1:=by rw[W];simp
 have T:∀b,b<w.heap.size->w1.heap[b]? =w.heap[b]? :=fun b hb=>by rw[W,eN,aD ak]
 have I:∀b,S b->b<w.heap.size:=fun b hb=>by obtain⟨c,r⟩:=d.whole.has b hb;exact(d.world.lt c b r).2
 have X:∀b,ρ b b->b<w.heap.size:=fun b hb=>(d.world.lt b b hb).2
 have ZD:(fun b=>ρ b b/\¬S b)=(fun k b=>k=0/\(ρ b b/\¬S b):Nat->Nat->Prop) 0:=by
  funext b
  apply propext;exact⟨fun h=>⟨rfl,h⟩,fun h=>h.2⟩
 have hI:Inv P ty w.heap.size Shun Q M jI.size ⟨fun b=>b<w1.heap.size/\¬(ρ b b/\¬S b)/\b≠w.heap.size,fun b=>ρ b b/\¬S b,w1⟩ .opn a false w1 0 (fun _=>⟨.quit,fun _=>False,a,w1,0⟩) (fun k b=>k=0/\(ρ b b/\¬S b)) q jI w1 t:=
  .start (fun b hb hx=>hx.2.1 hb) (fun b hb=>hb.1) (.refl ..) (fun h=>h.2.2 rfl) hM ha hL d.past (by rw[aO];exact d.fM) aQ (fun b hb=>by have:=X b hb.1;omega) (fun h=>sB _ (X _ h.1)) fun b hb l g aL=>by
   obtain⟨v,rfl,_,H⟩:=d.clear l aL;rcases g with⟨aj,e,rfl⟩|e
   ·cases e;exact hb.2 (H _ hb.1)
   ·cases e
 obtain⟨N,B,bt,m,f,O,q1,aq,n,bg,t',aI,p,aH,A⟩:=phase ZO _ _ q jI w1 sl t ZD.symm hI;obtain⟨o1,⟨q',o2⟩,o3,Z,o5,o6,o7,o8,o9⟩:=p.over;have V:=p.tc;have PT:=p.many
 have Y:∀b,(ρ b b/\¬S b)\/w1.heap.size<=b->¬S b:=fun b hb U=>hb.elim (fun h=>h.2 U) fun h=>by have:=I b U;omega
 obtain⟨z,y,Own,rfl,h1,C,H,az,h4⟩:=IG m (O 0) B n (fun i=>O (jI.size+i)) aH o5 (fun b hb i hi h=>by have:=V.one _ _ b hb h;omega) (fun b i j _ _ h h'=>by have:=V.one _ _ b h h';omega) (fun b hb=>by
  rcases hb with hb|⟨i,_,hb⟩
  ·exact⟨fun e=>o9 0 (e▸hb),o8 0 b hb,Y b (p.all.old 0 b hb),(p.all.old 0 b hb).imp id fun h=>by(have h:w1.heap.size<=b:=h;omega)⟩
  ·exact⟨fun e=>o9 _ (e▸hb),o8 _ b hb,Y b (p.all.old _ b hb),(p.all.old _ b hb).imp id fun h=>by(have h:w1.heap.size<=b:=h;omega)⟩) Z A
 have bp:=A.size;refine⟨N,fun l=>Shun l\/ShN w.heap.size l,fun b=>S b\/b=w.heap.size,_,z,y,mask Own n,aq,n,bg,t',q',aI,h1,QK d.world.os.2 o1 o2 o3 o6 (fun b hb=>?_) (fun b hb=>?_) ?_ H h4 fun l g=>?_,?_,fun v g=>?_⟩
 ·obtain⟨k1,E,k3⟩:=C b hb;refine⟨?_,k3⟩;rintro(h|h)
  ·exact(E (I b h)).2 h
  ·exact k1 h
 ·rcases hb with hb|rfl
  ·have J:=I b hb;refine⟨ak,?_⟩;have e:n.heap[b]? =w1.heap[b]? :=o7.own b ⟨ak,fun h=>h.2 hb,ak⟩;rw[e,T b J];obtain⟨c,r⟩:=d.whole.has b hb;rcases d.whole.all c b r with⟨h,_⟩|⟨_,h⟩
   ·exact absurd hb h
   ·exact d.world.calm c b r h
  ·exact⟨ak,WH Z⟩
 ·have:=d.world.base;have:=d.size;omega
 ·rcases g with g|⟨v,rfl,g⟩
  ·obtain⟨v,e,R,h6⟩:=d.clear l g;refine⟨v,e,ak,fun K=>?_⟩;obtain⟨_,E,_⟩:=C _ K;exact(E R).2 (h6 _ (E R).1)
  ·exact⟨v,rfl,by rw[g];omega,fun K=>(C _ K).1 g⟩
 ·refine⟨fun a b D=>?_,ak,fun b hb hn=>?_,fun a b D=>?_,A.os.trans L.os,A.output.trans L.output,A.tape.trans L.tape⟩
  ·obtain rfl:=d.same _ _ D;exact⟨rfl,az a D⟩
  ·exact(o7.own b ⟨ak,fun h=>hn b h.1,ak⟩).trans (T b hb)
  ·obtain⟨rfl,hb⟩:=D
   by_cases J:w.heap.size<=a
   ·exact .inr J
   ·rcases hb with hb|hb|hb
    ·exact .inl ((C a hb).2.1 ak).1
    ·obtain⟨c,r⟩:=d.whole.has a hb;have e:=d.same _ _ r;subst e;exact .inl r
    ·omega
 ·rcases g with g|⟨aj,e,g⟩
  ·exact .inl g
  ·cases e;exact .inr ak
end
end
section
open Go.Conc
open Go.ConcN (sumTo)
section
variable [aA] {P:aN} {l:List bh} {ρ:Ren} {fr:aJ} {cs:List aJ} {u w:an} {gs:Array bw} {t:eW} {q:Nat->Nat} {Shun:Loc->Prop} {S:Nat->Prop}
theorem OR.eq(j:∀a b,ρ a b->a=b){o o'}(h:OR ρ o o'):o'=o:=by
 haveI:aW:=bE []
 cases h with
 |cells t Q h=>rw[bf.eq j h]
 |@map x k c h=>
  have:x=k:=by apply xy h.1.symm;intro i e d;obtain⟨I,J,v⟩:=h.2 i _ _ (cw e) (cw d);have n:=VR.eq j I;have p:=VR.eq j J;cases G:x[i];cases H:k[i];rw[G,H]at n p v;simp only at n p v;rw[n,p,v]
  rw[this]
 |chan N O s r t=>rfl
 |@loop l K h0 e d f g C D E F=>
  have A:=bf.eq j g;have B:=j _ _ F;cases l;cases K;simp only at e d f A C D E B;subst e d f A C D E B;rfl
 |uQ=>rfl
 |rz=>rfl
 |@number a m l h=>
  obtain⟨e,d,f⟩:=h;obtain⟨x,y,z⟩:=a;obtain⟨k,L,M⟩:=m;have g:=j _ _ e;simp only at d f g;rw[d,f,g]
 |@view a m l _ h=>
  obtain⟨e,d,f⟩:=h;obtain⟨x,y,z⟩:=a;obtain⟨k,L,M⟩:=m;have g:=j _ _ e;simp only at d f g;rw[d,f,g]
theorem eY.heap(d:eY P Shun S fr cs u ρ gs w t q){b o}(i:u.heap[b]? =some o)(g:o≠bG):ρ b b/\¬S b/\w.heap[b]? =some o/\OR (dL fun b=>ρ b b) o o:=by
 haveI:aW:=bE []
 obtain⟨n,f⟩:=d.full b o i g;obtain rfl:=d.same _ _ f;rcases d.world.obj b b o f i with h|⟨p,m,j⟩
 ·exact absurd h g
 ·obtain rfl:=j.eq d.same;refine⟨f,d.whole.own f i g,m,?_⟩;have:=j.right;refine this.mono fun a c h=>⟨h.1,?_⟩;obtain⟨x,k⟩:=h.2;have e:=d.same _ _ k;subst e;exact k
theorem eY.cell(e:eY P Shun S fr cs u ρ gs w t q){ad v}(h:u.cell? ad=some v):ρ ad.block ad.block/\¬S ad.block/\w.cell? ad=some v:=by obtain⟨o,a,f⟩:=og h;obtain⟨b,c,d,_⟩:=e.heap a f;refine⟨b,c,?_⟩;unfold eO at h⊢;rw[a]at h;rw[d];exact h
theorem eY.El(a:eY P Shun S fr cs u ρ gs w t q){b}(h:ρ b b)(hS:¬S b):∃o,u.heap[b]? =some o/\o≠bG:=by
 rcases a.whole.all b b h with⟨_,o,d,c⟩|⟨h,_⟩
 ·exact⟨o,d,c⟩
 ·exact absurd h hS
theorem eK.El{Own}[DecidablePred Own](h:eK P ρ u w)(d:∀a b,ρ a b->Own b):eK P ρ u (mask Own w):=
 haveI:aW:=bE []
 ⟨h.one,fun a b c=>by rw[vh];exact h.lt a b c,fun a b o c e=>by rw[nX (d a b c)];exact h.obj a b o c e,h.low,h.base,fun a b c f=>by rw[nX (d a b c)];exact h.calm a b c f,h.os⟩
theorem Reach.left(p:Fit P l){R:jP->an->Prop}(W:∀ρ,@cH Item Item (@IR (bE []) P l ρ false) fr.todo fr.todo)(A:fr.roundOf=none)(hR:∀e u d,R e u->R e (an.tp u d))(z:∀e u,R e u->∃v,e=.returned v)
  (h:∀d,∃e b c,R e b/\Comes P (lone fr [bot P] (u.tp d)) (lone c [bot P] b) e/\c.fn=fr.fn/\c.leaving P b e):
  Reach P (fun c j b=>j=cs/\c.fn=fr.fn/\∃e,e≠.outgrown/\R e b/\c.leaving P b e) fr cs u:=fun Shun S ρ gs w sl t q a hV=>by
 letI:aW:=bE []
 have y:bY P l ρ fr fr:=⟨rfl,a.top.known,a.top.tmps,by rw[A];exact W ρ,a.top.defers,a.top.mode,rfl,.inl a.top.kind,by rw[A];exact .none⟩;have C:Still cs:=fun f M=>.inl (a.below.run f M);have J:Beside P l cs Shun S fr [] u ρ gs w t q:=⟨⟨_,a.oY,⟨_,[],rfl,y,.nil⟩⟩,a.world,a.whole,a.gh,a.past,a.clear,a.same,a.size,a.fM,a.full⟩
 have K:lH P l fr [] u:=by have:lH P l fr [] (u.tp (laid u w)):=⟨S,ρ,cs,_,w,C,⟨_,[],rfl,y,.nil⟩,a.world.lay,a.whole⟩;exact this.tp u.tape
 have X:nP P (Left P fr.fn R) fr [] u:=by refine Lk p AT (fun c j b d T ⟨i,k,e,m,o,I⟩=>⟨i,k,e,m,hR e b d o,Qt p T d I⟩) K fun d _=>?_;obtain⟨e,b,c,i,k,m,o⟩:=h d;obtain⟨v,rfl⟩:=z e b i;obtain⟨n,V⟩:=k;exact⟨n,c,[],b,V,rfl,m,_,aq,i,o⟩
 obtain⟨N,aQ,c,j,b,H,w',aI,t',q',r1,r2,⟨rfl,O,e,he,s,U⟩,r4,E⟩:=Li p AT C X (sumTo gs.size q+1) ρ gs w sl t q ak J;obtain⟨⟨g,Q,G,aR,rfl,x,L⟩,Z,k3,k4,k5,k6,r,k8,k9,Y⟩:=r4;cases L;have B:=x.same r;obtain⟨v,rfl⟩:=z e b s;obtain⟨l1,l2,D,F,l4,l5⟩:=U;refine⟨N,Shun,S,aQ,G,cs,b,H,w',aI,t',q',r1,⟨rfl,by rw[B];exact O,.returned v,aq,s,?_⟩,⟨Q,x.xf r D,a.below.mono E.le,Z,k3,k4,k5,k6,r,k8,k9,Y⟩,E,.refl Shun w⟩;rw[B];exact⟨l1,l2,D,F,l4,l5⟩
end
end
section
open Go.Conc
section
variable [aA]
end
section
variable {H:Type} {enc:aK×au->H}
theorem aad{a C os f fn}{s:OpenSpec}{k:(H:Type)->List (DataW H)->Bool}(B:s.cond=some k){F:Stop.Interp}{c:List PathCond}{apart fresh l h:Bool}(own:ownKnob C.prog.godebug=none)(P:os.Started)(y:C.prog.funcs[f]? =some fn)(Q:∃(w:an) (tape:Tape) (i:Input),w.os=os/\(w.forCall tape i).Shaped C.prog/\i.vars=[]/\Input.okWide C.prog (w.forCall tape i) .any w.heap.size f i/\
   s.pre6 enc C.prog fn c apart (w.forCall tape i).memory i.args/\a.holds C.prog (lone (Frame.enter C.prog f i.args .normal) [] (w.forCall tape i))) (O:∀(W:an) (base:Nat) (args:Array au) (b gs:List (DataW H)) (g:List MemPlace),World.ShapedOpen C.prog W->
   (∀(j:Nat) t v,fn.params[j]? =some t->args[j]? =some v->Value.okWide C.prog W .any base t v)->
   DataW.Whole enc C.prog fn.params.toList s.vars apart W args.toList b gs g->
   c.all (PathCond.test C.prog ⟨fn.params.toList,b,s.bare.plain.varTypes C.prog,gs⟩)=true->k H (b++gs)=true->
   a.holds C.prog (lone (Frame.enter C.prog f args .normal) [] W)->
   ∃M last o w' d,runNT C.prog (M+1) (solo (G (Frame.enter C.prog f args .normal) []) W) #[]=(.ended o w',d)/\runN C.prog M (solo (G (Frame.enter C.prog f args .normal) []) W)=.next last/\
    step C.prog last=.ended o w'/\Conc.Good C.prog (fun v m=>(s.at F).post enc C.prog fn apart fresh l h W args v m) last o w' d):
  ReturnsInLeavingWide a C os f .any (s.pre6 enc C.prog fn c apart) ((s.at F).post enc C.prog fn apart fresh l h):=by
 refine returnsInLeavingWide_of_good own P Q ?_;intro w tape i R K S E J A;obtain⟨_,_,_,n,z,_,_,_,_,L⟩:=E;have e:n=fn:=dm (z.symm.trans y);subst e;obtain⟨b,gs,g,N,x,D⟩:=(OpenSpec.pre_some B c apart _ _).1 J.1;obtain⟨M,last,o,w',d,p,q,r,u⟩:=O (w.forCall tape i) w.heap.size i.args b gs g K L (DataW.Whole.of_heap (w':=w.forCall tape i) (by rfl) N) x D A;exact⟨M,last,o,w',d,p,q,r,u.mono fun v I=>ChangeSpec.post_blind I⟩
end
section
variable [aA] [aW] {P:aN}
theorem aei{t:aK}{d:TypeDesc}(h:P.underlying t=some d)(w es):(underlying t).runT P w es=(.ok d w,es):=by simp[underlying,program,bind,cA,Sem.runT,pure,h,Sem.run,Cj]
theorem XX{t b:aK}(h:P.underlying t=some (.pointer b))(a w es):(Op.equal t (.pointer a) (.pointer none)).runT P w es=(.ok a.isNone w,es):=by unfold Op.equal;rw[show Op.maxDepth=9999+1 from rfl];unfold Op.equalIn;show(cA _ _).runT P w es=_;rw[cG,aei h];cases a<;>rfl
theorem QL{t b:aK}(h:P.underlying t=some (.pointer b))(a w es):(binOp .neq t (.pointer a) (.pointer none)).runT P w es=(.ok (.bool a.isSome) w,es):=by unfold binOp;show(cA _ _).runT P w es=_;rw[cG,XX h];cases a<;>rfl
theorem QM{t b:aK}(h:P.underlying t=some (.pointer b))(a w es):(binOp .neq t (.pointer a) (.pointer none)).events P w es=es:=by unfold Cj;rw[QL h]
theorem QN{t b:aK}(h:P.underlying t=some (.pointer b))(a w):(binOp .neq t (.pointer a) (.pointer none)).run P w=.ok (.bool a.isSome) w:=by rw[<-iW P _ w #[],QL h]
end
end
section
open Go.Conc
open Go.ConcN (sumTo upd sumTo_upd upd_ne upd_same)
section
variable [aA] {P:aN} {Post Mid:aJ->List aJ->an->Prop} {fr:aJ} {cs:List aJ} {u u1:an} {Shun:Loc->Prop} {S:Nat->Prop} {ρ σ:Ren} {gs:Array bw} {w w1:an} {t:eW} {q:Nat->Nat} {sl:Option (Nat×Nat)}
def jD(Shun:Loc->Prop)(B:Nat)(e:Event):Prop:=(∀x,(cI e).touch?=some x->¬Shun x.loc)/\(cI e≠.mark .disable/\cI e≠.mark .enable)/\(cI e).low B
theorem DD{e}(i:Clear Shun S σ w1)(j:∀y b,σ y b->b<w1.heap.size)(h:gy S σ e):jD Shun w1.heap.size e:=by
 haveI:aW:=bE []
 have d:sI S σ (.ofEvent e):=.inl ⟨e,rfl,h⟩;refine⟨fun x l k=>?_,JK d,JJ d j⟩;obtain⟨a,c,n,g⟩:=i _ k;rcases JL d l with⟨m,y,e,f⟩|⟨r,y,e,f⟩|e
 ·rw[e]at c;cases c;exact absurd (g y f.1) f.2
 ·rw[e]at c;cases c
 ·rw[e]at c;cases c
theorem step0{K:aJ->List aJ->an->Prop}:
  ∀(n:Nat) (gs:Array bw) (w:an) (sl:Option (Nat×Nat)) (t:eW) (q:Nat->Nat),sumTo gs.size q<n->gs[0]? =some (G fr cs)->zQ P t gs q->Past Shun w.heap.size t->(∀i j,t.g? i=some j->j<gs.size)->
   (∀d,∃c a w1 f,stepG P true (G fr cs) (w.at d)=.go (G c a) w1 f/\w.heap.size<=w1.heap.size/\(∀e∈f,jD Shun w1.heap.size e)/\K c a w1)->
   ∃N c a w1 z R t1 Q,K c a w1/\runNT P N (crowd gs w sl) t=(.next (crowd z w1 R),t1)/\z[0]? =some (G c a)/\zQ P t1 z Q/\Past Shun w1.heap.size t1/\(∀i j,t1.g? i=some j->j<z.size):=by
 haveI:aW:=bE []
 intro n;induction n with
 |zero=>exact fun gs w sl t q hS=>absurd hS ak
 |succ n ih=>
  intro gs w sl t q hS h0 A U T h;have W:0<gs.size:=(aP.1 h0).1
  have wL:∀g∈gs,awake g:=by
   intro g B;obtain⟨i,m,rfl⟩:=vI.1 B;rcases me i with rfl|hpos
   ·have:gs[0]=G fr cs:=by simpa[cw m]using h0
    rw[this];exact awake_of (.inl rfl)
   ·exact awake_of ((A.old i _ hpos (cw m)).status.elim .inl fun x=>.inr (.inr x))
  obtain⟨i,g,d,F,m,B,Z⟩:=crowd_pick (P:=P) (w:=w) (sl:=sl) wL ⟨0,_,h0,rfl⟩;rcases me i with rfl|hpos
  ·obtain rfl:g=G fr cs:=by rw[h0]at m;exact(dm m).symm
   obtain⟨c,a,w1,f,M,hz,H,hK⟩:=h d;have L:=runT_crowd_go (P:=P) (sl:=F) (i:=0) m (show stepG P (0==0) (G fr cs) (w.at d)=_ from M);have E:=lD 0 (G fr cs).frame.fn (G fr cs).frame.place f;have ah:(jq 0 (G fr cs).frame.fn (G fr cs).frame.place f).map (·.act)=f.map .ofEvent:=by rw[ofEvents_eq];simp[BA,BJ]
   have o:((gs.map (woken P (G fr cs) (G c a) w1)).setIfInBounds 0 (G c a)).size=gs.size:=aq
   have I:∀op∈jq 0 (G fr cs).frame.fn (G fr cs).frame.place f,∃e,op.act=.ofEvent e/\jD Shun w1.heap.size e:=fun op r=>by
    have:op.act∈f.map cI:=by rw[<-ah];exact mK.2 ⟨op,r,rfl⟩
    obtain⟨e,he,p⟩:=mK.1 this;exact⟨e,p.symm,H e he⟩
   refine⟨1,c,a,w1,(gs.map (woken P (G fr cs) (G c a) w1)).setIfInBounds 0 (G c a),F,t++jq 0 (G fr cs).frame.fn (G fr cs).frame.place f,q,hK,by simp only[runNT,Z,L],by simp[W],⟨fun j x l v=>?_,fun j l=>?_⟩,?_,wG (by rw[o];exact T) (by rw[o];exact W) E⟩
   ·rw[dx ak,fj]at v;obtain⟨y,O,rfl⟩:=ep.1 v;have s:=A.old j y l O;rw[woken_quitsD s,nC t (g':=0) ak _ E];exact s
   ·rw[nC t (g':=0) (by rw[o]at l;omega) _ E];exact A.above j (by rw[o]at l;exact l)
   ·refine(U.mono hz).app0 E (fun op r b V M=>?_) (Go.ConcN.Deaf_still t 0 _ fun op r=>?_) (fun op r=>?_)
    ·obtain⟨e,p,C⟩:=I op r;rw[p]at V;exact absurd M (C.1 b V)
    ·obtain⟨e,p,C⟩:=I op r;rw[p];exact C.2.1
    ·obtain⟨e,p,C⟩:=I op r;rw[p];exact C.2.2
  ·have s:=A.old i g hpos m;have av:(i==0)=false:=bK;have J:i<gs.size:=(aP.1 m).1;cases X:q i with
   |zero=>rw[X]at s;rw[s.1]at B;cases B
   |succ k=>
    rw[X]at s;rcases s with⟨H,_⟩|⟨_,g',f,hm,tA,qx⟩
    ·rw[H]at B;cases B
    have L:=runT_crowd_go (P:=P) (sl:=F) (i:=i) m (by rw[av];exact tA (w.at d));have o:((gs.map (woken P g g' (w.at d))).setIfInBounds i g').size=gs.size:=aq;have aI:sumTo gs.size (upd q i k)+q i=sumTo gs.size q+k:=sumTo_upd q k id J
    obtain⟨N,c,a,w1,z,R,t1,Q,r0,r1,r2,r3,r4,r5⟩:=ih ((gs.map (woken P g g' (w.at d))).setIfInBounds i g') (w.at d) F (t++jq i g.frame.fn g.frame.place f) (upd q i k) (by rw[o];omega)
     (by
      have ay:i≠0:=ak;rw[dx ay,fj,h0];simp[woken_running (show(G fr cs).status=.running from rfl)]) ⟨fun j x l v=>by
      by_cases D:i=j
      ·subst D;rw[xB (by simpa using J)]at v;obtain rfl:=dm v;rw[upd_same,Deaf_own];exact qx
      ·rw[dx D,fj]at v;obtain⟨y,O,rfl⟩:=ep.1 v;have Y:=A.old j y l O;rw[woken_quitsD Y,upd_ne q k (cW D),nC t D _ (lD _ _ _ _)];exact Y,fun j l=>by
      rw[nC t (g':=i) (by simp at l;omega) _ (lD _ _ _ _)];exact A.above j (by simpa using l)⟩ (U.mute ak hm) (wG (by rw[o];exact T) (by rw[o];exact J) (lD _ _ _ _)) (fun d'=>h d')
    exact⟨N+1,c,a,w1,z,R,t1,Q,r0,by simp only[runNT,Z,L];exact r1,r2,r3,r4,r5⟩
structure lM(ρ:Ren)(L:List Nat)(fr:aJ):Prop where
 tmps:∀(i:Nat) v,fr.tmps[i]? =some v->i∉L->VR ρ v v
 kind:fr.kind=.normal
 known:aA.known fr.fn
theorem lM.mono{L}(g:ρ.le σ)(h:lM ρ L fr):lM σ L fr:=⟨fun i v hv a=>(h.tmps i v hv a).mono g,h.kind,h.known⟩
structure qd(Lf:bh->List Nat)(P:aN)(Shun:Loc->Prop)(S:Nat->Prop)(fr:aJ)(cs:List aJ)(u:an)(ρ:Ren)(gs:Array bw)(w:an)(t:eW)(q:Nat->Nat):Prop where
 oY:gs[0]? =some (G fr cs)
 top:lM ρ (Lf fr.fn) fr
 low:∀f∈cs,lM ρ (Lf f.fn) f/\f.mode=.run
 world:eK P ρ u w
 whole:Whole S ρ u
 gh:zQ P t gs q
 past:Past Shun w.heap.size t
 clear:Clear Shun S ρ w
 same:∀a b,ρ a b->a=b
 size:u.heap.size=w.heap.size
 fM:∀i j,t.g? i=some j->j<gs.size
 full:Full ρ u
def gB(Lf:bh->List Nat)(P:aN)(Post:aJ->List aJ->an->Prop)(fr:aJ)(cs:List aJ)(u:an):Prop:=
 ∀(Shun:Loc->Prop) (S:Nat->Prop) (ρ:Ren) (gs:Array bw) (w:an) (sl:Option (Nat×Nat)) (t:eW) (q:Nat->Nat),qd Lf P Shun S fr cs u ρ gs w t q->nO ρ Shun w->
  ∃N b i h d c g e a k f j,runNT P N (crowd gs w sl) t=(.next (crowd e a k),f)/\Post d c g/\qd Lf P b i d c g h e a f j/\eT ρ h w a/\oP Shun b w
variable {Lf:bh->List Nat}
theorem gB.here(h:Post fr cs u):gB Lf P Post fr cs u:=fun Shun S ρ gs w sl t q a _=>
 haveI:aW:=bE []
 ⟨0,Shun,S,ρ,fr,cs,u,gs,w,sl,t,q,rfl,h,a,.refl ρ w,.refl Shun w⟩
theorem gB.bind(h:gB Lf P Mid fr cs u)(k:∀fr cs u,Mid fr cs u->gB Lf P Post fr cs u):gB Lf P Post fr cs u:=fun Shun S ρ gs w sl t q n b=>by
 haveI:aW:=bE []
 obtain⟨N,f,d,G,J,I,u1,l,w1,C,t1,x,z,A,B,a,c⟩:=h Shun S ρ gs w sl t q n b;obtain⟨K,g,e,H,j,i,E,m,F,D,t2,y,o,p,r,s,v⟩:=k _ _ _ A f d G l w1 C t1 x B (b.went a c);exact⟨N+K,g,e,H,j,i,E,m,F,D,t2,y,(vr z).trans o,p,r,a.trans s,c.trans a.size v⟩
theorem gB.mono(h:gB Lf P Mid fr cs u)(k:∀fr cs u,Mid fr cs u->Post fr cs u):gB Lf P Post fr cs u:=h.bind fun fr cs u hm=>.here (k fr cs u hm)
structure Na(Lf:bh->List Nat)(P:aN)(Shun:Loc->Prop)(S:Nat->Prop)(ρ σ:Ren)(u1 w w1:an)(dP:aJ)(iK:List aJ)(es:Array Event):Prop where
 went:eT ρ σ w w1
 world:eK P σ u1 w1
 whole:Whole S σ u1
 same:∀a b,σ a b->a=b
 size:u1.heap.size=w1.heap.size
 fine:∀e∈es,jD Shun w1.heap.size e
 top:lM σ (Lf dP.fn) dP
 low:∀f∈iK,lM σ (Lf f.fn) f/\f.mode=.run
 full:Full σ u1
theorem qd.at (h:qd Lf P Shun S fr cs u ρ gs w t q)(d):qd Lf P Shun S fr cs u ρ gs (w.at d) t q:=
 haveI:aW:=bE []
 ⟨h.oY,h.top,h.low,h.world.at d,h.whole,h.gh,h.past,h.clear,h.same,h.size,h.fM,h.full⟩
theorem gB.one(h:∀Shun S ρ gs w t q,qd Lf P Shun S fr cs u ρ gs w t q->nO ρ Shun w->∃f c u1 σ w1 g,stepG P true (G fr cs) w=.go (G f c) w1 g/\Na Lf P Shun S ρ σ u1 w w1 f c g/\gB Lf P Post f c u1):gB Lf P Post fr cs u:=fun Shun S ρ gs w sl t q i j=>by
 haveI:aW:=bE []
 obtain⟨N,f,c,w1,p,L,t1,C,⟨u1,σ,d,b,hr⟩,E,F,H,I,J⟩:=step0 (K:=fun f c w1=>∃u1 σ d,(∃g,Na Lf P Shun S ρ σ u1 (w.at d) w1 f c g)/\gB Lf P Post f c u1) (sumTo gs.size q+1) gs w sl t q ak i.oY i.gh i.past i.fM fun d=>by obtain⟨f,c,u1,σ,w1,g,v,b,hr⟩:=h Shun S ρ gs (w.at d) t q (i.at d) (j.at d);exact⟨f,c,w1,g,v,b.went.size,b.fine,u1,σ,d,⟨g,b⟩,hr⟩
 obtain⟨g,b⟩:=b;obtain⟨k,m,l,R,o,n,O,r,Q,M,t2,D,x,y,z,A,B⟩:=hr Shun S σ p w1 L t1 C ⟨F,b.top,b.low,b.world,b.whole,H,I,(i.at d).clear.went b.went,b.same,b.size,J,b.full⟩ ((j.at d).went b.went (.refl Shun _));exact⟨N+k,m,l,R,o,n,O,r,Q,M,t2,D,(vr E).trans x,y,z,(((eT.refl ρ w).at d).trans b.went).trans A,fun a s=>(B a s).imp id fun e=>cS b.went.size e⟩
theorem gB.ctl{dP}(h:∀w,stepG P true (G fr cs) w=.go (G dP cs) w)(b:∀ρ,lM ρ (Lf fr.fn) fr->lM ρ (Lf dP.fn) dP)(k:gB Lf P Post dP cs u):gB Lf P Post fr cs u:=
 haveI:aW:=bE []
 .one fun Shun S ρ gs w t q a _=>⟨dP,cs,u,ρ,w,#[],h w,⟨.refl ρ w,a.world,a.whole,a.same,a.size,aq,b ρ a.top,a.low,a.full⟩,k⟩
end
end
section
open Go.Conc
open Go.ConcN (sumTo)
section
variable [aA] {P:aN} {l:List bh} {Q:Exit->Act->an->Prop} {a:Act} {u u1:an} {Post:aJ->List aJ->an->Prop} {b fr:aJ} {k:List Item} {cs:List aJ} {ops:Array dW} {i:Nat} {rest:List Nat} {o:dW} {Lf:bh->List Nat} {f0:bh} {dn:Nat}
def FX(Lf:bh->List Nat)(f0:bh)(dn:Nat)(P:aN)(c:jO)(Q:Exit->Act->an->Prop)(a:Act)(u:an):Prop:=
 ∀(b:aJ) (k:List Item) (cs:List aJ),b.fn=f0->cs.length=dn->lG k->qg Q k->gB Lf P (yq Q b k cs) (b.at a (.code c::k)) cs u
def FO(Lf:bh->List Nat)(f0:bh)(dn:Nat)(P:aN)(ops:Array dW)(Q:Exit->Act->an->Prop)(is:List Nat)(a:Act)(u:an):Prop:=
 ∀(b:aJ) (k:List Item) (cs:List aJ),b.fn=f0->cs.length=dn->lG k->qg Q k->gB Lf P (yq Q b k cs) (b.at a (.inRegion ops is::k)) cs u
theorem gB.at_{k'}(h:∀w,stepG P true (G (b.at a k) cs) w=.go (G (b.at a k') cs) w)(c:gB Lf P Post (b.at a k') cs u):gB Lf P Post (b.at a k) cs u:=.ctl h (fun _ d=>⟨d.tmps,d.kind,d.known⟩) c
theorem FX.seq{x y}(h:FX Lf f0 dn P x (Exit.then (FX Lf f0 dn P y Q) Q) a u):FX Lf f0 dn P (.seq x y) Q a u:=fun b k cs g j m n=>by
 refine .at_ (fun _=>stepG_seq) ?_;have r:qg (Exit.then (FX Lf f0 dn P y Q) Q) (.code y::k):=fun id q=>JI rfl n id q;refine(h b (.code y::k) cs g j m r).bind ?_;rintro fr p s ⟨e,d,f,c⟩;cases e with
 |normal=>
  obtain⟨rfl,rfl⟩:=c;exact(show FX Lf f0 dn P y Q d s from f) b k p g j m n
 |exit id=>exact .here ⟨_,d,f,sU rfl aq c⟩
 |goto x=>exact c.elim
 |ret=>exact .here ⟨_,d,f,sU rfl aq c⟩
 |panic t=>exact .here ⟨_,d,f,sU rfl aq c⟩
 |outgrown=>exact c.elim
theorem FX.cond{c x y v}(hc:a.eval c=.bool v)(h:FX Lf f0 dn P (if v then x else y) Q a u):FX Lf f0 dn P (.cond c x y) Q a u:=fun b k cs d e f g=>.at_ (fun _=>stepG_cond hc) (h b k cs d e f g)
theorem FX.skip(h:Q .normal a u):FX Lf f0 dn P .skip Q a u:=fun b k cs _ _ _ _=>.at_ (fun _=>stepG_skip) (.here ⟨.normal,a,h,rfl,rfl⟩)
theorem FX.exit{id}(h:Q (.exit id) a u):FX Lf f0 dn P (.exit id) Q a u:=fun b k cs _ _ _ d=>by obtain⟨e,c⟩:=d id ⟨a,_,h⟩;exact .at_ (fun _=>stepG_exit c) (.here ⟨.exit id,a,h,⟨e,c,rfl⟩,rfl⟩)
theorem FX.ret(h:Q .ret a u):FX Lf f0 dn P .ret Q a u:=fun b k cs _ _ _ _=>.ctl (fun _=>stepG_ret') (fun d c=>⟨c.tmps,c.kind,c.known⟩) (.here ⟨.ret,a,h,⟨_,rfl⟩,rfl⟩)
theorem FX.block{id c}(h:FX Lf f0 dn P c (BI id Q) a u):FX Lf f0 dn P (.block id c) Q a u:=fun b k cs r s t y=>by
 refine .at_ (fun _=>stepG_block) ?_
 have z:qg (BI id Q) (.inBlock id::k):=fun g ⟨d,q,p⟩=>by
  by_cases e:g=id
  ·exact⟨k,by simp[exitTo,e]⟩
  ·simp only[BI,e,dy]at p;obtain⟨m,v⟩:=y g ⟨d,q,p⟩;have:(id==g)=false:=by simp;exact fun h=>e h.symm
   exact⟨m,by simp[exitTo,this,v]⟩
 refine(h b (.inBlock id::k) cs r s t z).bind ?_;rintro fr B q ⟨e,d,f,j⟩;cases e with
 |normal=>
  obtain⟨rfl,rfl⟩:=j;exact .at_ (fun _=>stepG_inBlock) (.here ⟨.normal,d,f,rfl,rfl⟩)
 |exit g=>
  obtain⟨⟨m,n,rfl⟩,rfl⟩:=j
  by_cases e:g=id
  ·simp only[BI,e,cD]at f;have:m=k:=by simpa[exitTo,e]using n.symm
   subst this;exact .here ⟨.normal,d,f,rfl,rfl⟩
  ·simp only[BI,e,dy]at f;have w:(id==g)=false:=by simp;exact fun h=>e h.symm
   exact .here ⟨.exit g,d,f,⟨m,by simpa[exitTo,w]using n,rfl⟩,rfl⟩
 |goto x=>exact j.elim
 |ret=>exact .here ⟨_,d,f,j⟩
 |panic A=>exact .here ⟨_,d,f,j⟩
 |outgrown=>exact j.elim
theorem FX.loop{c}(I:Act->an->Prop)(h:Act->an->Nat)(z:I a u)(round:∀a u,I a u->FX Lf f0 dn P c (Exit.then (fun d f=>I d f/\h d f<h a u) Q) a u):FX Lf f0 dn P (.loop c) Q a u:=fun b k cs q r s w=>by
 have key:∀n a u,h a u=n->I a u->gB Lf P (yq Q b k cs) (b.at a (.code c::.inLoop c::k)) cs u:=by
  intro n;induction n using Nat.strongRecOn with
  |ind n A=>
   intro a u v hI;have y:qg (Exit.then (fun d f=>I d f/\h d f<h a u) Q) (.inLoop c::k):=fun id t=>JI rfl w id t;refine(round a u hI b (.inLoop c::k) cs q r s y).bind ?_;rintro fr C f ⟨e,d,j,g⟩;cases e with
   |normal=>
    obtain⟨rfl,rfl⟩:=g;obtain⟨m,p⟩:=j;exact .at_ (fun _=>stepG_inLoop) (A (h d f) (v▸p) d f rfl m)
   |exit id=>exact .here ⟨_,d,j,sU rfl aq g⟩
   |goto x=>exact g.elim
   |ret=>exact .here ⟨_,d,j,sU rfl aq g⟩
   |panic B=>exact .here ⟨_,d,j,sU rfl aq g⟩
   |outgrown=>exact g.elim
 exact .at_ (fun _=>stepG_loop) (key _ a u rfl z)
theorem FX.region{id}(h:FO Lf f0 dn P ops Q (dM ops.size) a u):FX Lf f0 dn P (.region id ops false) Q a u:=fun b k cs c d e f=>.at_ (fun _=>stepG_region) (h b k cs c d e f)
theorem FO.nil(h:Q .normal a u):FO Lf f0 dn P ops Q [] a u:=fun _ _ _ _ _ _ _=>.at_ (fun _=>stepG_region_end) (.here ⟨.normal,a,h,rfl,rfl⟩)
def oo(L:List Nat)(x:Array au):Array au:=x.mapIdx fun i v=>if i∈L then undef else v
def rR(L:List Nat)(a:Act):Act:=⟨oo L a.tmps,a.defers⟩
theorem Bs{L i}(h:i∉L):(rR L a).eval (.tmp i)=a.eval (.tmp i):=by simp only[Act.eval,rR,oo,tO,TS,h,dy];cases a.tmps[i]? <;>rfl
theorem FB{ρ L}(h:∀(i:Nat) v,a.tmps[i]? =some v->i∉L->VR ρ v v):bf ρ (rR L a).tmps (rR L a).tmps:=by
 haveI:aW:=bE []
 refine⟨rfl,fun i v g c f=>?_⟩;rw[c]at f;cases f;simp only[rR,oo,TS]at c;cases e:a.tmps[i]? with
 |none=>rw[e]at c;cases c
 |some y=>
  rw[e]at c;simp at c
  by_cases d:i∈L
  ·rw[aM d]at c;subst c;exact rQ ρ
  ·rw[aD d]at c;subst c;exact h i _ e d
theorem zC{ρ L k k' d v}(h:lM ρ L (b.at a k))(hv:d∉L->VR ρ v v):lM ρ L (b.at (a.put (some d) v) k'):=by
 refine⟨fun i x c f=>?_,h.kind,h.known⟩;change(a.tmps.setIfInBounds d v)[i]? =some x at c
 by_cases e:d=i
 ·subst e
  by_cases g:d<a.tmps.size
  ·rw[xB g]at c;cases c;exact hv f
  ·rw[qJ bK]at c;cases c
 ·rw[dx e]at c;exact h.tmps i x c f
theorem qd.ok{Shun S ρ gs w}{t:eW}{q:Nat->Nat}(g:qd Lf P Shun S fr cs u ρ gs w t q){α n:Type}{R:Ren->α->n->Prop}{s:Sem α}{m:Sem n}(C:SR P R ρ (fun _=>False) s m){v:α}(h:∀p,s.run P (u.tp p)=.ok v (u1.tp p)):
  ∃c j d x,m.runT P w #[]=(.ok j d,x)/\R c v j/\eT ρ c w d/\eK P c u1 d/\Whole S c u1/\(∀a b,c a b->a=b)/\u1.heap.size=d.heap.size/\(∀e∈x,gy S c e)/\Full c u1:=by
 haveI:aW:=bE []
 obtain⟨_,c,j,d,x,r,y,f,z,A⟩:=rG C (iz _) g.world.lay g.whole (h (laid u w));have E:u.heap.size=w.heap.size:=g.size;have D:u1.heap.size+w.heap.size=d.heap.size+u.heap.size:=f.yU;refine⟨c,j,d,x,r,y,f.went,?_,z,fun a b B=>?_,ak,A,f.full g.full⟩
 ·have:=f.rel.drop;exact⟨this.one,this.lt,this.obj,this.low,this.base,this.calm,this.os⟩
 ·rcases f.news a b B with h|⟨_,_,h⟩
  ·exact g.same a b h
  ·have h:a+w.heap.size=b+u.heap.size:=h;omega
theorem FO.own{d}{v:au}(m:Fit P l)(V:ops[i]? =some o)(Z:cL o (yielded ops a.tmps)=true)(C:o.dst=some d)(W:okB P l o.op=true)(n:execOp a.eval o=execOp (rR (Lf f0) a).eval o)(hr:∀G,(execOp a.eval o).run P (u.tp G)=.ok (.value v) (u1.tp G))(c:FO Lf f0 dn P ops Q rest (a.put (some d) v) u1):FO Lf f0 dn P ops Q (i::rest) a u:=fun b k cs p O h X=>by
 haveI:aW:=bE []
 exact .one fun aj S ρ gs w t q g hV=>by
  have U:∀f,l.contains f=true->aA.ok f:=fun f h=>(m.ok f).2 h;have D:lM ρ (Lf f0) (b.at a (.inRegion ops (i::rest)::k)):=p▸g.top;rw[n]at hr;obtain⟨F,v',E,x,z,H,j,A,I,B,J,M,N⟩:=g.ok (Fg (K:=fun _=>False) m.zeros m.fns U (CU m (FB (a:=a) (L:=Lf f0) D.tmps)) (fun ζ s v=>by(subst s;rfl)) (fun ζ s v=>by(subst s;rfl)) W) hr;cases H with
  |@value _ v' hv=>
   obtain rfl:=hv.eq B;have Y:(execOp a.eval o).run P w=.ok (.value v) E:=by rw[n,<-iW P _ w #[],z]
   have T:b.kind≠.early:=by have:b.kind=.normal:=g.top.kind;rw[this];simp
   refine⟨_,cs,u1,F,E,_,Ai V Z T Y,⟨j,A,I,B,J,fun e R=>?_,?_,fun f h=>⟨(g.low f h).1.mono j.le,(g.low f h).2⟩,N⟩,?_⟩
   ·have r:=pX R;unfold Cj at r;rw[n,z]at r;exact DD (g.clear.went j) (fun y b tB=>(A.lt y b tB).2) (M e r)
   ·rw[C];show lM F (Lf b.fn) _;rw[p];exact zC (D.mono j.le) (fun _=>hv)
   ·rw[C];exact c b k cs p O h X
theorem FO.void(j:Fit P l)(R:ops[i]? =some o)(X:cL o (yielded ops a.tmps)=true)(A:o.dst=none)(T:okB P l o.op=true)(m:execOp a.eval o=execOp (rR (Lf f0) a).eval o)(hr:∀C,(execOp a.eval o).run P (u.tp C)=.ok .skip (u1.tp C))(c:FO Lf f0 dn P ops Q rest a u1):FO Lf f0 dn P ops Q (i::rest) a u:=fun b k cs z J g U=>by
 haveI:aW:=bE []
 exact .one fun ah S ρ gs w t q d hV=>by
  have O:∀f,l.contains f=true->aA.ok f:=fun f g=>(j.ok f).2 g;have W:lM ρ (Lf f0) (b.at a (.inRegion ops (i::rest)::k)):=z▸d.top;rw[m]at hr;obtain⟨σ,v',B,x,r,D,h,s,E,F,G,H,I⟩:=d.ok (Fg (K:=fun _=>False) j.zeros j.fns O (CU j (FB (a:=a) (L:=Lf f0) W.tmps)) (fun Z p v=>by(subst p;rfl)) (fun Z p v=>by(subst p;rfl)) T) hr;cases D with
  |skip=>
   have V:(execOp a.eval o).run P w=.ok .skip B:=by rw[m,<-iW P _ w #[],r]
   have N:b.kind≠.early:=by have:b.kind=.normal:=d.top.kind;rw[this];simp
   refine⟨_,cs,u1,σ,B,_,stepG_none R X N V,⟨h,s,E,F,G,fun e M=>?_,?_,fun f g=>⟨(d.low f g).1.mono h.le,(d.low f g).2⟩,I⟩,?_⟩
   ·have n:=pX M;unfold Cj at n;rw[m,r]at n;exact DD (d.clear.went h) (fun y b Y=>(s.lt y b Y).2) (H e n)
   ·rw[A];have hm:=d.top.mono h.le;exact⟨hm.tmps,hm.kind,hm.known⟩
   ·rw[A];exact c b k cs z J g U
theorem FO.unwanted{d}(j:ops[i]? =some o)(n:cL o (yielded ops a.tmps)=false)(f:o.dst=some d)(c:FO Lf f0 dn P ops Q rest (a.put (some d) undef) u):FO Lf f0 dn P ops Q (i::rest) a u:=fun b k cs e g h m=>by
 haveI:aW:=bE []
 refine .ctl (dP:=b.at (a.put (some d) undef) (.inRegion ops rest::k)) (fun _=>by rw[<-f];exact stepG_unwanted j n) (fun q p=>zC p fun _=>rQ q) (c b k cs e g h m)
theorem FO.blind{d v}(z:ops[i]? =some o)(B:cL o (yielded ops a.tmps)=true)(m:o.dst=some d)(hr:∀w,(execOp a.eval o).run P w=.ok (.value v) w)(r:∀w,(execOp a.eval o).events P w #[]=#[])(hv:d∈Lf f0\/∀g,VR g v v)(c:FO Lf f0 dn P ops Q rest (a.put (some d) v) u):FO Lf f0 dn P ops Q (i::rest) a u:=fun b k cs j p s A=>by
 haveI:aW:=bE []
 exact .one fun D S g gs w t q f E=>by
  have x:b.kind≠.early:=by have:b.kind=.normal:=f.top.kind;rw[this];simp
  refine⟨_,cs,u,g,w,_,Ai z B x (hr w),⟨.refl g w,f.world,f.whole,f.same,f.size,fun e C=>?_,?_,f.low,f.full⟩,?_⟩
  ·have n:=pX C;rw[r]at n;simp at n
  ·rw[m];exact zC f.top (fun y=>hv.elim (fun h=>absurd (show d∈Lf b.fn from j▸h) y) fun h=>h g)
  ·rw[m];exact c b k cs j p s A
theorem FO.R4{d wb v ob}(H:aA.wat wb=some ob)(D:ops[i]? =some o)(G:cL o (yielded ops a.tmps)=true)(p:o.dst=some d)(hr:∀w,w.heap[wb]? =some ob->(execOp a.eval o).run P w=.ok (.value v) w)(A:∀w,w.heap[wb]? =some ob->∀e∈(execOp a.eval o).events P w #[],∃g:Addr,e.loc=.cell g/\g.block=wb)(hv:∀h,VR h v v)(c:FO Lf f0 dn P ops Q rest (a.put (some d) v) u):FO Lf f0 dn P ops Q (i::rest) a u:=fun b k cs y z B E=>by
 haveI:aW:=bE []
 exact .one fun J S h gs w t q f s=>by
  have C:b.kind≠.early:=by have:b.kind=.normal:=f.top.kind;rw[this];simp
  obtain⟨L,m,I⟩:=s wb ob H;refine⟨_,cs,u,h,w,_,Ai D G C (hr w m),⟨.refl h w,f.world,f.whole,f.same,f.size,fun e j=>?_,?_,f.low,f.full⟩,?_⟩
  ·obtain⟨g,r,n⟩:=A w m e (pX j);obtain⟨loc,wr,K⟩:=e;obtain rfl:loc=.cell g:=r;refine⟨fun x j F=>?_,⟨by simp[cI],by simp[cI]⟩,?_⟩
   ·simp[cI,xQ]at j;subst j;exact I g n F
   ·show g.block<w.heap.size;rw[n];exact(aP.1 m).1
  ·rw[p];exact zC f.top (fun _=>hv h)
  ·rw[p];exact c b k cs y z B E
def jB(Lf:bh->List Nat)(P:aN)(dn:Nat)(f:bh)(args:Array au)(u:an)(R:jP->an->Prop):Prop:=
 ∀(cs:List aJ),cs.length=dn->gB Lf P (fun fr d c=>d=cs/\fr.fn=f/\∃e,e≠.outgrown/\R e c/\fr.leaving P c e) (Frame.enter P f args .normal) cs u
theorem jB.mono{f args R R'}(h:jB Lf P dn f args u R)(hr:∀e u,R e u->R' e u):jB Lf P dn f args u R':=fun cs n=>
 (h cs n).mono fun fr q p ⟨c,d,e,g,j,m⟩=>⟨c,d,e,g,hr e p j,m⟩
theorem jB.O6{f fn c args R}(hf:P.funcs[f]? =some fn)(d:fn.body=some c)(h:FX Lf f dn P c (fun e a u=>e=.ret/\a.defers=[]/\∃v,(results fn a.tmps).run P u=.ok v u/\R (.returned v) u) {tmps:=args++pR (fn.ntmps-args.size) undef,defers:=[]} u):jB Lf P dn f args u R:=fun cs g=>by
 haveI:aW:=bE []
 rw[sH args hf d];refine(h (base f) [] cs rfl g trivial fun id ⟨a,u,m,_⟩=>by cases m).mono ?_;rintro fr p r ⟨e,n,⟨rfl,j,v,hr,hv⟩,⟨q,rfl⟩,rfl⟩;exact⟨rfl,rfl,.returned v,aq,hv,rfl,j,rfl,fn,hf,hr⟩
end
end
section
open Go.Conc Go.Conc.Lib Go.ConcN.Gen Go.ConcR.Gen Go.RowKit
open Go.ConcN (ShN WgLive Has)
open Go.Proofs.Tryz
abbrev pt(b:Nat):au:=aF b
def uP(a B:Nat):Deferred:={target:=.fn (.func 98) #[pt a,pt B],args:=#[]}
def pN(P:aN):aJ:={(default:aJ)with fn:=P.funcs.size,defers:=[],mode:=.panicking [Ad]}
def NF(fn:gn):jO:=fn.body.getD .skip
theorem K4:(f98.name== "runtime.NumGoroutine")=false:=aI
theorem Wr(Wg B w):stepG prog false (born prog (uP Wg B)) w=.go (G ((baseD 98).at ⟨#[pt Wg,pt B,undef,undef],[]⟩ [.code (NF f98)]) [pN prog]) w:=by
 have c:¬f98.name= "runtime.NumGoroutine" :=by simpa using K4
 have a:f98.body=some (NF f98):=rfl;have e:=enter_atD #[pt Wg,pt B] func98 a;have b:(#[pt Wg,pt B]++pR (f98.ntmps - #[pt Wg,pt B].size) undef)=#[pt Wg,pt B,undef,undef]:=rfl;rw[b]at e;rw[<-e];simp[born,uP,pN,G,stepG,unwind,callDeferred,invoke,callFunc,func98,c,a,jo,seen_none]
end
section
open Classical
open Go.Conc Go.Conc.Lib Go.ConcN.Gen Go.ConcR.Gen Go.RowKit
open Go.ConcN (ShN WgLive Has)
open Go.ConcR (Payload)
open Go.Proofs.Tryz
section
variable [aA] [aW] {l:List bh} {C:Nat->Prop} {R:jP->an->Prop} {Wg B c:Nat} {w:an}
def Qr(C:Nat->Prop)(R:jP->an->Prop)(O:Nat->Prop)(w:an):Prop:=∃u d v,R (.returned v) u/\(dL C).le d/\eK prog d u w/\Whole (fun _=>False) d u/\∀a b,d a b->O b
theorem Qr.rel{O}{m:aK}{w₁}(h:Qr C R O w)(r:Rel m Wg O w w₁):Qr C R O w₁:=by obtain⟨u,n,v,f,g,i,d,e⟩:=h;exact⟨u,n,v,f,g,i.rel d (fun b k=>k.elim) (fun a b j _=>e a b j) r,d,e⟩
def MQ(C:Nat->Prop)(R:jP->an->Prop)(Wg B:Nat)(O:Nat->Prop)(g:bw)(w:an):Prop:=
 (∃k,k.mode=.returning/\(∃a,QuitsD prog a 0 (G k [pN prog]))/\g=G ((baseD link.done).at ⟨#[pt Wg,undef,undef,undef],[]⟩ [.code (body_done link)]) [k,pN prog])/\O B/\¬O Wg/\WgLive link.tWg Wg w/\(∃v,Has B 0 v w)/\Qr C R O w
theorem aff[Payload]{O g}(h:∀a,Rel link.tWg Wg O w a->MQ C R Wg B O g a):WS prog link.tWg Wg (Qr C R) .work O g w:=by obtain⟨⟨k,b,⟨n,d⟩,rfl⟩,e,f,i,⟨v,j⟩,m⟩:=h w (.refl ..);exact afl xq e f b d i j fun a r=>m.rel r
theorem Rel.cell{O}{a:aK}{w₁}(r:Rel a Wg O w w₁){ad}(h:O ad.block):w₁.cell? ad=w.cell? ad:=by unfold eO;rw[r.own _ h]
theorem wB{O ad n}(h:O ad.block)(b:ad.block<n)(wr):gI Wg O n (.ofEvent ⟨.cell ad,wr,false⟩):=by refine⟨fun x a=>?_,by simp[cI],b,fun _=>by simp[cI],fun _=>by simp[cI]⟩;simp[cI,xQ]at a;subst a;exact .inl ⟨ad,rfl,h⟩
theorem V4(k)(hm:k.mode=.returning)(d:k.defers=[])(e:k.kind=.deferred)(hf:k.fn=98):QuitsD prog 2 0 (G k [pN prog]):=by
 refine .inr ⟨rfl,G (pN prog) [],#[],aq,fun w=>?_,.inr ⟨rfl,{frame:=pN prog,callers:=[],status:=.finished,dying:=none},#[],aq,fun w=>?_,⟨rfl,rfl⟩⟩⟩
 ·have hr:f98.results=#[]:=rfl;have a:(results f98 k.tmps).run prog w=.ok (.tuple #[]) w:=by simp[results,hr]
  have b:(results f98 k.tmps).events prog w #[]=#[]:=events_results_none hr _ _;simp[G,stepG,unwind,doReturn,hm,d,e,hf,func98,a,b,seen,jo,pN,Ad]
 ·have f:prog.funcs[prog.funcs.size]? =none:=aq;simp[G,stepG,unwind,pN,Ad,Frame.catches,f];rfl
theorem afo[Payload](p:Fit prog l)(aF:aA.ok 100)(M:prog.globals.size<=w.heap.size)(m:Closed C w)(K:C c)(T:¬C B)(af:¬C Wg)(U:B≠Wg)(aB:WgLive link.tWg Wg w)(k:w.cell? (aa B 0)=some (pt c))
  (hR:∀e u F,R e u->R e (an.tp u F)) (P:∀e u,R e u->∃v,e=.returned v) (aj:∀F,Calls prog 100 #[pt c] ((mask C w).tp F) R):
  WS prog link.tWg Wg (Qr C R) .work (fun b=>C b\/b=B) (born prog (uP Wg B)) w:=by
 refine afn (Stop:=MQ C R Wg B) ?_ fun O g w h=>aff h
 have I:B<w.heap.size:=by
  unfold eO at k;split at k
  ·rename_i h;exact(aP.1 h).1
  ·cases k
 refine .ctl rfl (fun d _=>Wr Wg B d) ?_;simp;refine .seq (.region ?_);simp;refine .ctl rfl (fun d _=>stepG_defer rfl rfl (by simp[baseD]) rfl) (.regionEnd (.region ?_));simp;refine .op (pt c) rfl rfl (by simp[baseD]) (fun d r=>?_) (fun d r e D=>?_) ?_
 ·have A:d.cell? (aa B 0)=some (pt c):=(r.cell (ad:=aa B 0) (.inr rfl)).trans k;unfold execOp;simp[go_sem,A,Act.put,Act.eval]
 ·have A:d.cell? (aa B 0)=some (pt c):=(r.cell (ad:=aa B 0) (.inr rfl)).trans k;unfold execOp at D;simp[go_sem,A,Act.put,Act.eval]at D;subst D;exact wB (.inr rfl) (cV I r.size) false
 refine .call rfl rfl (by simp[baseD]) rfl func100 aI rfl ?_
 walk_nrm
 generalize N:(baseD 98).at _ _=kf;have ay:kf.mode=.run:=by rw[<-N];rfl
 have ah:Still [kf,pN prog]:=fun b s=>by
  simp at s;rcases s with rfl|rfl
  ·exact .inl ay
  ·exact .inr rfl
 have L:bY prog l (dL C) (Frame.enter prog 100 #[pt c] .normal) (Frame.enter prog 100 #[pt c] .normal):=
  Dy p aF ⟨rfl,fun i v v' j H=>by
   rw[j]at H;cases H
   match i,j with
   |0,j=>simp at j;subst j;exact .ptr ⟨⟨rfl,K⟩,rfl,rfl⟩
   |n+1,j=>simp at j⟩ (.inl rfl)
 have W:lH prog l (Frame.enter prog 100 #[pt c] .normal) [] (mask C w):=by have:lH prog l (Frame.enter prog 100 #[pt c] .normal) [] ((mask C w).tp (laid (mask C w) w)):=⟨fun _=>False,dL C,[],_,w,adG,⟨_,[],rfl,L,.nil⟩,(TM p.prog m M).lay,TF m⟩;exact this.tp (mask C w).tape
 have AN:=TG p W hR (fun u hu=>by obtain⟨v,e⟩:=P _ _ hu;cases e) aj
 have ak:CJ prog false link.tWg Wg (fun O g w=>Qr C R O w/\∃f:aJ,f.mode=.returning/\f.defers=[]/\f.kind=.normal/\f.fn=100/\g=G f [kf,pN prog]) C (G (Frame.enter prog 100 #[pt c] .normal) [kf,pN prog]) w:=by
  refine WO p AT (S:=fun _=>False) (ρ0:=dL C) ah AN ?_ (dL C) C _ w (Ren.le_refl _) ⟨_,[],rfl,L,.nil⟩ (TM p.prog m M) (TF m) (fun b h=>h.elim) (fun a b q _=>q.2);rintro f cs u E O g Q ⟨rfl,av,e,_,J,aC⟩ az V Y ZE _ z;obtain⟨v,rfl⟩:=P e u J;obtain⟨y,aZ,rfl,t,aq⟩:=V.of;cases aq;obtain⟨l1,l2,l3,fn,l4,_⟩:=aC;refine .stop fun d r=>⟨Qr.rel ⟨u,E,v,J,az,Y,ZE,fun a b q=>z a b q id⟩ r,y,?_,?_,t.kind.trans l3,t.fn.trans av,rfl⟩
  ·have:=t.mode;rw[l1]at this;generalize y.mode=md at this;cases this;rfl
  ·have:=t.defers;rw[l2]at this;generalize y.defers=ds at this;cases this;rfl
 have bk:c<w.heap.size:=by obtain⟨o,ho,_⟩:=m c K;exact(aP.1 ho).1
 have z:(fun b=>C b\/b=B)=fun b=>C b\/(fun x=>x=B) b:=rfl;rw[z];refine(ak.frame (X:=fun x=>x=B) (w0:=w) (fun b s=>by subst s;exact⟨I,T,rfl⟩) af aB).bind ?_;intro O g Q h;obtain⟨O1,⟨hq,f,f1,f2,f3,f4,rfl⟩,rfl,hx,Z,DT⟩:=h Q (.refl ..);subst N;refine .leave f1 f2 f3 (by rw[f4];exact func100) rfl ?_;rw[xG]
 walk_nrm
 refine .regionEnd (.end_ (.ctl rfl (fun d _=>stepG_unwind_enter rfl xq.f_done aI rfl) ?_));refine .stop fun d r=>⟨⟨_,rfl,⟨2,V4 _ rfl rfl rfl rfl⟩,rfl⟩,.inr rfl,?_,r.live DT,⟨pt c,?_⟩,?_⟩
 ·rintro(h|h)
  ·exact Z h
  ·exact U h.symm
 ·show d.cell? (aa B 0)=_;rw[r.cell (ad:=aa B 0) (.inr rfl)];unfold eO at k⊢;rw[hx B rfl];exact k
 ·obtain⟨u,E,v,q1,q2,q3,q4,q5⟩:=hq;exact Qr.rel ⟨u,E,v,q1,q2,q3,q4,fun a b q=>.inl (q5 a b q)⟩ r
end
end
section
open Go.Conc Go.Conc.Lib Go.ConcN.Gen Go.ConcR.Gen Go.RowKit
open Go.ConcN (ShN WgLive Has)
open Go.Proofs.Tryz
def dK:aJ:={(default:aJ)with fn:=61,kind:=.normal}
def za(fn:gn):jO:=match fn.body with|some (.seq _ (.seq _ x))=>x|_=>.skip
def zw(fn:gn):jO:=match fn.body with|some (.seq _ (.seq _ (.seq _ x)))=>x|_=>.skip
def mR(fn:gn):jO:=match fn.body with|some (.seq _ (.seq _ (.seq (.seq _ (.block _ (.rangeFunc _ _ x _))) _)))=>x|_=>.skip
def ld(fn:gn):jO:=match fn.body with|some (.seq _ (.seq _ (.seq (.seq _ (.block _ (.rangeFunc _ _ _ x))) _)))=>x|_=>.skip
def rD(fn:gn):jO:=match fn.body with|some (.seq _ (.block _ (.loop x)))=>x|_=>.skip
section
variable [aA] [aW] {Stop:(Nat->Prop)->bw->an->Prop} {O:Nat->Prop} {w:an} {xb sb B1 Wg n:Nat} {cl:List (Option Nat)} {cs0:List aJ}
def jK(xb B1 Wg B2:Nat):Array au:=#[pt xb,pt B1,pt Wg,undef,undef,pt xb,.func (.func 96) #[] #[pt B2],undef,undef,undef,undef,undef,undef,undef,undef,undef,undef,undef,undef,undef,undef,undef,undef]
def hdT(L B2 xb sb n i:Nat)(v:Nat->au):Array au:=#[.func (.yield L) #[] #[],pt B2,undef,undef,v 4,pt xb,pt xb,.pointer (some (aa xb 9)),.slice (some (aa sb 0)) n n,aj n,aj i,v 11,v 12,v 13,v 14,v 15,v 16,v 17,v 18,v 19,v 20,v 21,v 22]
def vl(fn:gn)(xb B1 Wg B2 D L:Nat):aJ:=dK.at ⟨jK xb B1 Wg B2,[{target:=.collected D,args:=#[]}]⟩ (.inRangeFunc L::.inBlock 0::.code (zw fn)::[])
def nT(eM a:gn)(xb sb B1 Wg B2 D L n i:Nat)(v:Nat->au)(cs0:List aJ):bw:=G ((base 96).at ⟨hdT L B2 xb sb n i v,[]⟩ [.code (rD a),.inLoop (rD a),.inBlock 0]) (vl eM xb B1 Wg B2 D L::cs0)
def vp(v:Option Nat):au:=.pointer (v.map fun c=>⟨c,0,none⟩)
structure eJ(eM:gn)(xb sb B1 Wg B2 D L n:Nat)(cl:List (Option Nat))(st:LoopState)(O:Nat->Prop)(w:an):Prop where
 ox:O xb
 os:O sb
 o1:O B1
 o2:O B2
 oD:O D
 oL:O L
 nW:¬O Wg
 lv:WgLive link.tWg Wg w
 b1:w.cell? (aa B1 0)=some (pt xb)
 b2:w.cell? (aa B2 0)=some (pt xb)
 sl:w.cell? (aa xb 9)=some (.slice (some (aa sb 0)) n n)
 at_:∀(j:Nat) v,cl[j]? =some v->w.cell? (aa sb j)=some (vp v)
 len:cl.length=n
 df:w.heap[D]? =some (.deferred (some []))
 lp:w.heap[L]? =some (.loop (lz dK ⟨jK xb B1 Wg B2,[]⟩ #[7] (mR eM) (ld eM) D st))
 bx:w.heap[B2]? =some (.cells #[pt xb] 36)
theorem yG{ad v}(h:w.cell? ad=some v):ad.block<w.heap.size:=by
 unfold eO at h;split at h
 ·rename_i a;exact(aP.1 a).1
 ·cases h
theorem cell_of{w':an}{ad:Addr}(h:w'.heap[ad.block]? =w.heap[ad.block]?):w'.cell? ad=w.cell? ad:=by unfold eO;rw[h]
variable {eM:gn} {B2 D L:Nat} {st:LoopState}
theorem eJ.kept{d:Nat->Prop}{w':an}(h:eJ eM xb sb B1 Wg B2 D L n cl st O w)(c:∀b,O b->d b)(e:¬d Wg)(a:∀b,O b->w'.heap[b]? =w.heap[b]?)(g:WgLive link.tWg Wg w'):eJ eM xb sb B1 Wg B2 D L n cl st d w':=
 ⟨c _ h.ox,c _ h.os,c _ h.o1,c _ h.o2,c _ h.oD,c _ h.oL,e,g,(cell_of (ad:=aa B1 0) (a _ h.o1)).trans h.b1,(cell_of (ad:=aa B2 0) (a _ h.o2)).trans h.b2,(cell_of (ad:=aa xb 9) (a _ h.ox)).trans h.sl,
  fun j v f=>(cell_of (ad:=aa sb j) (a _ h.os)).trans (h.at_ j v f),h.len,(a _ h.oD).trans h.df,(a _ h.oL).trans h.lp,(a _ h.o2).trans h.bx⟩
theorem eJ.rel{w₁}(h:eJ eM xb sb B1 Wg B2 D L n cl st O w)(r:Rel link.tWg Wg O w w₁):eJ eM xb sb B1 Wg B2 D L n cl st O w₁:=h.kept (fun _ x=>x) h.nW r.own (r.live h.lv)
theorem AB{l r ad v}(h:w.cell? ad=some v)(k:w.heap[l]? =some (.loop r)):ad.block≠l:=fun e=>by unfold eO at h;rw[e,k]at h;cases h
theorem AW{w'}(h:WgLive link.tWg Wg w)(e:w'.heap[Wg]? =w.heap[Wg]?):WgLive link.tWg Wg w':=by obtain⟨st,b,a⟩:=h;exact⟨st,b,e.trans a⟩
theorem eJ.fA(h:eJ eM xb sb B1 Wg B2 D L n cl st O w)(b:LoopState):eJ eM xb sb B1 Wg B2 D L n cl b O (fA w L (lz dK ⟨jK xb B1 Wg B2,[]⟩ #[7] (mR eM) (ld eM) D b)):=by
 have c:D≠L:=fun e=>by have:=h.df;rw[e,h.lp]at this;cases this
 have d:Wg≠L:=fun e=>h.nW (e▸h.oL)
 exact⟨h.ox,h.os,h.o1,h.o2,h.oD,h.oL,h.nW,AW h.lv (pK d),(cell_of (ad:=aa B1 0) (pK (AB h.b1 h.lp))).trans h.b1,(cell_of (ad:=aa B2 0) (pK (AB h.b2 h.lp))).trans h.b2,(cell_of (ad:=aa xb 9) (pK (AB h.sl h.lp))).trans h.sl,
  fun j v a=>(cell_of (ad:=aa sb j) (pK (AB (h.at_ j v a) h.lp))).trans (h.at_ j v a),h.len,(pK c).trans h.df,V3 (aP.1 h.lp).1,(pK (AB h.b2 h.lp)).trans h.bx⟩
theorem AV(h:WgLive link.tWg Wg w):Wg<w.heap.size:=by obtain⟨st,b,a⟩:=h;unfold LJ at a;exact(aP.1 a).1
theorem EC{x i}(h:i<w.heap.size):({w with heap:=w.heap.push x}:an).heap[i]? =w.heap[i]? :=by rw[eN,aD ak]
theorem aaQ(p:O B1)(B:O xb)(A:O sb)(H:¬O Wg)(t:∀b,O b->b<w.heap.size)(x:WgLive link.tWg Wg w)(s:w.cell? (aa B1 0)=some (pt xb))(P:w.cell? (aa xb 9)=some (.slice (some (aa sb 0)) n n))(I:∀(j:Nat) v,cl[j]? =some v->w.cell? (aa sb j)=some (vp v))(K:cl.length=n)
  (M:∀B2 D L o m v,(∀b,O b->o b)->(∀b,o b->O b\/w.heap.size<=b)->(∀b,O b->m.heap[b]? =w.heap[b]?)->(∀b,o b->b<m.heap.size)->w.heap.size<=m.heap.size->m.os=w.os->w.heap.size<=B2->w.heap.size<=D->w.heap.size<=L->eJ f61 xb sb B1 Wg B2 D L n cl .ready o m->CJ prog true link.tWg Wg Stop o (nT f61 f96 xb sb B1 Wg B2 D L n 0 v cs0) m):
  CJ prog true link.tWg Wg Stop O (G (dK.at ⟨#[pt xb,pt B1,pt Wg,undef,undef,undef,undef,undef,undef,undef,undef,undef,undef,undef,undef,undef,undef,undef,undef,undef,undef,undef,undef],[]⟩ [.code (za f61)]) cs0) w:=by
 simp;refine .seq (.seq ?_);refine .region ?_;simp;refine .op (pt xb) rfl rfl (by simp[dK]) (fun l r=>?_) (fun l r e k=>?_) ?_
 ·have g:l.cell? (aa B1 0)=some (pt xb):=(r.cell (ad:=aa B1 0) p).trans s;unfold execOp;simp[go_sem,g,Act.put,Act.eval]
 ·have g:l.cell? (aa B1 0)=some (pt xb):=(r.cell (ad:=aa B1 0) p).trans s;unfold execOp at k;simp[go_sem,g,Act.put,Act.eval]at k;subst k;exact wB p (cV (yG s) r.size) false
 walk_nrm
 refine .call rfl rfl (by simp[dK]) rfl func59 aI rfl ?_;rw[sH _ func59 rfl]
 walk_nrm
 simp;refine .seq ?_;refine .region ?_;simp;refine .make (fun n=>pt n) (.cells #[pt xb] 36) rfl rfl (by simp[base]) gQ gR fun a u=>?_
 walk_nrm
 refine .op .nilFunc rfl rfl (by simp[base]) gQ gR ?_
 walk_nrm
 refine .regionEnd (.seq ?_);refine .region ?_;simp only[iH,eD,iF,oJ,fo,dM,oG];refine .op (.func (.func 96) #[] #[pt a.heap.size]) rfl rfl (by simp[base]) gQ gR ?_
 walk_nrm
 refine .op (.func (.func 96) #[] #[pt a.heap.size]) rfl rfl (by simp[base]) gQ gR ?_
 walk_nrm
 refine .regionEnd (.ret (.leave1 rfl rfl func59 rfl ?_));rw[xG]
 walk_nrm
 refine .regionEnd (.block (.E1 (caps:=#[pt a.heap.size]) (by simp[dK]) rfl func96 aI rfl fun d q=>?_));rw[sH _ func96 rfl]
 walk_nrm
 have F:∀b,O b->a.heap[b]? =w.heap[b]? :=u.own;have E:=u.size;have Q:a.heap.size+1<=d.heap.size:=by have:=q.size;simpa using this
 have y:∀b,O b->d.heap[b]? =w.heap[b]? :=fun b hb=>by rw[q.own b (.inl hb),EC (cV (t b hb) E)];exact F b hb
 have z:d.heap[a.heap.size]? =some (.cells #[pt xb] 36):=by rw[q.own _ (.inr rfl)];show(a.heap.push _)[a.heap.size]? =_;simp
 have C:WgLive link.tWg Wg d:=q.live (AW (u.live x) (EC (cV (AV x) E)));generalize hr:lz dK _ _ _ _ d.heap.size .ready=rec
 have f:eJ f61 xb sb B1 Wg a.heap.size d.heap.size (d.heap.size+1) n cl .ready (fun c=>(O c\/c=a.heap.size)\/c=d.heap.size\/c=d.heap.size+1) (mS d rec):=by
  have old:∀b,O b->(mS d rec).heap[b]? =w.heap[b]? :=fun b hb=>by rw[yF (by have:=t b hb;omega)];exact y b hb
  refine⟨.inl (.inl B),.inl (.inl A),.inl (.inl p),.inl (.inr rfl),.inr (.inl rfl),.inr (.inr rfl),?_,AW C (yF (AV C)),(cell_of (ad:=aa B1 0) (old _ p)).trans s,?_,(cell_of (ad:=aa xb 9) (old _ B)).trans P,fun j v J=>(cell_of (ad:=aa sb j) (old _ A)).trans (I j v J),K,We,?_,(yF ak).trans z⟩
  ·have:=AV x;rintro((h|h)|h|h)
   ·exact H h
   all_goals omega
  ·have:(mS d rec).heap[a.heap.size]? =some (.cells #[pt xb] 36):=(yF ak).trans z;simp[eO,this]
  ·rw[Wf,<-hr];rfl
 have N:=M a.heap.size d.heap.size (d.heap.size+1) (fun c=>(O c\/c=a.heap.size)\/c=d.heap.size\/c=d.heap.size+1) (mS d rec) (fun i=>undef) (fun b hb=>.inl (.inl hb)) (fun b hb=>by rcases hb with(hb|hb)|hb|hb;exact .inl hb;all_goals exact .inr ak) (fun b hb=>by rw[yF (by have:=t b hb;omega)];exact y b hb) (fun b hb=>by rw[CZ];rcases hb with(hb|hb)|hb|hb;have:=t b hb;omega;all_goals omega) (by rw[CZ];omega) (q.os.trans u.os) ak ak ak f;simp only[f96,mj];refine .seq ?_;refine .region ?_;simp only[iH,eD,iF,oJ,fo,dM,oG];refine .op (pt xb) rfl rfl (by simp[base]) (fun l r=>?_) (fun l r e k=>?_) ?_
 ·have g:l.cell? (aa a.heap.size 0)=some (pt xb):=(r.cell (ad:=aa a.heap.size 0) f.o2).trans f.b2;unfold execOp;simp[go_sem,g,Act.put,Act.eval]
 ·have g:l.cell? (aa a.heap.size 0)=some (pt xb):=(r.cell (ad:=aa a.heap.size 0) f.o2).trans f.b2;unfold execOp at k;simp[go_sem,g,Act.put,Act.eval]at k;subst k;exact wB f.o2 (cV (yG f.b2) r.size) false
 walk_nrm
 refine .op (pt xb) rfl rfl (by simp[base]) gQ gR ?_
 walk_nrm
 refine .op (.pointer (some (aa xb 9))) rfl rfl (by simp[base]) gQ gR ?_
 walk_nrm
 refine .op (.slice (some (aa sb 0)) n n) rfl rfl (by simp[base]) (fun l r=>?_) (fun l r e k=>?_) ?_
 ·have g:l.cell? (aa xb 9)=some (.slice (some (aa sb 0)) n n):=(r.cell (ad:=aa xb 9) f.ox).trans f.sl;unfold execOp;simp[go_sem,g,Act.put,Act.eval]
 ·have g:l.cell? (aa xb 9)=some (.slice (some (aa sb 0)) n n):=(r.cell (ad:=aa xb 9) f.ox).trans f.sl;unfold execOp at k;simp[go_sem,g,Act.put,Act.eval]at k;subst k;exact wB f.ox (cV (yG f.sl) r.size) false
 walk_nrm
 refine .op (aj n) rfl rfl (by simp[base]) gQ gR ?_
 walk_nrm
 refine .op (aj 0) rfl rfl (by simp[base]) gQ gR ?_
 walk_nrm
 refine .regionEnd (.block (.loop ?_));exact N
end
section
variable [aA] [aW] {Stop:(Nat->Prop)->bw->an->Prop} {O:Nat->Prop} {w:an} {xb sb B1 Wg n B2 D L i:Nat} {cl:List (Option Nat)} {cs0:List aJ} {v:Nat->au}
theorem TN(h:i<n)(a:n<4294967296):IntKind.i64.wrap ((i:Int)+1)=((i+1:Nat):Int):=by rw[IntKind.wrap_i64];omega
theorem aaU(c:eJ f61 xb sb B1 Wg B2 D L n cl .ready O w)(l:i<n)(m:n<4294967296)(g:cl[i]? =some none)
  (o:∀v,CJ prog true link.tWg Wg Stop O (nT f61 f96 xb sb B1 Wg B2 D L n (i+1) v cs0) w):
  CJ prog true link.tWg Wg Stop O (nT f61 f96 xb sb B1 Wg B2 D L n i v cs0) w:=by
 have d:(i:Int)<(n:Int):=ak;have h:(0:Int)<=(i:Int):=ak;have j:=TN l m;simp only[nT,rD,f96,hdT];refine .seq ?_;refine .region ?_;simp only[iH,eD,iF,oJ,fo,dM,oG];refine .op (.bool true) rfl rfl (by simp[base]) (fun b r=>by unfold execOp;simp[go_sem,Act.put,Act.eval,d]) (fun b r e a=>by unfold execOp at a;simp[go_sem,Act.put,Act.eval,d]at a) ?_
 walk_nrm
 refine .regionEnd (.seq (.cond rfl ?_));simp only[cD,eA,dy];refine .skip (.seq (.block (.seq ?_)));refine .region ?_;simp only[iH,eD,iF,oJ,fo,dM,oG];refine .op (.pointer (some (aa sb i))) rfl rfl (by simp[base]) (fun b r=>by unfold execOp;simp[go_sem,Act.put,Act.eval,d,h]) (fun b r e a=>by unfold execOp at a;simp[go_sem,Act.put,Act.eval,d,h]at a) ?_
 walk_nrm
 refine .op (vp none) rfl rfl (by simp[base]) (fun b r=>?_) (fun b r e a=>?_) ?_
 ·have f:=(r.cell c.os).trans (c.at_ i none g);unfold execOp;simp[go_sem,f,Act.put,Act.eval]
 ·have f:=(r.cell c.os).trans (c.at_ i none g);unfold execOp at a;simp[go_sem,f,Act.put,Act.eval]at a;subst a;exact wB c.os (cV (yG (c.at_ i none g)) r.size) false
 walk_nrm
 refine .op (vp none) rfl rfl (by simp[base]) gQ gR ?_
 walk_nrm
 refine .regionEnd (.seq ?_);refine .region ?_;simp only[iH,eD,iF,oJ,fo,dM,oG];refine .op (vp none) rfl rfl (by simp[base]) gQ gR ?_
 walk_nrm
 refine .op (.bool false) rfl rfl (by simp[base]) (fun b r=>by unfold execOp;simp[go_sem,Act.put,Act.eval,vp,QN underlying119]) (fun b r e a=>by unfold execOp at a;simp[go_sem,Act.put,Act.eval,vp,QM underlying119]at a) ?_
 walk_nrm
 refine .op (.bool false) rfl rfl (by simp[base]) gQ gR ?_
 walk_nrm
 refine .unwanted rfl rfl ?_
 walk_nrm
 refine .unwanted rfl rfl ?_
 walk_nrm
 refine .unwanted rfl rfl ?_
 walk_nrm
 refine .unwanted rfl rfl ?_
 walk_nrm
 refine .op (.bool false) rfl rfl (by simp[base]) gQ gR ?_
 walk_nrm
 refine .regionEnd (.cond rfl ?_);simp only[cD,eA,dy];refine .skip (.inBlock ?_);refine .region ?_;simp only[iH,eD,iF,oJ,fo,dM,oG];refine .op (aj ((i+1:Nat):Int)) rfl rfl (by simp[base]) (fun b r=>by unfold execOp;simp[go_sem,Act.put,Act.eval,j]) (fun b r e a=>by unfold execOp at a;simp[go_sem,Act.put,Act.eval,j]at a) ?_
 walk_nrm
 refine .op (aj ((i+1:Nat):Int)) rfl rfl (by simp[base]) gQ gR ?_
 walk_nrm
 refine .regionEnd (.inLoop ?_);exact o (fun k=>(#[undef,undef,undef,undef,vp none,undef,undef,undef,undef,undef,undef,.bool true,.pointer (some (aa sb i)),vp none,vp none,.bool false,.bool false,undef,undef,undef,undef,.bool false,aj ((i+1:Nat):Int)]:Array au).getD k undef)
end
section
variable [aA] [aW] {P:aN} {w:an}
theorem yieldT{l args r}(h:w.heap[l]? =some (.loop r))(a:args.size=r.params.size)(es):(zP l args).runT P w es=(.ok (.round l r.fn ((r.params.zip args).foldl (fun b x=>b.setIfInBounds x.1 x.2) r.tmps) r.assign r.body) w,es.push ⟨.obj l,false,false⟩):=by simp only[zP,Instr.getLoop,getObj,bind,cA,pure,Sem.runT,h,a,ne_eq,not_true_eq_false,dy];rfl
theorem afu{a:Act}{o:dW}{f x:Operand}{b:Array aK}{l:Nat}{v:au}{r:Loop}(d:o.op=.call {callee:=.value f,args:=#[x],argTypes:=b}) (hf:a.eval f=.func (.yield l) #[] #[]) (g:a.eval x=v) (h:w.heap[l]? =some (.loop r)) (k:1=r.params.size) (es):
  (execOp a.eval o).runT P w es=(.ok (.round l r.fn ((r.params.zip #[v]).foldl (fun j x=>j.setIfInBounds x.1 x.2) r.tmps) r.assign r.body) w,es.push ⟨.obj l,false,false⟩):=by
 have e:execOp a.eval o=zP l #[v]:=by unfold execOp;simp[d,resolve,vM,hf,g,invoke,bind,cA,pure]
 rw[e];exact yieldT h ak es
end
section
variable [aA] [aW] {O:Nat->Prop} {w:an} {xb sb B1 Wg n B2 D L i c:Nat} {cl:List (Option Nat)} {cs0:List aJ} {v:Nat->au}
def rnT(xb B1 Wg B2 B c:Nat)(t8:au):Array au:=#[pt xb,pt B1,pt Wg,pt B,undef,pt xb,.func (.func 96) #[] #[pt B2],pt c,t8,undef,undef,undef,undef,undef,undef,undef,undef,undef,undef,undef,undef,undef,undef]
def CV(fn:gn):Array dW:=match ld fn with|.block _ (.seq (.region _ x _) _)=>x|_=>#[]
def goCode(fn:gn):jO:=match ld fn with|.block _ (.seq _ x)=>x|_=>.skip
def Ny(fn:gn):Array dW:=match rD fn with|.seq _ (.seq _ (.seq (.block _ (.seq _ (.seq (.region _ x _) _))) _))=>x|_=>#[]
def NG(fn:gn):jO:=match rD fn with|.seq _ (.seq _ (.seq (.block _ (.seq _ (.seq _ x))) _))=>x|_=>.skip
def Qe(fn:gn):jO:=match rD fn with|.seq _ (.seq _ (.seq _ x))=>x|_=>.skip
def itT(L B2 xb sb n i c:Nat)(v:Nat->au):Array au:=#[.func (.yield L) #[] #[],pt B2,undef,undef,pt c,pt xb,pt xb,.pointer (some (aa xb 9)),.slice (some (aa sb 0)) n n,aj n,aj i,.bool true,.pointer (some (aa sb i)),pt c,pt c,.bool true,.bool true,.func (.yield L) #[] #[],pt c,v 19,v 20,v 21,v 22]
def itF(a:gn)(xb sb B2 L n i c:Nat)(v:Nat->au):aJ:=(base 96).at ⟨itT L B2 xb sb n i c v,[]⟩ (.inRegion (Ny a) [5,6,7]::.code (NG a)::.inBlock 1::.code (Qe a)::.inLoop (rD a)::.inBlock 0::[])
def rnF(a:gn)(xb B1 Wg B2 L B c:Nat)(is:List Nat)(t8:au):aJ:=rf L dK ⟨rnT xb B1 Wg B2 B c t8,[]⟩ (.inRegion (CV a) is::.code (goCode a)::.inBlock 1::[])
def MP(d e:gn)(P:aN)(xb sb B1 Wg B2 D L n i c:Nat)(cl:List (Option Nat))(cs0:List aJ)(O:Nat->Prop)(w:an)(a:Nat->Prop)(g':bw)(w':an):Prop:=
 ∃B v,g'=G (Frame.enter P 97 #[pt Wg,aj 1] .normal) (rnF d xb B1 Wg B2 L B c [0] undef::itF e xb sb B2 L n i c v::vl d xb B1 Wg B2 D L::cs0)/\eJ d xb sb B1 Wg B2 D L n cl .busy a w'/\a B/\¬O B/\w'.cell? (aa B 0)=some (pt c)/\
  (∀b,O b->a b)/\(∀b,a b->O b\/(w.heap.size<=b/\b<w'.heap.size))/\(∀b,O b->b≠L->w'.heap[b]? =w.heap[b]?)/\w.heap.size<=w'.heap.size/\w'.os=w.os
theorem aaR(k:eJ f61 xb sb B1 Wg B2 D L n cl .ready O w)(K:∀b,O b->b<w.heap.size)(hi:i<n)(hn:n<4294967296)(E:cl[i]? =some (some c)):
  CJ prog true link.tWg Wg (MP f61 f96 prog xb sb B1 Wg B2 D L n i c cl cs0 O w) O (nT f61 f96 xb sb B1 Wg B2 D L n i v cs0) w:=by
 have z:(i:Int)<(n:Int):=ak;have J:(0:Int)<=(i:Int):=ak;have av:vp (some c)=pt c:=rfl;generalize hS:MP f61 f96 prog xb sb B1 Wg B2 D L n i c cl cs0 O w=Z;simp only[nT,rD,f96,hdT];refine .seq ?_;refine .region ?_;simp only[iH,eD,iF,oJ,fo,dM,oG];refine .op (.bool true) rfl rfl (by simp[base]) (fun d r=>by unfold execOp;simp[go_sem,Act.put,Act.eval,z]) (fun d r e j=>by unfold execOp at j;simp[go_sem,Act.put,Act.eval,z]at j) ?_
 walk_nrm
 refine .regionEnd (.seq (.cond rfl ?_));simp only[cD,eA,dy];refine .skip (.seq (.block (.seq ?_)));refine .region ?_;simp only[iH,eD,iF,oJ,fo,dM,oG];refine .op (.pointer (some (aa sb i))) rfl rfl (by simp[base]) (fun d r=>by unfold execOp;simp[go_sem,Act.put,Act.eval,z,J]) (fun d r e j=>by unfold execOp at j;simp[go_sem,Act.put,Act.eval,z,J]at j) ?_
 walk_nrm
 refine .op (vp (some c)) rfl rfl (by simp[base]) (fun d r=>?_) (fun d r e j=>?_) ?_
 ·have p:=(r.cell k.os).trans (k.at_ i (some c) E);unfold execOp;simp[go_sem,p,Act.put,Act.eval]
 ·have p:=(r.cell k.os).trans (k.at_ i (some c) E);unfold execOp at j;simp[go_sem,p,Act.put,Act.eval]at j;subst j;exact wB k.os (cV (yG (k.at_ i (some c) E)) r.size) false
 walk_nrm
 refine .op (vp (some c)) rfl rfl (by simp[base]) gQ gR ?_
 walk_nrm
 refine .regionEnd (.seq ?_);refine .region ?_;simp only[iH,eD,iF,oJ,fo,dM,oG];refine .op (vp (some c)) rfl rfl (by simp[base]) gQ gR ?_
 walk_nrm
 refine .op (.bool true) rfl rfl (by simp[base]) (fun d r=>by unfold execOp;simp[go_sem,Act.put,Act.eval,vp,QN underlying119]) (fun d r e j=>by unfold execOp at j;simp[go_sem,Act.put,Act.eval,vp,QM underlying119]at j) ?_
 walk_nrm
 refine .op (.bool true) rfl rfl (by simp[base]) gQ gR ?_
 walk_nrm
 refine .op (.func (.yield L) #[] #[]) rfl rfl (by simp[base]) gQ gR ?_
 walk_nrm
 refine .op (vp (some c)) rfl rfl (by simp[base]) gQ gR ?_
 walk_nrm
 have hrd:∀d,Rel link.tWg Wg O w d->∀(a:Act) (o:dW),o.op=.call {callee:=.value (.tmp 17),args:=#[.tmp 18],argTypes:=#[119]}->a.eval (.tmp 17)=.func (.yield L) #[] #[]->a.eval (.tmp 18)=vp (some c)->(execOp a.eval o).runT prog d #[]=(.ok (.round L 61 #[pt xb,pt B1,pt Wg,undef,undef,pt xb,.func (.func 96) #[] #[pt B2],pt c,undef,undef,undef,undef,undef,undef,undef,undef,undef,undef,undef,undef,undef,undef,undef] (mR f61) (ld f61)) d,#[⟨.obj L,false,false⟩]):=fun d r a o R S T=>by rw[afu R S T (k.rel r).lp rfl #[]];simp[lz,jK,dK,vp]
 refine .round (l:=L) (f:=61) (tmps:=#[pt xb,pt B1,pt Wg,undef,undef,pt xb,.func (.func 96) #[] #[pt B2],pt c,undef,undef,undef,undef,undef,undef,undef,undef,undef,undef,undef,undef,undef,undef,undef]) (jX:=mR f61) (bd:=ld f61) rfl rfl (by simp[base]) (fun d r=>?_) (fun d r e j=>?_) ?_
 ·rw[<-iW _ _ d #[],hrd d r _ _ rfl rfl rfl]
 ·unfold Cj at j;rw[hrd d r _ _ rfl rfl rfl]at j;simp at j;subst j;exact GW k.oL (aP.1 ((k.rel r).lp)).1 false
 simp only[mR,ld,f61];show CJ _ _ _ _ _ _ (G (rf L dK _ _) _) _;refine .Ke ?_;simp only[iH,eD,iF,oJ,fo,dM,oG];refine .aaq (fun n=>pt n) (.cells #[.pointer none] 119) rfl rfl aq (by simp[dK]) gQ gR fun g A=>?_
 walk_nrm
 have M:=A.size;have u:¬O g.heap.size:=fun h=>by have:=K _ h;omega
 have C:∀d:an,Rel link.tWg Wg (fun c=>O c\/c=g.heap.size) {g with heap:=g.heap.push (.cells #[.pointer none] 119)} d->d.heap[g.heap.size]? =some (.cells #[.pointer none] 119):=fun d r=>by rw[r.own _ (.inr rfl)];show(g.heap.push _)[g.heap.size]? =_;simp
 refine .aaw (ad:=aa g.heap.size 0) (v:=pt c) (.inr rfl) rfl rfl aq (by simp[dK]) (fun d r=>?_) (fun d r e j=>?_) fun m s=>?_
 ·have hb:=C d r;have p:d.cell? (aa g.heap.size 0)=some (.pointer none):=by simp[eO,hb]
  have y:d.frozen? (aa g.heap.size 0)=false:=by simp[oK,hb]
  unfold execOp;simp[go_sem,p,y,Act.put,Act.eval]
 ·have hb:=C d r;have p:d.cell? (aa g.heap.size 0)=some (.pointer none):=by simp[eO,hb]
  have y:d.frozen? (aa g.heap.size 0)=false:=by simp[oK,hb]
  unfold execOp at j;simp[go_sem,p,y,Act.put,Act.eval]at j;rw[events_store _ _ _ _ _ _ rfl]at j;simp[go_sem,p,y]at j;subst j;exact wB (.inr rfl) (aP.1 hb).1 true
 walk_nrm
 have s2:g.heap.size+1<=m.heap.size:=by have:=s.size;simpa using this
 have H:∀b,O b->m.heap[b]? =w.heap[b]? :=fun b hb=>by rw[s.own b (.inl hb),EC (cV (K b hb) M)];exact A.own b hb
 have X:WgLive link.tWg Wg m:=s.live (AW (A.live k.lv) (EC (cV (AV k.lv) M)));have I:Wg≠g.heap.size:=by have:=AV k.lv;omega
 have B:∀b,b≠g.heap.size->(m.setCell (aa g.heap.size 0) (pt c)).heap[b]? =m.heap[b]? :=fun b hb=>(Cm m ⟨g.heap.size,0,none⟩ (pt c)).block b hb
 have x:eJ f61 xb sb B1 Wg B2 D L n cl .ready (fun c=>O c\/c=g.heap.size) (m.setCell (aa g.heap.size 0) (pt c)):=
  k.kept (fun b hb=>.inl hb) (fun h=>h.elim k.nW I) (fun b hb=>(B b fun e=>u (e▸hb)).trans (H b hb)) (AW X (B Wg I))
 have Q:(m.setCell (aa g.heap.size 0) (pt c)).cell? (aa g.heap.size 0)=some (pt c):=by have hb:=C m s;have ah:=(aP.1 hb).1;simp[eO,fD,kJ,hb]
 have V:L<(m.setCell (aa g.heap.size 0) (pt c)).heap.size:=(aP.1 x.lp).1;have U:L≠g.heap.size:=fun e=>u (e▸k.oL);refine .Kf (.fA (l:=L) (r:=lz dK ⟨jK xb B1 Wg B2,[]⟩ #[7] (mR f61) (ld f61) D .busy) rfl x.oL V (fun d r=>aae (by simp[dK]) aI (x.rel r).lp rfl) fun F t=>?_);refine .V8 (.aav (.Ke ?_));simp only[iH,eD,iF,oJ,fo,dM,oG];refine .V9 rfl rfl aq (by simp[dK]) rfl func97 aI rfl ?_
 walk_nrm
 subst hS;have s3:m.heap.size<=F.heap.size:=by have:=t.size;simpa using this
 refine .stop fun N q=>⟨g.heap.size,v,rfl,?_,.inr rfl,u,?_,fun b hb=>.inl hb,fun b hb=>?_,fun b hb W=>?_,?_,?_⟩
 ·exact((x.rel t).fA .busy).rel q
 ·rw[q.cell (ad:=aa g.heap.size 0) (.inr rfl),cell_of (ad:=aa g.heap.size 0) (pK (cW U)),t.cell (ad:=aa g.heap.size 0) (.inr rfl)];exact Q
 ·have Y:F.heap.size<=N.heap.size:=by have:=q.size;rwa [wX]at this
  rcases hb with hb|hb
  ·exact .inl hb
  ·exact .inr ak
 ·rw[q.own b (.inl hb),pK W,t.own b (.inl hb),B b fun e=>u (e▸hb)];exact H b hb
 ·have Y:F.heap.size<=N.heap.size:=by have:=q.size;rwa [wX]at this
  omega
 ·exact q.os.trans (t.os.trans ((by simp[fD]:(m.setCell (aa g.heap.size 0) (pt c)).os=m.os).trans (s.os.trans A.os)))
end
section
variable [aA] [aW] {O:Nat->Prop} {w:an} {xb sb B1 Wg n B2 D L B i c:Nat} {cl:List (Option Nat)} {cs0:List aJ} {v:Nat->au}
def Pe(fn:gn):Array dW:=match goCode fn with|.region _ x _=>x|_=>#[]
def goT(xb B1 Wg B2 B c:Nat):Array au:=#[pt xb,pt B1,pt Wg,pt B,undef,pt xb,.func (.func 96) #[] #[pt B2],pt c,.tuple #[],.func (.func 98) #[] #[pt Wg,pt B],undef,undef,undef,undef,undef,undef,undef,undef,undef,undef,undef,undef,undef]
def goF(a:gn)(xb B1 Wg B2 L B c:Nat)(is:List Nat):aJ:=rf L dK ⟨goT xb B1 Wg B2 B c,[]⟩ (.inRegion (Pe a) is::.inBlock 1::[])
theorem VC(eM):(rnF eM xb B1 Wg B2 L B c [0] undef).finish (.tuple #[])=rf L dK ((⟨rnT xb B1 Wg B2 B c undef,[]⟩:Act).put (((CV eM)[0]?).bind (·.dst)) (.tuple #[])) (.inRegion (CV eM) []::.code (goCode eM)::.inBlock 1::[]):=EK ..
theorem aaT:CJ prog true link.tWg Wg (fun a b d=>a=O/\b=G (goF f61 xb B1 Wg B2 L B c [1]) (itF f96 xb sb B2 L n i c v::vl f61 xb B1 Wg B2 D L::cs0)/\Rel link.tWg Wg O w d) O (G ((rnF f61 xb B1 Wg B2 L B c [0] undef).finish (.tuple #[])) (itF f96 xb sb B2 L n i c v::vl f61 xb B1 Wg B2 D L::cs0)) w:=by
 rw[VC];generalize hS:(fun(a:Nat->Prop) (b:bw) (d:an)=>a=O/\b=G (goF f61 xb B1 Wg B2 L B c [1]) _/\Rel link.tWg Wg O w d)=e;generalize f:itF _ _ _ _ _ _ _ _ _=f1 at hS⊢;generalize g:vl _ _ _ _ _ _ _=f2 at hS⊢;simp only[CV,goCode,ld,f61,rnT]
 walk_nrm
 refine .Kf (.Ke ?_);simp;refine .rop (.func (.func 98) #[] #[pt Wg,pt B]) rfl rfl aq (by simp[dK]) gQ gR ?_
 walk_nrm
 subst hS;exact .stop fun h r=>⟨rfl,rfl,r⟩
theorem KM(f1 f2 w):stepG prog true (G (goF f61 xb B1 Wg B2 L B c [1]) (f1::f2::cs0)) w=.spawn (G (goF f61 xb B1 Wg B2 L B c []) (f1::f2::cs0)) (born prog (uP Wg B)) w #[]:=by
 have hr:∀(a:Act) (o:dW),o.op=.go {callee:=.value (.tmp 9),args:=#[],argTypes:=#[]}->a.eval (.tmp 9)=.func (.func 98) #[] #[pt Wg,pt B]->(execOp a.eval o).run prog w=.ok (.spawn (uP Wg B)) w/\(execOp a.eval o).events prog w #[]=#[]:=fun a o g j=>by
  have e:execOp a.eval o=pure (.spawn (uP Wg B)):=by unfold execOp;simp[g,resolve,vM,j,uP,bind,cA,pure]
  rw[e];exact⟨rfl,rfl⟩
 unfold goF;rw[(aan (P:=prog) (main:=true) (w:=w) (b:=dK) (a:=⟨goT xb B1 Wg B2 B c,[]⟩) (k:=[.inBlock 1]) (cs:=f1::f2::cs0) (l:=L) (ops:=Pe f61) (i:=1) (rest:=[]) (d:=uP Wg B) rfl rfl (fun c (h:Op.go {callee:=.value (.tmp 9),args:=#[],argTypes:=#[]}=Op.defer c)=>by cases h) (by simp[dK]) (hr _ _ rfl rfl).1 rfl)]
 have m:∀(f:bh) (a:Act) (o:dW),(execOp a.eval o).events prog w #[]=#[]->listed prog f a o w=#[]:=fun f a o h=>by unfold listed;rw[h,seen_none]
 rw[m _ _ _ (hr _ _ rfl rfl).2];rfl
theorem aaS(d:eJ f61 xb sb B1 Wg B2 D L n cl .busy O w)(A:i<n)(C:n<4294967296):
  CJ prog true link.tWg Wg (fun j m a=>j=O/\(∃v,m=nT f61 f96 xb sb B1 Wg B2 D L n (i+1) v cs0)/\eJ f61 xb sb B1 Wg B2 D L n cl .ready O a/\(∀b,O b->b≠L->a.heap[b]? =w.heap[b]?)/\w.heap.size<=a.heap.size/\a.os=w.os) O
   (G (goF f61 xb B1 Wg B2 L B c []) (itF f96 xb sb B2 L n i c v::vl f61 xb B1 Wg B2 D L::cs0)) w:=by
 have H:(i:Int)<(n:Int):=ak;have F:(0:Int)<=(i:Int):=ak;have u:=TN A C;generalize hS:(fun(j:Nat->Prop) (m:bw) (a:an)=>j=O/\(∃v,m=nT _ _ xb sb B1 Wg B2 D L n (i+1) v cs0)/\eJ _ xb sb B1 Wg B2 D L n cl .ready O a/\(∀b,O b->b≠L->a.heap[b]? =w.heap[b]?)/\w.heap.size<=a.heap.size/\a.os=w.os)=E;refine .Kf (.aao (.fA (l:=L) (r:=lz dK ⟨jK xb B1 Wg B2,[]⟩ #[7] (mR f61) (ld f61) D .ready) rfl d.oL (aP.1 d.lp).1 (fun p r=>aag rfl aI (d.rel r).lp) fun h g=>?_));have s:=(d.rel g).fA .ready;have q:∀b,O b->b≠L->(fA h L (lz dK ⟨jK xb B1 Wg B2,[]⟩ #[7] (mR f61) (ld f61) D .ready)).heap[b]? =w.heap[b]? :=fun b f o=>(pK o).trans (g.own b f);have y:w.heap.size<=(fA h L (lz dK ⟨jK xb B1 Wg B2,[]⟩ #[7] (mR f61) (ld f61) D .ready)).heap.size:=by rw[wX];exact g.size
 have x:(fA h L (lz dK ⟨jK xb B1 Wg B2,[]⟩ #[7] (mR f61) (ld f61) D .ready)).os=w.os:=g.os;generalize fA h L _=I at s q y x⊢;generalize z:vl _ _ _ _ _ _ _=f2;unfold itF;rw[xG];simp only[Ny,NG,Qe,rD,f96,itT]
 walk_nrm
 refine .op (.bool false) rfl rfl (by simp[base]) gQ gR ?_
 walk_nrm
 refine .op (.bool false) rfl rfl (by simp[base]) gQ gR ?_
 walk_nrm
 refine .regionEnd (.cond (v:=false) rfl ?_);simp;refine .skip (.inBlock ?_);refine .region ?_;simp;refine .op (aj ((i+1:Nat):Int)) rfl rfl (by simp[base]) (fun p r=>by unfold execOp;simp[go_sem,Act.put,Act.eval,u]) (fun p r e t=>by unfold execOp at t;simp[go_sem,Act.put,Act.eval,u]at t) ?_
 walk_nrm
 refine .op (aj ((i+1:Nat):Int)) rfl rfl (by simp[base]) gQ gR ?_
 walk_nrm
 refine .regionEnd (.inLoop ?_);subst hS z;exact .stop fun p r=>⟨rfl,⟨(fun k=>(#[undef,undef,undef,undef,pt c,undef,undef,undef,undef,undef,undef,.bool true,.pointer (some (aa sb i)),pt c,pt c,.bool true,.bool true,.func (.yield L) #[] #[],pt c,.bool true,.bool false,.bool false,aj ((i+1:Nat):Int)]:Array au).getD k undef),rfl⟩,s.rel r,fun b f o=>(r.own b f).trans (q b f o),cS y r.size,r.os.trans x⟩
theorem W8(eM x):(vl eM xb B1 Wg B2 D L).finish x=dK.at ⟨jK xb B1 Wg B2,[{target:=.collected D,args:=#[]}]⟩ (.endRangeFunc L::.inBlock 0::.code (zw eM)::[]):=rfl
def aeS(fn:gn):Array dW:=match zw fn with|.seq (.region _ x _) _=>x|_=>#[]
def vE(fn:gn):jO:=match zw fn with|.seq _ x=>x|_=>.skip
def wtF(a:gn)(xb B1 Wg B2 D:Nat)(is:List Nat)(t10:au):aJ:=dK.at ⟨(jK xb B1 Wg B2).setIfInBounds 10 t10,[{target:=.collected D,args:=#[]}]⟩ (.inRegion (aeS a) is::.code (vE a)::[])
theorem aaV(d:eJ f61 xb sb B1 Wg B2 D L n cl .ready O w):
  CJ prog true link.tWg Wg (fun h j a=>h=O/\j=G (Frame.enter prog 101 #[pt Wg] .normal) (wtF f61 xb B1 Wg B2 D [0] undef::cs0)/\eJ f61 xb sb B1 Wg B2 D L n cl .exhausted O a/\(∀b,O b->b≠L->a.heap[b]? =w.heap[b]?)/\w.heap.size<=a.heap.size/\a.os=w.os) O
   (nT f61 f96 xb sb B1 Wg B2 D L n n v cs0) w:=by
 generalize hS:(fun(h:Nat->Prop) (j:bw) (a:an)=>h=O/\j=G (Frame.enter prog 101 #[pt Wg] .normal) _/\eJ _ xb sb B1 Wg B2 D L n cl .exhausted O a/\(∀b,O b->b≠L->a.heap[b]? =w.heap[b]?)/\w.heap.size<=a.heap.size/\a.os=w.os)=t;simp only[nT,rD,f96,hdT];refine .seq ?_;refine .region ?_;simp only[iH,eD,iF,oJ,fo,dM,oG];refine .op (.bool false) rfl rfl (by simp[base]) gQ gR ?_
 walk_nrm
 refine .regionEnd (.seq (.cond (v:=false) rfl ?_));simp only[cD,eA,dy];refine .exit rfl (.end_ (.leave rfl rfl rfl func96 rfl ?_));rw[W8];refine .fA (l:=L) (r:=lz dK ⟨jK xb B1 Wg B2,[]⟩ #[7] (mR f61) (ld f61) D .exhausted) rfl d.oL (aP.1 d.lp).1 (fun s r=>adC aI (d.rel r).lp rfl rfl) fun g f=>?_;have o:=(d.rel f).fA .exhausted;have m:∀b,O b->b≠L->(fA g L (lz dK ⟨jK xb B1 Wg B2,[]⟩ #[7] (mR f61) (ld f61) D .exhausted)).heap[b]? =w.heap[b]? :=fun b e k=>(pK k).trans (f.own b e);have q:w.heap.size<=(fA g L (lz dK ⟨jK xb B1 Wg B2,[]⟩ #[7] (mR f61) (ld f61) D .exhausted)).heap.size:=by rw[wX];exact f.size
 have p:(fA g L (lz dK ⟨jK xb B1 Wg B2,[]⟩ #[7] (mR f61) (ld f61) D .exhausted)).os=w.os:=f.os;generalize fA g L _=u at o m q p⊢;simp only[zw,f61];refine .inBlock (.seq ?_);refine .region ?_;simp only[iH,eD,iF,oJ,fo,dM,oG];refine .call rfl rfl (by simp[dK]) rfl func101 aI rfl ?_
 walk_nrm
 subst hS;exact .stop fun s r=>⟨rfl,rfl,o.rel r,fun b e k=>(r.own b e).trans (m b e k),cS q r.size,r.os.trans p⟩
end
end
section
open Classical
open Go.Conc Go.Conc.Lib Go.ConcN.Gen Go.ConcR.Gen Go.RowKit
open Go.ConcN (ShN WgLive Has)
open Go.ConcR (Payload stA smA WgAt)
open Go.Proofs.Tryz
section
variable [aA] [aW]
theorem WS.mono{P}{a:aK}{Wg Q Q' p O g w}(h:WS P a Wg Q p O g w)(d:∀O w,Q O w->Q' O w):WS P a Wg Q' p O g w:=by
 induction h with
 |quit h k=>exact .quit h fun j r=>d _ _ (k j r)
 |step c b q h f _ e=>exact .step c b q h f e
structure Setup(l:List bh)(C:Nat->Nat->Prop)(R:Nat->jP->an->Prop)(K:Nat->Prop)(w0:an)(cl:List (Option Nat))(xb sb B1 Wg n:Nat):Prop where
 fit:Fit prog l
 okR:aA.ok 100
 Zn:prog.globals.size<=w0.heap.size
 len:cl.length=n
 small:n<2147483647
 closed:∀(j:Nat) c,cl[j]? =some (some c)->Closed (C c) w0/\C c c
 Hu:∀(j f:Nat) c d,cl[j]? =some (some c)->cl[f]? =some (some d)->j≠f->∀b,C c b->¬C d b
 bU:∀(j:Nat) c,cl[j]? =some (some c)->∀b,C c b->¬K b/\b≠Wg/\b<w0.heap.size
 kx:K xb/\K sb/\K B1
 klt:∀b,K b->b<w0.heap.size
 Kh:∀c e u a,R c e u->R c e (an.tp u a)
 Kg:∀c e u,R c e u->∃v,e=.returned v
 calls:∀(j:Nat) c,cl[j]? =some (some c)->∀w,(∀b,C c b->w.heap[b]? =w0.heap[b]?)->w0.heap.size<=w.heap.size->w.os=w0.os->∀a,Calls prog 100 #[pt c] ((mask (C c) w).tp a) (R c)
structure iI(C:Nat->Nat->Prop)(K:Nat->Prop)(w0:an)(cl:List (Option Nat))(i:Nat)(O:Nat->Prop)(w:an):Prop where
 size:w0.heap.size<=w.heap.size
 os:w.os=w0.os
 lt:∀b,O b->b<w.heap.size
 rest:∀(j:Nat) c,i<=j->cl[j]? =some (some c)->∀b,C c b->O b/\w.heap[b]? =w0.heap[b]?
 kept:∀b,K b->O b/\w.heap[b]? =w0.heap[b]?
variable {C:Nat->Nat->Prop} {R:Nat->jP->an->Prop} {K:Nat->Prop} {w0:an} {cl:List (Option Nat)} {xb sb B1 Wg n B2 D L:Nat} {O:Nat->Prop} {w:an} {i:Nat}
theorem iI.rel{w₁}(h:iI C K w0 cl i O w)(r:Rel link.tWg Wg O w w₁):iI C K w0 cl i O w₁:=
 ⟨cS h.size r.size,r.os.trans h.os,fun b a=>cV (h.lt b a) r.size,fun j c e d b a=>⟨(h.rest j c e d b a).1,(r.own b (h.rest j c e d b a).1).trans (h.rest j c e d b a).2⟩,fun b a=>⟨(h.kept b a).1,(r.own b (h.kept b a).1).trans (h.kept b a).2⟩⟩
theorem iI.next(h:iI C K w0 cl i O w){i'}(b:i<=i'):iI C K w0 cl i' O w:=⟨h.size,h.os,h.lt,fun j c d a=>h.rest j c ak a,h.kept⟩
theorem Ku{eM st ad v}(a:ad.block=Wg)(h:eJ eM xb sb B1 Wg B2 D L n cl st O w)(d:WgLive link.tWg Wg (w.setCell ad v)):eJ eM xb sb B1 Wg B2 D L n cl st O (w.setCell ad v):=
 h.kept (fun _ x=>x) h.nW (fun b c=>(Cm w ad v).block b fun e=>h.nW (a▸e▸c)) d
theorem Kt{ad v}(k:ad.block=Wg)(g:¬O Wg)(h:iI C K w0 cl i O w):iI C K w0 cl i O (w.setCell ad v):=
 ⟨by simpa using h.size,(by simp[fD]:(w.setCell ad v).os=w.os).trans h.os,fun b a=>by simpa using h.lt b a,fun j c f d b a=>⟨(h.rest j c f d b a).1,((Cm w ad v).block b fun e=>g (k▸e▸(h.rest j c f d b a).1)).trans (h.rest j c f d b a).2⟩,fun b a=>⟨(h.kept b a).1,((Cm w ad v).block b fun e=>g (k▸e▸(h.kept b a).1)).trans (h.kept b a).2⟩⟩
def sat(cl:List (Option Nat)):List Nat:=cl.filterMap id
def Qs(C:Nat->Nat->Prop)(R:Nat->jP->an->Prop)(cl:List (Option Nat))(m:Nat)(O:Nat->Prop)(w:an):Prop:=∃c,(sat cl)[m]? =some c/\Qr (C c) (R c) O w
def CK(a:gn)(C:Nat->Nat->Prop)(K:Nat->Prop)(w0:an)(cl:List (Option Nat))(xb sb B1 Wg n:Nat)(cs0:List aJ)(m:Nat)(O:Nat->Prop)(g:bw)(w:an):Prop:=
 m=(sat cl).length/\∃B2 D L,g=G (wtF a xb B1 Wg B2 D [] (.tuple #[])) cs0/\eJ a xb sb B1 Wg B2 D L n cl .exhausted O w/\iI C K w0 cl n O w/\w0.heap.size<=B2/\w0.heap.size<=D
theorem aaG{c}(h:cl[i]? =some (some c)):(sat cl)[(sat (cl.take i)).length]? =some c/\(sat (cl.take (i+1))).length=(sat (cl.take i)).length+1:=by
 have e:sat cl=sat (cl.take i)++(c::sat (cl.drop (i+1))):=by
  have a:=ed.1 h
  have b:cl=cl.take i++(some c::cl.drop (i+1)):=by rw[<-a.2,<-zT ((ed.1 h).1),oH]
  rw[(dG sat b)];simp[sat]
 constructor
 ·rw[e,qN (aV _)];simp
 ·rw[sr,h];simp[sat]
theorem aaF(h:cl[i]? =some none):(sat (cl.take (i+1))).length=(sat (cl.take i)).length:=by rw[sr,h];simp[sat]
theorem aaE:∀cl:List (Option Nat),(sat cl).length<=cl.length:=fun cl=>List.length_filterMap_le _ _
end
end
section
open Go.Conc Go.Conc.Lib Go.ConcN.Gen Go.ConcR.Gen Go.RowKit
open Go.ConcN (ShN WgLive Has)
open Go.ConcR (Payload stA smA WgAt)
open Go.Proofs.Tryz
section
variable [aA] [aW] {l:List bh} {C:Nat->Nat->Prop} {R:Nat->jP->an->Prop} {K:Nat->Prop} {w0:an} {cl:List (Option Nat)} {xb sb B1 Wg n L:Nat} {O:Nat->Prop} {w:an} {i:Nat}
theorem iI.AZ(S:Setup l C R K w0 cl xb sb B1 Wg n)(h:iI C K w0 cl i O w)(r:w0.heap.size<=L){O' w'}(f:∀b,O b->O' b)(o:∀b,O' b->b<w'.heap.size)(k:∀b,O b->b≠L->w'.heap[b]? =w.heap[b]?)(q:w.heap.size<=w'.heap.size)(p:w'.os=w.os):iI C K w0 cl i O' w':=by
 refine⟨cS h.size q,p.trans h.os,o,fun j c m g b d=>?_,fun b d=>?_⟩
 ·obtain⟨a,e⟩:=h.rest j c m g b d;have:=(S.bU j c g b d).2.2;exact⟨f b a,(k b a ak).trans e⟩
 ·obtain⟨a,e⟩:=h.kept b d;have:=S.klt b d;exact⟨f b a,(k b a ak).trans e⟩
theorem VE(Wg):Frame.enter prog 97 #[pt Wg,aj 1] .normal=(base link.add).at ⟨#[pt Wg,aj 1,undef,undef,undef,undef,undef,undef,undef,undef,undef,undef,undef,undef,undef,undef,undef,undef,undef,undef,undef,undef,undef,undef,undef,undef,undef,undef,undef,undef,undef,undef,undef,undef,undef,undef,undef,undef,undef,undef,undef,undef,undef,undef,undef,undef,undef,undef,undef,undef,undef,undef,undef,undef,undef,undef,undef,undef,undef,undef,undef,undef,undef,undef,undef,undef,undef,undef,undef,undef,undef,undef,undef,undef,undef,undef,undef,undef,undef,undef,undef,undef,undef,undef,undef,undef,undef,undef,undef,undef,undef,undef,undef,undef,undef,undef,undef,undef,undef,undef,undef,undef,undef,undef,undef,undef,undef,undef,undef,undef,undef,undef,undef,undef,undef,undef,undef],[]⟩ [.code (body_add link)]:=by
 rw[sH _ xq.f_add rfl]
 walk_nrmf addFn
 rfl
theorem aeU(Wg):Frame.enter prog 101 #[pt Wg] .normal=(base link.wait).at ⟨#[pt Wg,undef,undef,undef,undef,undef,undef,undef,undef,undef,undef,undef,undef,undef,undef,undef,undef,undef,undef,undef,undef,undef,undef,undef,undef,undef,undef,undef,undef,undef,undef,undef,undef,undef,undef,undef,undef,undef,undef,undef,undef,undef,undef,undef,undef,undef,undef,undef,undef,undef,undef,undef,undef,undef,undef,undef,undef,undef,undef,undef,undef,undef,undef,undef,undef,undef,undef,undef,undef,undef,undef,undef,undef,undef,undef,undef,undef,undef,undef,undef,undef,undef,undef,undef],[]⟩ [.code (body_wait link)]:=by
 rw[sH _ xq.f_wait rfl]
 walk_nrmf waitFn
 rfl
end
section
variable [aA] [aW] {l:List bh} {C:Nat->Nat->Prop} {R:Nat->jP->an->Prop} {K:Nat->Prop} {w0:an} {cl:List (Option Nat)} {xb sb B1 Wg n B2 D L:Nat} {O:Nat->Prop} {w:an} {cs0:List aJ}
theorem G8{M m}(S:Setup l C R K w0 cl xb sb B1 Wg n)(hm:m=(sat cl).length)(f:w0.heap.size<=B2)(i:w0.heap.size<=D)(c:eJ f61 xb sb B1 Wg B2 D L n cl .exhausted O w)(hF:iI C K w0 cl n O w):
  MS prog link.tWg Wg (CK f61 C K w0 cl xb sb B1 Wg n cs0) (Qs C R cl) M m .opn O (G (Frame.enter prog 101 #[pt Wg] .normal) (wtF f61 xb B1 Wg B2 D [0] undef::cs0)) w:=by
 rw[aeU]
 refine H7 (J:=fun w=>eJ f61 xb sb B1 Wg B2 D L n cl .exhausted O w/\iI C K w0 cl n O w) (fun w j r h=>⟨h.1.rel r,h.2.rel r⟩) (fun w v a h=>⟨Ku rfl h.1 a,Kt rfl h.1.nW h.2⟩) (fun w v a h=>⟨Ku rfl h.1 a,Kt rfl h.1.nW h.2⟩) (b:=2147483646) (aV _)
  (Fin:=fun g w=>g=G (wtF f61 xb B1 Wg B2 D [] (.tuple #[])) cs0) (fun g w d h=>?_) (aeV xq (fun w _=>rfl)) ⟨c,hF⟩ (aeT xq w c.lv)
 have e:=h w (.refl ..);subst e;exact .done fun j r=>⟨hm,B2,D,L,rfl,d.1.rel r,d.2.rel r,f,i⟩
theorem G7{Post Q M m B c f1 f2 eM}(J:an->Prop)(d:∀w b,Rel link.tWg Wg O w b->J w->J b)(f:∀w v,WgLive link.tWg Wg (w.setCell (stA Wg) v)->J w->J (w.setCell (stA Wg) v))(hF:∀w,J w->MS prog link.tWg Wg Post Q M m .ready O (G ((rnF eM xb B1 Wg B2 L B c [0] undef).finish (.tuple #[])) (f1::f2::cs0)) w)(a:J w)(i:WgLive link.tWg Wg w):
  MS prog link.tWg Wg Post Q M m .opn O (G (Frame.enter prog 97 #[pt Wg,aj 1] .normal) (rnF eM xb B1 Wg B2 L B c [0] undef::f1::f2::cs0)) w:=by
 rw[VE];refine G5 (J:=J) d f (Fin:=fun g w=>g=G ((rnF eM xb B1 Wg B2 L B c [0] undef).finish (.tuple #[])) (f1::f2::cs0)) (fun g w a h=>?_) a (VD xq (fun w _=>rfl) w i);have e:=h w (.refl ..);subst e;exact hF w a
end
section
variable [aA] [aW] {l:List bh} {C:Nat->Nat->Prop} {R:Nat->jP->an->Prop} {K:Nat->Prop} {w0:an} {cl:List (Option Nat)} {xb sb B1 Wg n B2 D L:Nat} {cs0:List aJ}
theorem eJ.split{eM st}{O A:Nat->Prop}{w:an}(h:eJ eM xb sb B1 Wg B2 D L n cl st O w)(g:¬A xb)(f:¬A sb)(a:¬A B1)(c:¬A B2)(d:¬A D)(e:¬A L):eJ eM xb sb B1 Wg B2 D L n cl st (fun b=>O b/\¬A b) w:=
 ⟨⟨h.ox,g⟩,⟨h.os,f⟩,⟨h.o1,a⟩,⟨h.o2,c⟩,⟨h.oD,d⟩,⟨h.oL,e⟩,fun k=>h.nW k.1,h.lv,h.b1,h.b2,h.sl,h.at_,h.len,h.df,h.lp,h.bx⟩
theorem Jt[Payload](S:Setup l C R K w0 cl xb sb B1 Wg n)(F:w0.heap.size<=B2)(G:w0.heap.size<=D)(u:w0.heap.size<=L):∀(k i:Nat) (v:Nat->au) (O:Nat->Prop) (w:an),i+k=n->eJ f61 xb sb B1 Wg B2 D L n cl .ready O w->iI C K w0 cl i O w->
  MS prog link.tWg Wg (CK f61 C K w0 cl xb sb B1 Wg n cs0) (Qs C R cl) n (sat (cl.take i)).length .opn O (nT f61 f96 xb sb B1 Wg B2 D L n i v cs0) w
 |0,i,v,O,w,hk,f,hF=>by obtain rfl:i=n:=ak;refine wU (.inl rfl) (aaV f) fun z N s h=>?_;obtain⟨rfl,rfl,aO,he,g,X⟩:=h s (.refl ..);refine G8 S ?_ F G aO (hF.AZ S u (fun _ x=>x) (fun b a=>cV (hF.lt b a) g) he g X);rw[su (Nat.le_of_eq S.len)]
 |k+1,i,v,O,w,hk,f,hF=>by
  have I:i<n:=ak;have W:n<4294967296:=by have:=S.small;omega
  have av:i<cl.length:=by rw[S.len];exact I
  cases hx:cl[i]with
  |none=>
   have d:cl[i]? =some none:=by rw[dN av,hx]
   refine wU (.inl rfl) (Stop:=fun z N s=>z=O/\(∃v,N=nT f61 f96 xb sb B1 Wg B2 D L n (i+1) v cs0)/\Rel link.tWg Wg O w s) (aaU f I W d fun v=>.stop fun bz r=>⟨rfl,⟨v,rfl⟩,r⟩) fun z N s h=>?_;obtain⟨rfl,⟨v',rfl⟩,r⟩:=h s (.refl ..);have:=Jt S F G u k (i+1) v' z s ak (f.rel r) ((hF.rel r).next (ju i));rw[aaF d]at this;exact this
  |some c=>
   have d:cl[i]? =some (some c):=by rw[dN av,hx]
   obtain⟨ay,bp⟩:=aaG d;refine wU (.inl rfl) (aaR f hF.lt I W d) fun E g1 Z h=>?_;obtain⟨B,v1,rfl,IA,m,Pt,yL,aS,ah,aX,az,bk⟩:=h Z (.refl ..);have bg:∀b,E b->b<Z.heap.size:=fun b a=>(ah b a).elim (fun h=>cV (hF.lt b h) az) fun h=>h.2;have aI:iI C K w0 cl i E Z:=hF.AZ S u aS bg aX az bk;have bE:w.heap.size<=B:=(ah B m).elim (fun h=>absurd h Pt) fun h=>h.1
   refine G7 (fun w=>eJ f61 xb sb B1 Wg B2 D L n cl .busy E w/\iI C K w0 cl i E w/\w.cell? (aa B 0)=some (pt c)) (fun w bz r h=>⟨h.1.rel r,h.2.1.rel r,(r.cell (ad:=aa B 0) m).trans h.2.2⟩)
    (fun w v hl h=>⟨Ku rfl h.1 hl,Kt rfl h.1.nW h.2.1,(cell_of (ad:=aa B 0) ((Cm w (stA Wg) v).block B fun e=>h.1.nW ((show B=Wg from e)▸m))).trans h.2.2⟩) (fun w2 hJ=>?_) ⟨IA,aI,yL⟩ IA.lv
   obtain⟨ZA,aL,aT⟩:=hJ;refine wU (.inr rfl) aaT fun J g3 w3 h=>?_;obtain⟨rfl,rfl,Y⟩:=h w3 (.refl ..);have T:=ZA.rel Y;have Q:=aL.rel Y
   have aH:∀b,C c b->b≠B:=fun b a e=>by have:=(S.bU i c d b a).2.2;have:=hF.size;omega
   have hA:∀b,(C c b\/b=B)->J b:=fun b a=>a.elim (fun h=>(Q.rest i c (aV _) d b h).1) fun h=>h▸m;have aj:∀b,O b->¬C c b->¬(C c b\/b=B):=fun b a hc h=>h.elim hc fun e=>Pt (e▸a);have H:∀b,K b->¬(C c b\/b=B):=fun b a=>aj b (hF.kept b a).1 fun h=>(S.bU i c d b h).1 a
   have U:∀b,O b->w0.heap.size<=b->¬(C c b\/b=B):=fun b a bF=>aj b a fun h=>by have:=(S.bU i c d b h).2.2;omega
   refine .spawn (A:=fun b=>C c b\/b=B) (R:=fun b=>J b/\¬(C c b\/b=B)) ?_ rfl hA (fun b a=>a.1) (fun b a h=>h.2 a) (fun b a=>(Classical.em (C c b\/b=B)).imp id fun h=>⟨a,h⟩) (fun y q=>⟨_,_,KM _ _ y,rfl⟩) (fun y g4 ch q g=>?_) fun y g4 ch q g=>?_
   ·have P:=aaE cl;have h2:=(ed.1 ay).1;rw[S.len]at P;omega
   ·rw[KM]at g;cases g;have p:=Q.rel q;have aq:∀b,C c b->y.heap[b]? =w0.heap[b]? :=fun b a=>(p.rest i c (aV _) d b a).2;refine(afo S.fit S.okR (cS S.Zn p.size) (fun b a=>?_) (S.closed i c d).2 (fun h=>aH B h rfl) (fun h=>(S.bU i c d Wg h).2.1 rfl) (fun e=>T.nW (e▸m)) (q.live T.lv) ((q.cell (ad:=aa B 0) m).trans ((Y.cell (ad:=aa B 0) m).trans aT)) (S.Kh c) (S.Kg c) (S.calls i c d y aq p.size p.os)).mono fun z s hq=>⟨c,ay,hq⟩;obtain⟨o,X,uX⟩:=(S.closed i c d).1 b a;exact⟨o,(aq b a).trans X,uX⟩
   ·rw[KM]at g;cases g
    have p:iI C K w0 cl (i+1) (fun b=>J b/\¬(C c b\/b=B)) y:=by have t:=Q.rel q;refine⟨t.size,t.os,fun b a=>t.lt b a.1,fun j M hj V b a=>?_,fun b a=>⟨⟨(t.kept b a).1,H b a⟩,(t.kept b a).2⟩⟩;obtain⟨P,h2⟩:=t.rest j M ak V b a;refine⟨⟨P,fun h=>h.elim (S.Hu j i M c V d ak b a) fun e=>?_⟩,h2⟩;have:=(S.bU j M V b a).2.2;have:=hF.size;omega
    refine wU (.inl rfl) (aaS ((T.rel q).split (A:=fun b=>C c b\/b=B) (H _ S.kx.1) (H _ S.kx.2.1) (H _ S.kx.2.2) (U _ f.o2 F) (U _ f.oD G) (U _ f.oL u)) I W) fun O5 g5 w5 h=>?_;obtain⟨rfl,⟨v5,rfl⟩,aQ,aY,aA,bl⟩:=h w5 (.refl ..);have:=Jt S F G u k (i+1) v5 _ w5 ak aQ (p.AZ S u (fun _ x=>x) (fun b a=>cV (p.lt b a) aA) aY aA bl);rw[bp]at this;exact this
end
end
section
open Classical
open Go.Conc Go.Conc.Lib Go.ConcN.Gen Go.ConcR.Gen Go.RowKit
open Go.ConcN (ShN WgLive Has)
open Go.ConcR (Payload stA smA WgAt)
open Go.Proofs.Tryz
section
variable [aA]
structure Enters(l:List bh)(C:Nat->Nat->Prop)(R:Nat->jP->an->Prop)(u:an)(cl:List (Option Nat))(xb sb n:Nat):Prop where
 fit:Fit prog l
 okR:aA.ok 100
 okS:aA.ok 96
 kn:aA.known 61
 len:cl.length=n
 small:n<2147483647
 sl:u.cell? (aa xb 9)=some (.slice (some (aa sb 0)) n n)
 at_:∀(j:Nat) v,cl[j]? =some v->u.cell? (aa sb j)=some (vp v)
 dA:∃o,u.heap[sb]? =some o/\o≠bG
 closed:∀(j:Nat) c,cl[j]? =some (some c)->Closed (C c) u/\C c c
 Hu:∀(j f:Nat) c d,cl[j]? =some (some c)->cl[f]? =some (some d)->j≠f->∀b,C c b->¬C d b
 bU:∀(j:Nat) c,cl[j]? =some (some c)->¬C c xb/\¬C c sb
 Kh:∀c e u a,R c e u->R c e (an.tp u a)
 Kg:∀c e u,R c e u->∃v,e=.returned v
 calls:∀(j:Nat) c,cl[j]? =some (some c)->∀w,(∀b,C c b->w.heap[b]? =u.heap[b]?)->u.heap.size<=w.heap.size->w.os=u.os->∀a,Calls prog 100 #[pt c] ((mask (C c) w).tp a) (R c)
structure After(C:Nat->Nat->Prop)(R:Nat->jP->an->Prop)(cl:List (Option Nat))(u d:an)(xb g m h D:Nat):Prop where
 size:u.heap.size<=d.heap.size
 os:d.os=u.os
 news:u.heap.size<=g/\u.heap.size<=m/\u.heap.size<=h/\u.heap.size<=D
 kept:∀b,b<u.heap.size->(∀(j:Nat) c,cl[j]? =some (some c)->¬C c b)->d.heap[b]? =u.heap[b]?
 b1:d.heap[g]? =some (.cells #[pt xb] 36)
 b2:d.heap[h]? =some (.cells #[pt xb] 36)
 df:d.heap[D]? =some (.deferred (some []))
 reads:∃e:Nat->Nat->Prop,(∀c i b,c∈sat cl->i∈sat cl->c≠i->e c b->¬e i b)/\(∀c b,c∈sat cl->e c b->b≠g/\b≠h/\b≠D/\(b<u.heap.size->C c b))/\
  ∀c,c∈sat cl->∃k f v,R c (.returned v) k/\(dL (C c)).le f/\eK prog f k d/\Whole (fun _=>False) f k/\∀a b,f a b->e c b
theorem Em{cl c}:c∈sat cl↔∃j:Nat,cl[j]? =some (some c):=by
 unfold sat;rw[Gj];constructor
 ·rintro⟨x,b,e⟩;obtain rfl:x=some c:=e;exact sj.1 b
 ·rintro⟨j,a⟩;exact⟨some c,sj.2 ⟨j,a⟩,rfl⟩
theorem Bu{X b}(h:X b):VR (dL X) (pt b) (pt b):=.ptr ⟨⟨rfl,h⟩,rfl,rfl⟩
theorem Q1{X b}(t)(h:X b):OR (dL X) (.cells #[pt b] t) (.cells #[pt b] t):=.cells _ _ ⟨rfl,fun i v d a c=>by
 rw[a]at c;cases c
 match i,a with
 |0,a=>cases a;exact Bu h
 |i+1,a=>simp at a⟩
variable [aW] {l:List bh} {C:Nat->Nat->Prop} {R:Nat->jP->an->Prop} {cl:List (Option Nat)} {xb sb n:Nat} {u u1 w w1:an} {cs:List aJ} {fr:aJ} {gs:Array bw} {t:eW} {q:Nat->Nat} {Shun:Loc->Prop} {S:Nat->Prop} {ρ:Ren} {x:Obj}
def Kb(C:Nat->Nat->Prop)(cl:List (Option Nat))(S:Nat->Prop)(ρ:Ren)(b:Nat):Prop:=(ρ b b/\¬S b)/\∀(j:Nat) c,cl[j]? =some (some c)->¬C c b
theorem Enters.own(E:Enters l C R u cl xb sb n)(p:∀b,b<u.heap.size->u1.heap[b]? =u.heap[b]?)(i:eY prog Shun S fr cs u1 ρ gs w t q){j c:Nat}(m:cl[j]? =some (some c)){b:Nat}(k:C c b):b<u.heap.size/\ρ b b/\¬S b/\w.heap[b]? =u.heap[b]? /\∃o,w.heap[b]? =some o/\OR (dL (C c)) o o:=by obtain⟨o,a,f⟩:=(E.closed j c m).1 b k;have e:=(aP.1 a).1;obtain⟨g,h,d,_⟩:=i.heap ((p b e).trans a) (fO f);exact⟨e,g,h,d.trans a.symm,o,d,f⟩
theorem Enters.setup(E:Enters l C R u cl xb sb n)(m:∀b,b<u.heap.size->u1.heap[b]? =u.heap[b]?)(N:u1.heap.size=u.heap.size+1)(D:u1.cell? (aa u.heap.size 0)=some (pt xb))(H:u1.os=u.os)(f:eY prog Shun S fr cs u1 ρ gs w t q)(v:w1.heap=w.heap.push x)(I:w1.os=w.os):
  Setup l C R (Kb C cl S ρ) w1 cl xb sb u.heap.size w.heap.size n:=by
 have M:u1.heap.size=w.heap.size:=f.size;have L:w1.heap.size=w.heap.size+1:=by rw[v];simp
 have s:∀b,b<w.heap.size->w1.heap[b]? =w.heap[b]? :=fun b d=>by rw[v,eN,aD ak]
 have k:=fun{j c:Nat} (a:cl[j]? =some (some c)) {b:Nat} (d:C c b)=>E.own m f a d
 have p:∀b,(∃o,u1.heap[b]? =some o/\o≠bG)->(∀(j:Nat) c,cl[j]? =some (some c)->¬C c b)->Kb C cl S ρ b:=fun b ⟨o,e,i⟩ F=>by obtain⟨g,r,_,_⟩:=f.heap e i;exact⟨⟨g,r⟩,F⟩
 refine⟨E.fit,E.okR,?_,E.len,E.small,fun j c a=>⟨fun b d=>?_,(E.closed j c a).2⟩,E.Hu,fun j c a b d=>?_,⟨p _ ?_ fun j c a=>(E.bU j c a).1,p _ ?_ fun j c a=>(E.bU j c a).2,p _ (og D) fun j c a h=>?_⟩,fun b d=>?_,E.Kh,E.Kg,fun j c a J g r z=>?_⟩
 ·have:=f.world.base;omega
 ·obtain⟨g,_,_,_,o,A,B⟩:=k a d;exact⟨o,(s b ak).trans A,B⟩
 ·obtain⟨g,_⟩:=k a d;exact⟨fun G=>G.2 j c a d,ak,ak⟩
 ·obtain⟨o,e,i⟩:=og E.sl;exact⟨o,(m _ (aP.1 e).1).trans e,i⟩
 ·obtain⟨o,e,i⟩:=E.dA;exact⟨o,(m _ (aP.1 e).1).trans e,i⟩
 ·have:=(k a h).1;exact sB _ this
 ·have:=(f.world.lt b b d.1.1).2;omega
 ·refine E.calls j c a J (fun b d=>?_) ak ?_
  ·obtain⟨K,_,_,y,_⟩:=k a d;exact(g b d).trans ((s b ak).trans y)
  ·rw[z,I,f.world.os.1,H]
end
section
variable [aA] [aW] {l:List bh} {C:Nat->Nat->Prop} {R:Nat->jP->an->Prop} {cl:List (Option Nat)} {xb sb n:Nat} {u u1 w w1 w':an} {cs:List aJ} {fr:aJ} {gs:Array bw} {t:eW} {q:Nat->Nat} {Shun:Loc->Prop} {S:Nat->Prop} {ρ:Ren} {x:Obj} {Oq:Nat->Nat->Prop} {O':Nat->Prop} {m B2 D L:Nat}
def MU(C:Nat->Nat->Prop)(R:Nat->jP->an->Prop)(cl:List (Option Nat))(m:Nat)(Oq:Nat->Nat->Prop)(w':an)(i c:Nat)(e:an)(d:Ren)(v:au):Prop:=
 i<m/\(sat cl)[i]? =some c/\R c (.returned v) e/\(dL (C c)).le d/\eK prog d e w'/\Whole (fun _=>False) d e/\∀a b,d a b->Oq i b
def Ob(C:Nat->Nat->Prop)(R:Nat->jP->an->Prop)(cl:List (Option Nat))(S:Nat->Prop)(ρ:Ren)(m:Nat)(Oq:Nat->Nat->Prop)(w':an)(B2 D:Nat)(b:Nat):Prop:=
 Kb C cl S ρ b\/b=B2\/b=D\/∃i c e d v,MU C R cl m Oq w' i c e d v/\∃a,d a b
theorem Enters.over(E:Enters l C R u cl xb sb n)(P:∀b,b<u.heap.size->u1.heap[b]? =u.heap[b]?)(bp:u1.heap.size=u.heap.size+1)(wP:u1.heap[u.heap.size]? =some (.cells #[pt xb] 36))(aU:u1.os=u.os)(G:eY prog Shun S fr cs u1 ρ gs w t q)(az:w1.heap=w.heap.push x)(aW:w1.os=w.os)
  (hm:m=(sat cl).length) (K:eJ f61 xb sb u.heap.size w.heap.size B2 D L n cl .exhausted O' w') (hF:iI C (Kb C cl S ρ) w1 cl n O' w') (Pr:w1.heap.size<=B2) (hD:w1.heap.size<=D)
  (hQ:∀i,i<m->Qs C R cl i (Oq i) w') (T:∀b,O' b->∀i,i<m->¬Oq i b) (aq:∀b i j,i<m->j<m->Oq i b->Oq j b->i=j) (ng:∀b,O' b\/(∃i,i<m/\Oq i b)->b≠w.heap.size/\b<w'.heap.size/\¬S b/\((ρ b b/\¬S b)\/w.heap.size<b)) (ay:gC w1 w'):
  (∀b,ρ b b->Ob C R cl S ρ m Oq w' B2 D b\/S b\/b=w.heap.size)/\
  (∀b,Ob C R cl S ρ m Oq w' B2 D b->b≠w.heap.size/\(b<w.heap.size->ρ b b/\¬S b)/\∃o,w'.heap[b]? =some o/\OR (dL fun b=>Ob C R cl S ρ m Oq w' B2 D b\/S b\/b=w.heap.size) o o)/\
  After C R cl u (mask (Ob C R cl S ρ m Oq w' B2 D) w') xb u.heap.size w.heap.size B2 D:=by
 have bn:=G.size;have bl:w1.heap.size=w.heap.size+1:=by rw[az];simp
 have bk:=ay.size;have aT:∀b,b<w.heap.size->w1.heap[b]? =w.heap[b]? :=fun b d=>by rw[az,eN,aD ak]
 have Qc:∀b,ρ b b->b<w.heap.size:=fun b d=>(G.world.lt b b d).2
 have Y:∀c,c∈sat cl->∃i z A v,MU C R cl m Oq w' i c z A v:=fun c F=>by
  obtain⟨i,O⟩:=sj.1 F;have M:i<m:=by rw[hm];exact(ed.1 O).1
  obtain⟨k,g,z,A,v,r,f,B,h5,h6⟩:=hQ i M;rw[O]at g;cases g;exact⟨i,z,A,v,M,O,r,f,B,h5,h6⟩
 have aZ:∀i c,i<m->(sat cl)[i]? =some c->∀b,Oq i b->b<w.heap.size->C c b:=fun i c M O b d U=>by
  have aS:=(ng b (.inr ⟨i,M,d⟩)).2.2.2.resolve_right ak;refine oy fun af=>?_
  by_cases y:Kb C cl S ρ b
  ·exact T b (hF.kept b y).1 i M d
  ·obtain⟨j,s⟩:∃j k,cl[j]? =some (some k)/\C k b:=oy fun h=>y ⟨aS,fun j k s F=>h ⟨j,k,s,F⟩⟩;obtain⟨k,s,N⟩:=s;obtain⟨i',z,A,v,V,Q,_,W,_,_,X⟩:=Y k (Em.2 ⟨j,s⟩);have:=aq b i i' M V d (X b b (W b b ⟨rfl,N⟩));subst this;rw[O]at Q;cases Q;exact af N
 have aA:∀b,ρ b b->Ob C R cl S ρ m Oq w' B2 D b\/S b\/b=w.heap.size:=fun b d=>by
  by_cases hS:S b
  ·exact .inr (.inl hS)
  by_cases y:Kb C cl S ρ b
  ·exact .inl (.inl y)
  ·obtain⟨j,k,s,N⟩:∃j k,cl[j]? =some (some k)/\C k b:=oy fun h=>y ⟨⟨d,hS⟩,fun j k s F=>h ⟨j,k,s,F⟩⟩;obtain⟨i,z,A,v,p⟩:=Y k (Em.2 ⟨j,s⟩);exact .inl (.inr (.inr (.inr ⟨i,k,z,A,v,p,b,p.2.2.2.1 b b ⟨rfl,N⟩⟩)))
 have aI:Kb C cl S ρ xb:=by obtain⟨o,I,J⟩:=og E.sl;obtain⟨g,r,_,_⟩:=G.heap ((P _ (aP.1 I).1).trans I) J;exact⟨⟨g,r⟩,fun j c s=>(E.bU j c s).1⟩
 have aj:Kb C cl S ρ u.heap.size:=by obtain⟨g,r,_,_⟩:=G.heap wP (by intro e;cases e);exact⟨⟨g,r⟩,fun j c s h=>sB _ (E.own P G s h).1⟩
 have aa:∀b,Kb C cl S ρ b->∃o,u1.heap[b]? =some o/\o≠bG/\w'.heap[b]? =some o/\OR (dL fun b=>ρ b b) o o:=fun b y=>by obtain⟨o,I,J⟩:=G.El y.1.1 y.1.2;obtain⟨_,_,f,B⟩:=G.heap I J;exact⟨o,I,J,(hF.kept b y).2.trans ((aT b (Qc b y.1.1)).trans f),B⟩
 have av:∀b,Ob C R cl S ρ m Oq w' B2 D b->(b<w.heap.size->(ρ b b/\¬S b)):=fun b d U=>by
  rcases d with d|rfl|rfl|⟨i,c,z,A,v,p,a,H⟩
  ·exact d.1
  ·omega
  ·omega
  ·exact(ng b (.inr ⟨i,p.1,p.2.2.2.2.2.2 a b H⟩)).2.2.2.resolve_right ak
 refine⟨aA,fun b d=>⟨?_,av b d,?_⟩,?_⟩
 ·rcases d with d|rfl|rfl|⟨i,c,z,A,v,p,a,H⟩
  ·have:=Qc b d.1.1;omega
  ·omega
  ·omega
  ·exact(ng b (.inr ⟨i,p.1,p.2.2.2.2.2.2 a b H⟩)).1
 ·rcases d with d|rfl|rfl|⟨i,c,z,A,v,p,a,H⟩
  ·obtain⟨o,_,_,f,B⟩:=aa b d;exact⟨o,f,B.mono (Qd aA)⟩
  ·exact⟨_,K.bx,Q1 _ (.inl (.inl aI))⟩
  ·exact⟨_,K.df,.rz⟩
  ·obtain⟨o,I,uX⟩:=eK.closed p.2.2.2.2.1 p.2.2.2.2.2.1 b ⟨a,H⟩;exact⟨o,I,uX.mono (Qd fun b' aO=>.inl (.inr (.inr (.inr ⟨i,c,z,A,v,p,aO⟩))))⟩
 ·refine⟨by rw[vh];omega,?_,⟨aV _,ak,ak,ak⟩,fun b d F=>?_,?_,?_,?_,fun c b=>∃i,i<m/\(sat cl)[i]? =some c/\Oq i b,?_,?_,?_⟩
  ·show w'.os=u.os;rw[ay.os,aW,G.world.os.1,aU]
  ·have U:b<w.heap.size:=ak;have Z:u.heap[b]? =some u.heap[b]:=cw d
   by_cases J:u.heap[b]=bG
   ·have af:¬Ob C R cl S ρ m Oq w' B2 D b:=fun I=>by
     obtain⟨g,r⟩:=av b I U;obtain⟨o,f,B⟩:=G.El g r;rw[P b d,Z]at f;exact B ((dm f).symm.trans J)
    rw[Ek af ak,Z,J]
   ·obtain⟨g,r,_,_⟩:=G.heap ((P b d).trans Z) J;have y:Kb C cl S ρ b:=⟨⟨g,r⟩,F⟩;obtain⟨o,f,_,B,_⟩:=aa b y;rw[nX (.inl y),B,<-f,P b d]
  ·obtain⟨o,f,_,B,_⟩:=aa _ aj;rw[nX (.inl aj),B,<-f,wP]
  ·rw[nX (.inr (.inl rfl)),K.bx]
  ·rw[nX (.inr (.inr (.inl rfl))),K.df]
  ·rintro c k b F N aR ⟨i,g,r,f⟩ ⟨i',k1,k2,k3⟩;have:=aq b i i' g k1 f k3;subst this;rw[r]at k2;cases k2;exact aR rfl
  ·rintro c b F ⟨i,g,r,f⟩;exact⟨fun e=>T _ K.o1 i g (e▸f),fun e=>T _ K.o2 i g (e▸f),fun e=>T _ K.oD i g (e▸f),fun U=>aZ i c g r b f ak⟩
  ·intro c F;obtain⟨i,z,A,v,p⟩:=Y c F;have aQ:=p;obtain⟨V,Q,g3,W,g5,g6,X⟩:=p;exact⟨z,A,v,g3,W,g5.El fun a b H=>.inr (.inr (.inr ⟨i,c,z,A,v,aQ,a,H⟩)),g6,fun a b H=>⟨i,V,Q,X a b H⟩⟩
end
end
end Go.Proofs.YtpobhljcainmdaaGreat
