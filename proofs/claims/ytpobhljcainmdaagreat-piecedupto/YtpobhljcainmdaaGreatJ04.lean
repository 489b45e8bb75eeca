/- Parts of the proof. -/
import Derived.Conc.Beside
import Derived.Conc.CrowdCom2
import Derived.Conc.CrowdComm
import Derived.Conc.CrowdSpec
import Derived.Conc.WgGenN3
import Derived.Deep.DeepCutAuto
import Derived.Deep.Light
import Derived.RangeFuncLeaves
import Derived.RangeFuncNested
import Derived.Test.YtpobhljcainmdaaGreatRows
import Derived.WalkLawsBesides
import Derived.WalkSpells
import Derived.Test.YtpobhljcainmdaaGreatJ03
set_option maxRecDepth 100000
set_option maxHeartbeats 8000000
set_option linter.all false
namespace Go.Proofs.YtpobhljcainmdaaGreat
open Go.Conc renaming stepG_region_end->cy,stepG_seq->bP,stepG_skip->nF,stepT_solo->yl,runT_crowd_comm->GD,events_results_none->Vm,Deaf_other->nC,stepG_ret'->qX,stepG_unwind_entry->Vq,step_solo_go->MH,illMade->Ae,stepG_add_atomic->HO,rcase->HV
open Go renaming World->an,Frame->aJ,Goroutine->bw,Program->aN,communicate->vW,FuncId->bh,TypeId->aK,Value->au,Question->mN,commResult->Ac,callDeferred->Gw,unwind->ym,Event->kM
open Go.MemAct renaming ofEvent->cI,touch?->xQ
open Go.stepG renaming exec->gv,oper->Im
open Go.Stepped.next renaming inj->uh
open Go.Goroutine renaming finishComm->zL
open Go.World renaming putObj_heap_other->eX,putObj_heap_same->Mw,alloc_heap_new->Vf,setCell->fD
open Go.Region renaming wanted->cL
open Go.MemOp renaming ofEvents->jq,ofEvents_g->lD
open _root_.Array renaming swapAt!->zG,swapAt->zF,map_id->Lq,getD->vG
open Go.Instr renaming endRound->rU,takeDeferred->BN,enterLoop->xI,endLoop->xH
open Go.Builtin renaming unsafeSliceData_->BG
open Go.Sem renaming runT_fst->iW,run_bind'->gH,bind->cA
open Go.Frame renaming catches->LF,oper?->HS
open Go.Conv renaming unsafePointer->zJ
open Go.Extern.Race renaming none_->Ui
open Go.Deferred renaming ofValue->vM
open Go.GStep renaming after->jo,es->LG,goes->NT
open Go.Question renaming forced->UX
open Go.Machine renaming gs->Md
open _root_.Bool renaming not_true->TZ
open Go.Operand renaming tmp->UU
open Go.IntKind renaming u64->Ux
open _root_.List renaming range->dM
section
open Go.Conc
section
variable [aA] [aW] {S:Nat->Prop}
section
variable {P:aN} {l:List bh} {ρ σ:Ren} {bl base:List aJ} {u w u1 w1:an} {main:Bool}
theorem rG{α k:Type}{Q:Ren->α->k->Prop}{s:Sem α}{j:Sem k}{K:Kn}(g:SR P Q ρ K s j)(d:Own K u)(i:WR P ρ u w)(f:Whole S ρ u){a:α}{u1:an}(h:s.run P u=.ok a u1):
  (jF u u1/\∀c,jA c u.tape u.drawn u1.drawn->s.runT P (u.tp c) #[]=(.ok a (u1.tp c),(s.runT P u #[]).2))/\
  ∃σ b w1 x,j.runT P w #[]=(.ok b w1,x)/\Q σ a b/\bO P ρ σ u u1 w w1/\Whole S σ u1/\∀e∈x,gy S σ e:=by
 refine⟨EO g d i f h (fun x v e=>by cases e),?_⟩;have hr:=g.tI u w #[] i d f;unfold cz at hr;rw[h]at hr;obtain⟨σ,b,w1,x,m,n,o,p,q⟩:=hr;exact⟨σ,b,w1,x,m,n,o,p,wT q⟩
theorem iz(u):Own (fun _=>False) u:=fun _ h=>h.elim
theorem Ya{r}(id){x y}(h:cH (IR P l ρ r) x y):(exitTo id x=none/\exitTo id y=none)\/∃k b,exitTo id x=some k/\exitTo id y=some b/\cH (IR P l ρ r) k b:=by
 induction h with
 |nil=>exact .inl ⟨rfl,rfl⟩
 |cons d t a=>
  cases d with
  |inBlock i=>
   unfold exitTo;split
   ·exact .inr ⟨_,_,rfl,rfl,t⟩
   ·exact a
  |stop s=>rcases aW.good s with⟨c,e⟩|⟨c,e⟩<;>(rw[e];exact a)
  |_=>exact a
theorem afv{x a}(h:bf ρ x a)(ops):yielded ops a=yielded ops x:=by
 funext j
 unfold yielded;cases (ops[j]?).bind (·.dst)with
 |none=>rfl
 |some d=>
  simp;cases b:x[d]? with
  |none=>
   have:a[d]? =none:=by rw[xA]at b⊢;rw[h.1];exact b
   rw[this]
  |some v=>
   obtain⟨e,_⟩:=aP.1 b;have f:d<a.size:=by rw[h.1];exact e
   have c:=cw f;rw[c];have hv:=h.2 d v _ b c;generalize a[d]=g at hv;cases hv<;>rfl
theorem Kw(I:bl≠[])(H:Still bl)(z:WR P ρ u w)(s:Whole S ρ u){fr b:aJ}{cs j:List aJ}(h:bY P l ρ fr b)(t:cH (bY P l ρ) cs j)(d:Option Code)(J:∀c,d=some c->aA.code c)(q){k B:List Item}(y:cH (IR P l ρ fr.roundOf.isSome) k B)(m o:String)(p p' A O:String):
  SG S P l ρ bl base u w
   (match fr.roundOf with
    |none=>if q=true then .go {frame:={fr with todo:=k,mode:=.returning},callers:=cs++bl,status:=.running,dying:=none} u else .ended (.stuck m p) u
    |some n=>match(rU n d).runT P u #[]with
     |(r,e)=>jo (seen P fr.fn e) (match r with
      |.ok v w=>doReturn P true fr (cs++bl) none v w
      |.halt _ w=>.ended (.stuck o A) w))
   (fun f=>match fr.roundOf with
    |none=>if q=true then .go {frame:={fr with todo:=k,mode:=.returning},callers:=cs++bl,status:=.running,dying:=none} (u.tp f)else .ended (.stuck m p) (u.tp f)
    |some n=>match(rU n d).runT P (u.tp f) #[]with
     |(r,e)=>jo (seen P fr.fn e) (match r with
      |.ok v w=>doReturn P true fr (cs++bl) none v w
      |.halt _ w=>.ended (.stuck o A) w))
   (match b.roundOf with
    |none=>if q=true then .go {frame:={b with todo:=B,mode:=.returning},callers:=j++base,status:=.running,dying:=none} w else .ended (.stuck m p') w
    |some n=>match(rU n d).runT P w #[]with
     |(r,e)=>jo (seen P b.fn e) (match r with
      |.ok v w=>doReturn P main b (j++base) none v w
      |.halt _ w=>.ended (.stuck o O) w)):=by
 have a:=h.round;revert a;cases N:fr.roundOf with
 |none=>
  intro a;cases i:b.roundOf with
  |some _=>rw[i]at a;cases a
  |none=>
   cases q with
   |true=>
    refine dg z s ⟨h.fn,h.ok,h.tmps,?_,h.defers,.returning,h.kind,h.kinds,.none⟩ t fun _=>rfl;rw[N]at y;exact y
   |false=>trivial
 |some n=>
  intro a;cases i:b.roundOf with
  |none=>rw[i]at a;cases a
  |some Q=>
   rw[i]at a;cases a with
   |some L=>
    simp only;rw[mH (rU n d) u];cases hr:(rU n d).run P u with
    |halt x v=>trivial
    |ok v u1=>
     obtain⟨⟨M,K⟩,σ,R,w1,x,C,D,g,E,F⟩:=rG (ach L d J) (iz u) z s hr;rw[C];exact gE g M _ _ (fun f G=>by rw[K f G]) (EW _ F) (Sj I H g.rel E (h.mono g.le) (t.mono fun _ _=>bY.mono g.le) D)
theorem zl{fr cs}(h:fr.mode=.run):stepG P main (G fr cs) w=gv P main true fr cs none w:=by unfold stepG G;simp only[h]
theorem Fy{fr cs}(h:fr.mode≠.run):stepG P main (G fr cs) w=ym P main fr cs none w:=by
 unfold stepG G;cases hm:fr.mode with
 |run=>exact absurd hm h
 |returning=>simp only[hm]
 |panicking c=>simp only[hm]
theorem QA{fr C ops j rest k o}(hm:fr.mode=.run)(c:fr.todo=.inRegion ops (j::rest)::k)(b:ops[j]? =some o)(e:cL o (yielded ops fr.tmps)=true)(a:yP o.op=true)(u):
  stepG P true (G fr C) u=stepG.apply P true fr C none (execOp fr.eval o) u:=by
 rw[zl hm];unfold gv;rw[c];simp only[b,qV,mj,e,cD];unfold Im HS;rw[c];simp only[b];split
 ·rename_i f d;rw[d]at a;cases a
 ·rfl
theorem Nl{fr C s v u u1}(h:s.run P u=.ok (.value v) u1):∃a,stepG.apply P true fr C none s u=.go (G (fr.finish v) C) u1 a:=by unfold stepG.apply;simp only[cD];rw[mH s u,h];exact⟨_,rfl⟩
theorem VX{fr C s x u u1}(h:s.run P u=.halt x u1)(a:jT x):∃o w b,stepG.apply P true fr C none s u=.ended o w b:=by
 unfold stepG.apply;simp only[cD];rw[mH s u,h];cases x with
 |stuck _=>exact⟨_,_,_,rfl⟩
 |unsupported q=>
  cases q with
  |initOrder _=>exact a.elim
  |_=>exact⟨_,_,_,rfl⟩
 |_=>exact a.elim
theorem adE{g w w1 o es}(a:g.status=.running)(h:stepG P true g w=.ended o w1 es):step P (solo g w)=.ended o w1:=by rw[step,yl a];simp[runT,solo,zG,zF,h]
theorem Sn{fr dP C cs bl u w}(h:solo (G fr C) u=lone dP (cs++bl) w):dP=fr:=by have a:=dG Md h;simp[lone,solo,G]at a;exact a.1.symm
theorem OC{fr:aJ}{ops:Array Oper}{j:Nat}{rest:List Nat}{k:List Item}(a:fr.todo=.inRegion ops (j::rest)::k)(v):(fr.finish v).todo=.inRegion ops rest::k/\(fr.finish v).mode=fr.mode/\(fr.finish v).tmps=(match(ops[j]?).bind (·.dst)with|some d=>fr.tmps.setIfInBounds d v|none=>fr.tmps):=by unfold Frame.finish;rw[a];exact⟨rfl,rfl,rfl⟩
theorem Pc(x:Array au)(d:Nat)(v:au):(x.setIfInBounds d v).getD d undef=v\/(x.setIfInBounds d v).getD d undef=undef:=by
 by_cases h:d<x.size
 ·left;simp[vG,h]
 ·right;simp[vG,h]
theorem VZ{fr:aJ}{C:List aJ}{ops:Array Oper}{rest:List Nat}{k:List Item}{h j:Oper}{f:bh}{d e:Nat}{s t dt:aK}{i:TypeInfo}{K:Array aK}(hm:fr.mode=.run)(r:fr.todo=.inRegion ops (3::4::rest)::k)
  (A:ops[3]? =some h) (N:ops[4]? =some j) (T:h.guard=none) (U:j.guard=none) (H:h.op=.call {callee:=.value (.func f),args:=#[.tmp d],argTypes:=K}) (O:h.dst=some e) (I:j.op=.convert dt s (.tmp e))
  (hf:yI P f=true) (W:∃m,P.funcs[f]? =some m/\m.name= "internal/abi.NoEscape") (q:P.underlying s=some (.pointer t)) (D:P.underlying dt=some .unsafePointer) (V:P.info? t=some i) (Y:i.size≠0)
  {u:an} (hv:(∃b,fr.eval (.tmp d)=.pointer (some b)/\u.heap[b.block]? =some bG)\/fr.eval (.tmp d)=undef):∀n p cs w,runN P n (solo (G fr C) u)=.next (lone p (cs++bl) w)->nK p:=by
 have w3:cL h (yielded ops fr.tmps)=true:=by unfold cL;rw[T]
 obtain⟨m,E,F⟩:=W
 have r3:(execOp fr.eval h).run P u=.ok (.value (fr.eval (.tmp d))) u:=by
  unfold yI at hf;rw[E]at hf;simp at hf;obtain⟨Z,k2⟩:=OB F hf.1.2;unfold execOp;rw[H];have c:(m.name== "runtime.NumGoroutine")=false:=by rw[F];decide
  show(callFunc f ((#[]++#[UU d].map fr.eval)++#[])).run P u=_;rw[show(#[]++#[UU d].map fr.eval)++#[]=#[fr.eval (.tmp d)] by simp];unfold callFunc;simp only[program,bind,cA,Sem.run,E,c,hf.1.1,eA,dy,cD,Z,k2,mark,pure];rfl
 obtain⟨az,s1⟩:=Nl (fr:=fr) (C:=C) r3;have J:step P (solo (G fr C) u)=.next (solo (G (fr.finish (fr.eval (.tmp d))) C) u):=MH rfl ((QA hm r A w3 (by rw[H];rfl) u).trans s1)
 obtain⟨t1,t2,t3⟩:=OC r (fr.eval (.tmp d));have w4:cL j (yielded ops (fr.finish (fr.eval (.tmp d))).tmps)=true:=by unfold cL;rw[U]
 have X:(∃b,(fr.finish (fr.eval (.tmp d))).eval (.tmp e)=.pointer (some b)/\u.heap[b.block]? =some bG)\/(fr.finish (fr.eval (.tmp d))).eval (.tmp e)=undef:=by
  have R:(fr.finish (fr.eval (.tmp d))).eval (.tmp e)=(fr.finish (fr.eval (.tmp d))).tmps.getD e undef:=rfl;rw[R,t3];simp only[A,Option.bind_some,O];rcases Pc fr.tmps e (fr.eval (.tmp d))with g|g
  ·rw[g];exact hv
  ·exact .inr g
 have y:∃x,(execOp (fr.finish (fr.eval (.tmp d))).eval j).run P u=.halt x u/\jT x:=by
  unfold execOp;rw[I]
  have key:∀v:au,((∃b,v=.pointer (some b)/\u.heap[b.block]? =some bG)\/v=undef)->∃x,(convert dt s v).run P u=.halt x u/\jT x:=by
   rintro v (⟨b,rfl,B⟩|rfl)
   ·rw[Dt (Dr q D b),gH,aaP B];exact Hi V Y B
   ·refine⟨.stuck ?_,?_,trivial⟩;rotate_left;have u1:=fun a=>xm q u a;rw[<-iW P _ u #[]];have e:∀(f:TypeDesc->Sem au) (u:an) (a:Array kM),((underlying s) >>= f).runT P u a=(f (.pointer t)).runT P u a:=fun f u a=>by show((underlying s).bind f).runT P u a=_;rw[cG,xm q]
    have z:∀(f:TypeDesc->Sem au) (u:an) (a:Array kM),((underlying dt) >>= f).runT P u a=(f .unsafePointer).runT P u a:=fun f u a=>by show((underlying dt).bind f).runT P u a=_;rw[cG,xm D]
    unfold convert;rw[z,e];show((zJ dt s undef).runT P u #[]).1=_;unfold zJ;rw[z,e];rfl
  obtain⟨x,L,M⟩:=key _ X;refine⟨x,?_,M⟩;show((convert dt s _).bind _).run P u=_;rw[gH,L];rfl
 obtain⟨x,y,Q⟩:=y;obtain⟨o,w2,aA,s2⟩:=VX (fr:=fr.finish (fr.eval (.tmp d))) (C:=C) y Q;have ak:step P (solo (G (fr.finish (fr.eval (.tmp d))) C) u)=.ended o w2:=adE rfl ((QA (t2.trans hm) t1 N w4 (by rw[I];rfl) u).trans s2);intro n p cs w c
 match n with
 |0=>
  simp only[runN]at c;obtain rfl:=Sn (uh c);exact⟨hm,_,_,_,_,r⟩
 |1=>
  simp only[runN,J]at c;obtain rfl:=Sn (uh c);exact⟨t2.trans hm,_,_,_,_,t1⟩
 |n+2=>
  simp only[runN,J,ak]at c;cases c
theorem Si{fr fr' cs cs'}(q:WR P ρ u w)(g:Whole S ρ u)(h:bY P l ρ fr fr')(i:cH (bY P l ρ) cs cs'){ops j rest k k'}(r:fr.todo=.inRegion ops (j::rest)::k)(s:fr'.todo=.inRegion ops (j::rest)::k')(x:∀o,ops[j]? =some o->(fr.roundOf.isSome=true->yP o.op=true)/\(cL o (yielded ops fr.tmps)=true->SG S P l ρ bl base u w (stepG.apply P true fr (cs++bl) none (execOp fr.eval o) u) (fun f=>stepG.apply P true fr (cs++bl) none (execOp fr.eval o) (u.tp f)) (stepG.apply P true fr' (cs'++base) none (execOp fr'.eval o) w))):
  SG S P l ρ bl base u w (gv P true true fr (cs++bl) none u) (fun f=>gv P true true fr (cs++bl) none (u.tp f)) (gv P main true fr' (cs'++base) none w):=by
 have m:=h.finish (rQ ρ);unfold gv;rw[r,s];simp only;rw[afv h.tmps];cases p:ops[j]? with
 |none=>exact dg q g m i fun _=>rfl
 |some o=>
  obtain⟨v,main⟩:=x o p;simp
  by_cases e:cL o (yielded ops fr.tmps)=true
  ·have main:=main e;simp only[e,cD];unfold Im HS;rw[r,s];simp only[p];have a:=h.round;revert a;cases y:fr.roundOf with
   |none=>
    intro a;cases d:fr'.roundOf with
    |some _=>rw[d]at a;cases a
    |none=>exact main
   |some n=>
    intro a;cases d:fr'.roundOf with
    |none=>rw[d]at a;cases a
    |some z=>
     have b:yP o.op=true:=v (by rw[y];rfl)
     try simp only
     split
     ·rename_i t c;rw[c]at b;cases b
     ·split
      ·rename_i t c;rw[c]at b;cases b
      ·exact main
  ·simp only[e,dy];exact dg q g m i fun _=>rfl
theorem adv{g h}(hR:Reads l ρ g h)(t:∀f,g (.func f)=.func (.func f) #[] #[])(y:∀f,h (.func f)=.func (.func f) #[] #[]){o}(j:zv P l o=true){K}:SR P NR ρ K (execOp g o) (execOp h o):=by
 obtain⟨E,op,r,pos,C,F⟩:=o;unfold zv at j;split at j
 ·rename_i c q;simp only at q;subst q;obtain⟨D,args,p⟩:=c;split at j
  ·rename_i x m k;simp only at m k;subst m;obtain rfl:args=#[x]:=by rw[<-k]
   simp at j;obtain⟨s,n⟩:=j;split at n
   ·rename_i e A;refine .assume fun z=>?_;rw[z.2.2]at n;show SR P NR ρ K (do pure (.value (<-BG p r (#[x].map g)))) (do pure (.value (<-BG p r (#[x].map h))));rw[show #[x].map g=#[g x] by simp,show #[x].map h=#[h x] by simp];exact dD (adt (hR x s) A (Sc n) p)
   ·cases n
  ·rename_i f x m k;simp only at m k;subst m;obtain rfl:args=#[x]:=by rw[<-k]
   simp at j;show SR P NR ρ K (do let d <-vM (g (.func f)) (#[x].map g);invoke d.target d.args) (do let d <-vM (h (.func f)) (#[x].map h);invoke d.target d.args);rw[t,y,show #[x].map g=#[g x] by simp,show #[x].map h=#[h x] by simp];show SR P NR ρ K (callFunc f ((#[]++#[g x])++#[])) (callFunc f ((#[]++#[h x])++#[]));rw[show(#[]++#[g x])++#[]=#[g x] by simp,show(#[]++#[h x])++#[]=#[h x] by simp]
   have B:bf ρ #[g x] #[h x]:=⟨rfl,fun i v G a b=>by
    match i,a,b with
    |0,a,b=>cases a;cases b;exact hR x j.1
    |i+1,a,_=>simp at a⟩
   exact abR j.2 B rfl
  ·cases j
 ·cases j
theorem abk(A:Fit P l)(I:Still bl)(J:Still base)(B:WR P ρ u w)(D:Whole S ρ u){fr z:aJ}{cs U:List aJ}(h:bY P l ρ fr z)(E:cH (bY P l ρ) cs U)(bt:fr.mode=.run){ops:Array Oper}{j:Nat}{rest:List Nat}{k:List Item}(X:fr.todo=.inRegion ops (j::rest)::k):
  SG S P l ρ bl base u w (gv P true true fr (cs++bl) none u) (fun T=>gv P true true fr (cs++bl) none (u.tp T)) (gv P main true z (U++base) none w):=by
 have hl:∀f,l.contains f=true->aA.ok f:=fun f hf=>(A.ok f).2 hf;have W:=h.eval hl;have wQ:=h.todo
 have norm:∀{o:Oper},qD P l fr.roundOf.isSome o.op=true->(fr.roundOf.isSome=true->yP o.op=true)/\(cL o (yielded ops fr.tmps)=true->SG S P l ρ bl base u w (stepG.apply P true fr (cs++bl) none (execOp fr.eval o) u) (fun T=>stepG.apply P true fr (cs++bl) none (execOp fr.eval o) (u.tp T)) (stepG.apply P true z (U++base) none (execOp z.eval o) w)):=fun{o} p=>by simp only[qD,cm]at p;exact⟨fun hr=>by simpa[hr]using p.2,fun _=>zg A I J (Fg A.zeros A.fns hl W (fun ζ G v=>by(subst G;rfl)) (fun ζ G v=>by(subst G;rfl)) p.1) (iz u) B D h E⟩
 have aS:∀{o:Oper},zv P l o=true->(fr.roundOf.isSome=true->yP o.op=true)/\(cL o (yielded ops fr.tmps)=true->SG S P l ρ bl base u w (stepG.apply P true fr (cs++bl) none (execOp fr.eval o) u) (fun T=>stepG.apply P true fr (cs++bl) none (execOp fr.eval o) (u.tp T)) (stepG.apply P true z (U++base) none (execOp z.eval o) w)):=fun{o} p=>by
  refine⟨fun _=>?_,fun _=>zg A I J (adv W (fun _=>rfl) (fun _=>rfl) p) (iz u) B D h E⟩;unfold zv at p;split at p
  ·rename_i hc;rw[hc];rfl
  ·cases p
 rw[X]at wQ;generalize hy:z.todo=y at wQ;cases wQ with
 |@cons _ i' _ k' q hk=>
  revert q;generalize av:Item.inRegion ops (j::rest)=it;intro q;cases q with
  |@inRegion bH b9 F=>
   cases av;refine Si B D h E X hy fun o m=>?_;have p:=pQ.1 F o (lC m);unfold rI at p;rw[pS]at p;exact p.elim norm aS
  |@spec bH n F=>
   injection av with e1 L;subst e1;rw[<-L]at hy
   have hn:n<ops.size:=by
    rcases lE n ops.size with h|h
    ·exact h
    ·rw[List.drop_eq_nil_of_le (by simpa using h)]at L;cases L
   have hj:j=n/\rest=(dM ops.size).drop (n+1):=by rw[zT (by simpa using hn)]at L;injection L with a b;exact⟨by simpa using a,b⟩
   obtain⟨rfl,ZW⟩:=hj;refine Si B D h E X hy fun o m=>?_;unfold spB at F;split at F
   ·rename_i Z o1 Q o3 R o5 o6 o7 bq;obtain rfl:ops=#[Z,o1,Q,o3,R,o5,o6,o7]:=by rw[<-bq]
    simp only[cm]at F;obtain⟨⟨⟨⟨⟨p0,p1⟩,p5⟩,p6⟩,p7⟩,pt⟩:=F;unfold Ti at pt;split at pt
    ·rename_i s d x c d' s' y q2 q3 q4;simp only[cm]at pt;obtain⟨⟨⟨⟨⟨⟨⟨m1,m2⟩,m3⟩,m4⟩,Y⟩,m6⟩,m7⟩,m8⟩:=pt;obtain rfl:d=d':=by simpa using m2
     obtain rfl:s=s':=by simpa using m3
     rw[xW]at m6 m7 m8;split at m1
     ·rename_i f a b e g c1 c2 c3 c4;simp only[cm,vV]at m1;obtain⟨⟨⟨rfl,rfl⟩,aI⟩,az⟩:=m1
      have bz:∃V,P.funcs[f]? =some V/\V.name= "internal/abi.NoEscape" :=by
       split at az
       ·rename_i V bn;exact⟨V,bn,by simpa using az⟩
       ·cases az
      obtain⟨bU,args,bS⟩:=c;simp only at c1 c2;subst c1;obtain rfl:args=#[.tmp a]:=by rw[<-c2]
      split at Y
      ·rename_i t O M;simp only[cm]at Y;obtain⟨bF,aB⟩:=Y
       have q:∃i,P.info? t=some i/\i.size≠0:=by
        split at aB
        ·rename_i i q;exact⟨i,q,by simpa using aB⟩
        ·cases aB
       obtain⟨i,q,G⟩:=q;have ht:=Sc (by rw[<-B.os.2];exact bF)
       match j,m with
       |0,m=>
        obtain rfl:Z=o:=by simpa using m
        exact norm (yT p0)
       |1,m=>
        obtain rfl:o1=o:=by simpa using m
        exact norm (yT p1)
       |2,m=>
        obtain rfl:Q=o:=by simpa using m
        refine⟨fun _=>by rw[q2];rfl,fun _=>?_⟩;have C:=W x m4;have ex:∀H:Operand->au,execOp H Q=(do pure (.value (<-convert s d (H x)))):=fun H=>by unfold execOp;rw[q2]
        rw[ex,ex];revert C;generalize fr.eval x=v;generalize z.eval x=v';intro C
        by_cases N:∃r,v=.pointer (some r)
        ·obtain⟨r,rfl⟩:=N;cases C with
         |@ptr _ aT hA=>
          rcases abr O M ht q G B D hA with bC|⟨b,u1,bB,bA⟩
          ·exact Kv A I J bC h E
          ·obtain⟨bV,s1⟩:=Nl bB;rw[s1];obtain⟨t1,t2,t3⟩:=OC X (.pointer (some b));refine .inl (.inr (VZ (ops:=#[Z,o1,Q,o3,R,o5,o6,o7]) (t2.trans bt) (by rw[t1,ZW];rfl) rfl rfl m7 m8 q3 c4 q4 aI bz O M q G ?_));have he:(fr.finish (.pointer (some b))).eval (.tmp a)=(fr.finish (.pointer (some b))).tmps.getD a undef:=rfl;rw[he,t3];have bf:(#[Z,o1,Q,o3,R,o5,o6,o7][2]?).bind (·.dst)=some a:=c3;rw[bf];rcases Pc fr.tmps a (.pointer (some b))with g|g
           ·exact .inl ⟨b,g,bA⟩
           ·exact .inr g
        ·exact zg A I J (K:=fun _=>False) (dD (Sz O M C fun r e=>N ⟨r,e⟩).1) (iz u) B D h E
       |3,m=>
        obtain rfl:o3=o:=by simpa using m
        refine aS ?_;unfold zv;rw[q3];simp only[cm];exact⟨rfl,aI⟩
       |4,m=>
        obtain rfl:R=o:=by simpa using m
        refine⟨fun _=>by rw[q4];rfl,fun _=>?_⟩;have C:=W (.tmp e) rfl;have ex:∀H:Operand->au,execOp H R=(do pure (.value (<-convert d s (H (.tmp e))))):=fun H=>by unfold execOp;rw[q4]
        rw[ex,ex];revert C;generalize fr.eval (.tmp e)=v;generalize z.eval (.tmp e)=v';intro C
        by_cases N:∃r,v=.pointer (some r)
        ·obtain⟨r,rfl⟩:=N;cases C with
         |@ptr _ aT hA=>exact Kv A I J (abq O M ht q G B D hA) h E
        ·exact zg A I J (K:=fun _=>False) (dD (Sz O M C fun r e=>N ⟨r,e⟩).2) (iz u) B D h E
       |5,m=>
        obtain rfl:o5=o:=by simpa using m
        exact norm (yT p5)
       |6,m=>
        obtain rfl:o6=o:=by simpa using m
        exact norm (yT p6)
       |7,m=>
        obtain rfl:o7=o:=by simpa using m
        exact norm (yT p7)
       |n+8,m=>simp at m
      ·cases Y
     ·cases m1
    ·cases pt
   ·cases F
  |_=>cases av
theorem abi(D:Fit P l)(wO:bl≠[])(N:Still bl)(Z:Still base)(o:WR P ρ u w)(g:Whole S ρ u){fr C:aJ}{cs aj:List aJ}(h:bY P l ρ fr C)(p:cH (bY P l ρ) cs aj)(aQ:fr.mode=.run):
  SG S P l ρ bl base u w (gv P true true fr (cs++bl) none u) (fun B=>gv P true true fr (cs++bl) none (u.tp B)) (gv P main true C (aj++base) none w):=by
 have hl:∀f,l.contains f=true->aA.ok f:=fun f hf=>(D.ok f).2 hf;have ak:=h.eval hl;have wQ:=h.todo;have av:=h.fn;have A:∀{k V:List Item},cH (IR P l ρ fr.roundOf.isSome) k V->bY P l ρ {fr with todo:=k} {C with todo:=V}:=fun q=>⟨h.fn,h.ok,h.tmps,q,h.defers,h.mode,h.kind,h.kinds,h.round⟩
 by_cases IV:∃r j rest k,fr.todo=.inRegion r (j::rest)::k
 ·obtain⟨r,j,rest,k,U⟩:=IV;exact abk D N Z o g h p aQ U
 unfold gv;revert wQ;generalize U:fr.todo=x;generalize hy:C.todo=y;intro wQ;cases wQ with
 |nil=>exact Kw wO N o g h p none aq _ .nil _ _ _ _ _ _
 |@cons i i' k V hi q=>
  cases hi with
  |stop s=>trivial
  |inBlock id=>exact dg o g (A q) p fun _=>rfl
  |inLoop hc=>exact dg o g (A (.cons (.code hc) (.cons (.inLoop hc) q))) p fun _=>rfl
  |inRangeFunc O=>trivial
  |@endRangeFunc n n' O=>
   simp only;rw[mH (xH n) u];have hr:=(KB O).tI u w #[] o (iz u) g;unfold cz at hr;cases T:(xH n).run P u with
   |ok j u1=>
    rw[T]at hr;obtain⟨σ,j',w1,x,G,⟨E,aE⟩,d,H,M⟩:=hr;obtain⟨L,J⟩:=EO (KB O) (iz u) o g T (fun x v e=>by cases e);subst E;rw[G];refine gE d L _ _ (fun B I=>by rw[J B I];rfl) (EW _ (wT M)) (dg d.rel H ?_ (p.mono fun _ _=>bY.mono d.le) fun _=>rfl);have hm:=h.mono d.le;refine⟨hm.fn,hm.ok,hm.tmps,?_,hm.defers,hm.mode,hm.kind,hm.kinds,hm.round⟩;refine cH.append ?_ (q.mono fun _ _=>IR.mono d.le);cases j' with
    |none=>exact .nil
    |some c=>exact .cons (.code (wV ((D.code c).1 (aE c rfl)))) .nil
   |halt z u1=>
    rw[T]at hr;cases z with
    |panic v=>
     obtain⟨σ,W,w1,y,G,E,d,H,M⟩:=hr;obtain⟨L,J⟩:=EO (KB (P:=P) (K:=fun _=>False) O) (iz u) o g T (fun x v e=>by cases e;exact id);rw[G];exact gE d L _ _ (fun B I=>by rw[J B I];rfl) (EW _ (wT M)) (dg d.rel H ((h.mono d.le).raise (.cons ⟨E,rfl,rfl,rfl⟩ .nil)) (p.mono fun _ _=>bY.mono d.le) fun _=>rfl)
    |_=>trivial
  |beginRound=>
   simp only;refine zg D N Z (K:=fun _=>False) ?_ (iz u) o g h p;have F:=h.round;revert F;cases fr.roundOf with
   |none=>
    intro F;cases R:C.roundOf with
    |some _=>rw[R]at F;cases F
    |none=>exact SR.then (Q:=dj) (iC _ _) fun _ _ _ _ _ _ _=>.pure .skip
   |some n=>
    intro F;cases R:C.roundOf with
    |none=>rw[R]at F;cases F
    |some n'=>
     rw[R]at F;cases F with
     |some O=>exact SR.then (abI O) fun _ _ _ _ _ _ _=>.pure .skip
  |@inRegion r todo aR=>
   cases todo with
   |nil=>exact dg o g (A q) p fun _=>rfl
   |cons j rest=>exact absurd ⟨r,j,rest,k,U⟩ IV
  |@spec r n aR=>
   cases hd:(dM r.size).drop n with
   |nil=>exact dg o g (A q) p fun _=>rfl
   |cons j rest=>exact absurd ⟨r,j,rest,k,by rw[U,hd]⟩ IV
  |@code c hc=>
   cases c with
   |skip=>exact dg o g (A q) p fun _=>rfl
   |region id r draw=>
    simp only;cases draw with
    |false=>
     have hc:(r.all (rI P l fr.roundOf.isSome)||(!false&&spB P l r))=true:=hc;rw[pS]at hc;rcases hc with hc|hc
     ·exact dg o g (A (.cons (.inRegion _ hc) q)) p fun _=>rfl
     ·exact dg o g (A (.cons (.spec 0 hc) q)) p fun _=>rfl
    |true=>
     simp only[TZ,eA,dy];have hc:(r.all (rI P l fr.roundOf.isSome)||(!true&&spB P l r))=true:=hc;simp only[TZ,Bool.false_and,Bool.or_false]at hc;rw[av];cases hr:(choose (.order fr.fn id)).run P u with
     |halt z v=>trivial
     |ok t u1=>
      obtain⟨⟨L,J⟩,σ,t',w1,x,G,E,d,H,M⟩:=rG (vA (P:=P) (K:=fun _=>False) (.order fr.fn id)) (iz u) o g hr;have aC:(choose (.order fr.fn id)).run P w=.ok t' w1:=by rw[<-iW P _ w #[],G]
      obtain rfl:t'=t:=E;rw[aC];have hm:=h.mono d.le;refine Sg _ _ aq ⟨rfl,hm.ok,hm.tmps,.cons (.inRegion _ hc) (q.mono fun _ _=>IR.mono d.le),hm.defers,hm.mode,hm.kind,hm.kinds,hm.round⟩ (p.mono fun _ _=>bY.mono d.le) d H L fun B I=>?_;have hL:(choose (.order fr.fn id)).run P (u.tp B)=.ok t' (u1.tp B):=by rw[<-iW P _ (u.tp B) #[],J B I]
      rw[hL];rfl
   |seq a b=>
    simp only[dY,cm]at hc;exact dg o g (A (.cons (.code hc.1) (.cons (.code hc.2) q))) p fun _=>rfl
   |cond c a b=>
    simp only[dY,cm]at hc;have hv:=ak c hc.1.1;simp only;generalize fr.eval c=v at hv;generalize C.eval c=W at hv;cases hv with
    |bool t=>
     refine dg o g (A (.cons (.code ?_) q)) p fun _=>rfl;cases t
     ·exact hc.2
     ·exact hc.1.2
    |_=>trivial
   |block id b=>exact dg o g (A (.cons (.code hc) (.cons (.inBlock id) q))) p fun _=>rfl
   |loop b=>exact dg o g (A (.cons (.code hc) (.cons (.inLoop hc) q))) p fun _=>rfl
   |rangeFunc f ps a b=>
    simp only[dY,cm]at hc;simp only;rw[mH (xI fr.fn fr.tmps ps a b fr.roundOf) u,av];cases hr:(xI fr.fn fr.tmps ps a b fr.roundOf).run P u with
    |halt z v=>trivial
    |ok y u1=>
     obtain⟨⟨L,J⟩,σ,y',w1,x,G,E,d,H,M⟩:=rG (aci (P:=P) (K:=fun _=>False) h.ok h.tmps ps ((D.code a).2 hc.1.2) ((D.code b).2 hc.2) h.round) (iz u) o g hr;rw[G];obtain⟨n,ds⟩:=y;obtain⟨n',aB⟩:=y';have hm:=h.mono d.le
     have aI:bY P l σ {fr with todo:=.inRangeFunc n::k,defers:=ds++fr.defers} {C with fn:=fr.fn,todo:=.inRangeFunc n'::V,defers:=aB++C.defers}:=
      ⟨rfl,hm.ok,hm.tmps,.cons (.inRangeFunc E.1) (q.mono fun _ _=>IR.mono d.le),E.2.append hm.defers,hm.mode,hm.kind,hm.kinds,hm.round⟩
     refine gE d L _ _ (fun B I=>by rw[J B I]) (EW _ M) (zg D N Z (K:=fun _=>False) ?_ (iz u1) d.rel H aI (p.mono fun _ _=>bY.mono d.le));have hv:VR σ (fr.eval f) (C.eval f):=(ak f hc.1.1).mono d.le
     exact Sy D.fns hv ⟨aq,fun i v W hv ay=>by
      cases i with
      |zero=>
       simp[Frame.eval]at hv ay;subst hv ay;exact .func (.yield E.1) rfl (fun i v W hv=>by simp at hv) rfl (fun i v W hv=>by simp at hv)
      |succ i=>simp at hv⟩
   |exit id=>
    simp only;rcases Ya id q with⟨X,Y⟩|⟨m,m',X,Y,hm⟩
    ·rw[X,Y];exact Kw wO N o g h p (some (.exit id)) (fun c e=>by cases e;exact(D.code _).2 rfl) _ (.cons (.code hc) q) _ _ _ _ _ _
    ·rw[X,Y];exact dg o g (A hm) p fun _=>rfl
   |scope b=>simp[dY]at hc
   |label n=>simp[dY]at hc
   |goto n=>simp[dY]at hc
   |ret=>exact Kw wO N o g h p (some .ret) (fun c e=>by cases e;exact(D.code _).2 rfl) _ (.cons (.code hc) q) _ _ _ _ _ _
   |refuse aY=>trivial
end
end
section
variable [aA] [aW] {S:Nat->Prop}
section
variable {P:aN} {l:List bh} {ρ σ:Ren} {bl base:List aJ} {u w u1 w1:an} {main:Bool}
theorem DC{x}(f)(h:∀e∈x,gy S σ e):∀e∈seen P f x,gy S σ e:=fun e a=>h e (mem_seen a)
theorem G4:∀{t b:Target} {m a:FrameMode},TR ρ t b->oW ρ m a->((b matches .nil)&&(a matches .panicking _))=((t matches .nil)&&(m matches .panicking _)):=by intro t b m a c hm;cases c<;>cases hm<;>rfl
theorem abj{b a}(d:a=b){x x' s s' xL sL}(f:SG S P l ρ bl base u w x xL x')(e:SG S P l ρ bl base u w s sL s'):SG S P l ρ bl base u w (if b=true then x else s) (fun c=>if b=true then xL c else sL c) (if a=true then x' else s'):=by
 subst d;cases a
 ·exact e
 ·exact f
theorem Sf(F:Fit P l)(R:Still bl)(T:Still base)(Q:WR P ρ u w)(L:Whole S ρ u){fr z cs cs'}(h:bY P l ρ fr z)(M:cH (bY P l ρ) cs cs'){d d'}(G:DR ρ d d'):
  SG S P l ρ bl base u w (Gw P fr (cs++bl) none d u) (fun g=>Gw P fr (cs++bl) none d (u.tp g)) (Gw P z (cs'++base) none d' w):=by
 have O:=SE (P:=P) (K:=fun _=>False) F.fns G.1 G.2;have hr:=O.tI u w #[] Q (iz u) L;have N:=fun{r:Result Next}=>EO O (iz u) Q L (r:=r);unfold Gw;refine abj (xL:=fun g=>.ended (.unsupported (.noEntry "machine/Return: a deferred call of a nil function value, made while the frame is unwinding") (fr.pos P)) (u.tp g)) (G4 G.1 h.mode) trivial ?_;unfold cz at hr;cases s:(invoke d.target d.args).run P u with
 |ok n u1=>
  obtain⟨o,A⟩:=N s (fun x v e=>by cases e);rw[mH (invoke d.target d.args) u,s];generalize ((invoke d.target d.args).runT P u #[]).2=B at A;have p:∀g,jA g u.tape u.drawn u1.drawn->(invoke d.target d.args).runT P (u.tp g) #[]=(.ok n (u1.tp g),B):=A;rw[s]at hr;obtain⟨σ,n',w1,x,E,X,hm,j,H⟩:=hr;rw[E];have t:=DC (P:=P) z.fn (wT H);have k:=h.mono hm.le;have m:=M.mono fun _ _=>bY.mono hm.le;cases X with
  |enter f V J=>exact gE hm o _ _ (fun g i=>by rw[p g i]<;>rfl) t (dg (iK:=_::_) (ry:=_::_) hm.rel j (Dy F V J (.inr rfl)) (.cons k m) fun _=>rfl)
  |round f a b h0 W J=>exact gE hm o _ _ (fun g i=>by rw[p g i]<;>rfl) t (dg (iK:=_::_) (ry:=_::_) hm.rel j (RM F W h0 J (.inr rfl)) (.cons k m) fun _=>rfl)
  |value hv=>exact gE hm o _ _ (fun g i=>by rw[p g i]<;>rfl) t (dg hm.rel j k m fun _=>rfl)
  |skip=>exact gE hm o _ _ (fun g i=>by rw[p g i]<;>rfl) t (dg hm.rel j k m fun _=>rfl)
  |defer _=>exact gE hm o _ _ (fun g i=>by rw[p g i]<;>rfl) t (dg hm.rel j k m fun _=>rfl)
  |comm _=>exact gE hm o _ _ (fun g i=>by rw[p g i]<;>rfl) t (dg hm.rel j k m fun _=>rfl)
  |recover=>
   have I:=k.mode;refine gE hm o _ _ (fun g i=>by rw[p g i]<;>rfl) t ?_;simp only;revert I;generalize fr.mode=mo;generalize z.mode=af;intro I;cases I with
   |returning=>
    rcases(EF k m R T)with⟨C,D⟩|⟨v,Y,c,Z,C,D,_,U⟩
    ·rw[C,D];exact dg hm.rel j k m fun _=>rfl
    ·rw[C,D];exact dg hm.rel j k U fun _=>rfl
   |run=>exact dg hm.rel j k m fun _=>rfl
   |panicking _=>exact dg hm.rel j k m fun _=>rfl
 |halt x u1=>
  rw[s]at hr;cases x with
  |panic v=>
   obtain⟨o,A⟩:=N s (fun x v e=>by cases e;exact id);rw[mH (invoke d.target d.args) u,s];generalize ((invoke d.target d.args).runT P u #[]).2=B at A;have p:∀g,jA g u.tape u.drawn u1.drawn->(invoke d.target d.args).runT P (u.tp g) #[]=(.halt (.panic v) (u1.tp g),B):=A;obtain⟨σ,Y,w1,y,E,hv,hm,j,H⟩:=hr;rw[E];exact gE hm o _ _ (fun g i=>by rw[p g i]<;>rfl) (DC (P:=P) z.fn (wT H)) (dg hm.rel j ((h.mono hm.le).raise (.cons ⟨hv,rfl,rfl,rfl⟩ .nil)) (M.mono fun _ _=>bY.mono hm.le) fun _=>rfl)
  |stuck _=>rw[mH (invoke d.target d.args) u,s];trivial
  |unsupported q=>rw[mH (invoke d.target d.args) u,s];trivial
  |_=>exact hr.elim
theorem abn(p:Fit P l)(K:bl≠[])(q:Still bl)(J:Still base)(k:WR P ρ u w)(i:Whole S ρ u){fr a cs cs'}(h:bY P l ρ fr a)(j:cH (bY P l ρ) cs cs'):
  SG S P l ρ bl base u w (ym P true fr (cs++bl) none u) (fun m=>ym P true fr (cs++bl) none (u.tp m)) (ym P main a (cs'++base) none w):=by
 have B:=h.defers;have N:∀{x O:List Deferred},cH (DR ρ) x O->bY P l ρ {fr with defers:=x} {a with defers:=O}:=fun M=>⟨h.fn,h.ok,h.tmps,h.todo,M,h.mode,h.kind,h.kinds,h.round⟩;unfold ym;revert B;generalize M:fr.defers=x;generalize hy:a.defers=y;intro B;cases B with
 |@cons d T ds aA X C=>
  obtain⟨t,args⟩:=d;obtain⟨t',ak⟩:=T;obtain⟨L,s⟩:=X;simp only at L s;cases L with
  |@fn f f' c c' Y A=>exact Sf p q J k i (N C) j ⟨.fn Y A,s⟩
  |nil=>exact Sf p q J k i (N C) j ⟨.nil,s⟩
  |@collected r r' hr=>
   simp only;rw[mH (BN r) u];cases G:(BN r).run P u with
   |halt z v=>trivial
   |ok cl u1=>
    obtain⟨⟨F,D⟩,σ,ay,w1,z,e,I,g,U,V⟩:=rG (adq hr) (iz u) k i G;rw[e];obtain⟨rfl,rfl⟩:=I;have hm:=h.mono g.le;exact gE g F _ _ (fun m o=>by rw[D m o]<;>rfl) (DC _ V) (dg g.rel U ⟨hm.fn,hm.ok,hm.tmps,hm.todo,C.mono fun _ _=>DR.mono g.le,hm.mode,hm.kind,hm.kinds,hm.round⟩ (j.mono fun _ _=>bY.mono g.le) fun _=>rfl)
 |nil=>
  simp only;obtain⟨fn,c,e,I⟩:=p.known _ h.ok;have H:P.funcs[a.fn]? =some fn:=by rw[h.fn];exact e
  have Q:fr.catches P=false:=by unfold LF;rw[e]
  have R:a.catches P=false:=by unfold LF;rw[H]
  have E:=h.mode;revert E;generalize hq:fr.mode=mo;generalize a.mode=aG;intro E;cases E with
  |run=>trivial
  |panicking A=>
   simp only[Q,R,eA,dy];cases j with
   |nil=>
    cases bl with
    |nil=>exact absurd rfl K
    |cons b rest=>exact .inl (.inl ⟨b,rest,rfl,.inr (.inr ⟨_,rfl⟩)⟩)
   |cons W Z=>exact dg k i (W.raise A) Z fun _=>rfl
  |returning=>
   simp only[e,H];rw[mH (results fn fr.tmps) u];cases G:(results fn fr.tmps).run P u with
   |halt z v=>
    cases z<;>trivial
   |ok v u1=>
    obtain⟨⟨F,D⟩,σ,v',w1,z,k1,k2,n,k4,k5⟩:=rG (xh fn h.tmps) (iz u) k i G;rw[k1];exact gE n F _ _ (fun m o=>by rw[D m o]<;>rfl) (DC _ k5) (Sj K q n.rel k4 (h.mono n.le) (j.mono fun _ _=>bY.mono n.le) k2)
theorem abl(d:Fit P l)(j:bl≠[])(g:Still bl)(i:Still base)(n:WR P ρ u w)(f:Whole S ρ u){fr b cs cs'}(h:bY P l ρ fr b)(k:cH (bY P l ρ) cs cs'):
  SG S P l ρ bl base u w (stepG P true (G fr (cs++bl)) u) (fun a=>stepG P true (G fr (cs++bl)) (u.tp a)) (stepG P main (G b (cs'++base)) w):=by
 by_cases hr:fr.mode=.run
 ·have c:b.mode=.run:=by
   have:=h.mode;rw[hr]at this;generalize b.mode=m at this;cases this;rfl
  rw[zl hr,zl c,show(fun a=>stepG P true (G fr (cs++bl)) (u.tp a))=fun a=>gv P true true fr (cs++bl) none (u.tp a) from funext fun a=>zl hr];exact abi d j g i n f h k hr
 ·have c:b.mode≠.run:=by
   intro e;have:=h.mode;rw[e]at this;generalize hm:fr.mode=m at this;cases this;exact hr hm
  rw[Fy hr,Fy c,show(fun a=>stepG P true (G fr (cs++bl)) (u.tp a))=fun a=>ym P true fr (cs++bl) none (u.tp a) from funext fun a=>Fy hr];exact abn d j g i n f h k
end
end
inductive ir(P:aN)(main:Bool)(g:bw)(w:an):bw->an->Array MemAct->Prop
 |go {b:bw} {w1:an} {es:Array kM} (h:stepG P main g w=.go b w1 es):ir P main g w b w1 (es.map .ofEvent)
 |shut {fr:aJ} {cs:List aJ} {r:Nat} {z:au} {w1:an} {es:Array kM} {cap s a:Nat} {tm:Bool} (h:stepG P main g w=.comm (G fr cs) #[HV r z] false .select w1 es) (hc:w1.heap[r]? =some (.chan cap #[] true s a tm)):
   ir P main g w (G (fr.finish (.tuple #[goInt 0,.bool false,z])) cs) w1 ((es.map .ofEvent).push (.recvClosed r))
 |qp {fr:aJ} {cs:List aJ} {r:Nat} {z:au} {w1:an} {es:Array kM} {cap s a:Nat} {tm:Bool} (h:stepG P main g w=.comm (G fr cs) #[HV r z] false .select w1 es) (hc:w1.heap[r]? =some (.chan cap #[] false s a tm)):
   ir P main g w (G (fr.finish (.tuple #[goInt (-1),.bool false,z])) cs) w1 (es.map .ofEvent)
 |qw {fr:aJ} {cs:List aJ} {z:au} {w1:an} {es:Array kM} (h:stepG P main g w=.comm (G fr cs) #[rcaseNil z] false .select w1 es):
   ir P main g w (G (fr.finish (.tuple #[goInt (-1),.bool false,z])) cs) w1 (es.map .ofEvent)
section
variable {P:aN} {l:List bh} {S:Nat->Prop}
theorem vF{g g1 w w1 bJ}(a:g.status=.running)(h:ir P true g w g1 w1 bJ):step P (solo g w)=.next (solo g1 w1):=by
 cases h with
 |go h=>exact MH a h
 |@shut e cs r z w1 d f s j k h b=>
  have i:=partners_alone (c:=r) true;rw[step,yl a];simp[runT,solo,G,zG,zF,h,LG,vW,ways,HV,b,i,choose,Sem.run,UX,bind,cA,pure,zL,Ac]at h⊢
 |@qp e cs r z w1 d f s j k h b=>
  rw[step,yl a];simp[runT,solo,G,zG,zF,h,LG,vW,ways,HV,b,(partners_alone (c:=r) true),zL,Ac]at h⊢
 |@qw e cs z w1 d h=>
  rw[step,yl a];simp[runT,solo,G,zG,zF,h,LG,vW,ways,rcaseNil,zL,Ac]at h⊢
theorem Td{gs i g g1 w w1 sl bJ}(d:gs[i]? =some g)(p:∀(j:Nat) h,gs[j]? =some h->h.status=.blocked->h.offers=none)(h:ir P (i==0) g w g1 w1 bJ):
  ∃f k,runT P (crowd gs w sl) i=(.next (crowd ((gs.map f).setIfInBounds i g1) w1 sl),k)/\(f=woken P g g1 w1\/f=id)/\k.map (·.act)=bJ/\∀op∈k,op.g=i:=by
 have n:∀r,partners (gs.setIfInBounds i ph) r true=[]:=fun r=>partners_nil fun j x b=>by
  have t:x.status=.blocked->x.offers=none:=by
   by_cases m:i=j
   ·subst m;rw[zD]at b;simp only[cD]at b;split at b
    ·cases b;exact fun _=>rfl
    ·cases b
   ·rw[dx m]at b;exact p j x b
  unfold offersAt;cases q:x.status with
  |blocked=>rw[t q]
  |_=>rfl
 have hm:∀(a:Array kM) (fn:bh) (pos:String),(jq i fn pos a).map (·.act)=a.map .ofEvent/\∀op∈jq i fn pos a,op.g=i:=fun a fn pos=>by exact⟨by rw[ofEvents_eq];simp[BA,BJ],lD i fn pos a⟩
 cases h with
 |go h=>exact⟨_,_,runT_crowd_go d h,.inl rfl,(hm _ _ _).1,(hm _ _ _).2⟩
 |@shut c cs r z w1 a o s u v h e=>
  refine⟨id,jq i g.frame.fn g.frame.place a++#[{g:=i,fn:=c.fn,pos:=c.place,act:=.recvClosed r}],?_,.inr rfl,?_,fun op hop=>?_⟩
  ·rw[GD d h,Lq];simp[vW,ways,HV,e,n,choose,Sem.run,UX,bind,cA,pure,zL,Ac,G,crowd]
  ·rw[Array.map_append,(hm _ _ _).1];simp
  ·rcases tP.1 hop with hop|hop
   ·exact(hm _ _ _).2 op hop
   ·simp at hop;subst hop;rfl
 |@qp c cs r z w1 a o s u v h e=>
  refine⟨id,jq i g.frame.fn g.frame.place a,?_,.inr rfl,(hm _ _ _).1,(hm _ _ _).2⟩;rw[GD d h,Lq];simp[vW,ways,HV,e,n,zL,Ac,G,crowd]
 |@qw c cs z w1 a h=>
  refine⟨id,jq i g.frame.fn g.frame.place a,?_,.inr rfl,(hm _ _ _).1,(hm _ _ _).2⟩;rw[GD d h,Lq];simp[vW,ways,rcaseNil,zL,Ac,G,crowd]
theorem adF{g g1 w w1 c es}(b:g.status=.running)(h:stepG P true g w=.comm g1 #[c] false .select w1 es)(hc:Ae w1 c=true):∃o d,step P (solo g w)=.ended o d:=by
 refine⟨.stuck "a communication at a channel whose block is no channel's" (g1.frame.pos P),w1,?_⟩;rw[step,yl b,solo_eq_crowd,GD (i:=0) rfl h];show(vW P _ _ 0 g1 #[c] false .select w1).1=_;unfold vW;have a:(#[c].any (Ae w1))=true:=by simp[hc]
 show(if(#[c].any (Ae w1))=true then _ else _:Stepped×Array MemOp).1=_;rw[aM a]
theorem Kq[aA]{σ z z'}(d:VR σ z z')(n):∀(i:Nat) v c,(#[goInt n,.bool false,z]:Array au)[i]? =some v->(#[goInt n,.bool false,z']:Array au)[i]? =some c->VR σ v c:=by
 intro i v c a b
 match i with
 |0=>simp at a b;subst a b;exact .int _ _
 |1=>simp at a b;subst a b;exact .bool _
 |2=>simp at a b;subst a b;exact d
 |n+3=>simp at a
def sI(S:Nat->Prop)(b:Ren)(a:MemAct):Prop:=(∃e,a=.ofEvent e/\gy S b e)\/∃r x,a=.recvClosed r/\b x r/\¬S r
theorem Ay{σ}{es:Array kM}(h:∀e∈es,gy S σ e):∀a∈es.map cI,sI S σ a:=fun a b=>by obtain⟨e,c,rfl⟩:=mK.1 b;exact .inl ⟨e,rfl,h e c⟩
variable [aA] [aW]
structure GR(P:aN)(l:List bh)(ρ:Ren)(base:List aJ)(fr:aJ)(cs:List aJ)(g':bw):Prop where
 of:∃b a,g'=G b (a++base)/\bY P l ρ fr b/\cH (bY P l ρ) cs a
theorem Jr(hT:Fit P l){bl base}(wO:bl≠[])(I:Still bl)(hb:Still base){ρ u w}(hw:WR P ρ u w)(hW:Whole S ρ u){fr:aJ}{cs:List aJ}{g':bw}(h:GR P l ρ base fr cs g'){m:Machine}(f:step P (lone fr (cs++bl) u)=.next m)(main):
  (∃C d,m=solo C d/\Cw P bl C d)\/∃x k d j Q q N,m=lone x (k++bl) d/\ir P main g' w Q q N/\GR P l j base x k Q/\bO P ρ j u d w q/\Whole S j d/\(∀a∈N,sI S j a)/\
   jF u d/\∀g,jA g u.tape u.drawn d.drawn->step P (lone fr (cs++bl) (u.tp g))=.next (lone x (k++bl) (d.tp g)):=by
 obtain⟨aE,aC,rfl,av,aq⟩:=h.of;have A:=abl (main:=main) hT wO I hb hw hW av aq;rw[lone_eq_solo]at f;cases i:stepG P true (G fr (cs++bl)) u with
 |go C d O=>
  rw[i]at A;rw[(vF rfl (.go i))]at f;cases f;rcases A with L|⟨x,k,j,uT,Z,q,aa,rfl,D,E,F,t,y,H,n⟩
  ·exact .inl ⟨C,d,rfl,L⟩
  exact .inr ⟨x,k,d,j,_,q,_,rfl,.go D,⟨_,_,rfl,E,F⟩,t,y,Ay H,n.1,fun g v=>vF rfl (.go (n.2 g v))⟩
 |comm C aB b sh d O=>
  rw[i]at A;obtain⟨x,k,j,uT,Z,c,W,q,aa,rfl,rfl,rfl,rfl,D,hc,E,F,t,y,H,n⟩:=A;obtain⟨X,c2,B⟩:=c;obtain⟨d1,d2,d3⟩:=W;obtain⟨T,U,V,J⟩:=hc;simp only at T U V J;subst U V
  have K:Ae d ⟨X,none,B⟩=true->False:=fun ZG=>by have:=adF (P:=P) rfl i ZG;obtain⟨o,u2,e⟩:=this;rw[e]at f;cases f
  cases T with
  |mW=>
   have:=vF rfl (.qw i);rw[this]at f;cases f;exact .inr ⟨_,k,d,j,_,q,_,rfl,.qw D,⟨_,_,rfl,E.finish (.tuple rfl (Kq J _)),F⟩,t,y,Ay H,n.1,fun g v=>vF rfl (.qw (n.2 g v))⟩
  |@chan r M hr=>
   obtain⟨o,p⟩:∃o,d.heap[r]? =some o:=⟨_,cw (t.rel.lt _ _ hr).1⟩;rcases t.rel.obj _ _ _ hr p with L|⟨o',R,uX⟩
   ·subst L;exact(K (by simp[Ae,p,bG])).elim
   ·cases uX with
    |chan aA Y s rc tm=>
     cases Y with
     |true=>
      have:=vF rfl (.shut (r:=r) (z:=B) i p);rw[this]at f;cases f;refine .inr ⟨_,k,d,j,_,q,_,rfl,.shut (r:=M) (z:=d3) D R,⟨_,_,rfl,E.finish (.tuple rfl (Kq J _)),F⟩,t,y,fun a I=>?_,n.1,fun g v=>vF rfl (.shut (r:=r) (z:=B) (n.2 g v) p)⟩;rcases Array.mem_push.1 I with I|rfl
      ·exact Ay H a I
      ·exact .inr ⟨M,r,rfl,hr,y.own hr p (by intro e;cases e)⟩
     |false=>
      have:=vF rfl (.qp (r:=r) (z:=B) i p);rw[this]at f;cases f;exact .inr ⟨_,k,d,j,_,q,_,rfl,.qp (r:=M) (z:=d3) D R,⟨_,_,rfl,E.finish (.tuple rfl (Kq J _)),F⟩,t,y,Ay H,n.1,fun g v=>vF rfl (.qp (r:=r) (z:=B) (n.2 g v) p)⟩
    |_=>exact(K (by simp[Ae,p])).elim
  |_=>exact(K rfl).elim
 |ended o d O=>
  have:step P (solo (G fr (cs++bl)) u)=.ended o d:=by rw[step,yl rfl];simp[runT,solo,G,zG,zF,i]at i⊢
  rw[this]at f;cases f
 |_=>rw[i]at A;exact A.elim
end
section
variable [aA] [aW]
def bot(P:aN):aJ:={fn:=P.funcs.size,tmps:=#[],todo:=[.call {target:=.nil,args:=#[]} false "fmt's door" #[]],defers:=[],mode:=.run,kind:=.normal}
theorem KN(P):Still [bot P]:=fun b h=>by simp at h;subst h;exact .inl rfl
section
variable {P:aN} {l:List bh}
theorem SV{g w w1 o es}(a:g.status=.running)(h:stepG P true g w=.ended o w1 es):step P (solo g w)=.ended o w1:=by rw[step,yl a];simp[runT,solo,zG,zF,h]
theorem U4{g}(h:MW [bot P] g)(w):∀n,∀i cs m,runN P n (solo g w)≠.next (lone i (cs++[bot P]) m):=by
 have u:P.funcs[P.funcs.size]? =none:=aq
 have raise:∀c (w:an),∃o,step P (solo (G ((bot P).raise c) []) w)=.ended o w:=fun c w=>by
  have f:∃o,stepG P true (G ((bot P).raise c) []) w=.ended o w #[]:=by
   have t:((bot P).raise c).defers=[]:=rfl;have hm:((bot P).raise c).mode=.panicking c:=rfl
   have j:((bot P).raise c).catches P=true:=by have r:((bot P).raise c).fn=P.funcs.size:=rfl;have s:((bot P).raise c).todo=[.call {target:=.nil,args:=#[]} false "fmt's door" #[]]:=rfl;unfold LF;rw[r,s,u];show "fmt's door".startsWith "fmt's door" =true;decide+kernel
   rw[Fy (by rw[hm];simp)];unfold ym;simp only[t,hm,j,cD];exact⟨_,rfl⟩
  obtain⟨o,d⟩:=f;exact⟨o,SV rfl d⟩
 have fin:∀v (w:an),∃o,step P (solo (G ((bot P).finish v) []) w)=.ended o w:=fun v w=>by
  have f:∃o,stepG P true (G ((bot P).finish v) []) w=.ended o w #[]:=by
   rw[zl rfl];unfold gv;have:((bot P).finish v).todo=[.extern "fmt's door" #[v]]:=rfl;rw[this];have:Extern.next "fmt's door" =none:=rfl
   simp only[this];exact⟨_,rfl⟩
  obtain⟨o,d⟩:=f;exact⟨o,SV rfl d⟩
 have k:∀{g:bw} {w m:an} {i:aJ} {cs:List aJ},g.callers=[]->solo g w≠lone i (cs++[bot P]) m:=fun j e=>by have:(solo _ _).gs=(lone _ _ _).gs:=dG Md e;simp[solo,lone]at this;rw[this]at j;simp at j
 obtain⟨b,rest,e,x⟩:=h;cases e;intro n i cs m a;rcases x with rfl|⟨v,rfl⟩|⟨c,rfl⟩
 ·cases n with
  |zero=>simp only[runN]at a;exact k rfl (uh a)
  |succ n=>
   have p:∃c,step P (solo (G (bot P) []) w)=.next (solo (G ((bot P).raise c) []) w):=by
    have f:∃c q,stepG P true (G (bot P) []) w=.go (G ((bot P).raise c) []) w q:=by rw[zl rfl];unfold gv;have:(bot P).todo=[.call {target:=.nil,args:=#[]} false "fmt's door" #[]]:=rfl;rw[this];simp only;unfold stepG.apply;exact⟨_,_,rfl⟩
    obtain⟨c,q,f⟩:=f;exact⟨c,MH rfl f⟩
   obtain⟨c,p⟩:=p;simp only[runN,p]at a;cases n with
   |zero=>simp only[runN]at a;exact k rfl (uh a)
   |succ n=>
    obtain⟨o,d⟩:=raise c w;simp only[runN,d]at a;cases a
 ·cases n with
  |zero=>simp only[runN]at a;exact k rfl (uh a)
  |succ n=>
   obtain⟨o,d⟩:=fin v w;simp only[runN,d]at a;cases a
 ·cases n with
  |zero=>simp only[runN]at a;exact k rfl (uh a)
  |succ n=>
   obtain⟨o,d⟩:=raise c w;simp only[runN,d]at a;cases a
theorem Np{g u}(h:Cw P [bot P] g u):∀n a cs b,runN P n (solo g u)=.next (lone a (cs++[bot P]) b)->nK a:=by
 rcases h with h|h
 ·exact fun n a cs b c=>absurd c (U4 h u n a cs b)
 ·exact h
def lH(P:aN)(l:List bh)(fr:aJ)(cs:List aJ)(u:an):Prop:=∃S a base b w,Still base/\GR P l a base fr cs b/\WR P a u w/\Whole S a u
def along(u w:an)(a:Nat->mN->Nat):Nat->mN->Nat:=fun i q=>a (u.drawn+(i-w.drawn)) q
theorem WR.tp{ρ u w}(h:WR P ρ u w)(a:Nat->mN->Nat):WR P ρ (u.tp a) (w.tp (along u w a)):=
 ⟨h.one,h.lt,h.obj,fun i q=>by show a (u.drawn+(w.drawn+i-w.drawn)) q=a (u.drawn+i) q;rw[ue],h.low,h.base,h.calm,h.os⟩
theorem lH.tp{fr cs u}(h:lH P l fr cs u)(a:Nat->mN->Nat):lH P l fr cs (u.tp a):=by obtain⟨S,g,base,b,w,c,d,e,f⟩:=h;exact⟨S,g,base,b,_,c,d,e.tp a,f⟩
inductive nP(P:aN)(Post:aJ->List aJ->an->Prop):aJ->List aJ->an->Prop
 |stop {fr:aJ} {cs:List aJ} {u:an} (h:Post fr cs u):nP P Post fr cs u
 |step {fr:aJ} {cs:List aJ} {u:an} (h:∀a,(∀i q,i<u.drawn->a i q=u.tape i q)->∃c b d,step P (lone fr (cs++[bot P]) (u.tp a))=.next (lone c (b++[bot P]) d))
   (k:∀a,(∀i q,i<u.drawn->a i q=u.tape i q)->∀c b d,step P (lone fr (cs++[bot P]) (u.tp a))=.next (lone c (b++[bot P]) d)->nP P Post c b d):nP P Post fr cs u
theorem Ej{fr dP cs iK u u1}(h:lone fr (cs++[bot P]) u=lone dP (iK++[bot P]) u1):fr=dP/\cs=iK/\u=u1:=by have a:=dG Md h;simp[lone]at a;exact⟨a.1,a.2,(dG Machine.world h)⟩
structure mQ where
 fr:aJ
 cs:List aJ
 u:an
def mQ.m(P:aN)(s:mQ)(a:Nat->mN->Nat):Machine:=lone s.fr (s.cs++[bot P]) (s.u.tp a)
structure qb(P:aN)(s t:mQ):Prop where
 past:∀i q,i<s.u.drawn->t.u.tape i q=s.u.tape i q
 drawn:s.u.drawn<=t.u.drawn
 step:∀a,jA a t.u.tape s.u.drawn t.u.drawn->step P (s.m P a)=.next (t.m P a)
section
variable {Post:aJ->List aJ->an->Prop}
def oO(P:aN)(l:List bh)(Post:aJ->List aJ->an->Prop)(s:mQ):Prop:=¬nP P Post s.fr s.cs s.u/\lH P l s.fr s.cs s.u
def Cz(P:aN)(Post:aJ->List aJ->an->Prop)(s:mQ):Prop:=∃b,(∀i q,i<s.u.drawn->b i q=s.u.tape i q)/\∀n a cs w,runN P (n+1) (s.m P b)=.next (lone a (cs++[bot P]) w)->¬Post a cs w
theorem Ns(L:Fit P l)(K:∀r cs u,Post r cs u->¬nK r){s}(h:oO P l Post s):¬Post s.fr s.cs s.u/\(Cz P Post s\/∃t,oO P l Post t/\qb P s t):=by
 obtain⟨C,G⟩:=h;refine⟨fun g=>C (.stop g),?_⟩
 have H:¬∀e,(∀i q,i<s.u.drawn->e i q=s.u.tape i q)->∃p j f,step P (lone s.fr (s.cs++[bot P]) (s.u.tp e))=.next (lone p (j++[bot P]) f)/\nP P Post p j f:=fun h=>C (.step (fun e g=>by(obtain⟨a,b,c,d,_⟩:=h e g;exact⟨a,b,c,d⟩)) fun e g p j f D=>by obtain⟨a,b,c,d,k⟩:=h e g;rw[d]at D;obtain⟨rfl,rfl,rfl⟩:=Ej (uh D);exact k)
 obtain⟨e,I⟩:=Classical.not_forall.1 H;obtain⟨A,J⟩:=Classical.not_imp.1 I;cases x:step P (lone s.fr (s.cs++[bot P]) (s.u.tp e))with
 |ended o w=>
  refine .inl ⟨e,A,fun n r cs y v=>?_⟩;simp only[runN,mQ.m,x]at v;cases v
 |next m=>
  obtain⟨S,ρ,base,g',w,E,Q,R,T⟩:=G;rcases Jr (main:=true) L aq (KN P) E (R.tp e) T Q x with⟨g1,f,rfl,g⟩|⟨p,j,f,X,F,y,Z,rfl,_,m2,U,V,_,B,W⟩
  ·refine .inl ⟨e,A,fun n r cs y v=>?_⟩;simp only[runN,mQ.m,x]at v;exact fun N=>K _ _ _ N (Np g n r cs y v)
  ·refine .inr ⟨⟨p,j,f⟩,⟨fun O=>J ⟨p,j,f,x,O⟩,⟨S,X,base,F,y,E,m2,U.rel,V⟩⟩,fun i q M=>?_,B.drawn,fun Y z=>?_⟩
   ·show f.tape i q=_;rw[B.tape];exact A i q M
   ·refine W Y ?_;have:=B.tape;simp only at this z;rw[this]at z;exact z
theorem least{p:Nat->Prop}(h:∃n,p n):∃n,p n/\∀k,k<n->¬p k:=by
 obtain⟨n,d⟩:=h;induction n using Nat.strongRecOn with
 |ind n e=>
  by_cases c:∃k,k<n/\p k
  ·obtain⟨k,a,b⟩:=c;exact e k a b
  ·exact⟨n,d,fun k a b=>c ⟨k,a,b⟩⟩
theorem ways(P l)(Post:aJ->List aJ->an->Prop)(s:mQ):∃f:Nat->mQ,f 0=s/\∀n,(∃t,oO P l Post t/\qb P (f n) t)->oO P l Post (f (n+1))/\qb P (f n) (f (n+1)):=by
 classical
 let go:mQ->mQ:=fun s=>if h:∃t,oO P l Post t/\qb P s t then h.choose else s
 refine⟨fun n=>Nat.rec s (fun _ x=>go x) n,rfl,fun n h=>?_⟩;have e:go (Nat.rec s (fun _ x=>go x) n)=h.choose:=qW h;show oO P l Post (go (Nat.rec s (fun _ x=>go x) n))/\qb P _ (go (Nat.rec s (fun _ x=>go x) n));rw[e];exact h.choose_spec
theorem Bw(c:Fit P l)(b:∀a cs u,Post a cs u->¬nK a){f:Nat->mQ}(hf:∀n,(∃t,oO P l Post t/\qb P (f n) t)->oO P l Post (f (n+1))/\qb P (f n) (f (n+1)))(h:oO P l Post (f 0)):∀n,(∀k,k<n->¬Cz P Post (f k))->oO P l Post (f n)/\∀k,k<n->qb P (f k) (f (k+1))
 |0,_=>⟨h,fun k e=>by omega⟩
 |n+1,d=>by
  obtain⟨g,i⟩:=Bw c b hf h n fun k e=>d k ak;obtain⟨j,m⟩:=hf n ((Ns c b g).2.resolve_left (d n ak));refine⟨j,fun k e=>?_⟩;rcases lE k n with o|hge
  ·exact i k o
  ·obtain rfl:k=n:=ak;exact m
theorem Ew{f:Nat->mQ}{n:Nat}(h:∀k,k<n->qb P (f k) (f (k+1))):∀m k,k+m<=n->(f k).u.drawn<=(f (k+m)).u.drawn/\∀i q,i<(f k).u.drawn->(f (k+m)).u.tape i q=(f k).u.tape i q
 |0,k,_=>⟨aV _,fun _ _ _=>rfl⟩
 |m+1,k,e=>by obtain⟨a,d⟩:=Ew h m k ak;have b:=h (k+m) ak;exact⟨cS a b.drawn,fun i q c=>(b.past i q (cV c a)).trans (d i q c)⟩
theorem follows{f:Nat->mQ}{a:Nat->mN->Nat}:∀n,(∀k,k<n->qb P (f k) (f (k+1)))->(∀k,k<=n->∀i q,i<(f k).u.drawn->a i q=(f k).u.tape i q)->runN P n ((f 0).m P a)=.next ((f n).m P a)
 |0,_,_=>rfl
 |n+1,h,b=>by have c:=follows n (fun k e=>h k ak) fun k e=>b k ak;rw[runN_add P n 1,c];have:=(h n ak).step a fun i q _ d=>b (n+1) (aV _) i q d;simp only[runN,this]
theorem Lk(w:Fit P l)(v:∀fr cs u,Post fr cs u->¬nK fr)(L:∀fr cs u b,lH P l fr cs u->Post fr cs u->Post fr cs (an.tp u b)){fr:aJ}{cs:List aJ}{u:an}(K:lH P l fr cs u)
  (h:∀b,(∀i q,i<u.drawn->b i q=u.tape i q)->∃n g d o,runN P n (lone fr (cs++[bot P]) (u.tp b))=.next (lone g (d++[bot P]) o)/\Post g d o):nP P Post fr cs u:=by
 classical
 refine oy fun O=>?_;obtain⟨f,f0,y⟩:=ways P l Post ⟨fr,cs,u⟩;have z:oO P l Post (f 0):=by rw[f0];exact⟨O,K⟩
 have G:(f 0).u=u:=by rw[f0]
 have hm:∀b,(f 0).m P b=lone fr (cs++[bot P]) (u.tp b):=fun b=>by rw[f0];rfl
 have J:∀{n},oO P l Post (f n)->∀{g d o b},(f n).m P b=lone g (d++[bot P]) o->Post g d o->False:=fun{n} A {g d o b} e t=>by obtain⟨rfl,rfl,rfl⟩:=Ej e;exact(Ns w v A).1 (L _ _ ((f n).u.tp b) (f n).u.tape (A.2.tp b) t)
 by_cases D:∃n,Cz P Post (f n)
 ·
  obtain⟨n,B,E⟩:=least D;obtain⟨A,r⟩:=Bw w v y z n E;obtain⟨b,Q,M⟩:=B
  have s:∀k,k<=n->∀i q,i<(f k).u.drawn->b i q=(f k).u.tape i q:=fun k c i q x=>by obtain⟨H,I⟩:=Ew r (n-k) k ak;rw[show k+(n-k)=n by omega]at H I;rw[Q i q (cV x H)];exact I i q x
  obtain⟨N,g,d,o,p,t⟩:=h b (G▸s 0 ak);rcases lE n N with R|hge
  ·have hr:=follows n r s;obtain⟨m,rfl⟩:∃m,N=n+(m+1):=⟨N-n-1,ak⟩;rw[runN_add P n (m+1)]at p;rw[<-hm,hr]at p;exact M m g d o p t
  ·have hr:=follows N (fun k c=>r k ak) fun k c=>s k ak;rw[<-hm,hr]at p;exact J (Bw w v y z N fun k c=>E k ak).1 (uh p) t
 ·
  have F:∀n,¬Cz P Post (f n):=fun n B=>D ⟨n,B⟩;have r:∀k,qb P (f k) (f (k+1)):=fun k=>(Bw w v y z (k+1) fun j _=>F j).2 k ak
  let b:Nat->mN->Nat:=fun i q=>if c:∃k,i<(f k).u.drawn then(f c.choose).u.tape i q else u.tape i q
  have s:∀k i q,i<(f k).u.drawn->b i q=(f k).u.tape i q:=fun k i q x=>by
   have c:∃k,i<(f k).u.drawn:=⟨k,x⟩;show(if c:∃k,i<(f k).u.drawn then(f c.choose).u.tape i q else u.tape i q)=_;rw[qW c];have C:=c.choose_spec;generalize c.choose=j at C;rcases Nat.le_total j k with hjk|hjk
   ·have:=(Ew (n:=k) (fun a _=>r a) (k-j) j ak).2 i q C;rw[show j+(k-j)=k by omega]at this;exact this.symm
   ·have:=(Ew (n:=j) (fun a _=>r a) (j-k) k ak).2 i q x;rw[show k+(j-k)=j by omega]at this;exact this
  obtain⟨N,g,d,o,p,t⟩:=h b (G▸s 0);rw[<-hm,(follows N (fun k _=>r k) fun k _=>s k)]at p;exact J (Bw w v y z N fun k _=>F k).1 (uh p) t
theorem aeY(g:∀fr cs u,Post fr cs u->¬nK fr){fr cs u}(h:nP P Post fr cs u):(∀n a b w,runN P n (lone fr (cs++[bot P]) u)=.next (lone a (b++[bot P]) w)->nK a)->False:=by
 induction h with
 |stop h=>exact fun H=>g _ _ _ h (H 0 _ _ _ rfl)
 |@step fr cs u h k j=>
  intro H;obtain⟨a,b,d,c⟩:=h u.tape fun _ _ _=>rfl;refine j u.tape (fun _ _ _=>rfl) a b d c fun n f e w i=>H (n+1) f e w ?_;have c:step P (lone fr (cs++[bot P]) u)=.next (lone a (b++[bot P]) d):=c
  simp only[runN,c];exact i
theorem TH(c:∀fr cs u,Post fr cs u->¬nK fr){fr cs u v g}(h:nP P Post fr cs u)(e:lone fr (cs++[bot P]) u=solo g v)(d:Cw P [bot P] g v):False:=
 aeY c h fun n b a w f=>Np d n b a w (by grind)
end
end
end
end
section
open Go.RowKit
def Bears{b:Type}(R:Nat->Prop)(J:b->an->Prop):Prop:=
 ∀s W a row,J s W->W.grownBy a row->(∀r,row=some r->R r)->J s a
theorem Bears.put{c:Type}{R J}(h:Bears R J){s:c}{W:an}(b:J s W){l:Nat}(a:R l)(o):J s (W.putObj l o):=
 h s W _ (some l) b (grownBy_putObj' W l o) (fun r e=>by cases e;exact a)
theorem Bears.new{b:Type}{R J}(h:Bears R J){s:b}{W:an}(a:J s W)(o):J s (W.alloc o):=
 h s W _ none a (World.grownBy_alloc W o none) (fun r e=>by cases e)
def Iter{α:Type}(F:Fence)(n:Nat)(P:aN)(g:Nat)(lb:Array au)(encs:α->Array au)(R:Nat->Prop)(Kp:an->an->Prop)(V:List α->Prop)(S Sp:List α->an->Prop)(W:an):Prop:=
 ∀(l:Nat) (J c:List α->an->Prop),Bears R J->Bears R c->
  (∀pre x b,J pre b->V (pre++[x])->YieldAt F (n-1) P l (encs x) b fun e a=>
   (e=.returned (.bool true)/\J (pre++[x]) a/\Kp b a)\/(e=.returned (.bool false)/\c (pre++[x]) a/\Kp b a))->
  J [] W->
  CallsIn F n P g (#[.func (.yield l) #[] #[]]++lb) W fun e a=>(∃v,e=.returned v)/\((∃d,S d a/\J d a)\/(∃pre,Sp pre a/\c pre a))
def Two(B:Nat)(W a:an):Prop:=a.heap[B]? =W.heap[B]? /\a.heap[B+1]? =W.heap[B+1]?
def roundEnd{α:Type}(B:Nat)(Kp:an->an->Prop)(I:List α->an->Prop)(b:List α->an->Prop)(xs:List α)(W:an):Exit->Act->an->Prop
 |.normal,_,a=>Two B W a/\Kp W a/\I xs a
 |.ret,_,a=>Two B W a/\Kp W a/\b xs a
 |_,_,_=>False
theorem yW{F n P}{α:Type}{g ps assign body Q a}{w:an}(aE:F.round=none)(X:1<=n){gf:Nat}{lb:Array au}(hg:a.eval g=.func (.func gf) #[] lb)(Y:F.fn gf)(U:∀args w,(callFunc gf args).run P w=.ok (.enter gf args) w){encs:α->Array au}(aB:∀x,(encs x).size=ps.size){R:Nat->Prop}{Kp:an->an->Prop}{V:List α->Prop}{S Sp:List α->an->Prop}(aF:∀W,w.grownBy W none->Iter F (n-1) P gf lb encs R Kp V S Sp W)(hR:∀r,R r->r<w.heap.size)(hKt:∀{A B C:an},Kp A B->Kp B C->Kp A C)(hKb:∀(W:an) (o:Obj),Kp W (W.putObj (w.heap.size+1) o))(hS:Bears (fun r=>w.heap.size<=r) S)(hSp:Bears (fun r=>w.heap.size<=r) Sp)(I y:List α->an->Prop)(hI:Bears (fun r=>R r\/r=w.heap.size+1) I)(hIx:Bears (fun r=>R r\/r=w.heap.size+1) y)(h0:I [] w)(z:α->Act->an->Prop)(hAx:∀x,Bears (fun r=>R r\/r=w.heap.size+1) (z x))(Z:∀(l:Nat) (pre:List α) (x:α) (W:an) (K:Act->an->Prop),I pre W->V (pre++[x])->w.heap.size+2<=W.heap.size->(∀a' j,Two w.heap.size W j->Kp W j->I pre j->z x a' j->K a' j)->
   assign.wpIn (F.inRound l) (n-1-1) P (Exit.then K (fun _ _ _=>False)) {tmps:=(ps.zip (encs x)).foldl (fun t (p,v)=>t.setIfInBounds p v) a.tmps,defers:=[]} W) (af:∀(l:Nat) (pre:List α) (x:α) (a':Act) (W:an),I pre W->z x a' W->V (pre++[x])->w.heap.size+2<=W.heap.size->body.wpIn (F.inRound l) (n-1-1) P (roundEnd w.heap.size Kp I y (pre++[x]) W) a' W) (aj:∀(xs:List α) (W:an),S xs W->I xs W->W.heap[w.heap.size]? =some (.deferred (some []))->Q .normal {a with defers:={target:=.collected w.heap.size,args:=#[]}::a.defers} W) (aG:∀(pre:List α) (W:an),Sp pre W->y pre W->W.heap[w.heap.size]? =some (.deferred (some []))->Code.ret.wpIn F n P Q {a with defers:={target:=.collected w.heap.size,args:=#[]}::a.defers} W):
  (Code.rangeFunc g ps assign body).wpIn F n P Q a w:=by
 refine wpIn_rangeFunc fun fn av=>?_;rw[aE]
 let b:LoopState->Option Code->Obj:=fun st pe=>.loop {state:=st,pending:=pe,fn,tmps:=a.tmps,params:=ps,assign,body,defers:=w.heap.size}
 have gr:w.grownBy ((w.alloc (.deferred (some []))).alloc (b .ready none)) none:=
  ⟨rfl,rfl,rfl,bK,fun k f _=>(Below.heap_alloc _ _ _ bK).trans (Below.heap_alloc _ _ _ f)⟩
 have aC:((w.alloc (.deferred (some []))).alloc (b .ready none)).heap[w.heap.size+1]? =some (b .ready none):=by
  have:=Vf (w.alloc (.deferred (some []))) (b .ready none)
  rwa [World.size_alloc]at this
 have ah:((w.alloc (.deferred (some []))).alloc (b .ready none)).heap[w.heap.size]? =some (.deferred (some [])):=
  (Below.heap_alloc _ _ _ aq).trans (Vf w _)
 have kept:∀{A B:an} {row:Option Nat} {k:Nat} {o:Obj},A.grownBy B row->(∀r,row=some r->R r)->w.heap.size<=k->A.heap[k]? =some o->B.heap[k]? =some o:=fun d hr f O=>
  (d.block _ (aP.1 O).1 (fun e=>by have:=hR _ (hr _ e.symm);omega)).trans O
 refine⟨w.heap.size+1,[{target:=.collected w.heap.size,args:=#[]}],(w.alloc (.deferred (some []))).alloc (b .ready none),{target:=.fn (.func gf) lb,args:=#[.func (.yield (w.heap.size+1)) #[] #[]]},(w.alloc (.deferred (some []))).alloc (b .ready none),gf,
  #[.func (.yield (w.heap.size+1)) #[] #[]]++lb,(w.alloc (.deferred (some []))).alloc (b .ready none),run_enterLoop_outer _ _ _ _ _,?_,?_,?_,fun _=>X,?_⟩
 ·simp only[resolve,hg];simp[go_sem]
 ·intro f' H;simp[Target.leads]at H;subst H;exact Y
 ·simp[invoke,go_sem,U]
 ·refine(aF _ gr (w.heap.size+1)
   (fun pre W=>I pre W/\W.heap[w.heap.size+1]? =some (b .ready none)/\W.heap[w.heap.size]? =some (.deferred (some [])))
   (fun pre W=>y pre W/\W.heap[w.heap.size+1]? =some (b .done (some .ret))/\W.heap[w.heap.size]? =some (.deferred (some [])))
   (fun s A B row c d hr=>⟨hI s A B row c.1 d (fun r e=>.inl (hr r e)),kept d hr ak c.2.1,kept d hr (aV _) c.2.2⟩)
   (fun s A B row c d hr=>⟨hIx s A B row c.1 d (fun r e=>.inl (hr r e)),kept d hr ak c.2.1,kept d hr (aV _) c.2.2⟩)
   ?_ ⟨hI.new (hI.new h0 _) _,aC,ah⟩).mono ?_
  ·rintro pre x W ⟨m,h,f⟩ hv;have aR:=(aP.1 h).1;refine⟨fn,_,assign,body,run_yield h (aB x),roundIn_of_wpIn av (Z _ pre x W _ m hv ak fun a' D T L az aa=>?_)⟩;have M:=T.2.trans h;have aA:=(aP.1 M).1;have IN:=T.1.trans f;refine⟨_,run_beginRound M rfl,?_⟩;have N:(D.putObj (w.heap.size+1) (b .busy none)).heap[w.heap.size+1]? =some (b .busy none):=Mw aA;have J:(D.putObj (w.heap.size+1) (b .busy none)).heap[w.heap.size]? =some (.deferred (some [])):=(eX ak).trans IN;refine wpIn_mono (af _ pre x a' (D.putObj (w.heap.size+1) (b .busy none)) (hI.put az (.inr rfl) _) ((hAx x).put aa (.inr rfl) _) hv bK) ?_;rintro e a3 W3 i;cases e with
   |normal=>
    obtain⟨u,G,E⟩:=i;have q:=u.2.trans N;refine⟨_,_,run_endRound none q,.inl ⟨rfl,⟨hI.put E (.inr rfl) _,Mw (aP.1 q).1,(eX ak).trans (u.1.trans J)⟩,hKt (hKt (hKt L (hKb _ _)) G) (hKb _ _)⟩⟩
   |ret=>
    obtain⟨u,G,E⟩:=i;have q:=u.2.trans N;refine⟨_,_,run_endRound (some .ret) q,.inr ⟨rfl,⟨hIx.put E (.inr rfl) _,Mw (aP.1 q).1,(eX ak).trans (u.1.trans J)⟩,hKt (hKt (hKt L (hKb _ _)) G) (hKb _ _)⟩⟩
   |exit id=>exact i.elim
   |goto t=>exact i.elim
   |panic ch=>exact i.elim
   |outgrown=>exact i.elim
  ·rintro e W2 ⟨⟨v,rfl⟩,(⟨xs,c,m,h,f⟩|⟨pre,c,m,h,f⟩)⟩
   ·exact⟨none,_,run_endLoop h aq,aj xs _ (hS.put c (ju _) _) (hI.put m (.inr rfl) _) ((eX ak).trans f)⟩
   ·exact⟨some .ret,_,run_endLoop h aq,aG pre _ (hSp.put c (ju _) _) (hIx.put m (.inr rfl) _) ((eX ak).trans f)⟩
end
section
open Go.Proofs.Tryz
open Go.RowKit
abbrev bz(f:bh)(a:Array au)(w:an)(v:au):Prop:=Calls prog f a w fun e b=>e=.returned v/\aB w b
abbrev fE(f:bh)(a:Array au)(w:an)(v:au):Prop:=Calls prog f a w fun e b=>e=.returned v/\b=w
def iD(n a b:Int):Bool:=decide (a<=n)&&decide (n<=b)
def rN(n m:Int):Bool:=iD n 4 m&&(n %4==0)
theorem zy(n a b w):
  fE 71 #[aj n,aj a,aj b] w (.bool (iD n a b)):=by
 go_enter func71,ntmps71;go_wp2
 all_goals (go_ret;exact⟨by simp[iD, *];try omega,rfl⟩)
theorem ET(n m w):
  fE 172 #[aj n,aj m] w (.bool (rN n m)):=by
 cases h:iD n 4 m with
 |false=>
  go_enter func172,ntmps172;go_wp2_with (go_at_call 71;refine(zy _ _ _ _).mono ?_;rintro e a ⟨rfl,rfl⟩);go_ret;exact⟨by simp[rN,h],rfl⟩
 |true=>
  have h0:4<=n:=by simp[iD]at h;exact h.1
  go_enter func172,ntmps172;go_wp2_with (go_at_call 71;refine(zy _ _ _ _).mono ?_;rintro e a ⟨rfl,rfl⟩);go_ret;exact⟨by simp[rN,h],rfl⟩
abbrev Dj(sz cl e b d rt a f c:Int):au:=.agg #[aj sz,aj cl,aj e,aj b,aj d,aj rt,aj a,aj f,aj c]
def sV(sz a c b:Int):Bool:=rN sz 256&&(rN a 32&&(iD c a 64&&iD b (a+4) 256))
def wC(cl b rt a c:Int):Bool:=iD cl 1 8&&(iD b 1 8&&(iD rt 1 16&&(iD a 1 32&&iD c 1 8)))
theorem Hl(sz cl qu mx qn rt bu wk ou w):
  bz 119 #[Dj sz cl qu mx qn rt bu wk ou] w (.bool (sV sz mx qn ou)):=by
 cases c:rN sz 256 with
 |false=>
  go_enter func119,ntmps119;go_wp2_with (go_at_call 172;refine(ET _ _ _).mono ?_;rintro e b ⟨rfl,rfl⟩);go_ret;exact⟨by simp[sV,c],aR⟩
 |true=>
  cases a:rN mx 32 with
  |false=>
   go_enter func119,ntmps119;go_wp2_with (go_at_call 172;refine(ET _ _ _).mono ?_;rintro e b ⟨rfl,rfl⟩);go_ret;exact⟨by simp[sV,c,a],aR⟩
  |true=>
   have hm:4<=mx/\mx<=32:=by simp[rN,iD]at a;exact a.1
   obtain⟨f,g⟩:=hm;cases d:iD qn mx 64 with
   |false=>
    go_enter func119,ntmps119;go_wp2_with (first|(go_at_call 172;refine(ET _ _ _).mono ?_;rintro e b ⟨rfl,rfl⟩)|(go_at_call 71;refine(zy _ _ _ _).mono ?_;rintro e b ⟨rfl,rfl⟩));go_ret;exact⟨by simp[sV,c,a,d],aR⟩
   |true=>
    go_enter func119,ntmps119;go_wp2_with (first|(go_at_call 172;refine(ET _ _ _).mono ?_;rintro e b ⟨rfl,rfl⟩)|(go_at_call 71;refine(zy _ _ _ _).mono ?_;rintro e b ⟨rfl,rfl⟩));go_ret;exact⟨by simp[sV,c,a,d],aR⟩
theorem NJ(sz cl qu mx qn rt bu wk ou w):
  bz 120 #[Dj sz cl qu mx qn rt bu wk ou] w (.bool (wC cl qu rt bu wk)):=by
 have c:∀b,wC cl qu rt bu wk=b->bz 120 #[Dj sz cl qu mx qn rt bu wk ou] w (.bool b):=by
  cases d:iD cl 1 8<;>cases f:iD qu 1 8<;>cases g:iD rt 1 16<;>cases h:iD bu 1 32<;>cases i:iD wk 1 8<;>
  ·intro b a;simp[wC,d,f,g,h,i]at a;subst a;go_enter func120,ntmps120;go_wp2_with (go_at_call 71;refine(zy _ _ _ _).mono ?_;rintro e j ⟨rfl,rfl⟩);go_ret;exact⟨rfl,aR⟩
 exact c _ rfl
def pg(sz cl e b d rt a f c:Int):Bool:=sV sz b d c&&wC cl e rt a f
def WN(b:Bool):Int:=if b then 0 else 1
theorem jY{W w1}(a:aB W w1):(∀b o,b<W.heap.size->w1.cell? (aa b o)=W.cell? (aa b o))/\(∀b o,b<W.heap.size->w1.frozen? (aa b o)=W.frozen? (aa b o)):=
 ⟨fun b o h=>a.cell h,fun b o h=>a.frozen h⟩
theorem WM(sz cl qu mx qn rt bu wk ou w):
  bz 81 #[Dj sz cl qu mx qn rt bu wk ou] w (aj (WN (pg sz cl qu mx qn rt bu wk ou))):=by
 unfold pg;cases h:sV sz mx qn ou with
 |false=>
  go_enter func81,ntmps81;go_wp2_with (go_at_call 119;refine(Hl sz cl qu mx qn rt bu wk ou _).mono ?_;rw[h];rintro e d ⟨rfl,a⟩);go_ret;exact⟨rfl,aR.trans (a.mono aq)⟩
 |true=>
  cases c:wC cl qu rt bu wk with
  |false=>
   go_enter func81,ntmps81;go_wp2_with (first|(go_at_call 119;refine(Hl sz cl qu mx qn rt bu wk ou _).mono ?_;rw[h];rintro e d ⟨rfl,a⟩;obtain⟨f,g⟩:=jY a)|(go_at_call 120;refine(NJ sz cl qu mx qn rt bu wk ou _).mono ?_;rw[c];rintro e i ⟨rfl,b⟩));go_ret;exact⟨rfl,(aR.trans (a.mono aq)).trans (b.mono (by have:=a.size;simp at this;omega))⟩
  |true=>
   go_enter func81,ntmps81;go_wp2_with (first|(go_at_call 119;refine(Hl sz cl qu mx qn rt bu wk ou _).mono ?_;rw[h];rintro e d ⟨rfl,a⟩;obtain⟨f,g⟩:=jY a)|(go_at_call 120;refine(NJ sz cl qu mx qn rt bu wk ou _).mono ?_;rw[c];rintro e i ⟨rfl,b⟩));go_ret;exact⟨rfl,(aR.trans (a.mono aq)).trans (b.mono (by have:=a.size;simp at this;omega))⟩
end
section
open Go.Conc
open Go.ConcN (sumTo upd sumTo_upd upd_ne upd_same)
section
variable [aA] [aW] {S:Nat->Prop}
section
variable {P:aN} {l:List bh}
def Left(P:aN)(f:bh)(R:Ending->an->Prop)(fr:aJ)(cs:List aJ)(u:an):Prop:=cs=[]/\fr.fn=f/\∃e,e≠.outgrown/\R e u/\fr.leaving P u e
theorem Qt(B:Fit P l){fr cs u}(o:lH P l fr cs u)(d:Nat->mN->Nat){e}(h:fr.leaving P u e):fr.leaving P (u.tp d) e:=by
 cases e with
 |returned v=>
  obtain⟨g,j,k,f,m,n⟩:=h;refine⟨g,j,k,f,m,?_⟩;obtain⟨S,D,base,A,w,C,s,t,x⟩:=o;obtain⟨z,y,_,p,_⟩:=s.of;obtain⟨_,r⟩:=(rG (xh f p.tmps) (iz u) t x n).1;rw[<-iW P _ (u.tp d) #[],r d (fun i q a b=>by omega)]
 |panicked c=>exact h
 |outgrown=>trivial
theorem AT{f R}(fr cs u)(h:Left P f R fr cs u):¬nK fr:=by
 rintro⟨hm,_⟩;obtain⟨_,_,e,b,_,a⟩:=h;cases e with
 |returned v=>rw[a.1]at hm;cases hm
 |panicked c=>rw[a.1]at hm;cases hm
 |outgrown=>exact b rfl
theorem TG(o:Fit P l){f args u R}(q:lH P l (Frame.enter P f args .normal) [] u)(hR:∀e w a,R e w->R e (an.tp w a))(s:∀w,¬R .outgrown w)(h:∀a,Calls P f args (u.tp a) R):nP P (Left P f R) (Frame.enter P f args .normal) [] u:=by
 refine Lk o AT (fun j cs u a r=>?_) q fun a _=>?_
 ·rintro⟨b,d,e,g,i,p⟩;exact⟨b,d,e,g,hR e u a i,Qt o r a p⟩
 ·obtain⟨e,m,j,b,d,g,i⟩:=h a [bot P];cases e with
  |outgrown=>exact absurd b (s m)
  |returned v=>
   obtain⟨n,k⟩:=d;exact⟨n,j,[],m,k,rfl,g,_,aq,b,i⟩
  |panicked c=>
   obtain⟨n,k⟩:=d;exact⟨n,j,[],m,k,rfl,g,_,aq,b,i⟩
def laid(u w:an):Nat->mN->Nat:=fun i q=>if i<u.drawn then u.tape i q else w.tape (w.drawn+(i-u.drawn)) q
structure eK(P:aN)(ρ:Ren)(u w:an):Prop where
 one:ρ.one
 lt:∀a b,ρ a b->a<u.heap.size/\b<w.heap.size
 obj:∀a b o,ρ a b->u.heap[a]? =some o->o=bG\/∃c,w.heap[b]? =some c/\OR ρ o c
 low:∀a b,ρ a b->a<P.globals.size->b<P.globals.size
 base:P.globals.size<=u.heap.size
 calm:∀a b,ρ a b->u.heap[a]? =some bG->Calm w.heap[b]?
 os:w.os=u.os/\P=aA.prog
theorem WR.drop{ρ u w}(h:WR P ρ u w):eK P ρ u w:=⟨h.one,h.lt,h.obj,h.low,h.base,h.calm,h.os⟩
theorem eK.lay{ρ u w}(h:eK P ρ u w):WR P ρ (u.tp (laid u w)) w:=
 ⟨h.one,h.lt,h.obj,fun i q=>by show _=laid u w (u.drawn+i) q;unfold laid;rw[aD ak,ue],h.low,h.base,h.calm,h.os⟩
theorem eK.at {ρ u w}(h:eK P ρ u w)(d):eK P ρ u (w.at d):=⟨h.one,h.lt,h.obj,h.low,h.base,h.calm,h.os⟩
end
end
section
variable [aA] [aW]
section
variable {P:aN} {l:List bh} {σ ρ:Ren} {S:Nat->Prop}
theorem JL{a}(h:sI S σ a){x}(b:a.touch?=some x):(∃c y,x.loc=.cell c/\σ y c.block/\¬S c.block)\/(∃r y,x.loc=.obj r/\σ y r/\¬S r)\/x.loc=.output:=by
 rcases h with⟨⟨loc,wr,e⟩,rfl,h⟩|⟨r,y,rfl,h⟩
 ·cases loc with
  |cell c=>
   obtain⟨y,d⟩:=h;simp[cI,xQ]at b;subst b;exact .inl ⟨c,y,rfl,d⟩
  |obj r=>
   obtain⟨y,d⟩:=h;cases wr<;>cases e<;>simp[cI,xQ]at b
   all_goals (subst b;exact .inr (.inl ⟨r,y,rfl,d⟩))
  |output=>
   simp[cI,xQ]at b;subst b;exact .inr (.inr rfl)
  |goroutines=>exact h.elim
  |mark m=>
   cases m with
   |noRoom=>simp[cI,xQ]at b
   |extern _=>simp[cI,xQ]at b
   |_=>exact h.elim
 ·cases b
theorem JK{a}(h:sI S σ a):a≠.mark .disable/\a≠.mark .enable:=by
 rcases h with⟨⟨loc,wr,b⟩,rfl,h⟩|⟨r,y,rfl,h⟩
 ·cases loc with
  |cell c=>exact⟨by simp[cI],by simp[cI]⟩
  |obj r=>cases wr<;>cases b<;>exact⟨by simp[cI],by simp[cI]⟩
  |output=>exact⟨by simp[cI],by simp[cI]⟩
  |goroutines=>exact h.elim
  |mark m=>
   cases m with
   |noRoom=>exact⟨by simp[cI],by simp[cI]⟩
   |extern _=>exact⟨by simp[cI],by simp[cI]⟩
   |_=>exact h.elim
 ·exact⟨aq,aq⟩
theorem JJ{a}(h:sI S σ a){B}(c:∀y b,σ y b->b<B):a.low B:=by
 rcases h with⟨⟨loc,wr,e⟩,rfl,h⟩|⟨r,y,rfl,h⟩
 ·cases loc with
  |cell f=>
   obtain⟨y,d⟩:=h;exact c _ _ d.1
  |obj r=>
   obtain⟨y,d⟩:=h;cases wr<;>cases e<;>exact c _ _ d.1
  |output=>trivial
  |goroutines=>exact h.elim
  |mark m=>
   cases m with
   |noRoom=>trivial
   |extern _=>trivial
   |_=>exact h.elim
 ·exact c _ _ h.1
structure eT(ρ σ:Ren)(w w1:an):Prop where
 le:ρ.le σ
 size:w.heap.size<=w1.heap.size
 bU:∀b,b<w.heap.size->(∀a,¬ρ a b)->w1.heap[b]? =w.heap[b]?
 news:∀a b,σ a b->ρ a b\/w.heap.size<=b
 os:w1.os=w.os
 output:w1.output=w.output
 tape:w1.tape=w.tape
theorem eT.refl(ρ w):eT ρ ρ w w:=⟨Ren.le_refl _,aV _,fun _ _ _=>rfl,fun _ _ h=>.inl h,rfl,rfl,rfl⟩
theorem eT.at {ρ σ w w1}(h:eT ρ σ w w1)(d):eT ρ σ w (w1.at d):=⟨h.le,h.size,h.bU,h.news,h.os,h.output,h.tape⟩
theorem eT.trans{ρ σ τ w w1 w2}(h:eT ρ σ w w1)(k:eT σ τ w1 w2):eT ρ τ w w2:=by
 refine⟨Ren.le_trans h.le k.le,cS h.size k.size,fun b c d=>?_,fun a b f=>?_,k.os.trans h.os,k.output.trans h.output,k.tape.trans h.tape⟩
 ·rw[k.bU b (cV c h.size) (fun a e=>?_),h.bU b c d];rcases h.news a b e with h1|h1
  ·exact d a h1
  ·omega
 ·rcases k.news a b f with h1|h1
  ·exact h.news a b h1
  ·exact .inr (cS h.size h1)
theorem bO.went{u u1 w w1}(h:bO P ρ σ u u1 w w1):eT ρ σ w w1:=⟨h.le,h.size,h.bU,fun a b c=>(h.news a b c).imp id (·.1),h.os,h.output,h.tape⟩
def Clear(Shun:Loc->Prop)(S:Nat->Prop)(ρ:Ren)(w:an):Prop:=∀l,Shun l->∃a:Addr,l=.cell a/\a.block<w.heap.size/\∀x,ρ x a.block->S a.block
theorem Clear.went{Shun w w1}(h:Clear Shun S ρ w)(k:eT ρ σ w w1):Clear Shun S σ w1:=fun l e=>by
 obtain⟨a,b,c,d⟩:=h l e;refine⟨a,b,cV c k.size,fun x f=>?_⟩;rcases k.news x _ f with h|h
 ·exact d x h
 ·omega
structure Beside(P:aN)(l:List bh)(base:List aJ)(Shun:Loc->Prop)(S:Nat->Prop)(fr:aJ)(cs:List aJ)(u:an)(ρ:Ren)(gs:Array bw)(w:an)(t:Trace)(q:Nat->Nat):Prop where
 rel:∃a,gs[0]? =some a/\GR P l ρ base fr cs a
 world:eK P ρ u w
 whole:Whole S ρ u
 gh:Leavers P t gs q
 past:Past Shun w.heap.size t
 clear:Clear Shun S ρ w
 same:∀a b,ρ a b->a=b
 size:u.heap.size=w.heap.size
 fM:∀i j,t.g? i=some j->j<gs.size
 full:Full ρ u
theorem wG{t ops:Trace}{n k:Nat}(h:∀i j,t.g? i=some j->j<n)(c:k<n)(e:∀op∈ops,op.g=k):∀i j,(t++ops).g? i=some j->j<n:=fun i j b=>by
 unfold Trace.g? at b;obtain⟨op,d,rfl⟩:=ep.1 b;rcases getElem?_append_cases d with⟨_,a⟩|⟨_,a⟩
 ·exact h i op.g (by unfold Trace.g?;rw[a];rfl)
 ·rw[e op a];exact c
theorem GR.running{base fr cs g}(h:GR P l ρ base fr cs g):g.status=.running:=by obtain⟨b,a,rfl,_⟩:=h.of;rfl
theorem Rm{Shun w w1 t ops}(h:Past Shun w.heap.size t)(hc:Clear Shun S ρ w)(k:eT ρ σ w w1)(o:∀y b,σ y b->b<w1.heap.size)(h0:∀op∈ops,op.g=0)(m:∀a∈ops.map (·.act),sI S σ a):Past Shun w1.heap.size (t++ops):=by
 have f:∀op∈ops,sI S σ op.act:=fun op c=>m _ (mK.2 ⟨op,c,rfl⟩);refine(h.mono k.size).app0 h0 (fun op c b n p=>?_) ?_ (fun op c=>JJ (f op c) o)
 ·obtain⟨a,d,s,j⟩:=(hc.went k) _ p;rcases JL (f op c) n with⟨q,y,e,i⟩|⟨r,y,e,i⟩|e
  ·rw[e]at d;cases d;exact absurd (j y i.1) i.2
  ·rw[e]at d;cases d
  ·rw[e]at d;cases d
 ·exact Go.ConcN.Deaf_still t 0 ops fun op c=>JK (f op c)
theorem Li(hT:Fit P l){Post:aJ->List aJ->an->Prop}(hM:∀fr cs u,Post fr cs u->¬nK fr){base:List aJ}(hb:Still base){Shun:Loc->Prop}{fr:aJ}{cs:List aJ}{u:an}(AN:nP P Post fr cs u):
  ∀(n:Nat) (ρ:Ren) (gs:Array bw) (w:an) (sl:Option (Nat×Nat)) (t:Trace) (q:Nat->Nat),sumTo gs.size q<n->Beside P l base Shun S fr cs u ρ gs w t q->
   ∃N L D C K A B I J Q,runNT P N (crowd gs w sl) t=(.next (crowd A B I),J)/\A.size=gs.size/\Post D C K/\Beside P l base Shun S D C K L A B J Q/\eT ρ L w B:=by
 induction AN with
 |stop h=>exact fun S ρ gs w sl t q _ X=>⟨0,ρ,_,_,_,gs,w,sl,t,q,rfl,rfl,h,X,.refl ρ w⟩
 |@step fr cs u V W ih=>
  intro S;induction S with
  |zero=>exact fun ρ gs w sl t q hS=>absurd hS ak
  |succ S bf=>
   intro ρ gs w sl t q hS X;obtain⟨⟨a,h0,IJ⟩,hw,hW,s,hP,Y,hI,hZ,hN,hU⟩:=X;have U:=IJ.running;have F:0<gs.size:=(aP.1 h0).1
   have wL:∀g∈gs,awake g:=by
    intro g E;obtain⟨i,m,rfl⟩:=vI.1 E;rcases me i with rfl|hpos
    ·have:gs[0]=a:=by simpa[cw m]using h0
     rw[this];exact awake_of (.inl U)
    ·exact awake_of ((s.old i _ hpos (cw m)).status.elim .inl fun x=>.inr (.inr x))
   have aY:∀(j:Nat) h,gs[j]? =some h->h.status=.blocked->h.offers=none:=by
    intro j h c z;rcases me j with rfl|hpos
    ·rw[h0]at c;cases c;rw[U]at z;cases z
    ·rcases(s.old j h hpos c).status with h3|h3<;>rw[h3]at z<;>cases z
   obtain⟨i,g,d,I,m,E,aH⟩:=crowd_pick (P:=P) (w:=w) (sl:=sl) wL ⟨0,a,h0,U⟩;rcases me i with rfl|hpos
   ·
    obtain rfl:g=a:=by rw[h0]at m;exact(dm m).symm
    have hp:∀i q,i<u.drawn->laid u (w.at d) i q=u.tape i q:=fun i q m=>by unfold laid;rw[aM m]
    obtain⟨dP,iK,u1,z⟩:=V _ hp;rcases Jr hT aq (KN P) hb (hw.at d).lay hW IJ z true with⟨M,v,e,ZT⟩|⟨OV,NL,u2,τ,M,w1,bJ,e,k1,k2,H,k4,k5,_,_⟩
    ·exact(TH hM (W _ hp _ _ _ z) e ZT).elim
    obtain⟨rfl,rfl,rfl⟩:=Ej e;obtain⟨f,ah,hr,Z,aS,T⟩:=Td (P:=P) (sl:=I) (i:=0) m aY k1
    have aa:eT ρ τ w w1:=by have:=H.went;exact⟨this.le,this.size,this.bU,this.news,this.os,this.output,this.tape⟩
    have DT:∀y b,τ y b->b<w1.heap.size:=fun y b h=>(H.rel.lt y b h).2;have o:((gs.map f).setIfInBounds 0 M).size=gs.size:=aq
    have aW:∀(j:Nat) x,0<j->((gs.map f).setIfInBounds 0 M)[j]? =some x->gs[j]? =some x:=fun j x c p=>by
     rw[dx ak,fj]at p;obtain⟨y,O,rfl⟩:=ep.1 p;have G:=s.old j y c O;rcases Z with rfl|rfl
     ·rw[woken_quitsD G];exact O
     ·exact O
    obtain⟨N,L,D,C,K,A,B,xd,J,Q,r1,r2,r3,r4,r⟩:=ih _ hp _ _ _ z (sumTo gs.size q+1) τ ((gs.map f).setIfInBounds 0 M) w1 I (t++ah) q (by rw[o];omega)
     ⟨⟨M,by simp[F],k2⟩,H.rel.drop,k4,⟨fun j x c p=>by
      rw[nC t (g':=0) ak ah T];exact s.old j x c (aW j x c p),fun j c=>by
      rw[nC t (g':=0) (by rw[o]at c;omega) ah T];exact s.above j (by rw[o]at c;exact c)⟩,Rm hP Y aa DT T (by rw[aS];exact k5),Y.went aa,fun y b tB=>(H.news y b tB).elim (hI y b) fun h=>by(have V:(u.tp (laid u (w.at d))).heap.size=u.heap.size:=rfl;have W:(w.at d).heap.size=w.heap.size:=rfl;omega),by(have V:(u.tp (laid u (w.at d))).heap.size=u.heap.size:=rfl;have W:(w.at d).heap.size=w.heap.size:=rfl;have h3:=H.yU;omega),wG (by rw[o];exact hN) (by rw[o];exact F) T,H.full hU⟩
    exact⟨N+1,L,D,C,K,A,B,xd,J,Q,by simp only[runNT,aH,hr];exact r1,r2.trans o,r3,r4,aa.trans r⟩
   ·
    have G:=s.old i g hpos m;have aU:(i==0)=false:=bK;have F:i<gs.size:=(aP.1 m).1;cases tr:q i with
    |zero=>rw[tr]at G;rw[G.1]at E;cases E
    |succ k=>
     rw[tr]at G;rcases G with⟨Z,_⟩|⟨_,g',es,hm,tA,qx⟩
     ·rw[Z]at E;cases E
     have ZY:=runT_crowd_go (P:=P) (sl:=I) (i:=i) m (by rw[aU];exact tA (w.at d));have o:((gs.map (woken P g g' (w.at d))).setIfInBounds i g').size=gs.size:=aq
     have bp:sumTo gs.size (upd q i k)+(k+1)=sumTo gs.size q+k:=by have:=sumTo_upd q k id F;simpa[tr]using this
     obtain⟨N,L,D,C,K,A,B,xd,J,Q,r1,r2,r3,r4,r⟩:=bf ρ ((gs.map (woken P g g' (w.at d))).setIfInBounds i g') (w.at d) I (t++jq i g.frame.fn g.frame.place es) (upd q i k) (by rw[o];omega)
      ⟨⟨a,by
       have aX:i≠0:=ak;rw[dx aX,fj,h0];simp[woken_running U],IJ⟩,hw.at d,hW,⟨fun j x c p=>by
       by_cases R:i=j
       ·subst R;rw[xB (by simpa using F)]at p;obtain rfl:=dm p;rw[upd_same,Deaf_own];exact qx
       ·rw[dx R,fj]at p;obtain⟨y,O,rfl⟩:=ep.1 p;have uY:=s.old j y c O;rw[woken_quitsD uY,upd_ne q k (cW R),nC t R _ (lD _ _ _ _)];exact uY,fun j c=>by
       rw[nC t (g':=i) (by simp at c;omega) _ (lD _ _ _ _)];exact s.above j (by simpa using c)⟩,hP.mute ak hm,Y,hI,hZ,wG (by rw[o];exact hN) (by rw[o];exact F) (lD _ _ _ _),hU⟩
     exact⟨N+1,L,D,C,K,A,B,xd,J,Q,by simp only[runNT,aH,ZY];exact r1,r2.trans o,r3,r4,⟨r.le,r.size,r.bU,r.news,r.os,r.output,r.tape⟩⟩
end
end
end
section
open Go.Conc
open Go.ConcN (WgLive)
section
variable [aA] [aW]
section
variable {P:aN} {l:List bh} {S:Nat->Prop}
theorem KR{main g w g1 g2 w1 w2 a1 a2}(h:ir P main g w g1 w1 a1)(k:ir P main g w g2 w2 a2):g1=g2/\w1=w2/\a1=a2:=by
 cases h with
 |go h=>
  cases k with
  |go k=>rw[h]at k;cases k;exact⟨rfl,rfl,rfl⟩
  |shut k=>rw[h]at k;cases k
  |qp k=>rw[h]at k;cases k
  |qw k=>rw[h]at k;cases k
 |shut h b=>
  cases k with
  |go k=>rw[h]at k;cases k
  |shut k a=>rw[h]at k;cases k;exact⟨rfl,rfl,rfl⟩
  |qp k a=>rw[h]at k;cases k;rw[b]at a;cases a
  |qw k=>rw[h]at k;cases k
 |qp h b=>
  cases k with
  |go k=>rw[h]at k;cases k
  |shut k a=>rw[h]at k;cases k;rw[b]at a;cases a
  |qp k a=>rw[h]at k;cases k;exact⟨rfl,rfl,rfl⟩
  |qw k=>rw[h]at k;cases k
 |qw h=>
  cases k with
  |go k=>rw[h]at k;cases k
  |shut k=>rw[h]at k;cases k
  |qp k=>rw[h]at k;cases k
  |qw k=>rw[h]at k;cases k;exact⟨rfl,rfl,rfl⟩
structure Rel(d:aK)(c:Nat)(O:Nat->Prop)(w a:an):Prop where
 own:∀b,O b->a.heap[b]? =w.heap[b]?
 size:w.heap.size<=a.heap.size
 live:WgLive d c w->WgLive d c a
 os:a.os=w.os
theorem Rel.refl(ty Wg O w):Rel ty Wg O w w:=⟨fun _ _=>rfl,aV _,id,rfl⟩
theorem Rel.trans{d:aK}{Wg O a b c}(h:Rel d Wg O a b)(k:Rel d Wg O b c):Rel d Wg O a c:=⟨fun x e=>(k.own x e).trans (h.own x e),cS h.size k.size,k.live ∘ h.live,k.os.trans h.os⟩
theorem Rel.at (ty Wg O w d):Rel ty Wg O w (w.at d):=⟨fun _ _=>rfl,aV _,id,rfl⟩
def eB(O:Nat->Prop)(w w':an):Nat->Prop:=fun b=>O b\/(w.heap.size<=b/\b<w'.heap.size)
structure sJ(O:Nat->Prop)(w w':an):Prop where
 bU:∀b,b<w.heap.size->¬O b->w'.heap[b]? =w.heap[b]?
 size:w.heap.size<=w'.heap.size
 os:w'.os=w.os
 output:w'.output=w.output
 tape:w'.tape=w.tape
structure gI(c:Nat)(O:Nat->Prop)(B:Nat)(a:MemAct):Prop where
 touch:∀x,a.touch?=some x->(∃b:Addr,x.loc=.cell b/\O b.block)\/(∃r,x.loc=.obj r/\O r)\/x.loc=.output\/(∃b:Addr,x.loc=.cell b/\b.block=c/\x.kind=.atomic)
 marks:a≠.mark .disable/\a≠.mark .enable
 low:a.low B
 rel:∀b,a≠.mark (.release b)
 JZ:∀b,a≠.mark (.releaseMerge b)
theorem VB{σ a}(h:sI S σ a)(Wg){O B}(g:∀x b,σ x b->¬S b->O b)(i:∀x b,σ x b->b<B):gI Wg O B a:=by
 have hm:∀m,m≠.noRoom->(∀f,m≠.extern f)->a≠.mark m:=fun m hm j e=>by
  rcases h with⟨⟨loc,wr,o⟩,rfl,h⟩|⟨r,y,rfl,h⟩
  ·cases loc with
   |cell d=>simp[cI]at e
   |obj r=>cases wr<;>cases o<;>simp[cI]at e
   |output=>simp[cI]at e
   |goroutines=>exact h.elim
   |mark n=>
    cases n with
    |noRoom=>simp[cI]at e;exact hm e.symm
    |extern f=>simp[cI]at e;exact j f e.symm
    |_=>exact h.elim
  ·cases e
 refine⟨fun x k=>?_,JK h,JJ h i,fun d=>hm _ aq aq,fun d=>hm _ aq aq⟩;rcases JL h k with⟨d,y,e,c⟩|⟨r,y,e,c⟩|e
 ·exact .inl ⟨d,e,g _ _ c.1 c.2⟩
 ·exact .inr (.inl ⟨r,e,g _ _ c.1 c.2⟩)
 ·exact .inr (.inr (.inl e))
inductive CJ(P:aN)(main:Bool)(e:aK)(d:Nat)(Stop:(Nat->Prop)->bw->an->Prop):(Nat->Prop)->bw->an->Prop
 |stop {O:Nat->Prop} {g:bw} {w:an} (h:∀b,Rel e d O w b->Stop O g b):CJ P main e d Stop O g w
 |step {O:Nat->Prop} {g:bw} {w:an} (j:g.status=.running)
   (h:∀b,Rel e d O w b->∃i c f,ir P main g b i c f/\sJ O b c/\∀a∈f,gI d (eB O b c) c.heap.size a)
   (k:∀b i c f,Rel e d O w b->ir P main g b i c f->CJ P main e d Stop (eB O b c) i c):CJ P main e d Stop O g w
theorem CJ.rely{main}{c:aK}{Wg Stop O g w w₁}(h:CJ P main c Wg Stop O g w)(r:Rel c Wg O w w₁):CJ P main c Wg Stop O g w₁:=by
 cases h with
 |stop h=>exact .stop fun b a=>h b (r.trans a)
 |step f h k=>exact .step f (fun b a=>h b (r.trans a)) fun b e i d a=>k b e i d (r.trans a)
theorem CJ.one{main}{m:aK}{Wg Stop O g w}(n:g.status=.running)(h:∀f,Rel m Wg O w f->∃j e i,ir P main g f j e i/\sJ O f e/\(∀a∈i,gI Wg (eB O f e) e.heap.size a)/\CJ P main m Wg Stop (eB O f e) j e):CJ P main m Wg Stop O g w:=by
 refine .step n (fun f k=>?_) fun f j e i k o=>?_
 ·obtain⟨j,e,i,a,b,c,_⟩:=h f k;exact⟨j,e,i,a,b,c⟩
 ·obtain⟨q,r,p,a,_,_,d⟩:=h f k;obtain⟨rfl,rfl,rfl⟩:=KR o a;exact d
theorem CJ.bind{main}{a:aK}{Wg Stop Nb O g w}(h:CJ P main a Wg Stop O g w)(d:∀O g w,(∀b,Rel a Wg O w b->Stop O g b)->CJ P main a Wg Nb O g w):CJ P main a Wg Nb O g w:=by
 induction h with
 |stop h=>exact d _ _ _ h
 |step c h _ e=>exact .step c h e
def wm(c:aK)(a:Nat)(S:Nat->Prop)(w:an):Prop:=∀b,S b->b=a/\WgLive c a w
theorem wm.rel{a:aK}{Wg O w w₁}(h:wm a Wg S w)(r:Rel a Wg O w w₁):wm a Wg S w₁:=fun b c=>⟨(h b c).1,r.live (h b c).2⟩
theorem WgLive.calm{a:aK}{Wg w}(h:WgLive a Wg w):Calm w.heap[Wg]? :=by obtain⟨st,b,h⟩:=h;exact⟨_,_,_,h,aq,aV _⟩
theorem eK.rel{i:aK}{Wg O ρ u w w₁}(h:eK P ρ u w)(f:Whole S ρ u)(k:wm i Wg S w)(m:∀a b,ρ a b->¬S b->O b)(r:Rel i Wg O w w₁):eK P ρ u w₁:=by
 refine⟨h.one,fun a b d=>⟨(h.lt a b d).1,cV (h.lt a b d).2 r.size⟩,fun a b o d g=>?_,h.low,h.base,fun a b d n=>?_,r.os.trans h.os.1,h.os.2⟩
 ·rcases f.all a b d with⟨c,_⟩|⟨_,c⟩
  ·exact(h.obj a b o d g).imp id fun⟨p,e,j⟩=>⟨p,by rw[r.own b (m a b d c)];exact e,j⟩
  ·rw[g]at c;cases c;exact .inl rfl
 ·rcases f.all a b d with⟨_,o,c,e⟩|⟨c,_⟩
  ·rw[n]at c;cases c;exact absurd rfl e
  ·obtain⟨rfl,e⟩:=k b c;exact WgLive.calm (r.live e)
theorem WO(K:Fit P l){main}{p:aK}{Wg Post}(J:∀fr cs u,Post fr cs u->¬nK fr){Stop}{base:List aJ}(x:Still base){ρ0:Ren}{fr:aJ}{cs:List aJ}{u:an}(T:nP P Post fr cs u)(L:∀fr cs u ρ O g w,Post fr cs u->ρ0.le ρ->GR P l ρ base fr cs g->eK P ρ u w->Whole S ρ u->wm p Wg S w->(∀a b,ρ a b->¬S b->O b)->CJ P main p Wg Stop O g w):
  ∀(ρ:Ren) (O:Nat->Prop) (g:bw) (w:an),ρ0.le ρ->GR P l ρ base fr cs g->eK P ρ u w->Whole S ρ u->wm p Wg S w->(∀a b,ρ a b->¬S b->O b)->CJ P main p Wg Stop O g w:=by
 induction T with
 |stop h=>exact fun ρ O g w h0 f t m o H=>L _ _ _ ρ O g w h h0 f t m o H
 |@step fr cs u V W U=>
  intro ρ O g w h0 f t m B o;refine .one f.running fun z r=>?_;have y:∀i q,i<u.drawn->laid u z i q=u.tape i q:=fun i q M=>by unfold laid;rw[aM M]
  obtain⟨dP,iK,u1,c⟩:=V _ y;rcases Jr K aq (KN P) x (t.rel m B o r).lay m f c main with⟨s,v,e,R⟩|⟨OV,NL,u2,A,s,n,G,e,m1,m2,d,X,Y,_,_⟩
  ·exact(TH J (W _ y _ _ _ c) e R).elim
  obtain⟨rfl,rfl,rfl⟩:=Ej e;have E:∀a b,A a b->b<n.heap.size:=fun a b k=>(d.rel.lt a b k).2;have C:∀a b,A a b->¬S b->eB O z n b:=fun a b k c=>(d.news a b k).elim (fun h=>.inl (o a b h c)) fun h=>.inr ⟨h.1,E a b k⟩
  have F:∀a b,ρ a b->S b->n.heap[b]? =z.heap[b]? :=fun a b k c=>by
   rcases m.all a b k with⟨f,_⟩|⟨_,f⟩
   ·exact absurd c f
   ·exact(d.still a b k f).2
  have I:wm p Wg S n:=fun b c=>by obtain⟨e,st,Z,N⟩:=B.rel r b c;obtain⟨a,j⟩:=m.has b c;refine⟨e,st,Z,?_⟩;have:=F a b j c;rw[e]at this;exact this.trans N
  refine⟨s,n,G,m1,⟨fun b x Q=>?_,d.size,d.os,d.output,d.tape⟩,fun a j=>VB (Y a j) Wg C E,U _ y _ _ _ c A _ s n (Ren.le_trans h0 d.le) m2 d.rel.drop X I C⟩
  by_cases D:∃a,ρ a b
  ·obtain⟨a,j⟩:=D
   by_cases c:S b
   ·exact F a b j c
   ·exact absurd (o a b j c) Q
  ·exact d.bU b x fun a j=>D ⟨a,j⟩
end
end
end
section
open Go.Conc Go.Conc.Lib Go.ConcN Go.ConcN.Gen Go.ConcR.Gen Go.RowKit
open Go.ConcR (KK wgBlock WgAt stA smA rd wr mk Payload Aside2 DC0)
def DZ(Wg:Nat)(w w':an)(es:Array kM):Prop:=w'=w/\∀e∈es,e=⟨.mark (.read (smA Wg)),false,true⟩\/e=⟨.mark (.write (smA Wg)),false,true⟩
theorem lr{ty:aK}{Wg O w w₁}(h:WgLive ty Wg w)(r:Rel ty Wg O w w₁):WgLive ty Wg w₁:=r.live h
section
variable (P:aN) (ty:aK) (Wg:Nat) (O:Nat->Prop) (Fin:bw->an->Prop)
def ZA3(g:bw)(w:an):Prop:=g.status=.running/\∃g',stepG P true g w=.go g' w #[mk .enable]/\∃m,Goes P true (Rel ty Wg O) (DZ Wg) Fin m g' w
def ZA2(g:bw)(w:an):Prop:=g.status=.running/\∀v:Nat,v<2147483647->WgAt ty Wg w (v*KK) 0->
 ∃g',stepG P true g w=.go g' (w.setCell (stA Wg) (.int .u64 ((v+1) *KK))) #[rd (stA Wg),wr (stA Wg)]/\∃m,Goes P true (Rel ty Wg O) (DZ Wg) (ZA3 P ty Wg O Fin) m g' (w.setCell (stA Wg) (.int .u64 ((v+1) *KK)))
def ZA1(g:bw)(w:an):Prop:=g.status=.running/\∃g',stepG P true g w=.go g' w #[mk .disable]/\∃m,Goes P true (Rel ty Wg O) (DZ Wg) (ZA2 P ty Wg O Fin) m g' w
end
section
variable {P:aN} {R:an->an->Prop} {Wg:Nat} {Stop:bw->an->Prop}
theorem Pj{D n g w}(h:Goes P true R D Stop n g w):∀k,Goes P true R D Stop (n+k) g w
 |0=>h
 |k+1=>(Pj h k).more
theorem je:∀{n:Nat} {g:bw} {w:an},Goes P true R DC0 Stop n g w->Goes P true R (DZ Wg) Stop n g w
 |0,_,_,h=>h
 |n+1,_,_,h=>h.imp id fun⟨b,c⟩=>⟨b,fun w₁ r=>by have:=c w₁ r;revert this;cases stepG P true _ w₁<;>simp only[NT]<;>first|exact id|exact fun⟨a,d⟩=>⟨⟨a.1,by rw[a.2];simp⟩,je d⟩⟩
theorem Pk(hR:∀w,R w w){m}:∀{n:Nat} {g:bw} {w:an},Goes P true R DC0 (fun g w=>g.status=.running/\∃g' e,stepG P true g w=.go g' w #[e]/\(e=⟨.mark (.read (smA Wg)),false,true⟩\/e=⟨.mark (.write (smA Wg)),false,true⟩)/\Goes P true R (DZ Wg) Stop m g' w) n g w->Goes P true R (DZ Wg) Stop (m+1+n) g w:=by
 have one:∀{g:bw} {w:an},(∀w₁,R w w₁->(g.status=.running/\∃g' e,stepG P true g w₁=.go g' w₁ #[e]/\(e=⟨.mark (.read (smA Wg)),false,true⟩\/e=⟨.mark (.write (smA Wg)),false,true⟩)/\Goes P true R (DZ Wg) Stop m g' w₁))->Goes P true R (DZ Wg) Stop (m+1) g w:=fun{g w} h=>.inr ⟨(h w (hR w)).1,fun w₁ r=>by obtain⟨_,g',e,b,c,a⟩:=h w₁ r;rw[b];exact⟨⟨rfl,fun x hx=>by rw[Array.mem_singleton]at hx;rw[hx];exact c⟩,a⟩⟩
 intro n;induction n with
 |zero=>exact fun h=>one h
 |succ n f=>
  intro g w h;rcases h with h|⟨b,c⟩
  ·exact Pj (one h) (n+1)
  ·refine .inr ⟨b,fun w₁ r=>?_⟩;have:=c w₁ r;revert this;cases stepG P true g w₁<;>simp only[NT]<;>first|exact id|exact fun⟨a,d⟩=>⟨⟨a.1,by rw[a.2];simp⟩,f d⟩
end
section
variable {L:WgLink} {Wg:Nat} {O:Nat->Prop} {c₀:aJ} {cs:List aJ} {Fin:bw->an->Prop}
theorem VD{P}(H:WgLib P L)(c:∀w,WgLive L.tWg Wg w->Fin (G (c₀.finish (.tuple #[])) cs) w)(w)(hK:WgLive L.tWg Wg w):
  Goes P true (Rel L.tWg Wg O) (DZ Wg) (ZA1 P L.tWg Wg O Fin) 100 (G ((base L.add).at ⟨#[aF Wg,aj 1,undef,undef,undef,undef,undef,undef,undef,undef,undef,undef,undef,undef,undef,undef,undef,undef,undef,undef,undef,undef,undef,undef,undef,undef,undef,undef,undef,undef,undef,undef,undef,undef,undef,undef,undef,undef,undef,undef,undef,undef,undef,undef,undef,undef,undef,undef,undef,undef,undef,undef,undef,undef,undef,undef,undef,undef,undef,undef,undef,undef,undef,undef,undef,undef,undef,undef,undef,undef,undef,undef,undef,undef,undef,undef,undef,undef,undef,undef,undef,undef,undef,undef,undef,undef,undef,undef,undef,undef,undef,undef,undef,undef,undef,undef,undef,undef,undef,undef,undef,undef,undef,undef,undef,undef,undef,undef,undef,undef,undef,undef,undef,undef,undef,undef,undef],[]⟩ [.code (body_add L)]) (c₀::cs)) w:=by
 lib_facts
 simp only[body_add,addFn,mj];refine je ?_;u_c bP lr hK;u_cond true lr hK;u_c bP lr hK;u_c bP lr hK;u_reg lr hK;u_op lr hK;u_op lr hK;u_c cy lr hK;u_cond false lr hK;u_c nF lr hK;u_c bP lr hK;u_reg lr hK;refine Goes.stop (fun _ hr=>?_);replace hK:=lr hK hr;clear hr;refine⟨rfl,_,stepG_mark0 .disable aq rfl rfl (by k_ne) rfl H.f_disable (x_disable_n L) (x_disable_b L) (x_disable_x L) (x_disable_f L),100,?_⟩;refine je ?_
 walk_nrm
 u_c cy lr hK;u_reg lr hK;u_defer lr hK;u_c cy lr hK;u_c bP lr hK;u_reg lr hK;u_op lr hK;u_c cy lr hK;u_c bP lr hK;u_c bP lr hK;u_reg lr hK;u_bub lr hK;u_c cy lr hK;u_cond false lr hK;u_c nF lr hK;u_c bP lr hK;u_reg lr hK;u_op lr hK;u_op lr hK;u_op lr hK;u_op lr hK;u_op lr hK;u_op lr hK;u_call H.f_uAdd (nm_uAdd L) uAddFn lr hK;u_c bP lr hK;u_reg lr hK;u_op lr hK;u_c cy lr hK;u_c bP lr hK;u_reg lr hK;u_op lr hK;u_op lr hK;u_op lr hK;u_op lr hK;refine Goes.stop (fun _ hr=>?_);replace hK:=lr hK hr;clear hr;refine⟨rfl,fun v hv hw=>?_⟩;rcases me v with rfl|hvp
 ·replace hw:=show WgAt L.tWg Wg _ 0 0 from by simpa using hw
  have z:(((0:Nat):Int)+1) *KK=KK:=aq;rw[z];have d:Ux.wrap (0+4294967296)=KK:=cq;refine⟨_,(HO rfl rfl (by k_ne) rfl H.f_addU64 (x_addU64_n L) (x_addU64_b L) (x_addU64_x L) .u64 (x_addU64_f L) rfl rfl hw.cellSt (hw.thaw 0)).trans (by rw[d];rfl),120,?_⟩
  replace hK:WgLive L.tWg Wg (fD _ (stA Wg) (.int .u64 KK)):=⟨_,_,hw.setSt _⟩
  clear hw;simp only[KK]at hK⊢;refine Pk (n:=70) (m:=49) (fun _=>⟨fun _ _=>rfl,aV _,id,rfl⟩) ?_
  walk_nrm
  u_op lr hK;u_c cy lr hK;u_c qX lr hK;u_leave1 H.f_uAdd lr hK;u_op lr hK;u_c cy lr hK;u_c bP lr hK;u_c bP lr hK;u_reg lr hK;u_op lr hK;u_op lr hK;u_op lr hK;u_op lr hK;u_skip lr hK;u_skip lr hK;u_op lr hK;u_c cy lr hK;u_cond false lr hK;u_c nF lr hK;u_c bP lr hK;u_reg lr hK;u_op lr hK;u_op lr hK;u_op lr hK;u_op lr hK;u_c cy lr hK;u_c bP lr hK;u_reg lr hK;u_op lr hK;u_op lr hK;u_op lr hK;u_op lr hK;u_c cy lr hK;u_c bP lr hK;u_c bP lr hK;u_reg lr hK;u_op lr hK;u_op lr hK;u_op lr hK;u_op lr hK;u_op lr hK;u_op lr hK;u_op lr hK;u_op lr hK;u_op lr hK;u_op lr hK;u_c cy lr hK;u_cond true lr hK;u_reg lr hK;u_op lr hK;u_op lr hK;u_op lr hK
  u_conv H.underlying_tPU32 H.room_tU32 (WgLive.cell1 hK).choose_spec lr hK
  refine Goes.stop (fun _ hr=>?_);replace hK:=lr hK hr;clear hr;refine⟨rfl,_,_,stepG_markAt .read aq rfl rfl (by k_ne) rfl H.f_raceRead (x_raceRead_n L) (x_raceRead_b L) (x_raceRead_x L) (x_raceRead_f L) (ad:=aa Wg 1) (by simp[Act.eval]),.inl rfl,?_⟩;refine je ?_
  walk_nrm
  u_c cy lr hK;u_c bP lr hK;u_c bP lr hK;u_reg lr hK;u_op lr hK;u_op lr hK;u_c cy lr hK;u_cond false lr hK;u_c nF lr hK;u_c bP lr hK;u_c bP lr hK;u_reg lr hK;u_op lr hK;u_op lr hK;u_op lr hK;u_skip lr hK;u_skip lr hK;u_op lr hK;u_op lr hK;u_skip lr hK;u_skip lr hK;u_skip lr hK;u_skip lr hK;u_op lr hK;u_c cy lr hK;u_cond false lr hK;u_c nF lr hK;u_c bP lr hK;u_c bP lr hK;u_reg lr hK;u_op lr hK;u_op lr hK;u_op lr hK;u_skip lr hK;u_skip lr hK;u_op lr hK;u_c cy lr hK;u_cond true lr hK;u_c qX lr hK;refine Goes.stop (fun _ hr=>?_);replace hK:=lr hK hr;clear hr;refine⟨rfl,_,Vq (v:=.tuple #[]) (evs:=#[mk .enable]) rfl H.f_enable (x_enable_n L) (x_enable_b L) (x_enable_x L) (x_enable_f L) (by simp[Ui]) (by simp[mk]) (by simp[mk]),2,?_⟩;refine je ?_
  u_in lr hK
  rw[stepG_leave rfl rfl H.f_add (results_none rfl _ P _) (Vm rfl _ _)];simp only[goes_go];refine⟨by u_nil,?_⟩;exact Goes.stop fun w₁ r=>c _ (lr hK r)
 ·obtain⟨V,a⟩:∃V:Int,V=(v:Int)+1:=⟨_,rfl⟩;obtain⟨S,hS⟩:∃S:Int,S=V*KK:=⟨_,rfl⟩;have b:Ux.wrap ((v:Int) *KK+4294967296)=S:=by rw[IntKind.wrap_u64,hS,a];simp only[KK];omega
  rw[<-a,<-hS];have a1:S / 4294967296=V:=by rw[hS];simp only[KK];omega
  have b1:bits .and .u64 S 2147483648=0:=by rw[hS,a];have:=st_flag (v+1) 0 ak ak;simpa[KK]using this
  have e:bits .and .u64 S 2147483647=0:=by rw[hS,a];have:=st_waiters (v+1) 0 ak ak;simpa[KK]using this
  have f:IntKind.i32.wrap V=V:=by rw[IntKind.wrap_i32];omega
  have g:1<V:=ak;have h:V<2147483648:=ak;have i:(V==1)=false:=bK;have j:decide (V=1)=false:=ij ak;have k:decide (V<0)=false:=ij ak;have l:decide (0<V)=true:=iY ak;have o:(V==0)=false:=bK;have p:decide (V=0)=false:=ij ak;refine⟨_,(HO rfl rfl (by k_ne) rfl H.f_addU64 (x_addU64_n L) (x_addU64_b L) (x_addU64_x L) .u64 (x_addU64_f L) rfl rfl hw.cellSt (hw.thaw 0)).trans (by rw[b];rfl),120,?_⟩
  replace hK:WgLive L.tWg Wg (fD _ (stA Wg) (.int .u64 S)):=⟨_,_,hw.setSt _⟩
  clear hw hS a b;refine je ?_
  walk_nrm
  u_op lr hK;u_c cy lr hK;u_c qX lr hK;u_leave1 H.f_uAdd lr hK;u_op lr hK;u_c cy lr hK;u_c bP lr hK;u_c bP lr hK;u_reg lr hK;u_op lr hK;u_op lr hK;u_op lr hK;u_op lr hK;u_skip lr hK;u_skip lr hK;u_op lr hK;u_c cy lr hK;u_cond false lr hK;u_c nF lr hK;u_c bP lr hK;u_reg lr hK;u_op lr hK;u_op lr hK;u_op lr hK;u_op lr hK;u_c cy lr hK;u_c bP lr hK;u_reg lr hK;u_op lr hK;u_op lr hK;u_op lr hK;u_op lr hK;u_c cy lr hK;u_c bP lr hK;u_c bP lr hK;u_reg lr hK;u_op lr hK;u_op lr hK;u_op lr hK;u_op lr hK;u_op lr hK;u_op lr hK;u_op lr hK;u_op lr hK;u_op lr hK;u_op lr hK;u_c cy lr hK;u_cond false lr hK;u_c nF lr hK;u_c bP lr hK;u_c bP lr hK;u_reg lr hK;u_op lr hK;u_op lr hK;u_c cy lr hK;u_cond false lr hK;u_c nF lr hK;u_c bP lr hK;u_c bP lr hK;u_reg lr hK;u_op lr hK;u_op lr hK;u_op lr hK;u_skip lr hK;u_skip lr hK;u_op lr hK;u_op lr hK;u_skip lr hK;u_skip lr hK;u_skip lr hK;u_skip lr hK;u_op lr hK;u_c cy lr hK;u_cond false lr hK;u_c nF lr hK;u_c bP lr hK;u_c bP lr hK;u_reg lr hK;u_op lr hK;u_op lr hK;u_op lr hK;u_skip lr hK;u_skip lr hK;u_op lr hK;u_c cy lr hK;u_cond true lr hK;u_c qX lr hK;refine Goes.stop (fun _ hr=>?_);replace hK:=lr hK hr;clear hr;refine⟨rfl,_,Vq (v:=.tuple #[]) (evs:=#[mk .enable]) rfl H.f_enable (x_enable_n L) (x_enable_b L) (x_enable_x L) (x_enable_f L) (by simp[Ui]) (by simp[mk]) (by simp[mk]),2,?_⟩;refine je ?_
  u_in lr hK
  rw[stepG_leave rfl rfl H.f_add (results_none rfl _ P _) (Vm rfl _ _)];simp only[goes_go];refine⟨by u_nil,?_⟩;exact Goes.stop fun w₁ r=>c _ (lr hK r)
end
section
variable (P:aN) (ty:aK) (Wg:Nat) (O:Nat->Prop)
def ZR2(g:bw)(w:an):Prop:=g.status=.running/\∃g',stepG P false g w=.go g' w #[mk .disable]
def ZR1(g:bw)(w:an):Prop:=g.status=.running/\∃g',stepG P false g w=.go g' w #[mk (.releaseMerge (stA Wg))]/\∃m,Goes P false (Rel ty Wg O) DC0 (ZR2 P) m g' w
end
section
variable {L:WgLink} {Wg:Nat} {O:Nat->Prop} {c:aJ} {cs:List aJ}
theorem XE{P}(H:WgLib P L)(w)(hK:WgLive L.tWg Wg w):
  Goes P false (Rel L.tWg Wg O) DC0 (ZR1 P L.tWg Wg O) 60 (G ((baseD L.done).at ⟨#[aF Wg,undef,undef,undef],[]⟩ [.code (body_done L)]) (c::cs)) w:=by
 lib_facts
 simp only[body_done,doneFn,mj];u_reg lr hK;u_op lr hK
 u_in lr hK
 refine goes_call rfl rfl (by k_ne) rfl H.f_add (nm_add L) rfl ⟨by u_nil,?_⟩
 walk_nrmf addFn
 u_c bP lr hK;u_cond true lr hK;u_c bP lr hK;u_c bP lr hK;u_reg lr hK;u_op lr hK;u_op lr hK;u_c cy lr hK;u_cond true lr hK;u_reg lr hK;u_op lr hK
 u_conv H.underlying_tWgP H.room_tWg (WgLive.cell0 hK).choose_spec lr hK
 refine Goes.stop (fun _ hr=>?_);replace hK:=lr hK hr;clear hr;refine⟨rfl,_,stepG_markAt .releaseMerge aq rfl rfl (by k_ne) rfl H.f_relMerge (x_relMerge_n L) (x_relMerge_b L) (x_relMerge_x L) (x_relMerge_f L) (by simp[Act.eval,stA]),40,?_⟩
 walk_nrm
 u_c cy lr hK;u_c bP lr hK;u_reg lr hK;refine Goes.stop (fun _ hr=>?_);replace hK:=lr hK hr;clear hr;exact⟨rfl,_,stepG_mark0 .disable aq rfl rfl (by k_ne) rfl H.f_disable (x_disable_n L) (x_disable_b L) (x_disable_x L) (x_disable_f L)⟩
end
end
end Go.Proofs.YtpobhljcainmdaaGreat
