/- Parts of the proof. -/
import Derived.Conc.CompanyDraw
import Derived.Conc.CrowdCom2
import Derived.Conc.CrowdSpec
import Derived.Conc.LeavingOf
import Derived.Conc.WgGenN2
import Derived.Conc.WgGenN3
import Derived.Deep.DeepCutAuto
import Derived.Deep.Light
import Derived.JoinedCond
import Derived.RangeFuncLeaves
import Derived.RangeFuncNested
import Derived.Test.YtpobhljcainmdaaGreatChecked
import Derived.Test.YtpobhljcainmdaaGreatRows
import Derived.WalkLawsBesides
import Derived.WalkSpells
import Derived.Test.YtpobhljcainmdaaGreatS01
set_option maxRecDepth 100000
set_option maxHeartbeats 8000000
set_option linter.all false
namespace Go.Proofs.YtpobhljcainmdaaGreat
open Go.Conc renaming stepG_region_end->cJ,stepG_seq->cg,stepG_skip->mB,lt_size_of_getElem?->xd,runT_crowd_go->sI,Deaf_other->nN,stepG_ret'->qd,woken_quitsD->xh,events_results_none->IV,awake_of->sF,ofEvents_eq->Bq,mem_ofEvents->Nn,stepG_value->Bu,getElem?_append_old->Oo,Leavers->tJ,stepG_markAt->Ej,crowd_pick->Bl,touchAt_of->Bx,mem_seen->qb,stepG_mark0->Ei,stepG_load_atomic->OB,woken_running->Je,noRace_append->IW,events_call_body->On,Deaf_own->AB,stepG_block->Ja,stepG_inBlock->Oy,aside_setCell->zc,run_call_body->Ov,stepG_unwind_entry->Xd,stepG_inLoop->Oz,deafStep->Ed,stepG_region->OC,Past->vn,stepG_add_atomic->xa,stepG_leave->OA,baseD->Ai,stepG_loop->BX,deaf_old->IU,stepG_cond->HK,enter_at->vg,seen_none->HO
open Go renaming World->az,Goroutine->bM,Frame->aV,Program->aY,TypeId->aQ,FuncId->bC,Value->aD,Trace->fQ,Item->fW,Question->jS,MemAct->sn,Func->kZ,LoopState->DV,HappensBefore->Np,Exit->mS,Code->gN,Ending->iz,goexitEntry->Bn,mayWake->Ef,unwind->qR,doReturn->qN,Oper->dK,Event->jw,Addr->bZ
open Go.MemAct renaming ofEvent->cY,touch?->uY,mark->NM,low_mono->WA
open Go.Region renaming wanted->dg
open Go.MemOp renaming ofEvents_g->mA,ofEvents->kA
open Go.ConcN renaming upd_same->ig,upd_ne->jj,sumTo_upd->Bw,Deaf_still->VQ
open Go.World renaming setCell->fY,cell?->fC,putObj_heap_other->fS,putObj_heap_same->Oh,alloc_heap_new->WT,frozen?->oJ
open _root_.List.range renaming loop->pW
open _root_.List renaming range->dH
open _root_.Nat renaming reduceAdd->lR,strongRecOn->NO
open Go.GStep renaming after->jy,goes->HV
open Go.Stepped.next renaming inj->vf
open Go.stepG renaming exec->gZ,oper->td
open Go.CallKind renaming early->wL
open Go.Sem renaming runT_fst->ji,events->yY,bind->cL,runT->dx
open Go.Trace renaming g?->sD,act?->yZ
open Go.Exit renaming inBlock->Du
open Go.ConcR renaming WgAt->Ig
open Go.Instr renaming getLoop->tI,beginRound->AF,yield->AH,enterLoop->yI,endRound->tH,endLoop->yH
open _root_.Array renaming replicate->oF,getElem?_mapIdx->Vx,size->Im
open Go.Frame renaming finish_at->wN,catches->Ic
open Go.ConcR.Gen renaming x_enable_n->Ji,x_enable_b->Jg,x_enable_x->Jj,x_enable_f->Jh,body_done->IQ,x_disable_n->OF,x_disable_b->OD,x_disable_x->OG,x_disable_f->OE,x_loadU64_n->OJ,x_loadU64_b->OH,x_loadU64_x->OK,x_loadU64_f->OI,body_wait->HL
open Go.Extern.Race renaming none_->VK
open Go.IntKind renaming wrap_u64->We,wrap_i32->Wd,u64->NH,i32->Wc
open Go.Deferred renaming ofValue->wM
open Go.Goroutine renaming again->VS
open Go.Machine renaming gs->Wy
open Go.Value renaming bool->HS
open Go.Event renaming mute->NT
open Go.Item renaming plain->Tk
open Go renaming undef->au
open Go.Ending renaming returned->aM
open Go.Obj renaming cells->aA
open _root_.Bool renaming false->av,true->aq
open _root_.Option renaming none->ay,some->aa
open _root_.Or renaming inl->aF,inr->aE
section
open Go.Conc
section
variable [aP] [bw]
def bot(P:aY):aV:={fn:=P.funcs.size,tmps:=#[],todo:=[.call {target:=.nil,args:=#[]} av "fmt's door" #[]],defers:=[],mode:=.run,kind:=.normal}
def My(P):Still [bot P]:=λb h=>by simp at h;subst h;exact aF rfl
section
variable {P:aY} {l:aB bC}
def Uz{g w w1 o es}(a:g.status=.running)(h:stepG P aq g w=.ended o w1 es):step P (solo g w)=.ended o w1:=by rw[step,stepT_solo a];simp[runT,solo,Array.swapAt!,Array.swapAt,h]
def aaX{g}(h:OV [bot P] g)(w):∀n,∀i cs m,runN P n (solo g w)≠.next (lone i (cs++[bot P]) m):=by
 have u:P.funcs[P.funcs.size]? =ay:=aC
 have raise:∀c (w:az),∃o,step P (solo (G ((bot P).raise c) []) w)=.ended o w:=λc w=>by
  have f:∃o,stepG P aq (G ((bot P).raise c) []) w=.ended o w #[]:=by
   have t:((bot P).raise c).defers=[]:=rfl;have hm:((bot P).raise c).mode=.panicking c:=rfl
   have j:((bot P).raise c).catches P=aq:=by have r:((bot P).raise c).fn=P.funcs.size:=rfl;have s:((bot P).raise c).todo=[.call {target:=.nil,args:=#[]} av "fmt's door" #[]]:=rfl;unfold Ic;rw[r,s,u];show "fmt's door".startsWith "fmt's door" =aq;decide+kernel
   rw[GW (by rw[hm];simp)];unfold qR;simp only[t,hm,j,cV];exact⟨_,rfl⟩
  obtain⟨o,d⟩:=f;exact⟨o,Uz rfl d⟩
 have fin:∀v (w:az),∃o,step P (solo (G ((bot P).finish v) []) w)=.ended o w:=λv w=>by
  have f:∃o,stepG P aq (G ((bot P).finish v) []) w=.ended o w #[]:=by
   rw[Ae rfl];unfold gZ;have:((bot P).finish v).todo=[.extern "fmt's door" #[v]]:=rfl;rw[this];have:Extern.next "fmt's door" =ay:=rfl
   simp only[this];exact⟨_,rfl⟩
  obtain⟨o,d⟩:=f;exact⟨o,Uz rfl d⟩
 have k:∀{g:bM} {w m:az} {i:aV} {cs:aB aV},g.callers=[]->solo g w≠lone i (cs++[bot P]) m:=λj e=>by have:(solo _ _).gs=(lone _ _ _).gs:=dZ Wy e;simp[solo,lone]at this;rw[this]at j;simp at j
 obtain⟨b,rest,e,x⟩:=h;cases e;intro n i cs m a;rcases x with rfl|⟨v,rfl⟩|⟨c,rfl⟩
 ·cases n with
  |zero=>simp only[runN]at a;exact k rfl (vf a)
  |succ n=>
   have p:∃c,step P (solo (G (bot P) []) w)=.next (solo (G ((bot P).raise c) []) w):=by
    have f:∃c q,stepG P aq (G (bot P) []) w=.go (G ((bot P).raise c) []) w q:=by rw[Ae rfl];unfold gZ;have:(bot P).todo=[.call {target:=.nil,args:=#[]} av "fmt's door" #[]]:=rfl;rw[this];simp only;unfold stepG.apply;exact⟨_,_,rfl⟩
    obtain⟨c,q,f⟩:=f;exact⟨c,step_solo_go rfl f⟩
   obtain⟨c,p⟩:=p;simp only[runN,p]at a;cases n with
   |zero=>simp only[runN]at a;exact k rfl (vf a)
   |succ n=>
    obtain⟨o,d⟩:=raise c w;simp only[runN,d]at a;cases a
 ·cases n with
  |zero=>simp only[runN]at a;exact k rfl (vf a)
  |succ n=>
   obtain⟨o,d⟩:=fin v w;simp only[runN,d]at a;cases a
 ·cases n with
  |zero=>simp only[runN]at a;exact k rfl (vf a)
  |succ n=>
   obtain⟨o,d⟩:=raise c w;simp only[runN,d]at a;cases a
def Pr{g u}(h:El P [bot P] g u):∀n a cs b,runN P n (solo g u)=.next (lone a (cs++[bot P]) b)->oT a:=by
 rcases h with h|h
 ·exact λn a cs b c=>absurd c (aaX h u n a cs b)
 ·exact h
def mD(P:aY)(l:aB bC)(fr:aV)(cs:aB aV)(u:az):Prop:=∃S a base b w,Still base/\GR P l a base fr cs b/\WR P a u w/\Whole S a u
def along(u w:az)(a:Nat->jS->Nat):Nat->jS->Nat:=λi q=>a (u.drawn+(i-w.drawn)) q
def WR.tp{ρ u w}(h:WR P ρ u w)(a:Nat->jS->Nat):WR P ρ (u.tp a) (w.tp (along u w a)):=
 ⟨h.one,h.lt,h.obj,λi q=>by show a (u.drawn+(w.drawn+i-w.drawn)) q=a (u.drawn+i) q;rw[wQ],h.low,h.base,h.calm,h.os⟩
def mD.tp{fr cs u}(h:mD P l fr cs u)(a:Nat->jS->Nat):mD P l fr cs (u.tp a):=by obtain⟨S,g,base,b,w,c,d,e,f⟩:=h;exact⟨S,g,base,b,_,c,d,e.tp a,f⟩
inductive oX(P:aY)(Post:aV->aB aV->az->Prop):aV->aB aV->az->Prop
 |stop {fr:aV} {cs:aB aV} {u:az} (h:Post fr cs u):oX P Post fr cs u
 |step {fr:aV} {cs:aB aV} {u:az} (h:∀a,(∀i q,i<u.drawn->a i q=u.tape i q)->∃c b d,step P (lone fr (cs++[bot P]) (u.tp a))=.next (lone c (b++[bot P]) d))
   (k:∀a,(∀i q,i<u.drawn->a i q=u.tape i q)->∀c b d,step P (lone fr (cs++[bot P]) (u.tp a))=.next (lone c (b++[bot P]) d)->oX P Post c b d):oX P Post fr cs u
def FQ{fr gI cs iY u u1}(h:lone fr (cs++[bot P]) u=lone gI (iY++[bot P]) u1):fr=gI/\cs=iY/\u=u1:=by have a:=dZ Wy h;simp[lone]at a;exact⟨a.1,a.2,(dZ Machine.world h)⟩
structure nU where
 fr:aV
 cs:aB aV
 u:az
def nU.m(P:aY)(s:nU)(a:Nat->jS->Nat):Machine:=lone s.fr (s.cs++[bot P]) (s.u.tp a)
structure qU(P:aY)(s t:nU):Prop where
 past:∀i q,i<s.u.drawn->t.u.tape i q=s.u.tape i q
 drawn:s.u.drawn<=t.u.drawn
 step:∀a,kE a t.u.tape s.u.drawn t.u.drawn->step P (s.m P a)=.next (t.m P a)
section
variable {Post:aV->aB aV->az->Prop}
def qg(P:aY)(l:aB bC)(Post:aV->aB aV->az->Prop)(s:nU):Prop:=¬oX P Post s.fr s.cs s.u/\mD P l s.fr s.cs s.u
def Em(P:aY)(Post:aV->aB aV->az->Prop)(s:nU):Prop:=∃b,(∀i q,i<s.u.drawn->b i q=s.u.tape i q)/\∀n a cs w,runN P (n+1) (s.m P b)=.next (lone a (cs++[bot P]) w)->¬Post a cs w
def Pv(L:Fit P l)(K:∀r cs u,Post r cs u->¬oT r){s}(h:qg P l Post s):¬Post s.fr s.cs s.u/\(Em P Post s\/∃t,qg P l Post t/\qU P s t):=by
 obtain⟨C,G⟩:=h;refine⟨λg=>C (.stop g),?_⟩
 have H:¬∀e,(∀i q,i<s.u.drawn->e i q=s.u.tape i q)->∃p j f,step P (lone s.fr (s.cs++[bot P]) (s.u.tp e))=.next (lone p (j++[bot P]) f)/\oX P Post p j f:=λh=>C (.step (λe g=>by(obtain⟨a,b,c,d,_⟩:=h e g;exact⟨a,b,c,d⟩)) λe g p j f D=>by obtain⟨a,b,c,d,k⟩:=h e g;rw[d]at D;obtain⟨rfl,rfl,rfl⟩:=FQ (vf D);exact k)
 obtain⟨e,I⟩:=Classical.not_forall.1 H;obtain⟨A,J⟩:=Classical.not_imp.1 I;cases x:step P (lone s.fr (s.cs++[bot P]) (s.u.tp e))with
 |ended o w=>
  refine aF ⟨e,A,λn r cs y v=>?_⟩;simp only[runN,nU.m,x]at v;cases v
 |next m=>
  obtain⟨S,ρ,base,g',w,E,Q,R,T⟩:=G;rcases KY (main:=aq) L aC (My P) E (R.tp e) T Q x with⟨g1,f,rfl,g⟩|⟨p,j,f,X,F,y,Z,rfl,_,m2,U,V,_,B,W⟩
  ·refine aF ⟨e,A,λn r cs y v=>?_⟩;simp only[runN,nU.m,x]at v;exact λN=>K _ _ _ N (Pr g n r cs y v)
  ·refine aE ⟨⟨p,j,f⟩,⟨λO=>J ⟨p,j,f,x,O⟩,⟨S,X,base,F,y,E,m2,U.rel,V⟩⟩,λi q M=>?_,B.drawn,λY z=>?_⟩
   ·show f.tape i q=_;rw[B.tape];exact A i q M
   ·refine W Y ?_;have:=B.tape;simp only at this z;rw[this]at z;exact z
def least{p:Nat->Prop}(h:∃n,p n):∃n,p n/\∀k,k<n->¬p k:=by
 obtain⟨n,d⟩:=h;induction n using NO with
 |ind n e=>
  by_cases c:∃k,k<n/\p k
  ·obtain⟨k,a,b⟩:=c;exact e k a b
  ·exact⟨n,d,λk a b=>c ⟨k,a,b⟩⟩
def ways(P l)(Post:aV->aB aV->az->Prop)(s:nU):∃f:Nat->nU,f 0=s/\∀n,(∃t,qg P l Post t/\qU P (f n) t)->qg P l Post (f (n+1))/\qU P (f n) (f (n+1)):=by
 classical
 let go:nU->nU:=λs=>if h:∃t,qg P l Post t/\qU P s t then h.choose else s
 refine⟨λn=>Nat.rec s (λ_ x=>go x) n,rfl,λn h=>?_⟩;have e:go (Nat.rec s (λ_ x=>go x) n)=h.choose:=tS h;show qg P l Post (go (Nat.rec s (λ_ x=>go x) n))/\qU P _ (go (Nat.rec s (λ_ x=>go x) n));rw[e];exact h.choose_spec
def Dd(c:Fit P l)(b:∀a cs u,Post a cs u->¬oT a){f:Nat->nU}(hf:∀n,(∃t,qg P l Post t/\qU P (f n) t)->qg P l Post (f (n+1))/\qU P (f n) (f (n+1)))(h:qg P l Post (f 0)):∀n,(∀k,k<n->¬Em P Post (f k))->qg P l Post (f n)/\∀k,k<n->qU P (f k) (f (k+1))
 |0,_=>⟨h,λk e=>by omega⟩
 |n+1,d=>by
  obtain⟨g,i⟩:=Dd c b hf h n λk e=>d k ak;obtain⟨j,m⟩:=hf n ((Pv c b g).2.resolve_left (d n ak));refine⟨j,λk e=>?_⟩;rcases mX k n with o|hge
  ·exact i k o
  ·obtain rfl:k=n:=ak;exact m
def Gf{f:Nat->nU}{n:Nat}(h:∀k,k<n->qU P (f k) (f (k+1))):∀m k,k+m<=n->(f k).u.drawn<=(f (k+m)).u.drawn/\∀i q,i<(f k).u.drawn->(f (k+m)).u.tape i q=(f k).u.tape i q
 |0,k,_=>⟨bD _,λ_ _ _=>rfl⟩
 |m+1,k,e=>by obtain⟨a,d⟩:=Gf h m k ak;have b:=h (k+m) ak;exact⟨dM a b.drawn,λi q c=>(b.past i q (dI c a)).trans (d i q c)⟩
def follows{f:Nat->nU}{a:Nat->jS->Nat}:∀n,(∀k,k<n->qU P (f k) (f (k+1)))->(∀k,k<=n->∀i q,i<(f k).u.drawn->a i q=(f k).u.tape i q)->runN P n ((f 0).m P a)=.next ((f n).m P a)
 |0,_,_=>rfl
 |n+1,h,b=>by have c:=follows n (λk e=>h k ak) λk e=>b k ak;rw[runN_add P n 1,c];have:=(h n ak).step a λi q _ d=>b (n+1) (bD _) i q d;simp only[runN,this]
def MQ(w:Fit P l)(v:∀fr cs u,Post fr cs u->¬oT fr)(K:∀fr cs u b,mD P l fr cs u->Post fr cs u->Post fr cs (az.tp u b)){fr:aV}{cs:aB aV}{u:az}(J:mD P l fr cs u)
  (h:∀b,(∀i q,i<u.drawn->b i q=u.tape i q)->∃n g d o,runN P n (lone fr (cs++[bot P]) (u.tp b))=.next (lone g (d++[bot P]) o)/\Post g d o):oX P Post fr cs u:=by
 classical
 refine pS λM=>?_;obtain⟨f,f0,y⟩:=ways P l Post ⟨fr,cs,u⟩;have z:qg P l Post (f 0):=by rw[f0];exact⟨M,J⟩
 have G:(f 0).u=u:=by rw[f0]
 have hm:∀b,(f 0).m P b=lone fr (cs++[bot P]) (u.tp b):=λb=>by rw[f0];rfl
 have I:∀{n},qg P l Post (f n)->∀{g d o b},(f n).m P b=lone g (d++[bot P]) o->Post g d o->False:=λ{n} A {g d o b} e t=>by obtain⟨rfl,rfl,rfl⟩:=FQ e;exact(Pv w v A).1 (K _ _ ((f n).u.tp b) (f n).u.tape (A.2.tp b) t)
 by_cases D:∃n,Em P Post (f n)
 ·
  obtain⟨n,B,E⟩:=least D;obtain⟨A,r⟩:=Dd w v y z n E;obtain⟨b,O,L⟩:=B
  have s:∀k,k<=n->∀i q,i<(f k).u.drawn->b i q=(f k).u.tape i q:=λk c i q x=>by obtain⟨p1,H⟩:=Gf r (n-k) k ak;rw[show k+(n-k)=n by omega]at p1 H;rw[O i q (dI x p1)];exact H i q x
  obtain⟨N,g,d,o,p,t⟩:=h b (G▸s 0 ak);rcases mX n N with Q|hge
  ·have hr:=follows n r s;obtain⟨m,rfl⟩:∃m,N=n+(m+1):=⟨N-n-1,ak⟩;rw[runN_add P n (m+1)]at p;rw[<-hm,hr]at p;exact L m g d o p t
  ·have hr:=follows N (λk c=>r k ak) λk c=>s k ak;rw[<-hm,hr]at p;exact I (Dd w v y z N λk c=>E k ak).1 (vf p) t
 ·
  have F:∀n,¬Em P Post (f n):=λn B=>D ⟨n,B⟩;have r:∀k,qU P (f k) (f (k+1)):=λk=>(Dd w v y z (k+1) λj _=>F j).2 k ak
  let b:Nat->jS->Nat:=λi q=>if c:∃k,i<(f k).u.drawn then(f c.choose).u.tape i q else u.tape i q
  have s:∀k i q,i<(f k).u.drawn->b i q=(f k).u.tape i q:=λk i q x=>by
   have c:∃k,i<(f k).u.drawn:=⟨k,x⟩;show(if c:∃k,i<(f k).u.drawn then(f c.choose).u.tape i q else u.tape i q)=_;rw[tS c];have C:=c.choose_spec;generalize c.choose=j at C;rcases Nat.le_total j k with hjk|hjk
   ·have:=(Gf (n:=k) (λa _=>r a) (k-j) j ak).2 i q C;rw[show j+(k-j)=k by omega]at this;exact this.symm
   ·have:=(Gf (n:=j) (λa _=>r a) (j-k) k ak).2 i q x;rw[show k+(j-k)=j by omega]at this;exact this
  obtain⟨N,g,d,o,p,t⟩:=h b (G▸s 0);rw[<-hm,(follows N (λk _=>r k) λk _=>s k)]at p;exact I (Dd w v y z N λk _=>F k).1 (vf p) t
def agI(g:∀fr cs u,Post fr cs u->¬oT fr){fr cs u}(h:oX P Post fr cs u):(∀n a b w,runN P n (lone fr (cs++[bot P]) u)=.next (lone a (b++[bot P]) w)->oT a)->False:=by
 induction h with
 |stop h=>exact λH=>g _ _ _ h (H 0 _ _ _ rfl)
 |@step fr cs u h k j=>
  intro H;obtain⟨a,b,d,c⟩:=h u.tape λ_ _ _=>rfl;refine j u.tape (λ_ _ _=>rfl) a b d c λn f e w i=>H (n+1) f e w ?_;have c:step P (lone fr (cs++[bot P]) u)=.next (lone a (b++[bot P]) d):=c
  simp only[runN,c];exact i
def Vk(c:∀fr cs u,Post fr cs u->¬oT fr){fr cs u v g}(h:oX P Post fr cs u)(e:lone fr (cs++[bot P]) u=solo g v)(d:El P [bot P] g v):False:=
 agI c h λn b a w f=>Pr d n b a w (by grind)
end
end
end
section
variable {H:Type} {enc:aQ×aD->H}
def abT{a:Assume}{C:Checked}{os:Os}{f:bC}{fn:kZ}{s:ChangeSpec}{g:aB PathCond}{apart fresh k h:Bool}
  (own:ownKnob C.prog.godebug=ay) (N:os.Started) (y:C.prog.funcs[f]? =aa fn)
  (O:∃(w:az) (tape:Tape) (i:Input),w.os=os/\(w.forCall tape i).Shaped C.prog/\i.vars=[]/\Input.okWide C.prog (w.forCall tape i) .any w.heap.size f i/\
   s.pre6 enc C.prog fn g apart (w.forCall tape i).memory i.args/\a.holds C.prog (lone (Frame.enter C.prog f i.args .normal) [] (w.forCall tape i)))
  (L:∀(W:az) (base:Nat) (args:aJ aD) (b gs:aB (DataW H)) (d:aB MemPlace),World.ShapedOpen C.prog W->
   (∀(j:Nat) t v,fn.params[j]? =aa t->args[j]? =aa v->Value.okWide C.prog W .any base t v)->
   DataW.Whole enc C.prog fn.params.toList s.vars apart W args.toList b gs d->
   g.all (PathCond.test C.prog ⟨fn.params.toList,b,s.plain.varTypes C.prog,gs⟩)=aq->
   (DataW.weightsEach C.prog (fn.params.toList++s.plain.varTypes C.prog) (b++gs)).all (·<=reachBytes)=aq->
   a.holds C.prog (lone (Frame.enter C.prog f args .normal) [] W)->
   ∃M last o w' c,runNT C.prog (M+1) (solo (G (Frame.enter C.prog f args .normal) []) W) #[]=(.ended o w',c)/\runN C.prog M (solo (G (Frame.enter C.prog f args .normal) []) W)=.next last/\
    step C.prog last=.ended o w'/\Conc.Good C.prog (λv m=>s.post enc C.prog fn apart fresh k h W args v m) last o w' c):
  ReturnsInLeavingWide a C os f .any (s.pre6 enc C.prog fn g apart) (s.post enc C.prog fn apart fresh k h):=by
 refine returnsInLeavingWide_of_good own N O ?_;intro w tape i P F Q B E A;obtain⟨_,_,_,n,z,_,_,_,_,I⟩:=B;have e:n=fn:=dP (z.symm.trans y);subst e;obtain⟨⟨b,gs,d,l,x⟩,K⟩:=E;have J:=DataW.Whole.of_heap (w':=w.forCall tape i) (by rfl) l;obtain⟨M,last,o,w',c,p,q,r,u⟩:=L (w.forCall tape i) w.heap.size i.args b gs d F I J x (K.weights l) A;exact⟨M,last,o,w',c,p,q,r,u.mono λv D=>ChangeSpec.post_blind D⟩
end
end
section
open Go.RowKit
def Bears{b:Type}(R:Nat->Prop)(J:b->az->Prop):Prop:=
 ∀s W a row,J s W->W.grownBy a row->(∀r,row=aa r->R r)->J s a
def Bears.put{c:Type}{R J}(h:Bears R J){s:c}{W:az}(b:J s W){l:Nat}(a:R l)(o):J s (W.putObj l o):=
 h s W _ (aa l) b (grownBy_putObj' W l o) (λr e=>by cases e;exact a)
def Bears.new{b:Type}{R J}(h:Bears R J){s:b}{W:az}(a:J s W)(o):J s (W.alloc o):=
 h s W _ ay a (World.grownBy_alloc W o ay) (λr e=>by cases e)
def Iter{α:Type}(F:Fence)(n:Nat)(P:aY)(g:Nat)(lb:aJ aD)(encs:α->aJ aD)(R:Nat->Prop)(Kp:az->az->Prop)(V:aB α->Prop)(S Sp:aB α->az->Prop)(W:az):Prop:=
 ∀(l:Nat) (J c:aB α->az->Prop),Bears R J->Bears R c->
  (∀pre x b,J pre b->V (pre++[x])->YieldAt F (n-1) P l (encs x) b λe a=>
   (e=aM (.bool aq)/\J (pre++[x]) a/\Kp b a)\/(e=aM (.bool av)/\c (pre++[x]) a/\Kp b a))->
  J [] W->
  CallsIn F n P g (#[.func (.yield l) #[] #[]]++lb) W λe a=>(∃v,e=aM v)/\((∃d,S d a/\J d a)\/(∃pre,Sp pre a/\c pre a))
def Two(B:Nat)(W a:az):Prop:=a.heap[B]? =W.heap[B]? /\a.heap[B+1]? =W.heap[B+1]?
def roundEnd{α:Type}(B:Nat)(Kp:az->az->Prop)(I:aB α->az->Prop)(b:aB α->az->Prop)(xs:aB α)(W:az):mS->Act->az->Prop
 |.normal,_,a=>Two B W a/\Kp W a/\I xs a
 |.ret,_,a=>Two B W a/\Kp W a/\b xs a
 |_,_,_=>False
def zS{F n P}{α:Type}{g ps assign body Q a}{w:az}(aP:F.round=ay)(X:1<=n){gf:Nat}{lb:aJ aD}(hg:a.eval g=.func (.func gf) #[] lb)(Y:F.fn gf)(U:∀args w,(callFunc gf args).run P w=.ok (.enter gf args) w){encs:α->aJ aD}(aN:∀x,(encs x).size=ps.size){R:Nat->Prop}{Kp:az->az->Prop}{V:aB α->Prop}{S Sp:aB α->az->Prop}(aR:∀W,w.grownBy W ay->Iter F (n-1) P gf lb encs R Kp V S Sp W)(hR:∀r,R r->r<w.heap.size)(hKt:∀{A B C:az},Kp A B->Kp B C->Kp A C)(hKb:∀(W:az) (o:Obj),Kp W (W.putObj (w.heap.size+1) o))(hS:Bears (λr=>w.heap.size<=r) S)(hSp:Bears (λr=>w.heap.size<=r) Sp)(I y:aB α->az->Prop)(hI:Bears (λr=>R r\/r=w.heap.size+1) I)(hIx:Bears (λr=>R r\/r=w.heap.size+1) y)(h0:I [] w)(z:α->Act->az->Prop)(hAx:∀x,Bears (λr=>R r\/r=w.heap.size+1) (z x))(Z:∀(l:Nat) (pre:aB α) (x:α) (W:az) (K:Act->az->Prop),I pre W->V (pre++[x])->w.heap.size+2<=W.heap.size->(∀a' j,Two w.heap.size W j->Kp W j->I pre j->z x a' j->K a' j)->
   assign.wpIn (F.inRound l) (n-1-1) P (Exit.then K (λ_ _ _=>False)) {tmps:=(ps.zip (encs x)).foldl (λt (p,v)=>t.setIfInBounds p v) a.tmps,defers:=[]} W) (ah:∀(l:Nat) (pre:aB α) (x:α) (a':Act) (W:az),I pre W->z x a' W->V (pre++[x])->w.heap.size+2<=W.heap.size->body.wpIn (F.inRound l) (n-1-1) P (roundEnd w.heap.size Kp I y (pre++[x]) W) a' W) (an:∀(xs:aB α) (W:az),S xs W->I xs W->W.heap[w.heap.size]? =aa (.deferred (aa []))->Q .normal {a with defers:={target:=.collected w.heap.size,args:=#[]}::a.defers} W) (aS:∀(pre:aB α) (W:az),Sp pre W->y pre W->W.heap[w.heap.size]? =aa (.deferred (aa []))->Code.ret.wpIn F n P Q {a with defers:={target:=.collected w.heap.size,args:=#[]}::a.defers} W):
  (Code.rangeFunc g ps assign body).wpIn F n P Q a w:=by
 refine wpIn_rangeFunc λfn aG=>?_;rw[aP]
 let b:DV->aZ gN->Obj:=λst pe=>.loop {state:=st,pending:=pe,fn,tmps:=a.tmps,params:=ps,assign,body,defers:=w.heap.size}
 have gr:w.grownBy ((w.alloc (.deferred (aa []))).alloc (b .ready ay)) ay:=
  ⟨rfl,rfl,rfl,cq,λk f _=>(Below.heap_alloc _ _ _ cq).trans (Below.heap_alloc _ _ _ f)⟩
 have aO:((w.alloc (.deferred (aa []))).alloc (b .ready ay)).heap[w.heap.size+1]? =aa (b .ready ay):=by
  have:=WT (w.alloc (.deferred (aa []))) (b .ready ay)
  rwa [World.size_alloc]at this
 have aj:((w.alloc (.deferred (aa []))).alloc (b .ready ay)).heap[w.heap.size]? =aa (.deferred (aa [])):=
  (Below.heap_alloc _ _ _ aC).trans (WT w _)
 have kept:∀{A B:az} {row:aZ Nat} {k:Nat} {o:Obj},A.grownBy B row->(∀r,row=aa r->R r)->w.heap.size<=k->A.heap[k]? =aa o->B.heap[k]? =aa o:=λd hr f O=>
  (d.block _ (bq.1 O).1 (λe=>by have:=hR _ (hr _ e.symm);omega)).trans O
 refine⟨w.heap.size+1,[{target:=.collected w.heap.size,args:=#[]}],(w.alloc (.deferred (aa []))).alloc (b .ready ay),{target:=.fn (.func gf) lb,args:=#[.func (.yield (w.heap.size+1)) #[] #[]]},(w.alloc (.deferred (aa []))).alloc (b .ready ay),gf,
  #[.func (.yield (w.heap.size+1)) #[] #[]]++lb,(w.alloc (.deferred (aa []))).alloc (b .ready ay),run_enterLoop_outer _ _ _ _ _,?_,?_,?_,λ_=>X,?_⟩
 ·simp only[resolve,hg];simp[go_sem]
 ·intro f' H;simp[Target.leads]at H;subst H;exact Y
 ·simp[invoke,go_sem,U]
 ·refine(aR _ gr (w.heap.size+1)
   (λpre W=>I pre W/\W.heap[w.heap.size+1]? =aa (b .ready ay)/\W.heap[w.heap.size]? =aa (.deferred (aa [])))
   (λpre W=>y pre W/\W.heap[w.heap.size+1]? =aa (b .done (aa .ret))/\W.heap[w.heap.size]? =aa (.deferred (aa [])))
   (λs A B row c d hr=>⟨hI s A B row c.1 d (λr e=>aF (hr r e)),kept d hr ak c.2.1,kept d hr (bD _) c.2.2⟩)
   (λs A B row c d hr=>⟨hIx s A B row c.1 d (λr e=>aF (hr r e)),kept d hr ak c.2.1,kept d hr (bD _) c.2.2⟩)
   ?_ ⟨hI.new (hI.new h0 _) _,aO,aj⟩).mono ?_
  ·rintro pre x W ⟨m,h,f⟩ hv;have bh:=(bq.1 h).1;refine⟨fn,_,assign,body,run_yield h (aN x),roundIn_of_wpIn aG (Z _ pre x W _ m hv ak λa' D T L aI af=>?_)⟩;have M:=T.2.trans h;have aL:=(bq.1 M).1;have Kv:=T.1.trans f;refine⟨_,run_beginRound M rfl,?_⟩;have N:(D.putObj (w.heap.size+1) (b .busy ay)).heap[w.heap.size+1]? =aa (b .busy ay):=Oh aL;have J:(D.putObj (w.heap.size+1) (b .busy ay)).heap[w.heap.size]? =aa (.deferred (aa [])):=(fS ak).trans Kv;refine wpIn_mono (ah _ pre x a' (D.putObj (w.heap.size+1) (b .busy ay)) (hI.put aI (aE rfl) _) ((hAx x).put af (aE rfl) _) hv cq) ?_;rintro e a3 W3 i;cases e with
   |normal=>
    obtain⟨u,G,E⟩:=i;have q:=u.2.trans N;refine⟨_,_,run_endRound ay q,aF ⟨rfl,⟨hI.put E (aE rfl) _,Oh (bq.1 q).1,(fS ak).trans (u.1.trans J)⟩,hKt (hKt (hKt L (hKb _ _)) G) (hKb _ _)⟩⟩
   |ret=>
    obtain⟨u,G,E⟩:=i;have q:=u.2.trans N;refine⟨_,_,run_endRound (aa .ret) q,aE ⟨rfl,⟨hIx.put E (aE rfl) _,Oh (bq.1 q).1,(fS ak).trans (u.1.trans J)⟩,hKt (hKt (hKt L (hKb _ _)) G) (hKb _ _)⟩⟩
   |exit id=>exact i.elim
   |goto t=>exact i.elim
   |panic ch=>exact i.elim
   |outgrown=>exact i.elim
  ·rintro e W2 ⟨⟨v,rfl⟩,(⟨xs,c,m,h,f⟩|⟨pre,c,m,h,f⟩)⟩
   ·exact⟨ay,_,run_endLoop h aC,an xs _ (hS.put c (kB _) _) (hI.put m (aE rfl) _) ((fS ak).trans f)⟩
   ·exact⟨aa .ret,_,run_endLoop h aC,aS pre _ (hSp.put c (kB _) _) (hIx.put m (aE rfl) _) ((fS ak).trans f)⟩
end
section
open Go.Proofs.Tryz
open Go.RowKit
abbrev bN(f:bC)(a:aJ aD)(w:az)(v:aD):Prop:=Calls prog f a w λe b=>e=aM v/\aN w b
abbrev fK(f:bC)(a:aJ aD)(w:az)(v:aD):Prop:=Calls prog f a w λe b=>e=aM v/\b=w
def iR(n a b:Int):Bool:=decide (a<=n)&&decide (n<=b)
def rG(n m:Int):Bool:=iR n 4 m&&(n %4==0)
def Ap(n a b w):
  fK 71 #[an n,an a,an b] w (.bool (iR n a b)):=by
 go_enter func71,ntmps71;go_wp2
 all_goals (go_ret;exact⟨by simp[iR, *];try omega,rfl⟩)
def GA(n m w):
  fK 172 #[an n,an m] w (.bool (rG n m)):=by
 cases h:iR n 4 m with
 |false=>
  go_enter func172,ntmps172;go_wp2_with (go_at_call 71;refine(Ap _ _ _ _).mono ?_;rintro e a ⟨rfl,rfl⟩);go_ret;exact⟨by simp[rG,h],rfl⟩
 |true=>
  have h0:4<=n:=by simp[iR]at h;exact h.1
  go_enter func172,ntmps172;go_wp2_with (go_at_call 71;refine(Ap _ _ _ _).mono ?_;rintro e a ⟨rfl,rfl⟩);go_ret;exact⟨by simp[rG,h],rfl⟩
abbrev ER(sz cl qu a b rt bu wk ou:Int):aD:=.agg #[an sz,an cl,an qu,an a,an b,an rt,an bu,an wk,an ou]
def sQ(sz a b ou:Int):Bool:=rG sz 256&&(rG a 32&&(iR b a 64&&iR ou (a+4) 256))
def vL(cl qu rt bu wk:Int):Bool:=iR cl 1 8&&(iR qu 1 8&&(iR rt 1 16&&(iR bu 1 32&&iR wk 1 8)))
def JB(sz cl qu mx qn rt bu wk ou w):
  bN 119 #[ER sz cl qu mx qn rt bu wk ou] w (.bool (sQ sz mx qn ou)):=by
 cases c:rG sz 256 with
 |false=>
  go_enter func119,ntmps119;go_wp2_with (go_at_call 172;refine(GA _ _ _).mono ?_;rintro e b ⟨rfl,rfl⟩);go_ret;exact⟨by simp[sQ,c],bp⟩
 |true=>
  cases a:rG mx 32 with
  |false=>
   go_enter func119,ntmps119;go_wp2_with (go_at_call 172;refine(GA _ _ _).mono ?_;rintro e b ⟨rfl,rfl⟩);go_ret;exact⟨by simp[sQ,c,a],bp⟩
  |true=>
   have hm:4<=mx/\mx<=32:=by simp[rG,iR]at a;exact a.1
   obtain⟨f,g⟩:=hm;cases d:iR qn mx 64 with
   |false=>
    go_enter func119,ntmps119;go_wp2_with (first|(go_at_call 172;refine(GA _ _ _).mono ?_;rintro e b ⟨rfl,rfl⟩)|(go_at_call 71;refine(Ap _ _ _ _).mono ?_;rintro e b ⟨rfl,rfl⟩));go_ret;exact⟨by simp[sQ,c,a,d],bp⟩
   |true=>
    go_enter func119,ntmps119;go_wp2_with (first|(go_at_call 172;refine(GA _ _ _).mono ?_;rintro e b ⟨rfl,rfl⟩)|(go_at_call 71;refine(Ap _ _ _ _).mono ?_;rintro e b ⟨rfl,rfl⟩));go_ret;exact⟨by simp[sQ,c,a,d],bp⟩
def PT(sz cl qu mx qn rt bu wk ou w):
  bN 120 #[ER sz cl qu mx qn rt bu wk ou] w (.bool (vL cl qu rt bu wk)):=by
 have c:∀b,vL cl qu rt bu wk=b->bN 120 #[ER sz cl qu mx qn rt bu wk ou] w (.bool b):=by
  cases d:iR cl 1 8<;>cases f:iR qu 1 8<;>cases g:iR rt 1 16<;>cases h:iR bu 1 32<;>cases i:iR wk 1 8<;>
  ·intro b a;simp[vL,d,f,g,h,i]at a;subst a;go_enter func120,ntmps120;go_wp2_with (go_at_call 71;refine(Ap _ _ _ _).mono ?_;rintro e j ⟨rfl,rfl⟩);go_ret;exact⟨rfl,bp⟩
 exact c _ rfl
def og(sz cl qu a b rt bu wk ou:Int):Bool:=sQ sz a b ou&&vL cl qu rt bu wk
def bv{a b:Bool}(h:a=b):HS a=HS b:=by rw[h]
def Yt(b:Bool):Int:=if b then 0 else 1
def lE{W w1}(a:aN W w1):(∀b o,b<W.heap.size->w1.cell? (aj b o)=W.cell? (aj b o))/\(∀b o,b<W.heap.size->w1.frozen? (aj b o)=W.frozen? (aj b o)):=
 ⟨λb o h=>a.cell h,λb o h=>a.frozen h⟩
def Yr(sz cl qu mx qn rt bu wk ou w):
  bN 81 #[ER sz cl qu mx qn rt bu wk ou] w (an (Yt (og sz cl qu mx qn rt bu wk ou))):=by
 unfold og;cases h:sQ sz mx qn ou with
 |false=>
  go_enter func81,ntmps81;go_wp2_with (go_at_call 119;refine(JB sz cl qu mx qn rt bu wk ou _).mono ?_;rw[h];rintro e d ⟨rfl,a⟩);go_ret;exact⟨rfl,bp.trans (a.mono aC)⟩
 |true=>
  cases c:vL cl qu rt bu wk with
  |false=>
   go_enter func81,ntmps81;go_wp2_with (first|(go_at_call 119;refine(JB sz cl qu mx qn rt bu wk ou _).mono ?_;rw[h];rintro e d ⟨rfl,a⟩;obtain⟨f,g⟩:=lE a)|(go_at_call 120;refine(PT sz cl qu mx qn rt bu wk ou _).mono ?_;rw[c];rintro e i ⟨rfl,b⟩));go_ret;exact⟨rfl,(bp.trans (a.mono aC)).trans (b.mono (by have:=a.size;simp at this;omega))⟩
  |true=>
   go_enter func81,ntmps81;go_wp2_with (first|(go_at_call 119;refine(JB sz cl qu mx qn rt bu wk ou _).mono ?_;rw[h];rintro e d ⟨rfl,a⟩;obtain⟨f,g⟩:=lE a)|(go_at_call 120;refine(PT sz cl qu mx qn rt bu wk ou _).mono ?_;rw[c];rintro e i ⟨rfl,b⟩));go_ret;exact⟨rfl,(bp.trans (a.mono aC)).trans (b.mono (by have:=a.size;simp at this;omega))⟩
end
section
open Go.Conc
open Go.ConcN (sumTo upd sumTo_upd upd_ne upd_same)
section
variable [aP] [bw] {S:Nat->Prop}
section
variable {P:aY} {l:aB bC}
def Left(P:aY)(f:bC)(R:iz->az->Prop)(fr:aV)(cs:aB aV)(u:az):Prop:=cs=[]/\fr.fn=f/\∃e,e≠.outgrown/\R e u/\fr.leaving P u e
def Sl(B:Fit P l){fr cs u}(o:mD P l fr cs u)(d:Nat->jS->Nat){e}(h:fr.leaving P u e):fr.leaving P (u.tp d) e:=by
 cases e with
 |returned v=>
  obtain⟨g,j,k,f,m,n⟩:=h;refine⟨g,j,k,f,m,?_⟩;obtain⟨S,D,base,A,w,C,s,t,x⟩:=o;obtain⟨z,y,_,p,_⟩:=s.of;obtain⟨_,r⟩:=(rB (yl f p.tmps) (iy u) t x n).1;rw[<-ji P _ (u.tp d) #[],r d (λi q a b=>by omega)]
 |panicked c=>exact h
 |outgrown=>trivial
def Cs{f R}(fr cs u)(h:Left P f R fr cs u):¬oT fr:=by
 rintro⟨hm,_⟩;obtain⟨_,_,e,b,_,a⟩:=h;cases e with
 |returned v=>rw[a.1]at hm;cases hm
 |panicked c=>rw[a.1]at hm;cases hm
 |outgrown=>exact b rfl
def Vj(o:Fit P l){f args u R}(q:mD P l (Frame.enter P f args .normal) [] u)(hR:∀e w a,R e w->R e (az.tp w a))(s:∀w,¬R .outgrown w)(h:∀a,Calls P f args (u.tp a) R):oX P (Left P f R) (Frame.enter P f args .normal) [] u:=by
 refine MQ o Cs (λj cs u a r=>?_) q λa _=>?_
 ·rintro⟨b,d,e,g,i,p⟩;exact⟨b,d,e,g,hR e u a i,Sl o r a p⟩
 ·obtain⟨e,m,j,b,d,g,i⟩:=h a [bot P];cases e with
  |outgrown=>exact absurd b (s m)
  |returned v=>
   obtain⟨n,k⟩:=d;exact⟨n,j,[],m,k,rfl,g,_,aC,b,i⟩
  |panicked c=>
   obtain⟨n,k⟩:=d;exact⟨n,j,[],m,k,rfl,g,_,aC,b,i⟩
def laid(u w:az):Nat->jS->Nat:=λi q=>if i<u.drawn then u.tape i q else w.tape (w.drawn+(i-u.drawn)) q
structure fy(P:aY)(ρ:Ren)(u w:az):Prop where
 one:ρ.one
 lt:∀a b,ρ a b->a<u.heap.size/\b<w.heap.size
 obj:∀a b o,ρ a b->u.heap[a]? =aa o->o=cm\/∃c,w.heap[b]? =aa c/\OR ρ o c
 low:∀a b,ρ a b->a<P.globals.size->b<P.globals.size
 base:P.globals.size<=u.heap.size
 calm:∀a b,ρ a b->u.heap[a]? =aa cm->Calm w.heap[b]?
 os:w.os=u.os/\P=aP.prog
def WR.drop{ρ u w}(h:WR P ρ u w):fy P ρ u w:=⟨h.one,h.lt,h.obj,h.low,h.base,h.calm,h.os⟩
def fy.lay{ρ u w}(h:fy P ρ u w):WR P ρ (u.tp (laid u w)) w:=
 ⟨h.one,h.lt,h.obj,λi q=>by show _=laid u w (u.drawn+i) q;unfold laid;rw[aK ak,wQ],h.low,h.base,h.calm,h.os⟩
def fy.at {ρ u w}(h:fy P ρ u w)(d):fy P ρ u (w.at d):=⟨h.one,h.lt,h.obj,h.low,h.base,h.calm,h.os⟩
end
end
section
variable [aP] [bw]
section
variable {P:aY} {l:aB bC} {σ ρ:Ren} {S:Nat->Prop}
def Lx{a}(h:tT S σ a){x}(b:a.touch?=aa x):(∃c y,x.loc=.cell c/\σ y c.block/\¬S c.block)\/(∃r y,x.loc=.obj r/\σ y r/\¬S r)\/x.loc=.output:=by
 rcases h with⟨⟨loc,wr,e⟩,rfl,h⟩|⟨r,y,rfl,h⟩
 ·cases loc with
  |cell c=>
   obtain⟨y,d⟩:=h;simp[cY,uY]at b;subst b;exact aF ⟨c,y,rfl,d⟩
  |obj r=>
   obtain⟨y,d⟩:=h;cases wr<;>cases e<;>simp[cY,uY]at b
   all_goals (subst b;exact aE (aF ⟨r,y,rfl,d⟩))
  |output=>
   simp[cY,uY]at b;subst b;exact aE (aE rfl)
  |goroutines=>exact h.elim
  |mark m=>
   cases m with
   |noRoom=>simp[cY,uY]at b
   |extern _=>simp[cY,uY]at b
   |_=>exact h.elim
 ·cases b
def Lv{a}(h:tT S σ a):a≠.mark .disable/\a≠.mark .enable:=by
 rcases h with⟨⟨loc,wr,b⟩,rfl,h⟩|⟨r,y,rfl,h⟩
 ·cases loc with
  |cell c=>exact⟨by simp[cY],by simp[cY]⟩
  |obj r=>cases wr<;>cases b<;>exact⟨by simp[cY],by simp[cY]⟩
  |output=>exact⟨by simp[cY],by simp[cY]⟩
  |goroutines=>exact h.elim
  |mark m=>
   cases m with
   |noRoom=>exact⟨by simp[cY],by simp[cY]⟩
   |extern _=>exact⟨by simp[cY],by simp[cY]⟩
   |_=>exact h.elim
 ·exact⟨aC,aC⟩
def Lu{a}(h:tT S σ a){B}(c:∀y b,σ y b->b<B):a.low B:=by
 rcases h with⟨⟨loc,wr,e⟩,rfl,h⟩|⟨r,y,rfl,h⟩
 ·cases loc with
  |cell f=>
   obtain⟨y,d⟩:=h;exact c _ _ d.1
  |obj r=>
   obtain⟨y,d⟩:=h;cases wr<;>cases e<;>exact c _ _ d.1
  |output=>trivial
  |goroutines=>exact h.elim
  |mark m=>
   cases m with
   |noRoom=>trivial
   |extern _=>trivial
   |_=>exact h.elim
 ·exact c _ _ h.1
structure fA(ρ σ:Ren)(w w1:az):Prop where
 le:ρ.le σ
 size:w.heap.size<=w1.heap.size
 cO:∀b,b<w.heap.size->(∀a,¬ρ a b)->w1.heap[b]? =w.heap[b]?
 news:∀a b,σ a b->ρ a b\/w.heap.size<=b
 os:w1.os=w.os
 output:w1.output=w.output
 tape:w1.tape=w.tape
def fA.refl(ρ w):fA ρ ρ w w:=⟨Ren.le_refl _,bD _,λ_ _ _=>rfl,λ_ _ h=>aF h,rfl,rfl,rfl⟩
def fA.at {ρ σ w w1}(h:fA ρ σ w w1)(d):fA ρ σ w (w1.at d):=⟨h.le,h.size,h.cO,h.news,h.os,h.output,h.tape⟩
def fA.trans{ρ σ τ w w1 w2}(h:fA ρ σ w w1)(k:fA σ τ w1 w2):fA ρ τ w w2:=by
 refine⟨Ren.le_trans h.le k.le,dM h.size k.size,λb c d=>?_,λa b f=>?_,k.os.trans h.os,k.output.trans h.output,k.tape.trans h.tape⟩
 ·rw[k.cO b (dI c h.size) (λa e=>?_),h.cO b c d];rcases h.news a b e with h1|h1
  ·exact d a h1
  ·omega
 ·rcases k.news a b f with h1|h1
  ·exact h.news a b h1
  ·exact aE (dM h.size h1)
def cD.went{u u1 w w1}(h:cD P ρ σ u u1 w w1):fA ρ σ w w1:=⟨h.le,h.size,h.cO,λa b c=>(h.news a b c).imp id (·.1),h.os,h.output,h.tape⟩
def Clear(Shun:Loc->Prop)(S:Nat->Prop)(ρ:Ren)(w:az):Prop:=∀l,Shun l->∃a:bZ,l=.cell a/\a.block<w.heap.size/\∀x,ρ x a.block->S a.block
def Clear.went{Shun w w1}(h:Clear Shun S ρ w)(k:fA ρ σ w w1):Clear Shun S σ w1:=λl e=>by
 obtain⟨a,b,c,d⟩:=h l e;refine⟨a,b,dI c k.size,λx f=>?_⟩;rcases k.news x _ f with h|h
 ·exact d x h
 ·omega
structure Beside(P:aY)(l:aB bC)(base:aB aV)(Shun:Loc->Prop)(S:Nat->Prop)(fr:aV)(cs:aB aV)(u:az)(ρ:Ren)(gs:aJ bM)(w:az)(t:fQ)(q:Nat->Nat):Prop where
 rel:∃a,gs[0]? =aa a/\GR P l ρ base fr cs a
 world:fy P ρ u w
 whole:Whole S ρ u
 gC:tJ P t gs q
 past:vn Shun w.heap.size t
 clear:Clear Shun S ρ w
 same:∀a b,ρ a b->a=b
 size:u.heap.size=w.heap.size
 eW:∀i j,t.g? i=aa j->j<gs.size
 full:Full ρ u
def xE{t ops:fQ}{n k:Nat}(h:∀i j,t.g? i=aa j->j<n)(c:k<n)(e:∀op∈ops,op.g=k):∀i j,(t++ops).g? i=aa j->j<n:=λi j b=>by
 unfold sD at b;obtain⟨op,d,rfl⟩:=eV.1 b;rcases getElem?_append_cases d with⟨_,a⟩|⟨_,a⟩
 ·exact h i op.g (by unfold sD;rw[a];rfl)
 ·rw[e op a];exact c
def GR.running{base fr cs g}(h:GR P l ρ base fr cs g):g.status=.running:=by obtain⟨b,a,rfl,_⟩:=h.of;rfl
def Tb{Shun w w1 t ops}(h:vn Shun w.heap.size t)(hc:Clear Shun S ρ w)(k:fA ρ σ w w1)(o:∀y b,σ y b->b<w1.heap.size)(h0:∀op∈ops,op.g=0)(m:∀a∈ops.map (·.act),tT S σ a):vn Shun w1.heap.size (t++ops):=by
 have f:∀op∈ops,tT S σ op.act:=λop c=>m _ (nM.2 ⟨op,c,rfl⟩);refine(h.mono k.size).app0 h0 (λop c b n p=>?_) ?_ (λop c=>Lu (f op c) o)
 ·obtain⟨a,d,s,j⟩:=(hc.went k) _ p;rcases Lx (f op c) n with⟨q,y,e,i⟩|⟨r,y,e,i⟩|e
  ·rw[e]at d;cases d;exact absurd (j y i.1) i.2
  ·rw[e]at d;cases d
  ·rw[e]at d;cases d
 ·exact VQ t 0 ops λop c=>Lv (f op c)
def MP(hT:Fit P l){Post:aV->aB aV->az->Prop}(hM:∀fr cs u,Post fr cs u->¬oT fr){base:aB aV}(hb:Still base){Shun:Loc->Prop}{fr:aV}{cs:aB aV}{u:az}(Cn:oX P Post fr cs u):
  ∀(n:Nat) (ρ:Ren) (gs:aJ bM) (w:az) (sl:aZ (Nat×Nat)) (t:fQ) (q:Nat->Nat),sumTo gs.size q<n->Beside P l base Shun S fr cs u ρ gs w t q->
   ∃N L D C K A B I J Q,runNT P N (crowd gs w sl) t=(.next (crowd A B I),J)/\A.size=gs.size/\Post D C K/\Beside P l base Shun S D C K L A B J Q/\fA ρ L w B:=by
 induction Cn with
 |stop h=>exact λS ρ gs w sl t q _ X=>⟨0,ρ,_,_,_,gs,w,sl,t,q,rfl,rfl,h,X,.refl ρ w⟩
 |@step fr cs u V W ih=>
  intro S;induction S with
  |zero=>exact λρ gs w sl t q hS=>absurd hS ak
  |succ S bz=>
   intro ρ gs w sl t q hS X;obtain⟨⟨a,h0,Ks⟩,hw,hW,s,hP,Y,hI,hZ,hN,hU⟩:=X;have U:=Ks.running;have F:0<gs.size:=(bq.1 h0).1
   have xI:∀g∈gs,awake g:=by
    intro g E;obtain⟨i,m,rfl⟩:=wJ.1 E;rcases mV i with rfl|hpos
    ·have:gs[0]=a:=by simpa[cX m]using h0
     rw[this];exact sF (aF U)
    ·exact sF ((s.old i _ hpos (cX m)).status.elim aF λx=>aE (aE x))
   have bu:∀(j:Nat) h,gs[j]? =aa h->h.status=.blocked->h.offers=ay:=by
    intro j h c z;rcases mV j with rfl|hpos
    ·rw[h0]at c;cases c;rw[U]at z;cases z
    ·rcases(s.old j h hpos c).status with h3|h3<;>rw[h3]at z<;>cases z
   obtain⟨i,g,d,I,m,E,aT⟩:=Bl (P:=P) (w:=w) (sl:=sl) xI ⟨0,a,h0,U⟩;rcases mV i with rfl|hpos
   ·
    obtain rfl:g=a:=by rw[h0]at m;exact(dP m).symm
    have hp:∀i q,i<u.drawn->laid u (w.at d) i q=u.tape i q:=λi q m=>by unfold laid;rw[aW m]
    obtain⟨gI,iY,u1,z⟩:=V _ hp;rcases KY hT aC (My P) hb (hw.at d).lay hW Ks z aq with⟨M,v,e,K5⟩|⟨QX,PV,u2,τ,M,w1,bT,e,k1,k2,H,k4,k5,_,_⟩
    ·exact(Vk hM (W _ hp _ _ _ z) e K5).elim
    obtain⟨rfl,rfl,rfl⟩:=FQ e;obtain⟨f,aj,hr,Z,bk,T⟩:=UN (P:=P) (sl:=I) (i:=0) m bu k1
    have af:fA ρ τ w w1:=by have:=H.went;exact⟨this.le,this.size,this.cO,this.news,this.os,this.output,this.tape⟩
    have Cd:∀y b,τ y b->b<w1.heap.size:=λy b h=>(H.rel.lt y b h).2;have o:((gs.map f).setIfInBounds 0 M).size=gs.size:=aC
    have bp:∀(j:Nat) x,0<j->((gs.map f).setIfInBounds 0 M)[j]? =aa x->gs[j]? =aa x:=λj x c p=>by
     rw[dO ak,fV]at p;obtain⟨y,O,rfl⟩:=eV.1 p;have G:=s.old j y c O;rcases Z with rfl|rfl
     ·rw[xh G];exact O
     ·exact O
    obtain⟨N,L,D,C,K,A,B,yg,J,Q,r1,r2,r3,r4,r⟩:=ih _ hp _ _ _ z (sumTo gs.size q+1) τ ((gs.map f).setIfInBounds 0 M) w1 I (t++aj) q (by rw[o];omega)
     ⟨⟨M,by simp[F],k2⟩,H.rel.drop,k4,⟨λj x c p=>by
      rw[nN t (g':=0) ak aj T];exact s.old j x c (bp j x c p),λj c=>by
      rw[nN t (g':=0) (by rw[o]at c;omega) aj T];exact s.above j (by rw[o]at c;exact c)⟩,Tb hP Y af Cd T (by rw[bk];exact k5),Y.went af,λy b ry=>(H.news y b ry).elim (hI y b) λh=>by(have V:(u.tp (laid u (w.at d))).heap.size=u.heap.size:=rfl;have W:(w.at d).heap.size=w.heap.size:=rfl;omega),by(have V:(u.tp (laid u (w.at d))).heap.size=u.heap.size:=rfl;have W:(w.at d).heap.size=w.heap.size:=rfl;have h3:=H.xY;omega),xE (by rw[o];exact hN) (by rw[o];exact F) T,H.full hU⟩
    exact⟨N+1,L,D,C,K,A,B,yg,J,Q,by simp only[runNT,aT,hr];exact r1,r2.trans o,r3,r4,af.trans r⟩
   ·
    have G:=s.old i g hpos m;have bn:(i==0)=av:=cq;have F:i<gs.size:=(bq.1 m).1;cases ur:q i with
    |zero=>rw[ur]at G;rw[G.1]at E;cases E
    |succ k=>
     rw[ur]at G;rcases G with⟨Z,_⟩|⟨_,g',es,hm,uu,ru⟩
     ·rw[Z]at E;cases E
     have Ch:=sI (P:=P) (sl:=I) (i:=i) m (by rw[bn];exact uu (w.at d));have o:((gs.map (woken P g g' (w.at d))).setIfInBounds i g').size=gs.size:=aC
     have bG:sumTo gs.size (upd q i k)+(k+1)=sumTo gs.size q+k:=by have:=Bw q k id F;simpa[ur]using this
     obtain⟨N,L,D,C,K,A,B,yg,J,Q,r1,r2,r3,r4,r⟩:=bz ρ ((gs.map (woken P g g' (w.at d))).setIfInBounds i g') (w.at d) I (t++kA i g.frame.fn g.frame.place es) (upd q i k) (by rw[o];omega)
      ⟨⟨a,by
       have bt:i≠0:=ak;rw[dO bt,fV,h0];simp[Je U],Ks⟩,hw.at d,hW,⟨λj x c p=>by
       by_cases R:i=j
       ·subst R;rw[wI (by simpa using F)]at p;obtain rfl:=dP p;rw[ig,AB];exact ru
       ·rw[dO R,fV]at p;obtain⟨y,O,rfl⟩:=eV.1 p;have vT:=s.old j y c O;rw[xh vT,jj q k (dc R),nN t R _ (mA _ _ _ _)];exact vT,λj c=>by
       rw[nN t (g':=i) (by simp at c;omega) _ (mA _ _ _ _)];exact s.above j (by simpa using c)⟩,hP.mute ak hm,Y,hI,hZ,xE (by rw[o];exact hN) (by rw[o];exact F) (mA _ _ _ _),hU⟩
     exact⟨N+1,L,D,C,K,A,B,yg,J,Q,by simp only[runNT,aT,Ch];exact r1,r2.trans o,r3,r4,⟨r.le,r.size,r.cO,r.news,r.os,r.output,r.tape⟩⟩
end
end
end
section
open Go.Conc
open Go.ConcN (WgLive)
section
variable [aP] [bw]
section
variable {P:aY} {l:aB bC} {S:Nat->Prop}
def MC{main g w g1 g2 w1 w2 a1 a2}(h:jm P main g w g1 w1 a1)(k:jm P main g w g2 w2 a2):g1=g2/\w1=w2/\a1=a2:=by
 cases h with
 |go h=>
  cases k with
  |go k=>rw[h]at k;cases k;exact⟨rfl,rfl,rfl⟩
  |shut k=>rw[h]at k;cases k
  |rm k=>rw[h]at k;cases k
  |rq k=>rw[h]at k;cases k
 |shut h b=>
  cases k with
  |go k=>rw[h]at k;cases k
  |shut k a=>rw[h]at k;cases k;exact⟨rfl,rfl,rfl⟩
  |rm k a=>rw[h]at k;cases k;rw[b]at a;cases a
  |rq k=>rw[h]at k;cases k
 |rm h b=>
  cases k with
  |go k=>rw[h]at k;cases k
  |shut k a=>rw[h]at k;cases k;rw[b]at a;cases a
  |rm k a=>rw[h]at k;cases k;exact⟨rfl,rfl,rfl⟩
  |rq k=>rw[h]at k;cases k
 |rq h=>
  cases k with
  |go k=>rw[h]at k;cases k
  |shut k=>rw[h]at k;cases k
  |rm k=>rw[h]at k;cases k
  |rq k=>rw[h]at k;cases k;exact⟨rfl,rfl,rfl⟩
structure Rel(d:aQ)(c:Nat)(O:Nat->Prop)(w a:az):Prop where
 own:∀b,O b->a.heap[b]? =w.heap[b]?
 size:w.heap.size<=a.heap.size
 live:WgLive d c w->WgLive d c a
 os:a.os=w.os
def Rel.refl(ty Wg O w):Rel ty Wg O w w:=⟨λ_ _=>rfl,bD _,id,rfl⟩
def Rel.trans{d:aQ}{Wg O a b c}(h:Rel d Wg O a b)(k:Rel d Wg O b c):Rel d Wg O a c:=⟨λx e=>(k.own x e).trans (h.own x e),dM h.size k.size,k.live ∘ h.live,k.os.trans h.os⟩
def Rel.at (ty Wg O w d):Rel ty Wg O w (w.at d):=⟨λ_ _=>rfl,bD _,id,rfl⟩
def ff(O:Nat->Prop)(w w':az):Nat->Prop:=λb=>O b\/(w.heap.size<=b/\b<w'.heap.size)
structure tU(O:Nat->Prop)(w w':az):Prop where
 cO:∀b,b<w.heap.size->¬O b->w'.heap[b]? =w.heap[b]?
 size:w.heap.size<=w'.heap.size
 os:w'.os=w.os
 output:w'.output=w.output
 tape:w'.tape=w.tape
structure iF(c:Nat)(O:Nat->Prop)(B:Nat)(a:sn):Prop where
 touch:∀x,a.touch?=aa x->(∃b:bZ,x.loc=.cell b/\O b.block)\/(∃r,x.loc=.obj r/\O r)\/x.loc=.output\/(∃b:bZ,x.loc=.cell b/\b.block=c/\x.kind=.atomic)
 marks:a≠.mark .disable/\a≠.mark .enable
 low:a.low B
 rel:∀b,a≠.mark (.release b)
 LM:∀b,a≠.mark (.releaseMerge b)
def Xp{σ a}(h:tT S σ a)(Wg){O B}(g:∀x b,σ x b->¬S b->O b)(i:∀x b,σ x b->b<B):iF Wg O B a:=by
 have hm:∀m,m≠.noRoom->(∀f,m≠.extern f)->a≠.mark m:=λm hm j e=>by
  rcases h with⟨⟨loc,wr,o⟩,rfl,h⟩|⟨r,y,rfl,h⟩
  ·cases loc with
   |cell d=>simp[cY]at e
   |obj r=>cases wr<;>cases o<;>simp[cY]at e
   |output=>simp[cY]at e
   |goroutines=>exact h.elim
   |mark n=>
    cases n with
    |noRoom=>simp[cY]at e;exact hm e.symm
    |extern f=>simp[cY]at e;exact j f e.symm
    |_=>exact h.elim
  ·cases e
 refine⟨λx k=>?_,Lv h,Lu h i,λd=>hm _ aC aC,λd=>hm _ aC aC⟩;rcases Lx h k with⟨d,y,e,c⟩|⟨r,y,e,c⟩|e
 ·exact aF ⟨d,e,g _ _ c.1 c.2⟩
 ·exact aE (aF ⟨r,e,g _ _ c.1 c.2⟩)
 ·exact aE (aE (aF e))
inductive CJ(P:aY)(main:Bool)(e:aQ)(d:Nat)(Stop:(Nat->Prop)->bM->az->Prop):(Nat->Prop)->bM->az->Prop
 |stop {O:Nat->Prop} {g:bM} {w:az} (h:∀b,Rel e d O w b->Stop O g b):CJ P main e d Stop O g w
 |step {O:Nat->Prop} {g:bM} {w:az} (j:g.status=.running)
   (h:∀b,Rel e d O w b->∃i c f,jm P main g b i c f/\tU O b c/\∀a∈f,iF d (ff O b c) c.heap.size a)
   (k:∀b i c f,Rel e d O w b->jm P main g b i c f->CJ P main e d Stop (ff O b c) i c):CJ P main e d Stop O g w
def CJ.rely{main}{c:aQ}{Wg Stop O g w w₁}(h:CJ P main c Wg Stop O g w)(r:Rel c Wg O w w₁):CJ P main c Wg Stop O g w₁:=by
 cases h with
 |stop h=>exact .stop λb a=>h b (r.trans a)
 |step f h k=>exact .step f (λb a=>h b (r.trans a)) λb e i d a=>k b e i d (r.trans a)
def CJ.one{main}{m:aQ}{Wg Stop O g w}(n:g.status=.running)(h:∀f,Rel m Wg O w f->∃j e i,jm P main g f j e i/\tU O f e/\(∀a∈i,iF Wg (ff O f e) e.heap.size a)/\CJ P main m Wg Stop (ff O f e) j e):CJ P main m Wg Stop O g w:=by
 refine .step n (λf k=>?_) λf j e i k o=>?_
 ·obtain⟨j,e,i,a,b,c,_⟩:=h f k;exact⟨j,e,i,a,b,c⟩
 ·obtain⟨g2,q,p,a,_,_,d⟩:=h f k;obtain⟨rfl,rfl,rfl⟩:=MC o a;exact d
def CJ.bind{main}{a:aQ}{Wg Stop Pc O g w}(h:CJ P main a Wg Stop O g w)(d:∀O g w,(∀b,Rel a Wg O w b->Stop O g b)->CJ P main a Wg Pc O g w):CJ P main a Wg Pc O g w:=by
 induction h with
 |stop h=>exact d _ _ _ h
 |step c h _ e=>exact .step c h e
def xp(c:aQ)(a:Nat)(S:Nat->Prop)(w:az):Prop:=∀b,S b->b=a/\WgLive c a w
def xp.rel{a:aQ}{Wg O w w₁}(h:xp a Wg S w)(r:Rel a Wg O w w₁):xp a Wg S w₁:=λb c=>⟨(h b c).1,r.live (h b c).2⟩
def WgLive.calm{a:aQ}{Wg w}(h:WgLive a Wg w):Calm w.heap[Wg]? :=by obtain⟨st,b,h⟩:=h;exact⟨_,_,_,h,aC,bD _⟩
def fy.rel{i:aQ}{Wg O ρ u w w₁}(h:fy P ρ u w)(f:Whole S ρ u)(k:xp i Wg S w)(m:∀a b,ρ a b->¬S b->O b)(r:Rel i Wg O w w₁):fy P ρ u w₁:=by
 refine⟨h.one,λa b d=>⟨(h.lt a b d).1,dI (h.lt a b d).2 r.size⟩,λa b o d g=>?_,h.low,h.base,λa b d n=>?_,r.os.trans h.os.1,h.os.2⟩
 ·rcases f.all a b d with⟨c,_⟩|⟨_,c⟩
  ·exact(h.obj a b o d g).imp id λ⟨p,e,j⟩=>⟨p,by rw[r.own b (m a b d c)];exact e,j⟩
  ·rw[g]at c;cases c;exact aF rfl
 ·rcases f.all a b d with⟨_,o,c,e⟩|⟨c,_⟩
  ·rw[n]at c;cases c;exact absurd rfl e
  ·obtain⟨rfl,e⟩:=k b c;exact WgLive.calm (r.live e)
def Yu(K:Fit P l){main}{p:aQ}{Wg Post}(J:∀fr cs u,Post fr cs u->¬oT fr){Stop}{base:aB aV}(x:Still base){ρ0:Ren}{fr:aV}{cs:aB aV}{u:az}(T:oX P Post fr cs u)(L:∀fr cs u ρ O g w,Post fr cs u->ρ0.le ρ->GR P l ρ base fr cs g->fy P ρ u w->Whole S ρ u->xp p Wg S w->(∀a b,ρ a b->¬S b->O b)->CJ P main p Wg Stop O g w):
  ∀(ρ:Ren) (O:Nat->Prop) (g:bM) (w:az),ρ0.le ρ->GR P l ρ base fr cs g->fy P ρ u w->Whole S ρ u->xp p Wg S w->(∀a b,ρ a b->¬S b->O b)->CJ P main p Wg Stop O g w:=by
 induction T with
 |stop h=>exact λρ O g w h0 f t m o H=>L _ _ _ ρ O g w h h0 f t m o H
 |@step fr cs u V W U=>
  intro ρ O g w h0 f t m B o;refine .one f.running λz r=>?_;have y:∀i q,i<u.drawn->laid u z i q=u.tape i q:=λi q M=>by unfold laid;rw[aW M]
  obtain⟨gI,iY,u1,c⟩:=V _ y;rcases KY K aC (My P) x (t.rel m B o r).lay m f c main with⟨s,v,e,R⟩|⟨QX,PV,u2,A,s,n,G,e,m1,m2,d,X,Y,_,_⟩
  ·exact(Vk J (W _ y _ _ _ c) e R).elim
  obtain⟨rfl,rfl,rfl⟩:=FQ e;have E:∀a b,A a b->b<n.heap.size:=λa b k=>(d.rel.lt a b k).2;have C:∀a b,A a b->¬S b->ff O z n b:=λa b k c=>(d.news a b k).elim (λh=>aF (o a b h c)) λh=>aE ⟨h.1,E a b k⟩
  have F:∀a b,ρ a b->S b->n.heap[b]? =z.heap[b]? :=λa b k c=>by
   rcases m.all a b k with⟨f,_⟩|⟨_,f⟩
   ·exact absurd c f
   ·exact(d.still a b k f).2
  have I:xp p Wg S n:=λb c=>by obtain⟨e,st,Z,N⟩:=B.rel r b c;obtain⟨a,j⟩:=m.has b c;refine⟨e,st,Z,?_⟩;have:=F a b j c;rw[e]at this;exact this.trans N
  refine⟨s,n,G,m1,⟨λb x Q=>?_,d.size,d.os,d.output,d.tape⟩,λa j=>Xp (Y a j) Wg C E,U _ y _ _ _ c A _ s n (Ren.le_trans h0 d.le) m2 d.rel.drop X I C⟩
  by_cases D:∃a,ρ a b
  ·obtain⟨a,j⟩:=D
   by_cases c:S b
   ·exact F a b j c
   ·exact absurd (o a b j c) Q
  ·exact d.cO b x λa j=>D ⟨a,j⟩
end
end
end
section
open Go.Conc Go.Conc.Lib Go.ConcN Go.ConcN.Gen Go.ConcR.Gen Go.RowKit
open Go.ConcR (KK wgBlock WgAt stA smA rd wr mk Payload Aside2 DC0)
def DZ(Wg:Nat)(w w':az)(es:aJ jw):Prop:=w'=w/\∀e∈es,e=⟨.mark (.read (smA Wg)),av,aq⟩\/e=⟨.mark (.write (smA Wg)),av,aq⟩
def lr{ty:aQ}{Wg O w w₁}(h:WgLive ty Wg w)(r:Rel ty Wg O w w₁):WgLive ty Wg w₁:=r.live h
section
variable (P:aY) (ty:aQ) (Wg:Nat) (O:Nat->Prop) (Fin:bM->az->Prop)
def ZA3(g:bM)(w:az):Prop:=g.status=.running/\∃g',stepG P aq g w=.go g' w #[mk .enable]/\∃m,Goes P aq (Rel ty Wg O) (DZ Wg) Fin m g' w
def ZA2(g:bM)(w:az):Prop:=g.status=.running/\∀v:Nat,v<2147483647->WgAt ty Wg w (v*KK) 0->
 ∃g',stepG P aq g w=.go g' (w.setCell (stA Wg) (.int .u64 ((v+1) *KK))) #[rd (stA Wg),wr (stA Wg)]/\∃m,Goes P aq (Rel ty Wg O) (DZ Wg) (ZA3 P ty Wg O Fin) m g' (w.setCell (stA Wg) (.int .u64 ((v+1) *KK)))
def ZA1(g:bM)(w:az):Prop:=g.status=.running/\∃g',stepG P aq g w=.go g' w #[mk .disable]/\∃m,Goes P aq (Rel ty Wg O) (DZ Wg) (ZA2 P ty Wg O Fin) m g' w
end
section
variable {P:aY} {R:az->az->Prop} {Wg:Nat} {Stop:bM->az->Prop}
def Rh{D n g w}(h:Goes P aq R D Stop n g w):∀k,Goes P aq R D Stop (n+k) g w
 |0=>h
 |k+1=>(Rh h k).more
def jV:∀{n:Nat} {g:bM} {w:az},Goes P aq R DC0 Stop n g w->Goes P aq R (DZ Wg) Stop n g w
 |0,_,_,h=>h
 |n+1,_,_,h=>h.imp id λ⟨b,c⟩=>⟨b,λw₁ r=>by have:=c w₁ r;revert this;cases stepG P aq _ w₁<;>simp only[HV]<;>first|exact id|exact λ⟨a,d⟩=>⟨⟨a.1,by rw[a.2];simp⟩,jV d⟩⟩
def Ri(hR:∀w,R w w){m}:∀{n:Nat} {g:bM} {w:az},Goes P aq R DC0 (λg w=>g.status=.running/\∃g' e,stepG P aq g w=.go g' w #[e]/\(e=⟨.mark (.read (smA Wg)),av,aq⟩\/e=⟨.mark (.write (smA Wg)),av,aq⟩)/\Goes P aq R (DZ Wg) Stop m g' w) n g w->Goes P aq R (DZ Wg) Stop (m+1+n) g w:=by
 have one:∀{g:bM} {w:az},(∀w₁,R w w₁->(g.status=.running/\∃g' e,stepG P aq g w₁=.go g' w₁ #[e]/\(e=⟨.mark (.read (smA Wg)),av,aq⟩\/e=⟨.mark (.write (smA Wg)),av,aq⟩)/\Goes P aq R (DZ Wg) Stop m g' w₁))->Goes P aq R (DZ Wg) Stop (m+1) g w:=λ{g w} h=>aE ⟨(h w (hR w)).1,λw₁ r=>by obtain⟨_,g',e,b,c,a⟩:=h w₁ r;rw[b];exact⟨⟨rfl,λx hx=>by rw[Array.mem_singleton]at hx;rw[hx];exact c⟩,a⟩⟩
 intro n;induction n with
 |zero=>exact λh=>one h
 |succ n f=>
  intro g w h;rcases h with h|⟨b,c⟩
  ·exact Rh (one h) (n+1)
  ·refine aE ⟨b,λw₁ r=>?_⟩;have:=c w₁ r;revert this;cases stepG P aq g w₁<;>simp only[HV]<;>first|exact id|exact λ⟨a,d⟩=>⟨⟨a.1,by rw[a.2];simp⟩,f d⟩
end
section
variable {L:WgLink} {Wg:Nat} {O:Nat->Prop} {c₀:aV} {cs:aB aV} {Fin:bM->az->Prop}
def Xr{P}(H:WgLib P L)(c:∀w,WgLive L.tWg Wg w->Fin (G (c₀.finish (.tuple #[])) cs) w)(w)(hK:WgLive L.tWg Wg w):
  Goes P aq (Rel L.tWg Wg O) (DZ Wg) (ZA1 P L.tWg Wg O Fin) 100 (G ((base L.add).at ⟨#[aR Wg,an 1,au,au,au,au,au,au,au,au,au,au,au,au,au,au,au,au,au,au,au,au,au,au,au,au,au,au,au,au,au,au,au,au,au,au,au,au,au,au,au,au,au,au,au,au,au,au,au,au,au,au,au,au,au,au,au,au,au,au,au,au,au,au,au,au,au,au,au,au,au,au,au,au,au,au,au,au,au,au,au,au,au,au,au,au,au,au,au,au,au,au,au,au,au,au,au,au,au,au,au,au,au,au,au,au,au,au,au,au,au,au,au,au,au,au,au],[]⟩ [.code (body_add L)]) (c₀::cs)) w:=by
 lib_facts
 simp only[body_add,addFn,mY];refine jV ?_;u_c cg lr hK;u_cond aq lr hK;u_c cg lr hK;u_c cg lr hK;u_reg lr hK;u_op lr hK;u_op lr hK;u_c cJ lr hK;u_cond av lr hK;u_c mB lr hK;u_c cg lr hK;u_reg lr hK;refine Goes.stop (λ_ hr=>?_);replace hK:=lr hK hr;clear hr;refine⟨rfl,_,Ei .disable aC rfl rfl (by k_ne) rfl H.f_disable (OF L) (OD L) (OG L) (OE L),100,?_⟩;refine jV ?_
 walk_nrm
 u_c cJ lr hK;u_reg lr hK;u_defer lr hK;u_c cJ lr hK;u_c cg lr hK;u_reg lr hK;u_op lr hK;u_c cJ lr hK;u_c cg lr hK;u_c cg lr hK;u_reg lr hK;u_bub lr hK;u_c cJ lr hK;u_cond av lr hK;u_c mB lr hK;u_c cg lr hK;u_reg lr hK;u_op lr hK;u_op lr hK;u_op lr hK;u_op lr hK;u_op lr hK;u_op lr hK;u_call H.f_uAdd (nm_uAdd L) uAddFn lr hK;u_c cg lr hK;u_reg lr hK;u_op lr hK;u_c cJ lr hK;u_c cg lr hK;u_reg lr hK;u_op lr hK;u_op lr hK;u_op lr hK;u_op lr hK;refine Goes.stop (λ_ hr=>?_);replace hK:=lr hK hr;clear hr;refine⟨rfl,λv hv hw=>?_⟩;rcases mV v with rfl|hvp
 ·replace hw:=show WgAt L.tWg Wg _ 0 0 from by simpa using hw
  have z:(((0:Nat):Int)+1) *KK=KK:=aC;rw[z];have d:NH.wrap (0+4294967296)=KK:=bL;refine⟨_,(xa rfl rfl (by k_ne) rfl H.f_addU64 (x_addU64_n L) (x_addU64_b L) (x_addU64_x L) .u64 (x_addU64_f L) rfl rfl hw.cellSt (hw.thaw 0)).trans (by rw[d];rfl),120,?_⟩
  replace hK:WgLive L.tWg Wg (fY _ (stA Wg) (.int .u64 KK)):=⟨_,_,hw.setSt _⟩
  clear hw;simp only[KK]at hK⊢;refine Ri (n:=70) (m:=49) (λ_=>⟨λ_ _=>rfl,bD _,id,rfl⟩) ?_
  walk_nrm
  u_op lr hK;u_c cJ lr hK;u_c qd lr hK;u_leave1 H.f_uAdd lr hK;u_op lr hK;u_c cJ lr hK;u_c cg lr hK;u_c cg lr hK;u_reg lr hK;u_op lr hK;u_op lr hK;u_op lr hK;u_op lr hK;u_skip lr hK;u_skip lr hK;u_op lr hK;u_c cJ lr hK;u_cond av lr hK;u_c mB lr hK;u_c cg lr hK;u_reg lr hK;u_op lr hK;u_op lr hK;u_op lr hK;u_op lr hK;u_c cJ lr hK;u_c cg lr hK;u_reg lr hK;u_op lr hK;u_op lr hK;u_op lr hK;u_op lr hK;u_c cJ lr hK;u_c cg lr hK;u_c cg lr hK;u_reg lr hK;u_op lr hK;u_op lr hK;u_op lr hK;u_op lr hK;u_op lr hK;u_op lr hK;u_op lr hK;u_op lr hK;u_op lr hK;u_op lr hK;u_c cJ lr hK;u_cond aq lr hK;u_reg lr hK;u_op lr hK;u_op lr hK;u_op lr hK
  u_conv H.underlying_tPU32 H.room_tU32 (WgLive.cell1 hK).choose_spec lr hK
  refine Goes.stop (λ_ hr=>?_);replace hK:=lr hK hr;clear hr;refine⟨rfl,_,_,Ej .read aC rfl rfl (by k_ne) rfl H.f_raceRead (x_raceRead_n L) (x_raceRead_b L) (x_raceRead_x L) (x_raceRead_f L) (ad:=aj Wg 1) (by simp[Act.eval]),aF rfl,?_⟩;refine jV ?_
  walk_nrm
  u_c cJ lr hK;u_c cg lr hK;u_c cg lr hK;u_reg lr hK;u_op lr hK;u_op lr hK;u_c cJ lr hK;u_cond av lr hK;u_c mB lr hK;u_c cg lr hK;u_c cg lr hK;u_reg lr hK;u_op lr hK;u_op lr hK;u_op lr hK;u_skip lr hK;u_skip lr hK;u_op lr hK;u_op lr hK;u_skip lr hK;u_skip lr hK;u_skip lr hK;u_skip lr hK;u_op lr hK;u_c cJ lr hK;u_cond av lr hK;u_c mB lr hK;u_c cg lr hK;u_c cg lr hK;u_reg lr hK;u_op lr hK;u_op lr hK;u_op lr hK;u_skip lr hK;u_skip lr hK;u_op lr hK;u_c cJ lr hK;u_cond aq lr hK;u_c qd lr hK;refine Goes.stop (λ_ hr=>?_);replace hK:=lr hK hr;clear hr;refine⟨rfl,_,Xd (v:=.tuple #[]) (evs:=#[mk .enable]) rfl H.f_enable (Ji L) (Jg L) (Jj L) (Jh L) (by simp[VK]) (by simp[mk]) (by simp[mk]),2,?_⟩;refine jV ?_
  u_in lr hK
  rw[OA rfl rfl H.f_add (results_none rfl _ P _) (IV rfl _ _)];simp only[goes_go];refine⟨by u_nil,?_⟩;exact Goes.stop λw₁ r=>c _ (lr hK r)
 ·obtain⟨V,a⟩:∃V:Int,V=(v:Int)+1:=⟨_,rfl⟩;obtain⟨S,hS⟩:∃S:Int,S=V*KK:=⟨_,rfl⟩;have b:NH.wrap ((v:Int) *KK+4294967296)=S:=by rw[We,hS,a];simp only[KK];omega
  rw[<-a,<-hS];have a1:S / 4294967296=V:=by rw[hS];simp only[KK];omega
  have b1:bits .and .u64 S 2147483648=0:=by rw[hS,a];have:=st_flag (v+1) 0 ak ak;simpa[KK]using this
  have e:bits .and .u64 S 2147483647=0:=by rw[hS,a];have:=st_waiters (v+1) 0 ak ak;simpa[KK]using this
  have f:Wc.wrap V=V:=by rw[Wd];omega
  have g:1<V:=ak;have h:V<2147483648:=ak;have i:(V==1)=av:=cq;have j:decide (V=1)=av:=iB ak;have k:decide (V<0)=av:=iB ak;have l:decide (0<V)=aq:=iC ak;have o:(V==0)=av:=cq;have p:decide (V=0)=av:=iB ak;refine⟨_,(xa rfl rfl (by k_ne) rfl H.f_addU64 (x_addU64_n L) (x_addU64_b L) (x_addU64_x L) .u64 (x_addU64_f L) rfl rfl hw.cellSt (hw.thaw 0)).trans (by rw[b];rfl),120,?_⟩
  replace hK:WgLive L.tWg Wg (fY _ (stA Wg) (.int .u64 S)):=⟨_,_,hw.setSt _⟩
  clear hw hS a b;refine jV ?_
  walk_nrm
  u_op lr hK;u_c cJ lr hK;u_c qd lr hK;u_leave1 H.f_uAdd lr hK;u_op lr hK;u_c cJ lr hK;u_c cg lr hK;u_c cg lr hK;u_reg lr hK;u_op lr hK;u_op lr hK;u_op lr hK;u_op lr hK;u_skip lr hK;u_skip lr hK;u_op lr hK;u_c cJ lr hK;u_cond av lr hK;u_c mB lr hK;u_c cg lr hK;u_reg lr hK;u_op lr hK;u_op lr hK;u_op lr hK;u_op lr hK;u_c cJ lr hK;u_c cg lr hK;u_reg lr hK;u_op lr hK;u_op lr hK;u_op lr hK;u_op lr hK;u_c cJ lr hK;u_c cg lr hK;u_c cg lr hK;u_reg lr hK;u_op lr hK;u_op lr hK;u_op lr hK;u_op lr hK;u_op lr hK;u_op lr hK;u_op lr hK;u_op lr hK;u_op lr hK;u_op lr hK;u_c cJ lr hK;u_cond av lr hK;u_c mB lr hK;u_c cg lr hK;u_c cg lr hK;u_reg lr hK;u_op lr hK;u_op lr hK;u_c cJ lr hK;u_cond av lr hK;u_c mB lr hK;u_c cg lr hK;u_c cg lr hK;u_reg lr hK;u_op lr hK;u_op lr hK;u_op lr hK;u_skip lr hK;u_skip lr hK;u_op lr hK;u_op lr hK;u_skip lr hK;u_skip lr hK;u_skip lr hK;u_skip lr hK;u_op lr hK;u_c cJ lr hK;u_cond av lr hK;u_c mB lr hK;u_c cg lr hK;u_c cg lr hK;u_reg lr hK;u_op lr hK;u_op lr hK;u_op lr hK;u_skip lr hK;u_skip lr hK;u_op lr hK;u_c cJ lr hK;u_cond aq lr hK;u_c qd lr hK;refine Goes.stop (λ_ hr=>?_);replace hK:=lr hK hr;clear hr;refine⟨rfl,_,Xd (v:=.tuple #[]) (evs:=#[mk .enable]) rfl H.f_enable (Ji L) (Jg L) (Jj L) (Jh L) (by simp[VK]) (by simp[mk]) (by simp[mk]),2,?_⟩;refine jV ?_
  u_in lr hK
  rw[OA rfl rfl H.f_add (results_none rfl _ P _) (IV rfl _ _)];simp only[goes_go];refine⟨by u_nil,?_⟩;exact Goes.stop λw₁ r=>c _ (lr hK r)
end
section
variable (P:aY) (ty:aQ) (Wg:Nat) (O:Nat->Prop)
def ZR2(g:bM)(w:az):Prop:=g.status=.running/\∃g',stepG P av g w=.go g' w #[mk .disable]
def ZR1(g:bM)(w:az):Prop:=g.status=.running/\∃g',stepG P av g w=.go g' w #[mk (.releaseMerge (stA Wg))]/\∃m,Goes P av (Rel ty Wg O) DC0 (ZR2 P) m g' w
end
section
variable {L:WgLink} {Wg:Nat} {O:Nat->Prop} {c:aV} {cs:aB aV}
def Zl{P}(H:WgLib P L)(w)(hK:WgLive L.tWg Wg w):
  Goes P av (Rel L.tWg Wg O) DC0 (ZR1 P L.tWg Wg O) 60 (G ((Ai L.done).at ⟨#[aR Wg,au,au,au],[]⟩ [.code (IQ L)]) (c::cs)) w:=by
 lib_facts
 simp only[IQ,doneFn,mY];u_reg lr hK;u_op lr hK
 u_in lr hK
 refine goes_call rfl rfl (by k_ne) rfl H.f_add (nm_add L) rfl ⟨by u_nil,?_⟩
 walk_nrmf addFn
 u_c cg lr hK;u_cond aq lr hK;u_c cg lr hK;u_c cg lr hK;u_reg lr hK;u_op lr hK;u_op lr hK;u_c cJ lr hK;u_cond aq lr hK;u_reg lr hK;u_op lr hK
 u_conv H.underlying_tWgP H.room_tWg (WgLive.cell0 hK).choose_spec lr hK
 refine Goes.stop (λ_ hr=>?_);replace hK:=lr hK hr;clear hr;refine⟨rfl,_,Ej .releaseMerge aC rfl rfl (by k_ne) rfl H.f_relMerge (x_relMerge_n L) (x_relMerge_b L) (x_relMerge_x L) (x_relMerge_f L) (by simp[Act.eval,stA]),40,?_⟩
 walk_nrm
 u_c cJ lr hK;u_c cg lr hK;u_reg lr hK;refine Goes.stop (λ_ hr=>?_);replace hK:=lr hK hr;clear hr;exact⟨rfl,_,Ei .disable aC rfl rfl (by k_ne) rfl H.f_disable (OF L) (OD L) (OG L) (OE L)⟩
end
section
variable (P:aY) (ty:aQ) (Wg:Nat) (O:Nat->Prop) (Fin Anch:bM->az->Prop)
def ZAq(g:bM)(w:az):Prop:=g.status=.running/\∃g',stepG P aq g w=.go g' w #[mk (.acquire (stA Wg))]/\∃m,Goes P aq (Rel ty Wg O) (DZ Wg) Fin m g' w
def ZEn(g:bM)(w:az):Prop:=g.status=.running/\∃g',stepG P aq g w=.go g' w #[mk .enable]/\∃m,Goes P aq (Rel ty Wg O) (DZ Wg) (ZAq P ty Wg O Fin) m g' w
def ZW4(g:bM)(w:az):Prop:=g.status=.running/\(WgAt ty Wg w 0 0->∃g',stepG P aq g w=.go g' w #[rd (stA Wg)]/\∃m,Goes P aq (Rel ty Wg O) (DZ Wg) (ZEn P ty Wg O Fin) m g' w)
def ZW3(g:bM)(w:az):Prop:=g.status=.running/\g.offers=ay/\
 ((∃st,WgAt ty Wg w st 0)->stepG P aq g w=.go {g with status:=.blocked} w #[])/\
 (WgAt ty Wg w 0 1->∃g',stepG P aq g w=.go g' (w.setCell (smA Wg) (.int .u32 0)) (semEvents (smA Wg))/\∃m,Goes P aq (Rel ty Wg O) (DZ Wg) (ZW4 P ty Wg O Fin) m g' (w.setCell (smA Wg) (.int .u32 0)))
def ZW2(vs:Nat)(g:bM)(w:az):Prop:=g.status=.running/\∀v:Nat,v<2147483648->WgAt ty Wg w (v*KK) 0->
 (v=vs->∃g',stepG P aq g w=.go g' (w.setCell (stA Wg) (.int .u64 (v*KK+1))) #[rd (stA Wg),wr (stA Wg)]/\∃m,Goes P aq (Rel ty Wg O) (DZ Wg) (ZW3 P ty Wg O Fin) m g' (w.setCell (stA Wg) (.int .u64 (v*KK+1))))/\
 (v≠vs->∃g',stepG P aq g w=.go g' w #[rd (stA Wg)]/\∃m,Goes P aq (Rel ty Wg O) (DZ Wg) Anch m g' w)
def ZW1(g:bM)(w:az):Prop:=g.status=.running/\∀v:Nat,v<2147483648->WgAt ty Wg w (v*KK) 0->∃g',stepG P aq g w=.go g' w #[rd (stA Wg)]/\
 (v=0->∃m,Goes P aq (Rel ty Wg O) (DZ Wg) (ZEn P ty Wg O Fin) m g' w)/\(v≠0->∃m,Goes P aq (Rel ty Wg O) (DZ Wg) (ZW2 P ty Wg O Fin Anch v) m g' w)
def ZDi(g:bM)(w:az):Prop:=g.status=.running/\∃g',stepG P aq g w=.go g' w #[mk .disable]/\∃m,Goes P aq (Rel ty Wg O) (DZ Wg) Anch m g' w
end
def Jq(L:WgLink)(Wg:Nat)(c:aV)(cs:aB aV)(g:bM)(w:az):Prop:=
 ∃T:aJ aD,g=G ((base L.wait).at ⟨T,[]⟩ [.code (L7 L),.inLoop (L7 L),.inBlock 0]) (c::cs)/\T.size=84/\T[0]? =aa (aR Wg)/\WgLive L.tWg Wg w
section
variable {L:WgLink} {Wg:Nat} {O:Nat->Prop} {b₀:aV} {a₀:Act} {ops₀:aJ dK} {i₀:Nat} {rest₀:aB Nat} {k₀:aB fW} {cs:aB aV} {Fin:bM->az->Prop}
def agD{P}(H:WgLib P L)(w)(hK:WgLive L.tWg Wg w):
  Goes P aq (Rel L.tWg Wg O) (DZ Wg) (ZDi P L.tWg Wg O (Jq L Wg (b₀.at a₀ (.inRegion ops₀ (i₀::rest₀)::k₀)) cs)) 40 (G ((base L.wait).at ⟨#[aR Wg,au,au,au,au,au,au,au,au,au,au,au,au,au,au,au,au,au,au,au,au,au,au,au,au,au,au,au,au,au,au,au,au,au,au,au,au,au,au,au,au,au,au,au,au,au,au,au,au,au,au,au,au,au,au,au,au,au,au,au,au,au,au,au,au,au,au,au,au,au,au,au,au,au,au,au,au,au,au,au,au,au,au,au],[]⟩ [.code (HL L)]) (b₀.at a₀ (.inRegion ops₀ (i₀::rest₀)::k₀)::cs)) w:=by
 lib_facts
 simp only[HL,waitFn,mY];refine jV ?_;u_c cg lr hK;u_cond aq lr hK;u_reg lr hK;refine Goes.stop (λ_ hr=>?_);replace hK:=lr hK hr;clear hr;refine⟨rfl,_,Ei .disable aC rfl rfl (by k_ne) rfl H.f_disable (OF L) (OD L) (OG L) (OE L),40,?_⟩;refine jV ?_
 walk_nrm
 u_c cJ lr hK;u_c Ja lr hK;u_c BX lr hK;exact Goes.stop λa r=>⟨_,rfl,aC,aC,lr hK r⟩
def agF{P}(H:WgLib P L)(a:∀w,WgLive L.tWg Wg w->Fin (G (b₀.at (a₀.put ((ops₀[i₀]?).bind (·.dst)) (.tuple #[])) (.inRegion ops₀ rest₀::k₀)) cs) w)(g w)(h:Jq L Wg (b₀.at a₀ (.inRegion ops₀ (i₀::rest₀)::k₀)) cs g w):
  ∃m,Goes P aq (Rel L.tWg Wg O) (DZ Wg) (ZW1 P L.tWg Wg O Fin (Jq L Wg (b₀.at a₀ (.inRegion ops₀ (i₀::rest₀)::k₀)) cs)) m g w:=by
 lib_facts
 obtain⟨T,rfl,b,t0,hK⟩:=h;obtain⟨l,o,C,U,v4,v5,v6,v7,v8,v9,p,q,s,t,u,x,y,z,A,B,D,E,F,I,J,K,M,N,Q,R,V,W,X,Y,Z,af,ah,an,aG,aH,aL,aN,aO,aP,aR,aS,aT,aU,aX,bf,bh,bk,bl,bn,bp,bt,bu,bw,bz,bA,bE,bF,bG,bH,bI,bJ,bK,bL,bN,bO,bQ,bR,bS,bT,bU,bV,bW,bX,bY,b7,b9,cj,ck,cm,rfl⟩:=array84 T b;simp at t0;subst t0;refine⟨60,?_⟩;simp only[L7,HL,waitFn,mY];refine jV ?_;u_c Ja lr hK;u_c cg lr hK;u_reg lr hK;u_op lr hK;u_op lr hK;u_op lr hK;u_call H.f_uLoad (nm_uLoad L) uLoadFn lr hK;u_c cg lr hK;u_reg lr hK;u_op lr hK;u_c cJ lr hK;u_c cg lr hK;u_reg lr hK;u_op lr hK;u_op lr hK;u_op lr hK;refine Goes.stop (λ_ hr=>?_);replace hK:=lr hK hr;clear hr;refine⟨rfl,λv hv hw=>?_⟩;rcases mV v with rfl|hvp
 ·replace hw:=show WgAt L.tWg Wg _ 0 0 from by simpa using hw
  refine⟨_,OB (v:=0) rfl rfl (by k_ne) rfl H.f_loadU64 (OJ L) (OH L) (OK L) .u64 (OI L) rfl hw.cellSt,λ_=>⟨60,?_⟩,λh=>absurd rfl h⟩;clear hw;refine jV ?_
  walk_nrm
  u_op lr hK;u_c cJ lr hK;u_c qd lr hK;u_leave1 H.f_uLoad lr hK;u_op lr hK;u_c cJ lr hK;u_c cg lr hK;u_reg lr hK;u_op lr hK;u_op lr hK;u_op lr hK;u_op lr hK;u_c cJ lr hK;u_c cg lr hK;u_reg lr hK;u_op lr hK;u_op lr hK;u_op lr hK;u_op lr hK;u_c cJ lr hK;u_c cg lr hK;u_c cg lr hK;u_reg lr hK;u_op lr hK;u_op lr hK;u_c cJ lr hK;u_cond aq lr hK;u_c cg lr hK;u_cond aq lr hK;u_c cg lr hK;u_reg lr hK;refine Goes.stop (λ_ hr=>?_);replace hK:=lr hK hr;clear hr;refine⟨rfl,_,Ei .enable aC rfl rfl (by k_ne) rfl H.f_enable (Ji L) (Jg L) (Jj L) (Jh L),40,?_⟩;refine jV ?_
  walk_nrm
  u_c cJ lr hK;u_reg lr hK;u_op lr hK
  u_conv H.underlying_tWgP H.room_tWg (WgLive.cell0 hK).choose_spec lr hK
  refine Goes.stop (λ_ hr=>?_);replace hK:=lr hK hr;clear hr;refine⟨rfl,_,Ej .acquire aC rfl rfl (by k_ne) rfl H.f_acquire (x_acquire_n L) (x_acquire_b L) (x_acquire_x L) (x_acquire_f L) (by simp[Act.eval,stA]),40,?_⟩;refine jV ?_
  walk_nrm
  u_c cJ lr hK;u_c cg lr hK;u_c cg lr hK;u_reg lr hK;u_op lr hK;u_op lr hK;u_op lr hK;u_op lr hK;u_op lr hK;u_op lr hK;u_op lr hK;u_op lr hK;u_skip lr hK;u_skip lr hK;u_op lr hK;u_c cJ lr hK;u_cond av lr hK;u_c mB lr hK;u_c qd lr hK
  u_leave0 H.f_wait lr hK
  exact Goes.stop λw₁ r=>a _ (lr hK r)
 ·obtain⟨S,hS⟩:∃S:Int,(v:Int) *KK=S:=⟨_,rfl⟩;have a1:S / 4294967296=(v:Int):=by rw[<-hS];simp only[KK];omega
  have b1:bits .and .u64 S 2147483648=0:=by rw[<-hS];have:=st_flag v 0 ak ak;simpa[KK]using this
  have c:bits .and .u64 S 2147483647=0:=by rw[<-hS];have:=st_waiters v 0 ak ak;simpa[KK]using this
  have d:Wc.wrap (v:Int)=(v:Int):=by rw[Wd];omega
  have w1:NH.wrap (S+1)=S+1:=by rw[We,<-hS];simp only[KK];omega
  have f:decide ((v:Int)<0)=av:=iB ak;have i:decide (0<(v:Int))=aq:=iC ak;have j:((v:Int)==0)=av:=cq;have k:decide ((v:Int)=0)=av:=iB ak;rw[hS]at hw;refine⟨_,OB (v:=S) rfl rfl (by k_ne) rfl H.f_loadU64 (OJ L) (OH L) (OK L) .u64 (OI L) rfl hw.cellSt,λh0=>absurd h0 ak,λ_=>⟨100,?_⟩⟩;clear hw;refine jV ?_
  walk_nrm
  u_op lr hK;u_c cJ lr hK;u_c qd lr hK;u_leave1 H.f_uLoad lr hK;u_op lr hK;u_c cJ lr hK;u_c cg lr hK;u_reg lr hK;u_op lr hK;u_op lr hK;u_op lr hK;u_op lr hK;u_c cJ lr hK;u_c cg lr hK;u_reg lr hK;u_op lr hK;u_op lr hK;u_op lr hK;u_op lr hK;u_c cJ lr hK;u_c cg lr hK;u_c cg lr hK;u_reg lr hK;u_op lr hK;u_op lr hK;u_c cJ lr hK;u_cond av lr hK;u_c mB lr hK;u_c cg lr hK;u_reg lr hK;u_op lr hK;u_op lr hK;u_op lr hK;u_op lr hK;u_op lr hK;u_op lr hK;u_call H.f_uCas (nm_uCas L) uCasFn lr hK;u_c cg lr hK;u_reg lr hK;u_op lr hK;u_c cJ lr hK;u_c cg lr hK;u_reg lr hK;u_op lr hK;u_op lr hK;u_op lr hK;u_op lr hK;u_op lr hK;refine Goes.stop (λ_ hr=>?_);replace hK:=lr hK hr;clear hr;refine⟨rfl,λv' hv' hw=>⟨λe=>?_,λe=>?_⟩⟩
  ·subst e;rw[hS]at hw⊢;refine⟨_,(stepG_cas_hit (v:=S) (n:=S+1) rfl rfl (by k_ne) rfl H.f_casU64 (x_casU64_n L) (x_casU64_b L) (x_casU64_x L) .u64 (x_casU64_f L) rfl rfl rfl hw.cellSt (hw.thaw 0)).trans (by rfl),100,?_⟩
   replace hK:WgLive L.tWg Wg (fY _ (stA Wg) (.int .u64 (S+1))):=⟨_,_,hw.setSt _⟩
   clear hw;refine Ri (n:=50) (m:=49) (λ_=>⟨λ_ _=>rfl,bD _,id,rfl⟩) ?_
   walk_nrm
   u_op lr hK;u_c cJ lr hK;u_c qd lr hK;u_leave1 H.f_uCas lr hK;u_c cJ lr hK;u_cond aq lr hK;u_c cg lr hK;u_c cg lr hK;u_reg lr hK;u_op lr hK;u_op lr hK;u_op lr hK;u_op lr hK;u_c cJ lr hK;u_cond aq lr hK;u_reg lr hK;u_op lr hK;u_op lr hK;u_op lr hK
   u_conv H.underlying_tPU32 H.room_tU32 (WgLive.cell1 hK).choose_spec lr hK
   refine Goes.stop (λ_ hr=>?_);replace hK:=lr hK hr;clear hr;refine⟨rfl,_,_,Ej .write aC rfl rfl (by k_ne) rfl H.f_raceWrite (x_raceWrite_n L) (x_raceWrite_b L) (x_raceWrite_x L) (x_raceWrite_f L) (ad:=aj _ 1) (by simp[Act.eval]<;>rfl),aE rfl,?_⟩;refine jV ?_
   walk_nrm
   u_c cJ lr hK;u_c cg lr hK;u_reg lr hK;u_op lr hK;u_c cJ lr hK;u_c cg lr hK;u_c cg lr hK;u_reg lr hK;u_op lr hK;u_op lr hK;u_op lr hK;u_op lr hK;u_skip lr hK;u_op lr hK;u_c cJ lr hK;u_cond av lr hK;u_c mB lr hK;u_c cg lr hK;u_reg lr hK;u_op lr hK;u_op lr hK;u_op lr hK;u_op lr hK;refine Goes.stop (λ_ hr=>?_);replace hK:=lr hK hr;clear hr;refine⟨rfl,rfl,λ⟨st,hw⟩=>stepG_semacquire_wait rfl rfl rfl H.f_semacquire (x_semacquire_n L) (x_semacquire_b L) (x_semacquire_x L) (x_semacquire_f L) (by simp[Act.eval,smA]) hw.cellSm,λhf=>?_⟩;refine⟨_,(stepG_semacquire (n:=1) rfl rfl (by k_ne) rfl H.f_semacquire (x_semacquire_n L) (x_semacquire_b L) (x_semacquire_x L) (x_semacquire_f L) (by simp[Act.eval,smA]) hf.cellSm (by k_ne) (hf.thaw 1)).trans (by rfl),60,?_⟩
   replace hK:WgLive L.tWg Wg (fY _ (smA Wg) (.int .u32 0)):=⟨_,_,hf.setSm 0⟩
   clear hf;refine jV ?_
   walk_nrm
   u_c cJ lr hK;u_c cg lr hK;u_reg lr hK;u_op lr hK;u_op lr hK;u_op lr hK;u_call H.f_uLoad (nm_uLoad L) uLoadFn lr hK;u_c cg lr hK;u_reg lr hK;u_op lr hK;u_c cJ lr hK;u_c cg lr hK;u_reg lr hK;u_op lr hK;u_op lr hK;u_op lr hK;refine Goes.stop (λ_ hr=>?_);replace hK:=lr hK hr;clear hr;refine⟨rfl,λhw=>⟨_,OB (v:=0) rfl rfl (by k_ne) rfl H.f_loadU64 (OJ L) (OH L) (OK L) .u64 (OI L) rfl hw.cellSt,60,?_⟩⟩;clear hw;refine jV ?_
   walk_nrm
   u_op lr hK;u_c cJ lr hK;u_c qd lr hK;u_leave1 H.f_uLoad lr hK;u_op lr hK;u_op lr hK;u_c cJ lr hK;u_c cg lr hK;u_cond aq lr hK;u_c cg lr hK;u_reg lr hK;refine Goes.stop (λ_ hr=>?_);replace hK:=lr hK hr;clear hr;refine⟨rfl,_,Ei .enable aC rfl rfl (by k_ne) rfl H.f_enable (Ji L) (Jg L) (Jj L) (Jh L),40,?_⟩;refine jV ?_
   walk_nrm
   u_c cJ lr hK;u_reg lr hK;u_op lr hK
   u_conv H.underlying_tWgP H.room_tWg (WgLive.cell0 hK).choose_spec lr hK
   refine Goes.stop (λ_ hr=>?_);replace hK:=lr hK hr;clear hr;refine⟨rfl,_,Ej .acquire aC rfl rfl (by k_ne) rfl H.f_acquire (x_acquire_n L) (x_acquire_b L) (x_acquire_x L) (x_acquire_f L) (by simp[Act.eval,stA]),40,?_⟩;refine jV ?_
   walk_nrm
   u_c cJ lr hK;u_c cg lr hK;u_c cg lr hK;u_reg lr hK;u_op lr hK;u_c cJ lr hK;u_cond av lr hK;u_c mB lr hK;u_c qd lr hK
   u_leave0 H.f_wait lr hK
   exact Goes.stop λw₁ r=>a _ (lr hK r)
  ·refine⟨_,stepG_cas_miss (v:=(v':Int) *KK) (old:=S) (n:=S+1) rfl rfl (by k_ne) rfl H.f_casU64 (x_casU64_n L) (x_casU64_b L) (x_casU64_x L) .u64 (x_casU64_f L) rfl rfl rfl hw.cellSt (hw.thaw 0) (by rw[<-hS];simp only[KK];omega),40,?_⟩;clear hw;refine jV ?_
   walk_nrm
   u_op lr hK;u_c cJ lr hK;u_c qd lr hK;u_leave1 H.f_uCas lr hK;u_c cJ lr hK;u_cond av lr hK;u_c mB lr hK;u_c Oy lr hK;u_c Oz lr hK;exact Goes.stop λw₁ r=>⟨_,rfl,aC,aC,lr hK r⟩
end
end
section
open Go.Conc
open Go.ConcN (ShN fork_knows Deaf_absent RelBy)
open Go.ConcR (stA)
def lS(b:Nat)(l:Loc):Prop:=(∃a:bZ,l=.cell a/\a.block=b)\/l=.obj b
def lS.one{b b' l}(h:lS b l)(k:lS b' l):b=b':=by rcases h with⟨a,rfl,rfl⟩|rfl<;>rcases k with⟨c,e,rfl⟩|e<;>cases e<;>rfl
def lS.low{b B l}(h:lS b l)(c:l.low B):b<B:=by rcases h with⟨a,rfl,rfl⟩|rfl<;>exact c
def lS.memory{b l}(h:lS b l):l.isMemory=aq:=by rcases h with⟨a,rfl,_⟩|rfl<;>rfl
def lS.sh{b Wg l}(h:lS b l)(c:ShN Wg l):b=Wg:=by obtain⟨a,rfl,rfl⟩:=c;rcases h with⟨d,e,rfl⟩|e<;>cases e;rfl
def UP{x:sn}{B:Nat}{t:Touch}(h:x.low B)(a:x.touch?=aa t):t.loc.low B:=by
 cases x with
 |access e=>cases a;exact h
 |mark m=>cases m<;>first|(cases a;exact h)|cases a
 |_=>cases a
def Jp(Wg:Nat)(O:Nat->Prop)(k:Nat)(x:Touch):Prop:=(∃b,O b/\lS b x.loc)\/x.loc.isMemory=av\/(ShN Wg x.loc/\x.kind≠.plain/\(x.kind=.said->k=0))
def iF.cI{Wg O B a}(h:iF Wg O B a)(k){x}(g:a.touch?=aa x):Jp Wg O k x:=by
 rcases h.touch x g with⟨b,e,c⟩|⟨r,e,c⟩|e|⟨b,e,f,d⟩
 ·exact aF ⟨_,c,aF ⟨b,e,rfl⟩⟩
 ·exact aF ⟨r,c,aE e⟩
 ·exact aE (aF (by rw[e];rfl))
 ·exact aE (aE ⟨⟨b,e,f⟩,by rw[d];simp,by rw[d];simp⟩)
def lK(Ow:Nat->Nat->Prop)(k:Nat)(O:Nat->Prop):Nat->Nat->Prop:=λa b=>(a=k/\O b)\/(a≠k/\Ow a b)
structure TC(Wg:Nat)(Ow:Nat->Nat->Prop)(B:Nat)(t:fQ):Prop where
 quiet:Quiet (ShN Wg) t
 own:∀k b,Ow k b->∀l,lS b l->Perm t k l
 one:∀k a b,Ow k b->Ow a b->k=a
 wg:∀k,¬Ow k Wg
 lt:∀k b,Ow k b->b<B
 qH:Wg<B
 nr:∀said,¬Race said t
 low:∀op∈t,op.act.low B
section
variable {Wg:Nat} {Ow:Nat->Nat->Prop} {B:Nat} {t u:fQ}
def TC.fresh(h:TC Wg Ow B t){b:Nat}(j:B<=b)(k){l:Loc}(d:lS b l):Perm t k l:=λi a c e=>by obtain⟨z,f,g⟩:=touch_of c;have:=UP (h.low z (mw f)) g;rw[e]at this;have:=d.low this;omega
def TC.app(h:TC Wg Ow B t){k O B'}(s:B<=B')(q:∀b,O b->Ow k b\/B<=b)(E:∀b,O b->b<B')(m:∀op∈u,op.g=k/\(∀x,op.act.touch?=aa x->Jp Wg O k x)/\op.act.low B'):TC Wg (lK Ow k O) B' (t++u):=by
 have z:¬O Wg:=λf=>(q _ f).elim (h.wg k) λc=>by have:=h.qH;omega
 have C:∀b,O b->∀l,lS b l->Perm t k l:=λb c l j=>(q b c).elim (λf=>h.own k b f l j) λv=>h.fresh v k j;refine⟨h.quiet.app λop hop x p o=>?_,λn b c l j=>?_,λJ K b h1 d=>?_,λn D=>?_,λn b c=>?_,dI h.qH s,λH=>?_,λop hop=>?_⟩
 ·rcases(m op hop).2.1 x p with⟨b,f,c⟩|hm|⟨_,h1,d⟩
  ·exact absurd (c.sh o▸f) z
  ·obtain⟨a,e,_⟩:=o;rw[e]at hm;cases hm
  ·exact⟨h1,λe=>(m op hop).1.trans (d e)⟩
 ·rcases c with⟨rfl,c⟩|⟨w,c⟩
  ·exact(C b c l j).app λop hop _ _ _=>(m op hop).1
  ·refine(h.own n b c l j).app λop hop x p e=>?_;exfalso;rcases(m op hop).2.1 x p with⟨I,f,v⟩|hm|⟨o,_⟩
   ·obtain rfl:=lS.one (e▸v) j;rcases q _ f with h1|h1
    ·exact w (h.one _ _ _ c h1)
    ·have:=h.lt _ _ c;omega
   ·rw[e,j.memory]at hm;cases hm
   ·obtain rfl:=lS.sh j (e▸o);exact h.wg _ c
 ·have cO:∀n,n≠k->Ow n b->O b->False:=λn w h1 d=>(q b d).elim (λy=>w (h.one _ _ _ h1 y)) λy=>by have:=h.lt _ _ h1;omega
  rcases h1 with⟨rfl,h1⟩|⟨F,h1⟩<;>rcases d with⟨rfl,d⟩|⟨G,d⟩
  ·rfl
  ·exact(cO _ G d h1).elim
  ·exact(cO _ F h1 d).elim
  ·exact h.one _ _ _ h1 d
 ·rcases D with⟨_,h1⟩|⟨_,h1⟩
  ·exact z h1
  ·exact h.wg _ h1
 ·rcases c with⟨_,h1⟩|⟨_,h1⟩
  ·exact E b h1
  ·exact dI (h.lt _ _ h1) s
 ·refine IW (g:=k) (h.nr H) (λop hop=>(m op hop).1) λi a A op hop x p r=>?_;rcases(m op hop).2.1 x p with⟨b,f,c⟩|hm|⟨o,h1,d⟩
  ·exact C b f x.loc c i a A r.1
  ·have:=r.2.1;rw[r.1,hm]at this;cases this
  ·exact h.quiet.known o h1 d i a A r
 ·rcases uI.1 hop with hop|hop
  ·exact WA s (h.low op hop)
  ·exact(m op hop).2.2
def TC.fork(h:TC Wg Ow B t){c}(L:c≠0){A R}(r:∀b,A b->Ow 0 b)(hR:∀b,R b->Ow 0 b)(w:∀b,A b->¬R b)(hc:∀b,¬Ow c b){x y}(n:x.g=0/\x.act=.go c)(hy:y.g=c/\y.act=.start)(h0:Deaf t 0=0)(C:Deaf t c=0):
  TC Wg (lK (lK Ow 0 R) c A) B (t++#[x,y]):=by
 have m:∀op∈#[x,y],∀b,op.act.touch?=aa b->False:=by
  intro op hop b d;simp at hop;rcases hop with rfl|rfl
  ·rw[n.2]at d;cases d
  ·rw[hy.2]at d;cases d
 have old:∀{i:Nat} {a:Touch},touchAt (t++#[x,y]) i=aa a->touchAt t i=aa a:=by
  intro i a j;obtain⟨z,F,v⟩:=touch_of j;rcases getElem?_append_cases F with⟨_,G⟩|⟨_,H⟩
  ·rw[Bx G];exact v
  ·exact(m z H a v).elim
 have sub:∀k b,lK (lK Ow 0 R) c A k b->Ow k b\/(k=c/\Ow 0 b/\A b):=by
  rintro k b (⟨rfl,d⟩|⟨_,⟨rfl,d⟩|⟨_,d⟩⟩)
  ·exact aE ⟨rfl,r b d,d⟩
  ·exact aF (hR b d)
  ·exact aF d
 refine⟨h.quiet.app λop hop b d _=>(m op hop b d).elim,λk b d l s=>?_,λI J b f q=>?_,λk D=>?_,λk b d=>?_,h.qH,λK=>?_,λop hop=>?_⟩
 ·rcases sub k b d with f|⟨rfl,f,_⟩
  ·exact(h.own k b f l s).app λop hop b d _=>(m op hop b d).elim
  ·exact λi a j e=>fork_knows n hy h0 C (h.own 0 b f l s i a (old j) e)
 ·have key:∀k,lK (lK Ow 0 R) c A k b->A b->k=c:=by
   rintro k (⟨rfl,_⟩|⟨M,⟨rfl,d⟩|⟨E,d⟩⟩) j
   ·rfl
   ·exact absurd d (w b j)
   ·exact absurd (h.one _ _ _ d (r b j)) E
  rcases sub I b f with o|⟨rfl,_,o⟩<;>rcases sub J b q with p|⟨rfl,_,p⟩
  ·exact h.one _ _ _ o p
  ·exact key _ f p
  ·exact(key _ q o).symm
  ·rfl
 ·rcases sub k Wg D with f|⟨_,f,_⟩<;>exact h.wg _ f
 ·rcases sub k b d with f|⟨_,f,_⟩<;>exact h.lt _ _ f
 ·have e:t++#[x,y]=(t++#[x])++#[y]:=by apply Au;simp
  rw[e]
  refine IW (g:=c) (IW (g:=0) (h.nr K) (λop hop=>by simp at hop;rw[hop];exact n.1) (λi a _ op hop b d _=>(m op (by simp at hop⊢;exact aF hop) b d).elim))
   (λop hop=>by simp at hop;rw[hop];exact hy.1) (λi a _ op hop b d _=>(m op (by simp at hop⊢;exact aE hop) b d).elim)
 ·rcases uI.1 hop with hop|hop
  ·exact h.low op hop
  ·simp at hop;rcases hop with rfl|rfl
   ·rw[n.2];trivial
   ·rw[hy.2];trivial
def TC.mute(h:TC Wg Ow B t)(m:∀op∈u,op.act.touch?=ay)(e:∀op∈u,op.act.low B)(d:∃k,∀op∈u,op.g=k):TC Wg Ow B (t++u):=by
 obtain⟨k,d⟩:=d;have f:∀op∈u,∀b,op.act.touch?=aa b->False:=λop hop b c=>by grind
 refine⟨h.quiet.app λop hop b c _=>(f op hop b c).elim,λk b c l e=>(h.own k b c l e).app λop hop b c _=>(f op hop b c).elim,h.one,h.wg,h.lt,h.qH,λj=>IW (g:=k) (h.nr j) d λi a _ op hop b c _=>(f op hop b c).elim,λop hop=>?_⟩;rcases uI.1 hop with hop|hop
 ·exact h.low op hop
 ·exact e op hop
end
end
section
open Go.Conc
open Go.ConcN (ShN RelBy)
open Go.ConcR (stA)
structure jl(Wg:Nat)(t:fQ)(k r:Nat):Prop where
 by_:RelBy (stA Wg) t k r
 aft:∀i,r<i->t.g? i=aa k->∀x,touchAt t i=aa x->ShN Wg x.loc/\x.kind=.atomic
structure KT(Shun:Loc->Prop)(Wg old:Nat)(t:fQ):Prop where
 known:∀i a g,touchAt t i=aa a->a.loc.isMemory=aq->t.g? i=aa g->g<old->Knows t 0 i\/((Shun a.loc\/ShN Wg a.loc)/\a.kind=.atomic)
 over:∀i g,t.g? i=aa g->g≠0->g<old->t.counts i->∃j,t.g? j=aa 0/\Np t i j
 norel:∀i,t.act? i≠aa (.mark (.release (stA Wg)))
section
variable {Shun:Loc->Prop} {Wg old:Nat} {t u:fQ}
def xH{i g}(h:(t++u).g? i=aa g):(i<t.size/\t.g? i=aa g)\/(t.size<=i/\∃op∈u,(t++u)[i]? =aa op/\op.g=g):=by
 unfold sD at h;obtain⟨op,c,rfl⟩:=eV.1 h;rcases getElem?_append_cases c with⟨b,a⟩|⟨b,a⟩
 ·exact aF ⟨b,by unfold sD;rw[a];rfl⟩
 ·exact aE ⟨b,op,a,c,rfl⟩
def KT.app(h:KT Shun Wg old t)(o:∀op∈u,op.g=0\/old<=op.g\/op.act.touch?=ay)(hr:∀op∈u,op.act≠.mark (.release (stA Wg))):KT Shun Wg old (t++u):=by
 refine⟨λi a g f hm k l=>?_,λi g k n l m=>?_,λi c=>?_⟩
 ·rcases xH k with⟨c,b⟩|⟨c,op,d,b,rfl⟩
  ·rw[touchAt_old c]at f;exact(h.known i a g f hm b l).imp (λx=>x.app u) id
  ·rcases o op d with h2|h2|h2
   ·have:=knows_own b;rw[h2]at this;exact aF this
   ·omega
   ·rw[Bx b,h2]at f;cases f
 ·rcases xH k with⟨c,b⟩|⟨c,op,d,b,rfl⟩
  ·obtain⟨j,r,q⟩:=h.over i g b n l ((counts_old c).1 m);refine⟨j,?_,hb_app u q⟩;obtain⟨z,p,v⟩:=eV.1 r;unfold sD;rw[Oo (xd p),p];exact dZ aa v
  ·rcases o op d with h2|h2|h2
   ·exact absurd h2 n
   ·omega
   ·obtain⟨x,s,_⟩:=m;have:touchAt (t++u) i=aa x:=s;rw[Bx b,h2]at this;cases this
 ·unfold yZ at c;obtain⟨op,d,e⟩:=eV.1 c;rcases getElem?_append_cases d with⟨_,b⟩|⟨_,b⟩
  ·exact h.norel i (by unfold yZ;rw[b];exact dZ aa e)
  ·exact hr op b e
def jl.app{k r}(h:jl Wg t k r)(d:∀i,t.size<=i->(t++u).g? i=aa k->¬(t++u).counts i)(m:∀op∈u,op.g=k->∀x,op.act.touch?=aa x->ShN Wg x.loc/\x.kind=.atomic):jl Wg (t++u) k r:=by
 refine⟨h.by_.app d,λi f e x a=>?_⟩;rcases xH e with⟨j,b⟩|⟨_,op,l,b,c⟩
 ·rw[touchAt_old j]at a;exact h.aft i f b x a
 ·rw[Bx b]at a;exact m op l c x a
def aaH{Ow B q}(j:TC Wg Ow B t)(e:KT Shun Wg old t)(x:t.act? q=aa (.mark (.acquire (stA Wg))))(n:t.g? q=aa 0)(v:t.heard q)(all:∀i g,t.g? i=aa g->old<=g->∃r,jl Wg t g r/\r<q)(h0:Deaf t 0=0):
  vn (λl=>Shun l\/ShN Wg l) B t:=by
 have h:∀{k r:Nat},jl Wg t k r->r<q->Np t r q:=λhr c=>.single (aE ⟨.marked c (aE hr.by_.act) x (λk _ _=>e.norel k),hr.by_.heard,v⟩)
 have o:∀{i k r:Nat},t.g? i=aa k->jl Wg t k r->r<q->i<=r->Np t i q:=λ{i k r} b hr c E=>by
  rcases mX i r with d|hge
  ·exact .trans (.single (aF ⟨d,k,b,hr.by_.g⟩)) (h hr c)
  ·obtain rfl:i=r:=ak;exact h hr c
 refine⟨j.nr,λi a f hm=>?_,λi g b w m=>?_,h0,j.low⟩
 ·obtain⟨z,D,_⟩:=touch_of f;have b:t.g? i=aa z.g:=by unfold sD;rw[D];rfl
  rcases mX z.g old with d|hge
  ·exact e.known i a _ f hm b d
  ·obtain⟨r,hr,c⟩:=all i _ b hge;rcases mX r i with h1|h1
   ·obtain⟨p,s⟩:=hr.aft i h1 b a f;exact aE ⟨aE p,s⟩
   ·obtain⟨y,A,C⟩:=eV.1 n;exact aF ⟨q,y,A,C,aE (o b hr c h1)⟩
 ·rcases mX g old with d|hge
  ·exact e.over i g b w d m
  ·obtain⟨r,hr,c⟩:=all i g b hge;exact⟨q,n,o b hr c (ej λd=>hr.by_.after i d b m)⟩
def TC.start{c:Nat->Prop}{B:Nat}(h:vn Shun B t)(hc:∀b,c b->∀l,lS b l->¬Shun l)(q:∀b,c b->b<B)(s:¬c Wg)(v:Wg<B)(r:∀op∈t,∀x,op.act.touch?=aa x->¬ShN Wg x.loc):TC Wg (λk b=>k=0/\c b) B t:=by refine⟨λi op x o w f=>absurd f (r op (mw o) x w),?_,λk y b j m=>j.1.trans m.1.symm,λk p=>s p.2,λk b d=>q b d.2,v,h.clean,h.seen⟩;rintro k b ⟨rfl,d⟩ l g i a n e;subst e;exact(h.known i a n g.memory).resolve_right λf=>hc b d _ g f.1
def KT.start{B}(h:vn Shun B t)(hr:∀i,t.act? i≠aa (.mark (.release (stA Wg)))):KT Shun Wg old t:=
 ⟨λi a _ b hm _ _=>(h.known i a b hm).imp id λx=>⟨aF x.1,x.2⟩,λi g d e _ c=>h.over i g d e c,hr⟩
end
end
section
open Go.Conc
open Go.ConcN (ShN WgLive RW Has AtR0 AtK1 AtD1 AtD2 AtD3 AtD4 DWs)
open Go.ConcR (KK WgAt stA smA rd wr mk Payload DC0)
section
variable {S:Type} (r e:S->S->Prop)
def Down(n:Nat)(f' f:Nat->S):Prop:=∃i,i<n/\r (f' i) (f i)/\∀j,j<n->j≠i->e (f j) (f' j)
variable {r e}
def Pe(he:∀s a x,e s a->r x a->r x s){s a}(h:Acc r s)(k:e s a):Acc r a:=.intro _ λx b=>h.inv (he s a x k b)
def JP(he:∀s w x,e s w->r x w->r x s):∀(n:Nat) (f:Nat->S),(∀i,i<n->Acc r (f i))->Acc (Down r e n) f
 |0,f,_=>.intro _ λf' ⟨i,l,_⟩=>absurd l (su _)
 |n+1,f,d=>by
  have all:∀{f f':Nat->S} {m:Nat},Down r e m f' f->(∀i,i<m->Acc r (f i))->∀i,i<m->Acc r (f' i):=λ{f f' m} ⟨i,_,k,c⟩ h j b=>by
   by_cases u:j=i
   ·subst u;exact(h j b).inv k
   ·exact Pe he (h j b) (c j b u)
  have key:∀a,Acc r a->∀f,Acc (Down r e n) f->(∀i,i<n->Acc r (f i))->(∀x,r x (f n)->r x a)->Acc (Down r e (n+1)) f:=by
   intro a y;induction y with
   |intro a _ B=>
    intro f d;induction d with
    |intro f _ C=>
     intro o v;refine .intro _ λf' z=>?_;obtain⟨i,l,k,c⟩:=z
     by_cases t:i=n
     ·subst t;have p:∀j,j<i->Acc r (f' j):=λj b=>Pe he (o j b) (c j ak ak);exact B (f' i) (v _ k) f' (JP he i f' p) p λx g=>g
     ·have q:Down r e n f' f:=⟨i,ak,k,λj b A=>c j ak A⟩;exact C f' q (all q o) λx g=>v x (he _ _ x (c n ak (λe=>t e.symm)) g)
  exact key (f n) (d n ak) f (JP he n f λi l=>d i ak) (λi l=>d i ak) λx g=>g
end
inductive Ph|work|said|deaf|pH|sX|me|quit
def tW(ty:aQ)(Wg:Nat):Ph->az->Prop
 |.deaf,w=>∃v wt:Nat,wt<=1/\v<2147483647/\WgAt ty Wg w ((v+1) *KK+wt) 0
 |.pH,w=>WgAt ty Wg w 1 0
 |.sX,w=>WgAt ty Wg w 1 0
 |.me,w=>WgAt ty Wg w 0 0
 |_,_=>True
inductive fL(ty:aQ)(Wg:Nat)(O:Nat->Prop)(w:az):Ph->az->aJ sn->Ph->Prop
 |own {w':az} {b:aJ sn} (h:tU O w w') (k:∀a∈b,iF Wg (ff O w w') w'.heap.size a):fL ty Wg O w .work w' b .work
 |rel:fL ty Wg O w .work w #[.mark (.releaseMerge (stA Wg))] .said
 |idle {p:Ph} (d:p≠.work) (c:p≠.quit):fL ty Wg O w p w #[] p
 |nx:fL ty Wg O w .said w #[.mark .disable] .deaf
 |add {v wt:Nat} (h:WgAt ty Wg w ((v+1) *KK+wt) 0) (f:wt<=1) (hv:v<2147483647) {q:Ph} (c:(v=0/\wt=1/\q=.pH)\/(¬(v=0/\wt=1)/\q=.quit)):fL ty Wg O w .deaf (w.setCell (stA Wg) (.int .u64 (v*KK+wt))) (#[rd (stA Wg),wr (stA Wg)].map .ofEvent) q
 |look:fL ty Wg O w .pH w (#[rd (stA Wg)].map .ofEvent) .sX
 |zero:fL ty Wg O w .sX (w.setCell (stA Wg) (.int .u64 0)) (#[wr (stA Wg)].map .ofEvent) .me
 |post:fL ty Wg O w .me (w.setCell (smA Wg) (.int .u32 1)) ((semEvents (smA Wg)).map .ofEvent) .quit
inductive WS(P:aY)(ty:aQ)(Wg:Nat)(Q:(Nat->Prop)->az->Prop):Ph->(Nat->Prop)->bM->az->Prop
 |quit {O:Nat->Prop} {g:bM} {w:az} {n:Nat} (h:QuitsD P n 1 g) (l:∀a,Rel ty Wg O w a->Q O a):WS P ty Wg Q .quit O g w
 |step {p:Ph} {O:Nat->Prop} {g:bM} {w:az} (j:p≠.quit) (i:g.status=.running) (q:az->Ph)
   (h:∀a,Rel ty Wg O w a->tW ty Wg p a->∃c b d,jm P av g a c b d/\fL ty Wg O a p b d (q a))
   (m:∀a,Rel ty Wg O w a->tW ty Wg p a->p=.me->q a=.quit->Ef P g=aq/\∃c b f,stepG P av g a=.go c b f)
   (k:∀a c b d,Rel ty Wg O w a->tW ty Wg p a->jm P av g a c b d->WS P ty Wg Q (q a) (ff O a b) c b):WS P ty Wg Q p O g w
section
variable [aP] [bw] {P:aY} {ty:aQ} {Wg:Nat} {Q:(Nat->Prop)->az->Prop}
def tB{O' w a v}(f:a.block=Wg)(d:¬O' Wg)(c:WgLive ty Wg (w.setCell a v)):Rel ty Wg O' w (w.setCell a v):=
 ⟨λb g=>(zc w a v).block b λe=>d (by grind),aC,λ_=>c,by simp[fY]⟩
def MD{main g g1 g2 w w1 w2 es bT}(h:stepG P main g w=.go g1 w1 es)(k:jm P main g w g2 w2 bT):g2=g1/\w2=w1/\bT=es.map .ofEvent:=by obtain⟨a,b,c⟩:=MC k (.go h);exact⟨a,b,c⟩
def agY{Stop O g w}(h:CJ P av ty Wg Stop O g w)(l:∀O g w,(∀a,Rel ty Wg O w a->Stop O g a)->WS P ty Wg Q .work O g w):WS P ty Wg Q .work O g w:=by
 induction h with
 |stop h=>exact l _ _ _ h
 |step k h _ n=>
  refine .step aC k (λ_=>.work) (λa r _=>?_) (λ_ _ _ e=>by cases e) λa c d b r _ m=>n a c d b r m;obtain⟨c,d,b,f,i,j⟩:=h a r;exact⟨c,d,b,f,.own i j⟩
def Kf(O w):ff O w w=O:=by
 funext b
 apply propext;constructor
 ·rintro(h|⟨a,c⟩)
  ·exact h
  ·omega
 ·exact aF
def Ar{R Stop p}(n:p≠.work)(i:p≠.quit){O}(hR:∀a b,Rel ty Wg O a b->R a b){wb}(l:∀g w,Rel ty Wg O wb w->(∀c,Rel ty Wg O w c->Stop g c)->WS P ty Wg Q p O g w):
  ∀(m:Nat) (g:bM) (w:az),Rel ty Wg O wb w->Goes P av R DC0 Stop m g w->WS P ty Wg Q p O g w
 |0,g,w,f,h=>l g w f λc r=>h c (hR _ _ r)
 |m+1,g,w,f,h=>by
  rcases h with h|⟨q,h⟩
  ·exact l g w f λc r=>h c (hR _ _ r)
  have one:∀c,Rel ty Wg O w c->∃d,stepG P av g c=.go d c #[]/\Goes P av R DC0 Stop m d c:=λc r=>by
   have:=h c (hR _ _ r);revert this;cases y:stepG P av g c with
   |go d t x=>
    rintro⟨⟨rfl,rfl⟩,k⟩;exact⟨d,rfl,k⟩
   |_=>intro h;exact h.elim
  refine .step i q (λ_=>p) (λc r _=>?_) (λc _ _ v o=>absurd o i) λc d t u r _ s=>?_
  ·obtain⟨d,j,_⟩:=one c r;exact⟨d,c,#[],by have:=jm.go j;simpa using this,.idle n i⟩
  ·obtain⟨g2,j,k⟩:=one c r;obtain⟨rfl,rfl,rfl⟩:=MD j s;rw[Kf];exact Ar n i hR l m _ _ (f.trans r) k
end
end
section
open Go.Conc Go.Conc.Lib Go.ConcN.Gen Go.ConcR.Gen
open Go.ConcN (ShN WgLive RW PayAt Has AtR0 AtK1 AtD1 AtD2 AtD3 AtD4 DWs EvW)
open Go.ConcR (KK WgAt stA smA rd wr mk Payload DC0)
section
variable [aP] [bw] [Payload] {P:aY} {ty:aQ} {Wg C n:Nat} {O:Nat->Prop} {Q:(Nat->Prop)->az->Prop}
def rF(a:O C){i w w₁}(r:Rel ty Wg O w w₁):RW ty Wg C n 0 i w w₁:=
 ⟨λb e=>absurd e (su _),r.live,λ⟨cs,c,d⟩=>⟨cs,(r.own C a).trans c,d⟩,by unfold fC;simp only[r.own C a]⟩
def uB(Low i w):RW ty Wg C n Low i w w:=⟨λ_ _ _ _=>rfl,id,id,rfl⟩
def G9{w w'}(h:w'.heap.size=w.heap.size):ff O w w'=O:=by
 funext b
 apply propext;constructor
 ·rintro(a|⟨a,c⟩)
  ·exact a
  ·omega
 ·exact aF
def V5:#[NM .disable]=#[mk .disable].map cY:=by simp[mk,cY]
def V7(Wg):#[NM (.releaseMerge (stA Wg))]=#[mk (.releaseMerge (stA Wg))].map cY:=by simp[mk,cY]
def yz{p g w}(o:p≠.quit)(m:g.status=.running)(q:az->Ph)(t:p=.me->Ef P g=aq)(h:∀a,Rel ty Wg O w a->tW ty Wg p a->∃c b d,stepG P av g a=.go c b d/\fL ty Wg O a p b (d.map .ofEvent) (q a)/\b.heap.size=a.heap.size/\WS P ty Wg Q (q a) O c b):WS P ty Wg Q p O g w:=by
 refine .step o m q (λa r e=>?_) (λa r e i _=>⟨t i,by obtain⟨c,b,d,f,_⟩:=h a r e;exact⟨c,b,d,f⟩⟩) λa c b u r e s=>?_
 ·obtain⟨c,b,d,f,j,_,_⟩:=h a r e;exact⟨c,b,_,.go f,j⟩
 ·obtain⟨g2,v,d,f,_,k,l⟩:=h a r e;obtain⟨rfl,rfl,rfl⟩:=MD f s;rw[G9 k];exact l
def agU(i:¬O Wg){wb}(f:∀a,Rel ty Wg O wb a->Q O a){g w}(j:Rel ty Wg O wb w)(h:∀a,Rel ty Wg O w a->AtD4 P ty Wg g a):WS P ty Wg Q .me O g w:=by obtain⟨k,hm,_⟩:=h w (.refl ..);refine yz aC k (λ_=>.quit) (λ_=>hm) λa r e=>?_;obtain⟨b,c,q,d⟩:=(h a r).2.2 e;exact⟨b,_,_,c,.post,aC,.quit d λm l=>f m ((j.trans r).trans ((tB rfl i ⟨_,_,e.setSm _⟩).trans l))⟩
def agT(j:O C)(d:¬O Wg){wb}(k:∀a,Rel ty Wg O wb a->Q O a){g w}(b:Rel ty Wg O wb w)(h:∀a,Rel ty Wg O w a->AtD3 P ty Wg C n 0 1 g a):WS P ty Wg Q .sX O g w:=by refine yz aC (h w (.refl ..)).1 (λ_=>.me) (λe=>by cases e) λa r e=>?_;obtain⟨c,f,m,i⟩:=(h a r).2 e;exact⟨c,_,_,f,.zero,aC,Ar aC aC (λ_ _ r=>rF j r) (λg w b h=>agU d k b h) m c _ ((b.trans r).trans (tB rfl d ⟨_,_,e.setSt _⟩)) i⟩
def agS(d:O C)(k:¬O Wg){wb}(j:∀a,Rel ty Wg O wb a->Q O a){g w}(b:Rel ty Wg O wb w)(h:∀a,Rel ty Wg O w a->AtD2 P ty Wg C n 0 1 g a):WS P ty Wg Q .pH O g w:=by refine yz aC (h w (.refl ..)).1 (λ_=>.sX) (λe=>by cases e) λa r e=>?_;obtain⟨c,f,m,i⟩:=(h a r).2 e;exact⟨c,_,_,f,.look,rfl,Ar aC aC (λ_ _ r=>rF d r) (λg w b h=>agT d k j b h) m c _ (b.trans r) i⟩
open Classical in
def agR(p:O C)(k:¬O Wg){wb}(s:∀a,Rel ty Wg O wb a->Q O a){g w}(f:Rel ty Wg O wb w)(h:∀a,Rel ty Wg O w a->AtD1 P ty Wg C n 0 1 g a):WS P ty Wg Q .deaf O g w:=by
 refine yz aC (h w (.refl ..)).1 (λa=>if WgAt ty Wg a (KK+1) 0 then .pH else .quit) (λe=>by cases e) λa r e=>?_;obtain⟨v,wt,l,hv,b⟩:=e;obtain⟨i,o,t,u⟩:=(h a r).2 v wt l hv b
 by_cases d:v=0/\wt=1
 ·have c:WgAt ty Wg a (KK+1) 0:=by obtain⟨rfl,rfl⟩:=d;simpa using b
  refine⟨i,_,_,o,?_,aC,?_⟩
  ·rw[aW c];exact .add b l hv (aF ⟨d.1,d.2,rfl⟩)
  ·rw[aW c];obtain⟨m,j⟩:=t d;exact Ar aC aC (λ_ _ r=>rF p r) (λg w f h=>agS p k s f h) m i _ ((f.trans r).trans (tB rfl k ⟨_,_,b.setSt _⟩)) j
 ·have c:¬WgAt ty Wg a (KK+1) 0:=λc=>d (by
   have:=(b.unique c).1;simp only[KK]at this;omega)
  refine⟨i,_,_,o,?_,aC,?_⟩
  ·rw[aK c];exact .add b l hv (aE ⟨d,rfl⟩)
  ·rw[aK c];obtain⟨q,j⟩:=u d;exact .quit j λy x=>s y ((f.trans r).trans ((tB rfl k ⟨_,_,b.setSt _⟩).trans x))
def agX(d:O C)(k:¬O Wg){wb}(j:∀a,Rel ty Wg O wb a->Q O a){g w}(b:Rel ty Wg O wb w)(h:∀a,Rel ty Wg O w a->AtK1 P ty Wg C n 0 1 g a):WS P ty Wg Q .said O g w:=by refine yz aC (h w (.refl ..)).1 (λ_=>.deaf) (λe=>by cases e) λa r _=>?_;obtain⟨_,c,f,m,i⟩:=h a r;exact⟨c,_,_,f,V5▸.nx,rfl,Ar aC aC (λ_ _ r=>rF d r) (λg w b h=>agR d k j b h) m c _ (b.trans r) i⟩
variable {val:aD}
def aac:∀(a m:Nat) (g:bM) (w:az),Goes P av (Rel ty Wg O) DC0 (ZR2 P) a g w->Goes P av (RW ty Wg C n 0 (1-1)) (DWs Wg (λ_ _=>False) (λ_ _=>False) C n 1) (AtR0 P ty Wg C n 0 1 val) m g w->False:=by
 intro a;induction a with
 |zero=>
  intro m g w h k;obtain⟨j,i,c⟩:=h w (.refl ..);cases m with
  |zero=>
   obtain⟨_,_,g2,b,_⟩:=k w (uB ..);rw[c]at b;cases b
  |succ m=>
   rcases k with k|⟨_,k⟩
   ·obtain⟨_,_,g2,b,_⟩:=k w (uB ..);rw[c]at b;cases b
   ·have:=k w (uB ..);rw[c]at this;exact(this.1.2 (mk .disable) aC).2.1 rfl
 |succ a l=>
  intro m g w h k;rcases h with h|⟨j,h⟩
  ·obtain⟨j,i,c⟩:=h w (.refl ..);cases m with
   |zero=>
    obtain⟨_,_,g2,b,_⟩:=k w (uB ..);rw[c]at b;cases b
   |succ m=>
    rcases k with k|⟨_,k⟩
    ·obtain⟨_,_,g2,b,_⟩:=k w (uB ..);rw[c]at b;cases b
    ·have:=k w (uB ..);rw[c]at this;exact(this.1.2 (mk .disable) aC).2.1 rfl
  ·have h0:=h w (.refl ..);cases e:stepG P av g w with
   |go i f o=>
    rw[e]at h0;obtain⟨⟨rfl,rfl⟩,b⟩:=h0;cases m with
    |zero=>
     obtain⟨_,_,g2,d,_⟩:=k f (uB ..);rw[e]at d;cases d
    |succ m=>
     rcases k with k|⟨_,k⟩
     ·obtain⟨_,_,g2,d,_⟩:=k f (uB ..);rw[e]at d;cases d
     ·have:=k f (uB ..);rw[e]at this;exact l m i f b this.2
   |_=>rw[e]at h0;exact h0.elim
def agV(c:O C)(t:¬O Wg){wb}(s:∀b,Rel ty Wg O wb b->Q O b):∀(a m:Nat) (g:bM) (w:az),Rel ty Wg O wb w->Goes P av (Rel ty Wg O) DC0 (ZR1 P ty Wg O) a g w->Goes P av (RW ty Wg C n 0 (1-1)) (DWs Wg (λ_ _=>False) (λ_ _=>False) C n 1) (AtR0 P ty Wg C n 0 1 val) m g w->WS P ty Wg Q .work O g w:=by
 have stop:∀(m:Nat) (g:bM) (w:az),Rel ty Wg O wb w->(∀b,Rel ty Wg O w b->ZR1 P ty Wg O g b)->Goes P av (RW ty Wg C n 0 (1-1)) (DWs Wg (λ_ _=>False) (λ_ _=>False) C n 1) (AtR0 P ty Wg C n 0 1 val) m g w->WS P ty Wg Q .work O g w:=by
  intro m g w d h k;refine yz aC (h w (.refl ..)).1 (λ_=>.said) (λe=>by cases e) λb r _=>?_;obtain⟨_,l,p,a,o⟩:=h b r
  have hR:AtR0 P ty Wg C n 0 1 val g b:=by
   cases m with
   |zero=>exact k b (rF c r)
   |succ m=>
    rcases k with k|⟨_,k⟩
    ·exact k b (rF c r)
    ·have:=k b (rF c r);rw[p]at this;exact(aac a m l b o this.2).elim
  obtain⟨_,_,g2,f,m2,q⟩:=hR;exact⟨g2,_,_,f,(V7 Wg)▸.rel,rfl,Ar aC aC (λ_ _ r=>rF c r) (λg w d h=>agX c t s d h) m2 g2 _ (d.trans r) q⟩
 intro a;induction a with
 |zero=>exact λm g w d h k=>stop m g w d h k
 |succ a x=>
  intro m g w d h k;rcases h with h|⟨v,h⟩
  ·exact stop m g w d h k
  refine yz aC v (λ_=>.work) (λe=>by cases e) λb r _=>?_;have h0:=h b r;cases i:stepG P av g b with
  |go l j y=>
   rw[i]at h0;obtain⟨⟨rfl,rfl⟩,o⟩:=h0;refine⟨l,j,#[],rfl,.own ⟨λ_ _ _=>rfl,bD _,rfl,rfl,rfl⟩ (λa u=>by simp at u),rfl,?_⟩;cases m with
   |zero=>
    obtain⟨_,_,g2,f,_⟩:=k j (rF c r);rw[i]at f;cases f
   |succ m=>
    rcases k with k|⟨_,k⟩
    ·obtain⟨_,_,g2,f,_⟩:=k j (rF c r);rw[i]at f;cases f
    ·have:=k j (rF c r);rw[i]at this;exact x m l j (d.trans r) o this.2
  |_=>rw[i]at h0;exact h0.elim
def agW{L}(H:WgLib P L)(d:O C)(g:¬O Wg){c cs qt}(h:c.mode=.returning)(f:QuitsD P qt 0 (G c cs)){w}(a:WgLive L.tWg Wg w)(hv:Has C 0 val w)(e:∀b,Rel L.tWg Wg O w b->Q O b):
  WS P L.tWg Wg Q .work O (G ((Ai L.done).at ⟨#[aR Wg,au,au,au],[]⟩ [.code (IQ L)]) (c::cs)) w:=
 agV (n:=0) d g e _ _ _ _ (.refl ..) (Zl H w a) (doneN (k:=1) (Low:=0) (val:=val) H h f w ⟨a,hv⟩)
end
end
section
open Go.Conc
open Go.ConcN (ShN WgLive)
open Go.ConcR (KK WgAt stA smA rd wr mk)
section
variable [aP] [bw] {P:aY} {ty:aQ} {Wg:Nat} {O:Nat->Prop} {Q:(Nat->Prop)->az->Prop}
def fL.det{w w' p q q' j}(h:fL ty Wg O w p w' j q)(k:fL ty Wg O w p w' j q'):q=q':=by
 generalize z:w'=C at k;generalize f:j=x at k;cases h with
 |own l i=>
  cases k with
  |own=>rfl
  |rel=>subst f;exact absurd rfl ((i _ aC).LM (stA Wg))
  |idle g=>exact absurd rfl g
 |rel=>
  cases k with
  |own l i=>subst f;exact absurd rfl ((i _ aC).LM (stA Wg))
  |rel=>rfl
  |idle g=>exact absurd rfl g
 |idle g m=>
  cases k with
  |own=>exact absurd rfl g
  |rel=>exact absurd rfl g
  |idle=>rfl
  |nx=>simp at f
  |add=>simp at f
  |look=>simp at f
  |zero=>simp at f
  |post=>simp[semEvents]at f
 |nx=>
  cases k with
  |idle=>simp at f
  |nx=>rfl
 |@add v wt l i y _ m=>
  cases k with
  |idle=>simp at f
  |@add t u r A B _ s=>
   have e:=(l.unique r).1;simp only[KK]at e;have n:v=t:=ak;have o:wt=u:=ak;subst n o;rcases m with⟨a,b,rfl⟩|⟨a,rfl⟩<;>rcases s with⟨c,d,rfl⟩|⟨c,rfl⟩
   ·rfl
   ·exact absurd ⟨a,b⟩ c
   ·exact absurd ⟨c,d⟩ a
   ·rfl
 |look=>
  cases k with
  |idle=>simp at f
  |look=>rfl
 |zero=>
  cases k with
  |idle=>simp at f
  |zero=>rfl
 |post=>
  cases k with
  |idle=>simp[semEvents]at f
  |post=>rfl
structure ni where
 p:Ph
 O:Nat->Prop
 g:bM
 w:az
 n:Nat
def qZ(P:aY)(ty:aQ)(Wg:Nat)(a s:ni):Prop:=
 (s.p≠.quit/\∃b c,Rel ty Wg s.O s.w b/\tW ty Wg s.p b/\jm P av s.g b a.g a.w c/\fL ty Wg s.O b s.p a.w c a.p/\a.O=ff s.O b a.w)\/
 (s.p=.quit/\a.p=.quit/\a.n<s.n)
def zy(ty:aQ)(Wg:Nat)(s a:ni):Prop:=a.p=s.p/\a.O=s.O/\a.g=s.g/\a.n=s.n/\Rel ty Wg s.O s.w a.w
def agH(s i x:ni)(h:zy ty Wg s i)(k:qZ P ty Wg x i):qZ P ty Wg x s:=by
 obtain⟨e,l,m,n,o⟩:=h;rcases k with⟨a,p,j,b,c,f,d,g⟩|⟨a,b,c⟩
 ·rw[l]at b d g;rw[e]at a c d;rw[m]at f;exact aF ⟨a,p,j,o.trans b,c,f,d,g⟩
 ·exact aE ⟨e▸a,b,n▸c⟩
def Jr:∀(n:Nat) (s:ni),s.p=.quit->s.n<=n->Acc (qZ P ty Wg) s
 |0,s,h,d=>.intro _ λc a=>by
  rcases a with⟨b,_⟩|⟨_,_,f⟩
  ·exact absurd h b
  ·omega
 |n+1,s,h,d=>.intro _ λc a=>by
  rcases a with⟨b,_⟩|⟨_,e,f⟩
  ·exact absurd h b
  ·exact Jr n c e ak
def agP{p g w}(h:WS P ty Wg Q p O g w):∀n,Acc (qZ P ty Wg) ⟨p,O,g,w,n⟩:=by
 induction h with
 |quit h C=>exact λn=>Jr n _ rfl (bD _)
 |@step p O g w o B q h _ _ s=>
  refine λn=>.intro _ λv m=>?_;rcases m with⟨_,i,y,r,e,a,f,d⟩|⟨t,_⟩
  ·obtain⟨g2,F,z,k,l⟩:=h i r e;obtain⟨b,c,j⟩:=MC a k;obtain⟨D,x,A,E,u⟩:=v;simp only at a f d b c;subst b c j;have:=f.det l;subst this d;exact s i _ _ _ r e a u
  ·exact absurd t o
def agK{Q:Nat->(Nat->Prop)->az->Prop}(n f)(h:∀i,i<n->(f i).p=.quit\/WS P ty Wg (Q i) (f i).p (f i).O (f i).g (f i).w):Acc (Down (qZ P ty Wg) (zy ty Wg) n) f:=
 JP agH n f λi a=>(h i a).elim (λe=>Jr _ _ e (bD _)) λe=>agP e _
end
end
section
open Go.Conc Go.Conc.Lib Go.ConcN.Gen Go.ConcR.Gen
open Go.ConcN (ShN WgLive)
open Go.ConcR (KK WgAt stA smA rd wr mk Payload DC0)
inductive Mp|opn|vJ|added|ready|waiting(b:Nat)|seen(v:Nat)|reg|woken|fin|uk|back
def BE(ty:aQ)(Wg:Nat):Mp->az->Prop
 |.vJ,w=>∃v:Nat,v<2147483647/\WgAt ty Wg w (v*KK) 0
 |.waiting b,w=>∃v:Nat,v<=b/\v<2147483648/\WgAt ty Wg w (v*KK) 0
 |.seen b,w=>∃v:Nat,v<=b/\v<2147483648/\WgAt ty Wg w (v*KK) 0
 |.woken,w=>WgAt ty Wg w 0 0
 |_,_=>True
inductive fM(ty:aQ)(Wg:Nat)(O:Nat->Prop)(w:az):Mp->az->aJ sn->Mp->Prop
 |own {p:Mp} (f:p=.opn\/p=.ready) {w':az} {c:aJ sn} (h:tU O w w') (k:∀a∈c,iF Wg (ff O w w') w'.heap.size a):fM ty Wg O w p w' c p
 |idle {p:Mp} {es:aJ jw} (h:DZ Wg w w es):fM ty Wg O w p w (es.map .ofEvent) p
 |nx {q:Mp} (g:q=.vJ\/∃b,q=.waiting b/\2147483646<=b):fM ty Wg O w .opn w (#[mk .disable].map .ofEvent) q
 |add {v:Nat} (h:WgAt ty Wg w (v*KK) 0) (hv:v<2147483647):fM ty Wg O w .vJ (w.setCell (stA Wg) (.int .u64 ((v+1) *KK))) (#[rd (stA Wg),wr (stA Wg)].map .ofEvent) .added
 |zG:fM ty Wg O w .added w (#[mk .enable].map .ofEvent) .ready
 |zero {b:Nat} (h:WgAt ty Wg w 0 0):fM ty Wg O w (.waiting b) w (#[rd (stA Wg)].map .ofEvent) .fin
 |saw {b v:Nat} (h:WgAt ty Wg w (v*KK) 0) (e:v<=b) (h0:v≠0):fM ty Wg O w (.waiting b) w (#[rd (stA Wg)].map .ofEvent) (.seen v)
 |hit {v:Nat} (h:WgAt ty Wg w (v*KK) 0) (h0:v≠0):fM ty Wg O w (.seen v) (w.setCell (stA Wg) (.int .u64 (v*KK+1))) (#[rd (stA Wg),wr (stA Wg)].map .ofEvent) .reg
 |KZ {v d:Nat} (h:WgAt ty Wg w (d*KK) 0) (e:d<v):fM ty Wg O w (.seen v) w (#[rd (stA Wg)].map .ofEvent) (.waiting (v-1))
 |got (h:WgAt ty Wg w 0 0):fM ty Wg O w .woken w (#[rd (stA Wg)].map .ofEvent) .fin
 |JJ:fM ty Wg O w .fin w (#[mk .enable].map .ofEvent) .uk
 |acq:fM ty Wg O w .uk w (#[mk (.acquire (stA Wg))].map .ofEvent) .back
inductive MS(P:aY)(ty:aQ)(Wg:Nat)(Post:Nat->(Nat->Prop)->bM->az->Prop)(Q:Nat->(Nat->Prop)->az->Prop)(M:Nat):Nat->Mp->(Nat->Prop)->bM->az->Prop
 |done {r:Nat} {O:Nat->Prop} {g:bM} {w:az} (h:∀a,Rel ty Wg O w a->Post r O g a):MS P ty Wg Post Q M r .back O g w
 |step {r:Nat} {p:Mp} {O:Nat->Prop} {g:bM} {w:az} (j:g.status=.running) (q:az->Mp)
   (h:∀a,Rel ty Wg O w a->BE ty Wg p a->∃d f i,jm P aq g a d f i/\fM ty Wg O a p f i (q a))
   (k:∀a d f i,Rel ty Wg O w a->BE ty Wg p a->jm P aq g a d f i->MS P ty Wg Post Q M r (q a) (ff O a f) d f):MS P ty Wg Post Q M r p O g w
 |sem {r:Nat} {O:Nat->Prop} {g:bM} {w:az} (j:g.status=.running) (s:g.offers=ay)
   (o:∀a,Rel ty Wg O w a->(∃st,WgAt ty Wg a st 0)->stepG P aq g a=.go {g with status:=.blocked} a #[])
   (h:∀a,Rel ty Wg O w a->WgAt ty Wg a 0 1->∃d,stepG P aq g a=.go d (a.setCell (smA Wg) (.int .u32 0)) (semEvents (smA Wg)))
   (k:∀a d,Rel ty Wg O w a->WgAt ty Wg a 0 1->stepG P aq g a=.go d (a.setCell (smA Wg) (.int .u32 0)) (semEvents (smA Wg))->MS P ty Wg Post Q M r .woken O d (a.setCell (smA Wg) (.int .u32 0))):MS P ty Wg Post Q M r .reg O g w
 |spawn {r:Nat} {O A R:Nat->Prop} {g:bM} {w:az} (hr:r<M) (j:g.status=.running) (l:∀b,A b->O b) (hR:∀b,R b->O b) (m:∀b,A b->¬R b) (n:∀b,O b->A b\/R b)
   (h:∀a,Rel ty Wg O w a->∃d e,stepG P aq g a=.spawn d e a #[]/\e.status=.running)
   (c:∀a d e,Rel ty Wg O w a->stepG P aq g a=.spawn d e a #[]->WS P ty Wg (Q r) .work A e a)
   (k:∀a d e,Rel ty Wg O w a->stepG P aq g a=.spawn d e a #[]->MS P ty Wg Post Q M (r+1) .opn R d a):MS P ty Wg Post Q M r .ready O g w
section
variable [aP] [bw] {P:aY} {ty:aQ} {Wg:Nat} {Post:Nat->(Nat->Prop)->bM->az->Prop} {Q:Nat->(Nat->Prop)->az->Prop} {M:Nat} {O:Nat->Prop} {r:Nat}
def MS.rely{p g w w₁}(h:MS P ty Wg Post Q M r p O g w)(hr:Rel ty Wg O w w₁):MS P ty Wg Post Q M r p O g w₁:=by
 cases h with
 |done h=>exact .done λb a=>h b (hr.trans a)
 |step e q h k=>exact .step e q (λb a=>h b (hr.trans a)) λb d t i a=>k b d t i (hr.trans a)
 |sem e o n h k=>exact .sem e o (λb a=>n b (hr.trans a)) (λb a=>h b (hr.trans a)) λb d a=>k b d (hr.trans a)
 |spawn s e j hR l m h c k=>exact .spawn s e j hR l m (λb a=>h b (hr.trans a)) (λb d f a=>c b d f (hr.trans a)) λb d f a=>k b d f (hr.trans a)
def xU{Stop p}(k:p=.opn\/p=.ready){g w}(h:CJ P aq ty Wg Stop O g w)(l:∀O g w,(∀a,Rel ty Wg O w a->Stop O g a)->MS P ty Wg Post Q M r p O g w):MS P ty Wg Post Q M r p O g w:=by
 induction h with
 |stop h=>exact l _ _ _ h
 |step j h _ n=>
  refine .step j (λ_=>p) (λa r _=>?_) λa c d b r _ m=>n a c d b r m;obtain⟨c,d,b,e,f,i⟩:=h a r;exact⟨c,d,b,e,.own k f i⟩
def Fq{w w'}(h:w'.heap.size=w.heap.size):ff O w w'=O:=by
 funext b
 apply propext;constructor
 ·rintro(a|⟨a,c⟩)
  ·exact a
  ·omega
 ·exact aF
def th{p g w}(l:g.status=.running)(q:az->Mp)(h:∀a,Rel ty Wg O w a->BE ty Wg p a->∃c b d,stepG P aq g a=.go c b d/\fM ty Wg O a p b (d.map .ofEvent) (q a)/\b.heap.size=a.heap.size/\MS P ty Wg Post Q M r (q a) O c b):MS P ty Wg Post Q M r p O g w:=by
 refine .step l q (λa r e=>?_) λa c b n r e m=>?_
 ·obtain⟨c,b,d,f,i,_,_⟩:=h a r e;exact⟨c,b,_,.go f,i⟩
 ·obtain⟨g2,o,d,f,_,j,k⟩:=h a r e;obtain⟨rfl,rfl,rfl⟩:=MD f m;rw[Fq j];exact k
def mg{J:az->Prop}(e:∀w a,Rel ty Wg O w a->J w->J a){Stop:bM->az->Prop}{p:Mp}(c:∀g w,J w->(∀a,Rel ty Wg O w a->Stop g a)->MS P ty Wg Post Q M r p O g w):
  ∀(m:Nat) (g:bM) (w:az),J w->Goes P aq (Rel ty Wg O) (DZ Wg) Stop m g w->MS P ty Wg Post Q M r p O g w
 |0,g,w,b,h=>c g w b h
 |m+1,g,w,b,h=>by
  rcases h with h|⟨k,h⟩
  ·exact c g w b h
  refine th k (λ_=>p) λa r _=>?_;have:=h a r;revert this;cases l:stepG P aq g a with
  |go d n i=>
   rintro⟨f,j⟩;obtain rfl:=f.1;exact⟨d,_,i,rfl,.idle f,rfl,mg e c m d _ (e _ _ r b) j⟩
  |_=>intro h;exact h.elim
def X0{J:az->Prop}(c:∀w a,Rel ty Wg O w a->J w->J a)(k:∀w v,WgLive ty Wg (w.setCell (stA Wg) v)->J w->J (w.setCell (stA Wg) v)){Fin:bM->az->Prop}(hF:∀g w,J w->(∀a,Rel ty Wg O w a->Fin g a)->MS P ty Wg Post Q M r .ready O g w){m:Nat}{g:bM}{w:az}(d:J w)(h:Goes P aq (Rel ty Wg O) (DZ Wg) (ZA1 P ty Wg O Fin) m g w):MS P ty Wg Post Q M r .opn O g w:=by
 have n:∀g w,J w->(∀a,Rel ty Wg O w a->ZA3 P ty Wg O Fin g a)->MS P ty Wg Post Q M r .added O g w:=λg w d h=>by refine th (h w (.refl ..)).1 (λ_=>.ready) λa r _=>?_;obtain⟨_,b,f,m,i⟩:=h a r;exact⟨b,_,_,f,.zG,rfl,mg c hF m b _ (c _ _ r d) i⟩
 have l:∀g w,J w->(∀a,Rel ty Wg O w a->ZA2 P ty Wg O Fin g a)->MS P ty Wg Post Q M r .vJ O g w:=λg w d h=>by refine th (h w (.refl ..)).1 (λ_=>.added) λa r e=>?_;obtain⟨v,hv,j⟩:=e;obtain⟨b,f,m,i⟩:=(h a r).2 v hv j;exact⟨b,_,_,f,.add j hv,aC,mg c n m b _ (k _ _ ⟨_,_,j.setSt _⟩ (c _ _ r d)) i⟩
 refine mg c (λg w d h=>?_) m g w d h;refine th (h w (.refl ..)).1 (λ_=>.vJ) λa r _=>?_;obtain⟨_,b,f,m,i⟩:=h a r;exact⟨b,_,_,f,.nx (aF rfl),rfl,mg c l m b _ (c _ _ r d) i⟩
open Classical in
def X7{J:az->Prop}(i:∀w c,Rel ty Wg O w c->J w->J c)(B:∀w v,WgLive ty Wg (w.setCell (stA Wg) v)->J w->J (w.setCell (stA Wg) v))(C:∀w v,WgLive ty Wg (w.setCell (smA Wg) v)->J w->J (w.setCell (smA Wg) v)){Fin p:bM->az->Prop}(hF:∀g w,J w->(∀c,Rel ty Wg O w c->Fin g c)->MS P ty Wg Post Q M r .back O g w)
  (round:∀g w,p g w->∃m,Goes P aq (Rel ty Wg O) (DZ Wg) (ZW1 P ty Wg O Fin p) m g w):∀(b:Nat) (g:bM) (w:az),J w->p g w->MS P ty Wg Post Q M r (.waiting b) O g w:=by
 have K:∀g w,J w->(∀c,Rel ty Wg O w c->ZAq P ty Wg O Fin g c)->MS P ty Wg Post Q M r .uk O g w:=λg w j h=>by refine th (h w (.refl ..)).1 (λ_=>.back) λc r _=>?_;obtain⟨_,d,f,m,k⟩:=h c r;exact⟨d,_,_,f,.acq,rfl,mg i hF m d _ (i _ _ r j) k⟩
 have z:∀g w,J w->(∀c,Rel ty Wg O w c->ZEn P ty Wg O Fin g c)->MS P ty Wg Post Q M r .fin O g w:=λg w j h=>by refine th (h w (.refl ..)).1 (λ_=>.uk) λc r _=>?_;obtain⟨_,d,f,m,k⟩:=h c r;exact⟨d,_,_,f,.JJ,rfl,mg i K m d _ (i _ _ r j) k⟩
 have I:∀g w,J w->(∀c,Rel ty Wg O w c->ZW4 P ty Wg O Fin g c)->MS P ty Wg Post Q M r .woken O g w:=λg w j h=>by refine th (h w (.refl ..)).1 (λ_=>.fin) λc r e=>?_;obtain⟨d,f,m,k⟩:=(h c r).2 e;exact⟨d,_,_,f,.got e,rfl,mg i z m d _ (i _ _ r j) k⟩
 have H:∀g w,J w->(∀c,Rel ty Wg O w c->ZW3 P ty Wg O Fin g c)->MS P ty Wg Post Q M r .reg O g w:=λg w j h=>by
  refine .sem (h w (.refl ..)).1 (h w (.refl ..)).2.1 (λc r e=>(h c r).2.2.1 e) (λc r e=>?_) λc d r e D=>?_
  ·obtain⟨d,f,_⟩:=(h c r).2.2.2 e;exact⟨d,f⟩
  ·obtain⟨g2,f,m,k⟩:=(h c r).2.2.2 e;rw[D]at f;cases f;exact mg i I m d _ (C _ _ ⟨_,_,e.setSm _⟩ (i _ _ r j)) k
 intro b;induction b using NO with
 |ind b E=>
  have G:∀v,v≠0->v<=b->∀g w,J w->(∀c,Rel ty Wg O w c->ZW2 P ty Wg O Fin p v g c)->MS P ty Wg Post Q M r (.seen v) O g w:=λv h0 L g w j h=>by
   refine th (h w (.refl ..)).1 (λc=>if WgAt ty Wg c (v*KK) 0 then .reg else .waiting (v-1)) λc r e=>?_;obtain⟨o,s,t,l⟩:=e;obtain⟨u,x⟩:=(h c r).2 o t l
   by_cases hv:o=v
   ·subst hv;obtain⟨d,f,m,k⟩:=u rfl;refine⟨d,_,_,f,?_,aC,?_⟩
    ·rw[aW l];exact .hit l h0
    ·rw[aW l];exact mg i H m d _ (B _ _ ⟨_,_,l.setSt _⟩ (i _ _ r j)) k
   ·have q:¬WgAt ty Wg c (v*KK) 0:=λn=>hv (by
     have:=(l.unique n).1;simp only[KK]at this;omega)
    obtain⟨d,f,m,k⟩:=x hv;refine⟨d,_,_,f,?_,rfl,?_⟩
    ·rw[aK q];exact .KZ l ak
    ·rw[aK q];exact mg i (λg w j h=>E (v-1) ak g w j (h w (.refl ..))) m d _ (i _ _ r j) k
  have F:∀g w,J w->(∀c,Rel ty Wg O w c->ZW1 P ty Wg O Fin p g c)->MS P ty Wg Post Q M r (.waiting b) O g w:=λg w j h=>by
   have A:∀{c:az} {v o:Nat},WgAt ty Wg c (v*KK) 0->WgAt ty Wg c (o*KK) 0->v=o:=λa b=>by have:=(a.unique b).1;simp only[KK]at this;omega
   refine th (h w (.refl ..)).1 (λc=>if n:∃v:Nat,v≠0/\WgAt ty Wg c (v*KK) 0 then .seen n.choose else .fin) λc r e=>?_;obtain⟨v,s,t,l⟩:=e;obtain⟨d,f,u,x⟩:=(h c r).2 v t l
   by_cases hv:v=0
   ·have q:¬∃v:Nat,v≠0/\WgAt ty Wg c (v*KK) 0:=λ⟨o,h0,f⟩=>h0 ((A f l).trans hv);obtain⟨m,k⟩:=u hv;refine⟨d,_,_,f,?_,rfl,?_⟩
    ·rw[gK q];exact .zero (by subst hv;simpa using l)
    ·rw[gK q];exact mg i z m d _ (i _ _ r j) k
   ·have n:∃v:Nat,v≠0/\WgAt ty Wg c (v*KK) 0:=⟨v,hv,l⟩;have y:n.choose=v:=A n.choose_spec.2 l;obtain⟨m,k⟩:=x hv;refine⟨d,_,_,f,?_,rfl,?_⟩
    ·rw[tS n,y];exact .saw l s hv
    ·rw[tS n,y];exact mg i (G v hv s) m d _ (i _ _ r j) k
  intro g w j n;obtain⟨m,hm⟩:=round g w n;exact mg i F m g w j hm
def X8{J:az->Prop}(d:∀w a,Rel ty Wg O w a->J w->J a)(k:∀w v,WgLive ty Wg (w.setCell (stA Wg) v)->J w->J (w.setCell (stA Wg) v))(l:∀w v,WgLive ty Wg (w.setCell (smA Wg) v)->J w->J (w.setCell (smA Wg) v)){Fin e:bM->az->Prop}{b:Nat}(n:2147483646<=b)(hF:∀g w,J w->(∀a,Rel ty Wg O w a->Fin g a)->MS P ty Wg Post Q M r .back O g w)
  (round:∀g w,e g w->∃m,Goes P aq (Rel ty Wg O) (DZ Wg) (ZW1 P ty Wg O Fin e) m g w) {m:Nat} {g:bM} {w:az} (c:J w) (h:Goes P aq (Rel ty Wg O) (DZ Wg) (ZDi P ty Wg O e) m g w):MS P ty Wg Post Q M r .opn O g w:=by
 refine mg d (λg w c h=>?_) m g w c h;refine th (h w (.refl ..)).1 (λ_=>.waiting b) λa r _=>?_;obtain⟨_,f,i,m,j⟩:=h a r;exact⟨f,_,_,i,.nx (aE ⟨b,rfl,n⟩),rfl,mg d (λg w c h=>X7 d k l hF round b g w c (h w (.refl ..))) m f _ (d _ _ r c) j⟩
end
end
section
open Go.Conc
open Go.ConcN (ShN WgLive)
open Go.ConcR (KK WgAt stA smA rd wr mk)
section
variable [aP] [bw] {ty:aQ} {Wg:Nat} {O O':Nat->Prop}
def Qd{w w'}(h:tU O w w')(d:∀b,O' b->¬O b)(e:∀b,O' b->b<w.heap.size)(c:¬O Wg)(f:Wg<w.heap.size):Rel ty Wg O' w w':=
 ⟨λb a=>h.cO b (e b a) (d b a),h.size,λ⟨st,g,k⟩=>⟨st,g,(h.cO Wg f c).trans k⟩,h.os⟩
def fL.Gp{w w' p q bT}(h:fL ty Wg O w p w' bT q)(he:tW ty Wg p w)(d:∀b,O' b->¬O b)(e:∀b,O' b->b<w.heap.size)(c:¬O Wg)(a:¬O' Wg)(f:Wg<w.heap.size):Rel ty Wg O' w w':=by
 cases h with
 |own h=>exact Qd h d e c f
 |rel=>exact .refl ..
 |idle=>exact .refl ..
 |nx=>exact .refl ..
 |add h=>exact tB rfl a ⟨_,_,h.setSt _⟩
 |look=>exact .refl ..
 |zero=>exact tB rfl a ⟨_,_,WgAt.setSt (show WgAt ty Wg w 1 0 from he) _⟩
 |post=>exact tB rfl a ⟨_,_,WgAt.setSm (show WgAt ty Wg w 0 0 from he) _⟩
def fM.Gp{w w' p q bT}(h:fM ty Wg O w p w' bT q)(d:∀b,O' b->¬O b)(e:∀b,O' b->b<w.heap.size)(c:¬O Wg)(a:¬O' Wg)(f:Wg<w.heap.size):Rel ty Wg O' w w':=by
 cases h with
 |own _ h=>exact Qd h d e c f
 |add h=>exact tB rfl a ⟨_,_,h.setSt _⟩
 |hit h=>exact tB rfl a ⟨_,_,h.setSt _⟩
 |_=>exact .refl ..
def abp(a):(cY (rd a)).touch?=aa ⟨.cell a,av,.atomic⟩:=rfl
def agM(a):(cY (wr a)).touch?=aa ⟨.cell a,aq,.atomic⟩:=rfl
structure lB(Wg:Nat)(a:sn):Prop where
 touch:∀x,a.touch?=aa x->ShN Wg x.loc/\x.kind=.atomic
 low:∀B,Wg<B->a.low B
 rel:a≠.mark (.release (stA Wg))
def vW(Wg a)(b:a.block=Wg):lB Wg (.ofEvent (rd a)):=⟨λx c=>by rw[abp]at c;cases c;exact⟨⟨a,rfl,b⟩,rfl⟩,λB d=>by show a.block<B;rw[b];exact d,λe=>(by cases e)⟩
def FP(Wg a)(b:a.block=Wg):lB Wg (.ofEvent (wr a)):=⟨λx c=>by rw[agM]at c;cases c;exact⟨⟨a,rfl,b⟩,rfl⟩,λB d=>by show a.block<B;rw[b];exact d,λe=>(by cases e)⟩
def FM(Wg):lB Wg (.mark .disable):=⟨λx a=>(by cases a),λ_ _=>trivial,λe=>(by cases e)⟩
def KQ(Wg):lB Wg (.mark .enable):=⟨λx a=>(by cases a),λ_ _=>trivial,λe=>(by cases e)⟩
def S6(Wg):lB Wg (.mark (.releaseMerge (stA Wg))):=⟨λx b=>(by cases b),λB a=>a,λe=>(by cases e)⟩
def S3(Wg):lB Wg (.mark (.acquire (stA Wg))):=⟨λx b=>(by cases b),λB a=>a,λe=>(by cases e)⟩
def KR(Wg):∀a∈(semEvents (smA Wg)).map cY,lB Wg a:=λa b=>by
 simp only[semEvents,rT,uU,yN,Ws,jR,DS,or_false]at b;rcases b with rfl|rfl|rfl|rfl
 ·exact FM Wg
 ·exact vW Wg (smA Wg) rfl
 ·exact FP Wg (smA Wg) rfl
 ·exact KQ Wg
def FN(Wg):∀a∈#[rd (stA Wg),wr (stA Wg)].map cY,lB Wg a:=λa b=>by
 simp at b;rcases b with rfl|rfl
 ·exact vW Wg (stA Wg) rfl
 ·exact FP Wg (stA Wg) rfl
def Ct{Wg e}(h:lB Wg (.ofEvent e)):∀a∈#[e].map cY,lB Wg a:=λa b=>by grind
def lB.cI{Wg a}(h:lB Wg a)(O k){x}(b:a.touch?=aa x):Jp Wg O k x:=
 aE (aE ⟨(h.touch x b).1,by rw[(h.touch x b).2];simp,by rw[(h.touch x b).2];simp⟩)
def fL.lists{w w' p q c}(h:fL ty Wg O w p w' c q):(p=.work/\q=.work/\∀a∈c,iF Wg (ff O w w') w'.heap.size a)\/(q≠.work/\w'.heap.size=w.heap.size/\∀a∈c,lB Wg a):=by
 cases h with
 |own _ k=>exact aF ⟨rfl,rfl,k⟩
 |rel=>exact aE ⟨aC,rfl,λa b=>by simp at b;rw[b];exact S6 Wg⟩
 |idle d=>exact aE ⟨d,rfl,λa b=>by simp at b⟩
 |nx=>exact aE ⟨aC,rfl,λa b=>by simp at b;rw[b];exact FM Wg⟩
 |add _ _ _ e=>exact aE ⟨by rcases e with⟨_,_,rfl⟩|⟨_,rfl⟩<;>simp,aC,FN Wg⟩
 |look=>exact aE ⟨aC,rfl,Ct (vW Wg _ rfl)⟩
 |zero=>exact aE ⟨aC,aC,Ct (FP Wg _ rfl)⟩
 |post=>exact aE ⟨aC,aC,KR Wg⟩
def fL.tc{w w' p q bT}(h:fL ty Wg O w p w' bT q){Ow t ops k}(j:Ow k=O)(f:TC Wg Ow w.heap.size t)(n:ops.map (·.act)=bT)(m:∀op∈ops,op.g=k):
  TC Wg (lK Ow k (ff O w w')) w'.heap.size (t++ops):=by
 have d:∀op∈ops,op.act∈bT:=λop c=>by rw[<-n];exact nM.2 ⟨op,c,rfl⟩
 have i:w.heap.size<=w'.heap.size:=by
  rcases h.lists with _|⟨_,e,_⟩
  ·cases h with
   |own h=>exact h.size
   |idle o=>exact bD _
   |_=>simp
  ·omega
 refine f.app i (λb hb=>?_) (λb hb=>?_) λop c=>⟨m op c,λx l=>?_,?_⟩
 ·rcases hb with hb|hb
  ·exact aF (j▸hb)
  ·exact aE hb.1
 ·rcases hb with hb|hb
  ·exact dI (f.lt k b (j▸hb)) i
  ·exact hb.2
 ·rcases h.lists with⟨_,_,a⟩|⟨_,_,a⟩
  ·exact(a _ (d op c)).cI k l
  ·exact(a _ (d op c)).cI _ k l
 ·rcases h.lists with⟨_,_,a⟩|⟨_,_,a⟩
  ·exact(a _ (d op c)).low
  ·exact(a _ (d op c)).low _ (dI f.qH i)
end
section
variable [aP] [bw] {ty:aQ} {Wg:Nat} {O:Nat->Prop}
structure zo(Wg:Nat)(a:sn):Prop where
 touch:∀x,a.touch?=aa x->ShN Wg x.loc/\x.kind≠.plain
 low:∀B,Wg<B->a.low B
 rel:a≠.mark (.release (stA Wg))
def lB.FL{a}(h:lB Wg a):zo Wg a:=⟨λx b=>⟨(h.touch x b).1,by rw[(h.touch x b).2];simp⟩,h.low,h.rel⟩
def S5{w w' es}(h:DZ Wg w w' es):∀a∈es.map cY,zo Wg a:=λa d=>by
 obtain⟨e,f,rfl⟩:=nM.1 d;rcases h.2 e f with rfl|rfl
 ·exact⟨λx c=>(by cases c;exact⟨⟨smA Wg,rfl,rfl⟩,aC⟩),λB b=>b,λe=>(by cases e)⟩
 ·exact⟨λx c=>(by cases c;exact⟨⟨smA Wg,rfl,rfl⟩,aC⟩),λB b=>b,λe=>(by cases e)⟩
def fM.lists{w w' p q c}(h:fM ty Wg O w p w' c q):(∀a∈c,iF Wg (ff O w w') w'.heap.size a)\/(w'.heap.size=w.heap.size/\∀a∈c,zo Wg a):=by
 have one:∀{e:jw},lB Wg (.ofEvent e)->∀a∈#[e].map cY,zo Wg a:=λh a b=>(Ct h a b).FL;cases h with
 |own _ _ k=>exact aF k
 |idle h=>exact aE ⟨rfl,S5 h⟩
 |nx=>exact aE ⟨rfl,one (FM Wg)⟩
 |add=>exact aE ⟨aC,λa b=>(FN Wg a b).FL⟩
 |zG=>exact aE ⟨rfl,one (KQ Wg)⟩
 |zero=>exact aE ⟨rfl,one (vW Wg _ rfl)⟩
 |saw=>exact aE ⟨rfl,one (vW Wg _ rfl)⟩
 |hit=>exact aE ⟨aC,λa b=>(FN Wg a b).FL⟩
 |KZ=>exact aE ⟨rfl,one (vW Wg _ rfl)⟩
 |got=>exact aE ⟨rfl,one (vW Wg _ rfl)⟩
 |JJ=>exact aE ⟨rfl,one (KQ Wg)⟩
 |acq=>exact aE ⟨rfl,one (S3 Wg)⟩
def fM.size{w w' p q bT}(h:fM ty Wg O w p w' bT q):w.heap.size<=w'.heap.size:=by
 cases h with
 |own _ h=>exact h.size
 |add=>simp
 |hit=>simp
 |_=>exact bD _
def UI{w w' f}(l:(∀a∈f,iF Wg (ff O w w') w'.heap.size a)\/(w'.heap.size=w.heap.size/\∀a∈f,zo Wg a))(i:w.heap.size<=w'.heap.size){Ow t ops}(k:Ow 0=O)(h:TC Wg Ow w.heap.size t)(n:ops.map (·.act)=f)(m:∀op∈ops,op.g=0):
  TC Wg (lK Ow 0 (ff O w w')) w'.heap.size (t++ops):=by
 have e:∀op∈ops,op.act∈f:=λop d=>by grind
 refine h.app i (λb hb=>?_) (λb hb=>?_) λop d=>⟨m op d,λx j=>?_,?_⟩
 ·rcases hb with hb|hb
  ·exact aF (k▸hb)
  ·exact aE hb.1
 ·rcases hb with hb|hb
  ·exact dI (h.lt 0 b (k▸hb)) i
  ·exact hb.2
 ·rcases l with c|⟨_,c⟩
  ·exact(c _ (e op d)).cI 0 j
  ·exact aE (aE ⟨((c _ (e op d)).touch x j).1,((c _ (e op d)).touch x j).2,λ_=>rfl⟩)
 ·rcases l with c|⟨_,c⟩
  ·exact(c _ (e op d)).low
  ·exact(c _ (e op d)).low _ (dI h.qH i)
def fM.tc{w w' p q bT}(h:fM ty Wg O w p w' bT q){Ow t ops}(a:Ow 0=O)(b:TC Wg Ow w.heap.size t)(d:ops.map (·.act)=bT)(c:∀op∈ops,op.g=0):
  TC Wg (lK Ow 0 (ff O w w')) w'.heap.size (t++ops):=UI h.lists h.size a b d c
def fM.kt{Shun old w w' p q bT}(h:fM ty Wg O w p w' bT q){t ops}(d:KT Shun Wg old t)(f:ops.map (·.act)=bT)(e:∀op∈ops,op.g=0):KT Shun Wg old (t++ops):=by
 have c:∀op∈ops,op.act∈bT:=λop a=>by grind
 refine d.app (λop a=>aF (e op a)) λop a=>?_;rcases h.lists with b|⟨_,b⟩
 ·exact(b _ (c op a)).rel _
 ·exact(b _ (c op a)).rel
def fL.kt{Shun old k w w' p q bT}(h:fL ty Wg O w p w' bT q){t ops}(d:KT Shun Wg old t)(f:ops.map (·.act)=bT)(e:∀op∈ops,op.g=k)(a:old<=k):KT Shun Wg old (t++ops):=by
 have c:∀op∈ops,op.act∈bT:=λop b=>by grind
 refine d.app (λop b=>aE (aF (by grind))) λop b=>?_;rcases h.lists with⟨_,_,a⟩|⟨_,_,a⟩
 ·exact(a _ (c op b)).rel _
 ·exact(a _ (c op b)).rel
end
end
section
open Go.Conc
open Go.ConcN (ShN WgLive sumTo)
open Go.ConcR (KK WgAt stA smA rd wr mk)
def Ph.counted:Ph->Nat
 |.work|.said|.deaf=>1
 |_=>0
def Ph.lH:Ph->Nat
 |.work|.said=>0
 |_=>1
def Ph.early:Ph->Prop
 |.work|.said|.deaf|.quit=>True
 |_=>False
def Ph.last:Ph->Prop
 |.pH|.sX|.me=>True
 |_=>False
def Mp.pend:Mp->Nat
 |.added|.ready=>1
 |_=>0
def Mp.lH:Mp->Nat
 |.opn|.ready|.uk|.back=>0
 |_=>1
def Mp.open_:Mp->Prop
 |.opn|.vJ|.added|.ready|.waiting _|.seen _=>True
 |_=>False
def Mp.over:Mp->Prop
 |.woken|.fin|.uk|.back=>True
 |_=>False
inductive Mode(m:Nat)(f:Nat->Ph):Mp->Int->Int->Prop
 |opn {p:Mp} (a:p.open_) (h:∀i,i<m->(f i).early) (j:∀b,p=.waiting b->sumTo m (λi=>(f i).counted)<=b) (e:∀b,p=.seen b->sumTo m (λi=>(f i).counted)<=b/\b≠0):
   Mode m f p (((sumTo m (λi=>(f i).counted)+p.pend:Nat):Int) *KK) 0
 |reg (h:∀i,i<m->(f i).early) (c:1<=sumTo m (λi=>(f i).counted)):Mode m f .reg (((sumTo m (λi=>(f i).counted):Nat):Int) *KK+1) 0
 |last {L:Nat} (d:L<m) (h:(f L).last) (k:∀i,i<m->i≠L->f i=.quit) {st:Int} (g:(f L=.me/\st=0)\/(f L≠.me/\st=1)):Mode m f .reg st 0
 |sema (h:∀i,i<m->f i=.quit):Mode m f .reg 0 1
 |over {p:Mp} (a:p.over) (h:∀i,i<m->f i=.quit):Mode m f p 0 0
structure Works[aP](P:aY)(b:aQ)(a:Nat)(Q:(Nat->Prop)->az->Prop)(t:fQ)(k:Nat)(w:az)(s:ni):Prop where
 rel:Rel b a s.O s.w w
 ws:s.p≠.quit->WS P b a Q s.p s.O s.g s.w/\Deaf t k=s.p.lH
 qu:s.p=.quit->QuitsD P s.n (Deaf t k) s.g/\∀c,Rel b a s.O s.w c->Q s.O c
 rl:s.p≠.work->∃r,jl a t k r
def BK(b:Mp)(a:bM)(bl:Bool)(gs:aJ bM):Prop:=
 (bl=av/\gs[0]? =aa a)\/(bl=aq/\b=.reg/\a.offers=ay/\gs[0]? =aa {a with status:=.blocked})
def Acq(a old m:Nat)(t:fQ):Prop:=∃s,t.act? s=aa (.mark (.acquire (stA a)))/\t.g? s=aa 0/\t.heard s/\∀i,i<m->∃k,jl a t (old+i) k/\k<s
structure vE where
 X:Nat->Prop
 O:Nat->Prop
 W:az
structure vi(c:aQ)(a:Nat)(s:vE)(Ow:Nat->Nat->Prop)(w:az):Prop where
 no:∀j b,Ow j b->¬s.X b
 old:∀j b,Ow j b->s.O b\/s.W.heap.size<=b
 lt:∀b,s.X b->b<s.W.heap.size
 rel:Rel c a s.X s.W w
 wg:¬s.X a
structure Inv[aP](P:aY)(e:aQ)(c:Nat)(Shun:Loc->Prop)(Q:Nat->(Nat->Prop)->az->Prop)(M old:Nat)(k:vE)(d:Mp)(a:bM)(bl:Bool)(w0:az)(m:Nat)(f:Nat->ni)(Ow:Nat->Nat->Prop)(q:Nat->Nat)(gs:aJ bM)(w:az)(t:fQ):Prop where
 many:0<old
 size:gs.size=old+m
 room:M<2147483647/\m<=M
 tc:TC c Ow w.heap.size t
 kt:KT Shun c old t
 mode:∃st h,WgAt e c w st h/\Mode m (λi=>(f i).p) d st h/\(bl=aq->h≠1)
 main:BK d a bl gs
 uz:Rel e c (Ow 0) w0 w
 deaf0:Deaf t 0=d.lH
 gC:∀i g,0<i->i<old->gs[i]? =aa g->QuitsD P (q i) (Deaf t i) g
 own:∀i,i<m->(f i).O=Ow (old+i)/\gs[old+i]? =aa (f i).g
 work:∀i,i<m->Works P e c (Q i) t (old+i) w (f i)
 acq:d=.back->Acq c old m t
 above:∀j,old+m<=j->Deaf t j=0/\(∀b,¬Ow j b)/\∀i,t.g? i≠aa j
 bare:∀j,0<j->j<old->∀b,¬Ow j b
 all:vi e c k Ow w
end
section
open Go.Conc
open Go.ConcN (ShN WgLive)
open Go.ConcR (KK WgAt stA smA rd wr mk)
section
variable [aP] [bw] {ty:aQ} {Wg:Nat} {O:Nat->Prop} {t ops:fQ} {k:Nat}
def oq(d:Nat)(a:sn):Nat:=match a with
 |.mark .disable=>d+1
 |.mark .enable=>d-1
 |_=>d
def EY(f:∀op∈ops,op.g=k):Deaf (t++ops) k=(ops.map (·.act)).toList.foldl oq (Deaf t k):=by
 have h:=Deaf_append t k ops.toList;simp only[Array.toArray_toList]at h;rw[h,gx]
 have key:∀(l:aB MemOp) (d:Nat),(∀op∈l,op.g=k)->l.foldl (Ed k) d=(l.map (·.act)).foldl oq d:=by
  intro l;induction l with
  |nil=>intro d _;rfl
  |cons y l j=>
   intro d b
   have i:Ed k d y=oq d y.act:=by
    have c:=b y aC;obtain⟨g,n,pos,e⟩:=y;simp only at c;subst c;cases e with
    |mark m=>cases m<;>simp[Ed,oq]
    |_=>simp[Ed,oq]
   rw[tK,uU,tK,i];exact j _ λop a=>b op (by simp[a])
 exact key _ _ λop a=>f op (by simpa using a)
def Zo{a}(h:a≠.mark .disable/\a≠.mark .enable)(d):oq d a=d:=by
 cases a with
 |mark m=>cases m<;>first|rfl|exact absurd rfl h.1|exact absurd rfl h.2
 |_=>rfl
def Fi:∀(l:aB sn) (d:Nat),(∀a∈l,a≠.mark .disable/\a≠.mark .enable)->l.foldl oq d=d
 |[],_,_=>rfl
 |a::l,d,h=>by rw[tK,Zo (h a aC),Fi l d λb c=>h b (by simp[c])]
def fL.lH{w w' p q bT}(h:fL ty Wg O w p w' bT q)(d:ops.map (·.act)=bT)(c:∀op∈ops,op.g=k)(b:Deaf t k=p.lH):Deaf (t++ops) k=q.lH:=by
 rw[EY c,d,b];cases h with
 |own _ h=>exact Fi _ _ λa f=>(h a (by grind)).marks
 |add _ _ _ e=>rcases e with⟨_,_,rfl⟩|⟨_,rfl⟩<;>simp[oq,cY,rd,wr,Ph.lH]
 |idle=>simp
 |_=>simp[oq,cY,rd,wr,semEvents,Ph.lH]
def fM.lH{w w' p q bT}(h:fM ty Wg O w p w' bT q)(j:ops.map (·.act)=bT)(i:∀op∈ops,op.g=0)(d:Deaf t 0=p.lH):Deaf (t++ops) 0=q.lH:=by
 rw[EY i,j,d];cases h with
 |own _ _ h=>exact Fi _ _ λa c=>(h a (by simpa using c)).marks
 |idle h=>
  refine Fi _ _ λa c=>?_;obtain⟨e,f,rfl⟩:=nM.1 (by simpa using c);rcases h.2 e f with rfl|rfl<;>exact⟨by simp[cY],by simp[cY]⟩
 |nx l=>rcases l with rfl|⟨b,rfl,_⟩<;>simp[oq,cY,mk,Mp.lH]
 |_=>simp[oq,cY,rd,wr,mk,Mp.lH]
def om{j}(a:∀op∈ops,op.g=k)(b:j≠k):Deaf (t++ops) j=Deaf t j:=nN t (g':=k) (dc b) ops a
end
end
section
open Go.Conc
open Go.ConcN (ShN WgLive RelBy)
open Go.ConcR (KK WgAt stA smA rd wr mk)
section
variable [aP] [bw] {ty:aQ} {Wg:Nat} {O:Nat->Prop} {t ops:fQ} {k:Nat}
def jl.other{j s}(h:jl Wg t k s)(b:∀op∈ops,op.g=j)(c:j≠k):jl Wg (t++ops) k s:=
 h.app (λi f d=>by
  rcases xH d with⟨l,_⟩|⟨_,op,a,_,e⟩
  ·omega
  ·exact absurd ((b op a).symm.trans e) c) λop a e=>absurd ((b op a).symm.trans e) c
def YP(b:∀op∈ops,op.g=k){i}(a:i<=ops.size):(t++ops).deaf k (t.size+i)=((ops.map (·.act)).toList.take i).foldl oq (Deaf t k):=by
 have e:t++ops=(t++ops.extract 0 i)++ops.extract i ops.size:=by rw[Array.append_assoc,Array.extract_append_extract];simp[wR,Nat.max_eq_right a]
 have d:(t++ops.extract 0 i).size=t.size+i:=by simp[wR a]
 rw[e,IU ak];have:(t++ops.extract 0 i).deaf k (t.size+i)=Deaf (t++ops.extract 0 i) k:=by unfold Deaf;rw[d]
 rw[this,EY λop c=>b op (by obtain⟨j,f,rfl⟩:=wJ.1 c;simp)]
 congr 1
 simp[Hq,List.extract]
def QT:∀(l:aB sn) (d:Nat),(∀a∈l,a≠.mark .enable)->d<=l.foldl oq d
 |[],_,_=>bD _
 |a::l,d,h=>by
  rw[tK];refine dM ?_ (QT l _ λb c=>h b (by simp[c]));cases a with
  |mark m=>cases m<;>first|exact bD _|exact kB _|exact absurd rfl (h _ aC)
  |_=>exact bD _
def jl.own{s}(h:jl Wg t k s)(p:∀op∈ops,op.g=k)(n:∀op∈ops,lB Wg op.act)(hd:1<=Deaf t k\/∀op∈ops,op.act.touch?=ay)(v:∀i x,(ops[i]?).bind (·.act.touch?)=aa x->∀a∈(ops.map (·.act)).toList.take i,a≠.mark .enable):jl Wg (t++ops) k s:=by
 refine h.app (λi w m o=>?_) λop c _ x f=>(n op c).touch x f;obtain⟨x,f,hm,hk⟩:=o;rcases xH m with⟨y,_⟩|⟨_,op,c,b,e⟩
 ·omega
 have d:op.act.touch?=aa x:=by
  have:touchAt (t++ops) i=aa x:=f
  rwa [Bx b]at this
 rcases hd with hd|hd
 ·rcases hk with hk|hk
  ·exact hk ((n op c).touch x d).2
  ·obtain⟨g,l,q⟩:=hk;rw[m]at l;obtain rfl:=dP l;obtain⟨j,rfl⟩:∃j,i=t.size+j:=⟨i-t.size,ak⟩
   have r:j<ops.size:=by have:=xd b;simp at this;omega
   rw[YP p (mW r)]at q
   have u:ops[j]? =aa op:=by rw[Vw ak]at b;simpa using b
   have:=QT _ (Deaf t k) (v j x (by rw[u];exact d));omega
 ·rw[hd op c]at d;cases d
def fL.abH{w w' p q f}(h:fL ty Wg O w p w' f q)(j:ops.map (·.act)=f)(y:∀op∈ops,op.g=k)(c:Deaf t k=p.lH)(hr:p≠.work->∃s,jl Wg t k s)(F:q≠.work):∃s,jl Wg (t++ops) k s:=by
 have r:∀op∈ops,op.act∈f:=λop d=>by rw[<-j];exact nM.2 ⟨op,d,rfl⟩
 have calm:(∀a∈f,a≠.mark .enable)->∀i x,(ops[i]?).bind (·.act.touch?)=aa x->∀a∈(ops.map (·.act)).toList.take i,a≠.mark .enable:=λB i x _ a b=>B a (by rw[<-j];exact tE.1 (rU b))
 have e:p≠.work->(∀a∈f,lB Wg a)->(1<=Deaf t k\/∀op∈ops,op.act.touch?=ay)->(∀i x,(ops[i]?).bind (·.act.touch?)=aa x->∀a∈(ops.map (·.act)).toList.take i,a≠.mark .enable)->∃s,jl Wg (t++ops) k s:=λu D c E=>by obtain⟨s,G⟩:=hr u;exact⟨s,G.own y (λop d=>D _ (r op d)) c E⟩
 cases h with
 |own=>exact absurd rfl F
 |rel=>
  have H:ops.size=1:=by have:=dZ Im j;simpa using this
  obtain⟨op,rfl⟩:∃op,ops=#[op]:=by
   obtain⟨l⟩:=ops
   match l,H with
   |[op],_=>exact⟨op,rfl⟩
  have b:op.act=.mark (.releaseMerge (stA Wg)):=by simpa using j
  have A:=y op aC;have I:(t++#[op])[t.size]? =aa op:=aC;refine⟨t.size,⟨by simp[yZ,b],by simp[sD,A],⟨k,by simp[sD,A],?_⟩,λi C o=>?_⟩,λi C o=>?_⟩
  ·rw[IU (bD _)];exact c
  ·exfalso;obtain⟨z,v,_⟩:=eV.1 o;have:=xd v;simp at this;omega
  ·exfalso;obtain⟨z,v,_⟩:=eV.1 o;have:=xd v;simp at this;omega
 |idle u=>exact e u (λa b=>by simp at b) (aE λop d=>by have:=r op d;simp at this) (calm λa b=>by simp at b)
 |nx=>exact e aC (λa b=>by simp at b;rw[b];exact FM Wg) (aE λop d=>by have:=r op d;simp at this;rw[this];rfl) (calm λa b=>by simp at b;rw[b];simp)
 |add=>exact e aC (FN Wg) (aF (by rw[c];exact bD _)) (calm λa b=>by simp at b;rcases b with rfl|rfl<;>simp[cY,rd,wr])
 |look=>exact e aC (Ct (vW Wg _ rfl)) (aF (by rw[c];exact bD _)) (calm λa b=>by simp at b;rw[b];simp[cY,rd])
 |zero=>exact e aC (Ct (FP Wg _ rfl)) (aF (by rw[c];exact bD _)) (calm λa b=>by simp at b;rw[b];simp[cY,wr])
 |post=>
  refine e aC (KR Wg) (aF (by rw[c];exact bD _)) λi x K a b=>?_;have m:((ops.map (·.act))[i]?).bind (·.touch?)=aa x:=by rw[fV];cases J:ops[i]? <;>simp_all
  rw[j]at m b;simp only[semEvents,rT,uU,yN,cY]at m b
  match i with
  |0=>simp at b
  |1=>simp at b;rw[b];simp
  |2=>simp at b;rcases b with rfl|rfl<;>simp
  |3=>simp[uY]at m
  |n+4=>simp at m
end
end
section
open Go.Conc
open Go.ConcN (ShN WgLive sumTo upd sumTo_upd upd_ne upd_same le_sumTo sumTo_le)
open Go.ConcR (KK WgAt stA smA rd wr mk)
section
variable [aP] [bw] {ty:aQ} {Wg:Nat} {O:Nat->Prop} {m:Nat} {f:Nat->Ph} {mp:Mp} {st sm:Int} {w:az}
def JF(m:Nat)(f:Nat->Ph):sumTo m (λi=>(f i).counted)<=m:=by
 have:=sumTo_le (f:=λi=>(f i).counted) (c:=1) (j:=m) λi _=>by cases f i<;>simp[Ph.counted]
 omega
def Mode.zG(h:Mode m f mp st sm)(d:WgAt ty Wg w st sm){i}(b:i<m)(hm:m<2147483647):tW ty Wg (f i) w:=by
 have v:=JF m f;have g:(f i).counted<=sumTo m (λi=>(f i).counted):=le_sumTo (f:=λi=>(f i).counted) b
 have n:∀{p:Ph},p.early->p≠.deaf->tW ty Wg p w:=λ{p} a r=>by
  cases p with
  |deaf=>exact absurd rfl r
  |pH=>exact a.elim
  |sX=>exact a.elim
  |me=>exact a.elim
  |_=>trivial
 cases h with
 |opn x a o t=>
  by_cases c:f i=.deaf
  ·rw[c]at g⊢
   replace g:1<=sumTo m (λi=>(f i).counted):=g
   have y:mp.pend<=1:=by cases mp<;>simp[Mp.pend]
   refine⟨sumTo m (λi=>(f i).counted)+mp.pend-1,0,ak,ak,?_⟩;have e:(((sumTo m (λi=>(f i).counted)+mp.pend-1:Nat):Int)+1) *KK+((0:Nat):Int)=((sumTo m (λi=>(f i).counted)+mp.pend:Nat):Int) *KK:=by simp only[KK];omega
   rw[e];exact d
  ·exact n (a i b) c
 |reg a o=>
  by_cases c:f i=.deaf
  ·rw[c];refine⟨sumTo m (λi=>(f i).counted)-1,1,ak,ak,?_⟩;have e:(((sumTo m (λi=>(f i).counted)-1:Nat):Int)+1) *KK+((1:Nat):Int)=((sumTo m (λi=>(f i).counted):Nat):Int) *KK+1:=by simp only[KK];omega
   rw[e];exact d
  ·exact n (a i b) c
 |@last L u l q _ s=>
  by_cases k:i=L
  ·subst k;rcases s with⟨e,rfl⟩|⟨e,rfl⟩
   ·rw[e];exact d
   ·generalize f i=p at l e;cases p with
    |pH=>exact d
    |sX=>exact d
    |me=>exact absurd rfl e
    |_=>exact l.elim
  ·rw[q i b k];trivial
 |sema j=>rw[j i b];trivial
 |over _ j=>rw[j i b];trivial
def Mode.worker(h:Mode m f mp st sm)(o:WgAt ty Wg w st sm){i}(c:i<m){w' bT q}(Y:¬O Wg)(N8:Wg<w.heap.size)(V:fL ty Wg O w (f i) w' bT q)(hm:m<2147483647):
  ∃A z,WgAt ty Wg w' A z/\Mode m (upd f i q) mp A z:=by
 have U:=h.zG o c hm;have ah:=Bw f q Ph.counted c
 have same:WgAt ty Wg w' st sm->q.counted=(f i).counted->((f i).early↔q.early)->((f i).last->q.last/\(f i=.me↔q=.me))->(f i≠.quit)->∃A z,WgAt ty Wg w' A z/\Mode m (upd f i q) mp A z:=λaj J Z FA M=>by
  have x:sumTo m (λa=>(upd f i q a).counted)=sumTo m (λa=>(f a).counted):=ak
  have early:(∀j,j<m->(f j).early)->∀j,j<m->(upd f i q j).early:=λh j d=>by
   by_cases r:j=i
   ·subst r;rw[ig];exact Z.1 (h j d)
   ·rw[jj f q r];exact h j d
  refine⟨st,sm,aj,?_⟩;cases h with
  |opn D k u H=>rw[<-x];exact .opn D (early k) (by rw[x];exact u) (by rw[x];exact H)
  |reg k u=>rw[<-x];exact .reg (early k) (by rw[x];exact u)
  |@last L S g t _ P=>
   by_cases s:i=L
   ·subst s;obtain⟨y,W⟩:=FA g;refine .last (L:=i) c (by rw[ig];exact y) (λj d n=>by rw[jj f q n];exact t j d n) ?_;rw[ig];rcases P with⟨e,rfl⟩|⟨e,rfl⟩
    ·exact aF ⟨W.1 e,rfl⟩
    ·exact aE ⟨λh=>e (W.2 h),rfl⟩
   ·exact absurd (t i c s) M
  |sema l=>exact absurd (l i c) M
  |over _ l=>exact absurd (l i c) M
 have Q:(f i).last->(∀j,j<m->j≠i->f j=.quit)/\mp=.reg/\sm=0:=λg=>by
  have no:∀{p:Ph},p.last->p.early->False:=λ{p} a b=>by cases p<;>first|exact a.elim|exact b.elim
  cases h with
  |opn _ k=>exact(no g (k i c)).elim
  |reg k=>exact(no g (k i c)).elim
  |@last L S an t _ P=>
   by_cases s:i=L
   ·subst s;exact⟨t,rfl,rfl⟩
   ·rw[t i c s]at g;exact g.elim
  |sema l=>rw[l i c]at g;exact g.elim
  |over _ l=>rw[l i c]at g;exact g.elim
 generalize C:f i=p at V U same Q ah;cases V with
 |own K=>exact same ((K.cO Wg N8 Y).trans o) rfl oI (λa=>a.elim) aC
 |rel=>exact same o rfl oI (λa=>a.elim) aC
 |idle D l=>exact same o rfl oI (λa=>⟨a,oI⟩) l
 |nx=>exact same o rfl oI (λa=>a.elim) aC
 |look=>exact same o rfl oI (λ_=>⟨trivial,aC⟩) aC
 |zero=>
  obtain⟨y,rfl,rfl⟩:=Q trivial;exact⟨0,0,o.setSt 0,.last (L:=i) c (by rw[ig];trivial) (λj d n=>by rw[jj f _ n];exact y j d n) (aF ⟨ig f i _,rfl⟩)⟩
 |post=>
  obtain⟨y,rfl,rfl⟩:=Q trivial;have e:st=0:=(o.unique (show WgAt ty Wg w 0 0 from U)).1;subst e
  exact⟨0,1,o.setSm 1,.sema λj d=>by
   by_cases r:j=i
   ·subst r;exact ig f j _
   ·rw[jj f _ r];exact y j d r⟩
 |@add v wt T aH hv q l=>
  have e:=o.unique T;refine⟨_,_,T.setSt _,?_⟩
  have early:q.early->(∀j,j<m->(f j).early)->∀j,j<m->(upd f i q j).early:=λaf h j d=>by
   by_cases r:j=i
   ·subst r;rw[ig];exact af
   ·rw[jj f q r];exact h j d
  cases h with
  |opn D k u H=>
   have F:=e.1;simp only[KK]at F;have ev:v+1=sumTo m (λi=>(f i).counted)+mp.pend/\wt=0:=ak;rcases l with⟨_,b,_⟩|⟨_,rfl⟩
   ·omega
   have J:Ph.quit.counted=0:=rfl;have K:Ph.deaf.counted=1:=rfl;have E:sumTo m (λa=>(upd f i .quit a).counted)+mp.pend=v:=ak;have G:((v:Int) *KK+(wt:Int))=((sumTo m (λa=>(upd f i .quit a).counted)+mp.pend:Nat):Int) *KK:=by rw[E,ev.2];simp
   rw[G];refine .opn D (early trivial k) (λb I=>?_) λb I=>?_
   ·have:=u b I;omega
   ·have:=H b I;exact⟨ak,this.2⟩
  |reg k u=>
   have F:=e.1;simp only[KK]at F;have ev:v+1=sumTo m (λi=>(f i).counted)/\wt=1:=ak;have K:Ph.deaf.counted=1:=rfl;rcases l with⟨a,b,rfl⟩|⟨a,rfl⟩
   ·subst a b;have J:Ph.pH.counted=0:=rfl;have E:sumTo m (λa=>(upd f i .pH a).counted)=0:=ak
    have all:∀j,j<m->j≠i->f j=.quit:=λj d n=>by
     have X:=le_sumTo (f:=λa=>(upd f i .pH a).counted) d;simp only[jj f _ n]at X;have B:=k j d;have R:(f j).counted=0:=ak;generalize f j=p at B R;cases p with
     |quit=>rfl
     |pH=>exact B.elim
     |sX=>exact B.elim
     |me=>exact B.elim
     |_=>cases R
    exact .last (L:=i) c (by rw[ig];trivial) (λj d n=>by rw[jj f _ n];exact all j d n) (aE ⟨by rw[ig];simp,aC⟩)
   ·have J:Ph.quit.counted=0:=rfl;have E:sumTo m (λa=>(upd f i .quit a).counted)=v:=ak;have aG:v≠0:=λh0=>a ⟨h0,ev.2⟩;have G:((v:Int) *KK+(wt:Int))=((sumTo m (λa=>(upd f i .quit a).counted):Nat):Int) *KK+1:=by rw[E,ev.2];simp
    rw[G];exact .reg (early trivial k) ak
  |@last L S g t _ P=>
   by_cases s:i=L
   ·subst s;rw[C]at g;exact g.elim
   ·have:=t i c s;rw[C]at this;cases this
  |sema N=>have:=N i c;rw[C]at this;cases this
  |over _ N=>have:=N i c;rw[C]at this;cases this
end
section
variable [aP] [bw] {ty:aQ} {Wg:Nat} {O:Nat->Prop} {m:Nat} {f:Nat->Ph} {mp:Mp} {st sm:Int} {w:az}
def Xv(e:∀i,i<m->(f i).early)(h:sumTo m (λi=>(f i).counted)=0):∀j,j<m->f j=.quit:=λj d=>by
 have g:=le_sumTo (f:=λa=>(f a).counted) d;have b:=e j d;have c:(f j).counted=0:=ak;generalize f j=p at b c;cases p with
 |quit=>rfl
 |pH=>exact b.elim
 |sX=>exact b.elim
 |me=>exact b.elim
 |_=>cases c
def Mode.open_(h:Mode m f mp st sm)(a:mp.open_):(∀i,i<m->(f i).early)/\st=((sumTo m (λi=>(f i).counted)+mp.pend:Nat):Int) *KK/\sm=0/\(∀b,mp=.waiting b->sumTo m (λi=>(f i).counted)<=b)/\(∀b,mp=.seen b->sumTo m (λi=>(f i).counted)<=b/\b≠0):=by
 cases h with
 |opn _ c d e=>exact⟨c,rfl,rfl,d,e⟩
 |reg=>exact a.elim
 |last=>exact a.elim
 |sema=>exact a.elim
 |over h=>cases mp<;>first|exact a.elim|exact h.elim
def Mode.xX(h:Mode m f mp st sm)(a:mp.over):(∀i,i<m->f i=.quit)/\st=0/\sm=0:=by
 cases h with
 |opn h=>cases mp<;>first|exact a.elim|exact h.elim
 |reg=>exact a.elim
 |last=>exact a.elim
 |sema=>exact a.elim
 |over _ h=>exact⟨h,rfl,rfl⟩
def Mode.Zx(h:Mode m f mp st sm)(a:WgAt ty Wg w st sm)(hm:m<2147483647):BE ty Wg mp w:=by
 have d:=JF m f;cases mp with
 |vJ=>
  obtain⟨_,rfl,rfl,_⟩:=h.open_ trivial;exact⟨_,by simp only[Mp.pend];omega,a⟩
 |waiting b=>
  obtain⟨_,rfl,rfl,c,_⟩:=h.open_ trivial;exact⟨_,by have:=c b rfl;simp only[Mp.pend];omega,by simp only[Mp.pend];omega,a⟩
 |seen b=>
  obtain⟨_,rfl,rfl,_,c⟩:=h.open_ trivial;exact⟨_,by have:=(c b rfl).1;simp only[Mp.pend];omega,by simp only[Mp.pend];omega,a⟩
 |woken=>
  obtain⟨_,rfl,rfl⟩:=h.xX trivial;exact a
 |_=>trivial
def Mode.main(h:Mode m f mp st sm)(d:WgAt ty Wg w st sm){w' bT q}(u:¬O Wg)(A:Wg<w.heap.size)(y:fM ty Wg O w mp w' bT q)(hm:m<2147483647):
  ∃o n,WgAt ty Wg w' o n/\Mode m f q o n:=by
 have B:=JF m f;have k:∀{a b:Nat},((a:Int) *KK)=(b:Int) *KK->a=b:=λ{a b} e=>by simp only[KK]at e;omega
 cases y with
 |own _ x=>exact⟨st,sm,(x.cO Wg A u).trans d,h⟩
 |idle=>exact⟨st,sm,d,h⟩
 |nx z=>
  obtain⟨c,rfl,rfl,_⟩:=h.open_ trivial;refine⟨_,_,d,?_⟩;rcases z with rfl|⟨b,rfl,l⟩
  ·exact .opn (p:=.vJ) trivial c (λb e=>by cases e) λb e=>by cases e
  ·exact .opn (p:=.waiting b) trivial c (λr e=>by cases e;omega) λb e=>by cases e
 |@add v g hv=>
  obtain⟨c,rfl,rfl,_⟩:=h.open_ trivial;refine⟨_,_,d.setSt _,?_⟩;have e:=k (d.unique g).1;have t:((v:Int)+1) *KK=((sumTo m (λi=>(f i).counted)+Mp.added.pend:Nat):Int) *KK:=by simp only[Mp.pend]at e⊢;rw[<-e];simp
  rw[t];exact .opn (p:=.added) trivial c (λb e=>by cases e) λb e=>by cases e
 |zG=>
  obtain⟨c,rfl,rfl,_⟩:=h.open_ trivial;exact⟨_,_,d,.opn (p:=.ready) trivial c (λb e=>by cases e) λb e=>by cases e⟩
 |@zero b g=>
  obtain⟨c,rfl,rfl,_⟩:=h.open_ trivial;have e:=(d.unique g).1;have s:sumTo m (λi=>(f i).counted)=0:=by simp only[Mp.pend,KK]at e;omega
  exact⟨0,0,g,.over (p:=.fin) trivial (Xv c s)⟩
 |@saw b v g l h0=>
  obtain⟨c,rfl,rfl,_⟩:=h.open_ trivial;have e:=k (d.unique g).1;exact⟨_,_,d,.opn (p:=.seen v) trivial c (λb e=>by cases e) λr j=>by cases j;simp only[Mp.pend]at e;exact⟨ak,h0⟩⟩
 |@hit v g h0=>
  obtain⟨c,rfl,rfl,_⟩:=h.open_ trivial;have e:=k (d.unique g).1;simp only[Mp.pend,Nat.add_zero]at e;refine⟨_,_,g.setSt _,?_⟩;rw[<-e];exact .reg c ak
 |@KZ v C g l=>
  obtain⟨c,rfl,rfl,_⟩:=h.open_ trivial;have e:=k (d.unique g).1;exact⟨_,_,d,.opn (p:=.waiting (v-1)) trivial c (λb j=>by cases j;simp only[Mp.pend]at e;omega) λb j=>by cases j⟩
 |got=>
  obtain⟨c,rfl,rfl⟩:=h.xX trivial;exact⟨_,_,d,.over (p:=.fin) trivial c⟩
 |JJ=>
  obtain⟨c,rfl,rfl⟩:=h.xX trivial;exact⟨_,_,d,.over (p:=.uk) trivial c⟩
 |acq=>
  obtain⟨c,rfl,rfl⟩:=h.xX trivial;exact⟨_,_,d,.over (p:=.back) trivial c⟩
end
end
section
abbrev um(P:aY)(l k:aB bC)(d:Nat)(t:Nat->aZ Obj):aP:=A5 l (λc=>eK P l aq c=aq) (λf=>l.contains f=aq\/k.contains f=aq) d t P
def knF(P:aY)(f:bC):Bool:=match P.funcs[f]? with
 |some a=>a.body.isSome&&(P.inits.idxOf? f).isNone
 |none=>av
def okF(P:aY)(l:aB bC)(f:bC):Bool:=match P.funcs[f]? with
 |some a=>(match a.body with|some c=>eK P l av c|none=>av)&&!(a.name== "runtime.NumGoroutine")&&(P.inits.idxOf? f).isNone
 |none=>av
def Lo{P l f}(h:okF P l f=aq):∃a c,P.funcs[f]? =aa a/\a.body=aa c/\eK P l av c=aq/\(a.name== "runtime.NumGoroutine")=av/\P.inits.idxOf? f=ay:=by
 unfold okF at h;split at h
 ·rename_i a i;simp only[cE,rP,yU]at h;obtain⟨⟨b,d⟩,e⟩:=h;split at b
  ·rename_i c g;exact⟨a,c,i,g,b,d,e⟩
  ·cases b
 ·cases h
def Q6{P f}(h:knF P f=aq):(∃a c,P.funcs[f]? =aa a/\a.body=aa c)/\P.inits.idxOf? f=ay:=by
 unfold knF at h;split at h
 ·rename_i a e;simp only[cE,yU,IL]at h;obtain⟨⟨c,d⟩,b⟩:=h;exact⟨⟨a,c,e,d⟩,b⟩
 ·cases h
def l7{P l k d t}(n:MV P=aq)(m:l.all (okF P l)=aq)(j:k.all (knF P)=aq):@Fit (um P l k d t) P l:=by
 letI:aP:=um P l k d t
 have ok:∀f,l.contains f=aq->okF P l f=aq:=λf hf=>mz.1 m f (by simpa using hf);have o:∀f,k.contains f=aq->knF P f=aq:=λf hf=>mz.1 j f (by simpa using hf)
 have all:∀f,aP.known f->(∃a c,P.funcs[f]? =aa a/\a.body=aa c)/\P.inits.idxOf? f=ay:=λf hf=>by
  rcases hf with hf|hf
  ·obtain⟨a,c,b,e,_,_,i⟩:=Lo (ok f hf);exact⟨⟨a,c,b,e⟩,i⟩
  ·exact Q6 (o f hf)
 refine⟨ahg n,λf hf=>?_,λf=>oI,λc=>oI,λf hf=>?_,λf hf=>(all f hf).2,λf hf=>(all f hf).1,λf hf=>aF hf,rfl⟩
 ·obtain⟨a,c,b,e,_,h,_⟩:=Lo (ok f hf);exact⟨a,b,h,by rw[e];rfl⟩
 ·obtain⟨a,c,b,e,g,_,_⟩:=Lo (ok f hf);exact⟨a,c,b,e,g⟩
end
section
open Go.Proofs.Tryz
abbrev link:Go.Conc.Lib.WgLink:={add:=97,done:=99,wait:=101,relMerge:=138,disable:=139,enable:=140,inBubble:=141,associate:=142,fatal:=143,uOr:=144,uAdd:=145,raceRead:=146,uLoad:=147,uStore:=148,disassociate:=149,semrelease:=150,acquire:=154,isAssociated:=155,uCas:=156,raceWrite:=157,semacquire:=158,orU64:=184,addU64:=185,loadU64:=186,storeU64:=187,casU64:=194,tWgP:=196,tUP:=198,tAssoc:=199,tWg:=178,tAU:=175,tU64:=173,tUint:=203,tU32:=176,tPU32:=204,tPAU:=244,tPU64:=246,tNoCopy:=170,tANoCopy:=171,tAlign64:=172}
def yy:Go.Conc.Lib.WgLib prog link:=
 ⟨func97,func99,func101,func138,func139,func140,func141,func142,func143,func144,func145,func146,func147,func148,func149,func150,func154,func155,func156,func157,func158,func184,func185,func186,func187,func194,underlying196,runUnderlying196,sizeOf196,isAgg196,zeroValue196,underlying198,runUnderlying198,sizeOf198,isAgg198,zeroValue198,underlying199,runUnderlying199,sizeOf199,isAgg199,zeroValue199,underlying178,runUnderlying178,sizeOf178,isAgg178,zeroValue178,underlying175,runUnderlying175,sizeOf175,isAgg175,zeroValue175,underlying173,runUnderlying173,sizeOf173,isAgg173,zeroValue173,underlying203,runUnderlying203,sizeOf203,isAgg203,zeroValue203,underlying176,runUnderlying176,sizeOf176,isAgg176,zeroValue176,underlying204,runUnderlying204,sizeOf204,isAgg204,zeroValue204,underlying244,runUnderlying244,sizeOf244,isAgg244,zeroValue244,underlying246,runUnderlying246,sizeOf246,isAgg246,zeroValue246,underlying0,runUnderlying0,sizeOf0,isAgg0,zeroValue0,underlying3,runUnderlying3,sizeOf3,isAgg3,zeroValue3,underlying4,runUnderlying4,sizeOf4,isAgg4,zeroValue4,underlying9,runUnderlying9,sizeOf9,isAgg9,zeroValue9,underlying20,runUnderlying20,sizeOf20,isAgg20,zeroValue20,underlying21,runUnderlying21,sizeOf21,isAgg21,zeroValue21,aT,aT⟩
end
section
open Go.Conc
open Go.ConcN (sumTo upd sumTo_upd upd_ne upd_same le_sumTo sumTo_le sumTo_upd_out)
open Go.ConcR (KK WgAt stA smA)
section
variable [aP] [bw] {ty:aQ} {Wg:Nat} {m:Nat} {f:Nat->Ph} {st sm:Int} {w:az}
def Mode.spawn(h:Mode m f .ready st sm):Mode (m+1) (upd f m .work) .opn st sm:=by
 obtain⟨d,rfl,rfl,_⟩:=h.open_ trivial
 have e:sumTo (m+1) (λi=>(upd f m .work i).counted)=sumTo m (λi=>(f i).counted)+1:=by have:=sumTo_upd_out f Ph.work Ph.counted (bD m);simp only[sumTo,ig,this];rfl
 have c:((sumTo m (λi=>(f i).counted)+Mp.ready.pend:Nat):Int) *KK=((sumTo (m+1) (λi=>(upd f m .work i).counted)+Mp.opn.pend:Nat):Int) *KK:=by rw[e];rfl
 rw[c];refine .opn (p:=.opn) trivial (λi g=>?_) (λb e=>by cases e) λb e=>by cases e
 by_cases a:i=m
 ·subst a;rw[ig];trivial
 ·rw[jj f _ a];exact d i ak
def Mode.Mb(h:Mode m f .reg st sm):sm=0\/(st=0/\sm=1/\∀i,i<m->f i=.quit):=by
 cases h with
 |opn h=>exact h.elim
 |reg=>exact aF rfl
 |last=>exact aF rfl
 |sema h=>exact aE ⟨rfl,rfl,h⟩
 |over h=>exact h.elim
def Mode.adr(h:Mode m f .reg st 0):∃i,i<m/\f i≠.quit:=by
 cases h with
 |opn h=>exact h.elim
 |reg k l=>
  refine pS λg=>?_
  have all:∀i,i<m->(f i).counted<=0:=λi d=>by have:f i=.quit:=pS λj=>g ⟨i,d,j⟩;rw[this];exact bD _
  have:=sumTo_le (f:=λi=>(f i).counted) (c:=0) all;omega
 |@last L b a=>exact⟨L,b,λe=>by rw[e]at a;exact a⟩
 |over h=>exact h.elim
def Mode.take(h:Mode m f .reg st 1)(d:WgAt ty Wg w st 1):∃b a,WgAt ty Wg (w.setCell (smA Wg) (.int .u32 0)) b a/\Mode m f .woken b a:=by
 rcases h.Mb with e|⟨rfl,_,c⟩
 ·cases e
 ·exact⟨0,0,d.setSm 0,.over (p:=.woken) trivial c⟩
end
end
section
open Go.Conc
open Go.ConcN (ShN WgLive sumTo upd sumTo_upd upd_ne upd_same)
open Go.ConcR (KK WgAt stA smA rd wr mk)
section
variable [aP] [bw] {P:aY} {ty:aQ} {Wg:Nat} {Shun:Loc->Prop} {Q:Nat->(Nat->Prop)->az->Prop} {M old:Nat} {O0:vE} {mp:Mp} {a:bM} {bl:Bool} {w0:az} {m:Nat} {f:Nat->ni} {Ow:Nat->Nat->Prop} {q:Nat->Nat} {gs:aJ bM} {w:az} {t:fQ} {sl:aZ (Nat×Nat)}
structure ir(w w':az):Prop where
 os:w'.os=w.os
 output:w'.output=w.output
 tape:w'.tape=w.tape
 size:w.heap.size<=w'.heap.size
def ir.refl(w):ir w w:=⟨rfl,rfl,rfl,bD _⟩
def ir.trans{w1 w2 w3}(h:ir w1 w2)(k:ir w2 w3):ir w1 w3:=⟨k.os.trans h.os,k.output.trans h.output,k.tape.trans h.tape,dM h.size k.size⟩
def ir.at (w d):ir w (w.at d):=⟨rfl,rfl,rfl,bD _⟩
def ir.set(w ad v):ir w (w.setCell ad v):=⟨by simp[fY],by simp[fY],by simp[fY],aC⟩
def tU.same{O w w'}(h:tU O w w'):ir w w':=⟨h.os,h.output,h.tape,h.size⟩
def fL.same{O w w' p p' bT}(h:fL ty Wg O w p w' bT p'):ir w w':=by
 cases h with
 |own h=>exact h.same
 |add=>exact .set ..
 |zero=>exact .set ..
 |post=>exact .set ..
 |_=>exact .refl _
def fM.same{O w w' p p' bT}(h:fM ty Wg O w p w' bT p'):ir w w':=by
 cases h with
 |own _ h=>exact h.same
 |add=>exact .set ..
 |hit=>exact .set ..
 |_=>exact .refl _
def GD(Ow:Nat->Nat->Prop)(k O):lK Ow k O k=O:=by
 funext b
 apply propext;constructor
 ·rintro(⟨_,h⟩|⟨h,_⟩)
  ·exact h
  ·exact absurd rfl h
 ·exact λh=>aF ⟨rfl,h⟩
def nK(Ow:Nat->Nat->Prop){k j}(c:j≠k)(O):lK Ow k O j=Ow j:=by
 funext b
 apply propext;constructor
 ·rintro(⟨h,_⟩|⟨_,h⟩)
  ·exact absurd h c
  ·exact h
 ·exact λh=>aE ⟨c,h⟩
def Pj{w'}(h:vi ty Wg O0 Ow w)(hr:Rel ty Wg O0.X w w'){k O}(e:∀b,O b->Ow k b\/w.heap.size<=b):vi ty Wg O0 (lK Ow k O) w':=by
 have g:=h.rel.size;refine⟨λj b c d=>?_,λj b c=>?_,h.lt,h.rel.trans hr,h.wg⟩
 rotate_left
 ·rcases c with⟨_,c⟩|⟨_,c⟩
  ·rcases e b c with h1|h1
   ·exact h.old k b h1
   ·exact aE ak
  ·exact h.old j b c
 rcases c with⟨_,c⟩|⟨_,c⟩
 ·rcases e b c with h1|h1
  ·exact h.no k b h1 d
  ·have:=h.lt b d;have:=h.rel.size;omega
 ·exact h.no j b c d
def vi.at (h:vi ty Wg O0 Ow w)(d):vi ty Wg O0 Ow (w.at d):=⟨h.no,h.old,h.lt,h.rel.trans (.at ..),h.wg⟩
def vi.small(h:vi ty Wg O0 Ow w):∀b,O0.X b->b<w.heap.size:=λb c=>dI (h.lt b c) h.rel.size
def UO{i g g1 w1 bT}(s:gs[i]? =aa g)(v:∀(j:Nat) h,gs[j]? =aa h->h.status=.blocked->h.offers=ay)(h:jm P (i==0) g w g1 w1 bT):
  ∃F c,runT P (crowd gs w sl) i=(.next (crowd ((gs.map F).setIfInBounds i g1) w1 sl),c)/\(F=woken P g g1 w1\/(F=id/\∀k l d,stepG P (i==0) g w≠.go k l d))/\c.map (·.act)=bT/\∀op∈c,op.g=i:=by
 obtain⟨F,c,n,o,p,r⟩:=UN (sl:=sl) s v h;cases h with
 |go h=>
  refine⟨_,_,sI s h,aF rfl,?_,mA _ _ _ _⟩;rw[Bq];simp[Dh,Dv]
 |shut h u=>exact⟨F,c,n,o.imp id λe=>⟨e,λk l d b=>by rw[h]at b;cases b⟩,p,r⟩
 |rm h u=>exact⟨F,c,n,o.imp id λe=>⟨e,λk l d b=>by rw[h]at b;cases b⟩,p,r⟩
 |rq h=>exact⟨F,c,n,o.imp id λe=>⟨e,λk l d b=>by rw[h]at b;cases b⟩,p,r⟩
def rL{F g g1 x w1}{X:Prop}(hF:F=woken P g g1 w1\/(F=id/\X))(b:x.status=.running\/x.status=.finished):F x=x:=by
 rcases hF with rfl|⟨rfl,_⟩
 ·unfold woken;split
  ·exact again_running _ b
  ·rfl
 ·rfl
def XO{a}(b:a.status=.running):({({a with status:=.blocked}:bM)with status:=.running}:bM)=a:=by
 cases a
 simp_all
def MN(h:BK mp a bl gs)(l:a.status=.running){F g g1 w1}{X:Prop}(hF:F=woken P g g1 w1\/(F=id/\X)){k}(n:k≠0):
  ∃j,BK mp a j ((gs.map F).setIfInBounds k g1)/\(j=aq->bl=aq/\¬(F=woken P g g1 w1/\Ef P g=aq/\(g1.status=.running\/g1.status=.finished))):=by
 have c:((gs.map F).setIfInBounds k g1)[0]? =(gs[0]?).map F:=by rw[dO n,fV]
 rcases h with⟨rfl,h0⟩|⟨rfl,hm,d,h0⟩
 ·refine⟨av,aF ⟨rfl,?_⟩,λe=>by cases e⟩;rw[c,h0];simp[rL hF (aF l)]
 ·rcases hF with rfl|⟨rfl,_⟩
  ·by_cases b:(Ef P g&&g1.status !=.blocked&&g1.status !=.waiting)=aq
   ·refine⟨av,aF ⟨rfl,?_⟩,λe=>by cases e⟩;rw[c,h0];simp only[tP,woken,aW b];refine dZ aa ?_
    have:({a with status:=.blocked}:bM).again w1={({a with status:=.blocked}:bM)with status:=.running}:=by unfold VS;simp[d]
    rw[this];exact XO l
   ·refine⟨aq,aE ⟨rfl,hm,d,?_⟩,λ_=>⟨rfl,λ⟨_,i,h2⟩=>b ?_⟩⟩
    ·rw[c,h0];simp only[tP,woken,aK b]
    ·rcases h2 with h2|h2<;>simp[i,h2]
  ·refine⟨aq,aE ⟨rfl,hm,d,by rw[c,h0];rfl⟩,λ_=>⟨rfl,λ⟨i,h2,h3⟩=>?_⟩⟩;have:=congrFun i ({a with status:=.blocked}:bM);have b:(Ef P g&&g1.status !=.blocked&&g1.status !=.waiting)=aq:=by rcases h3 with h3|h3<;>simp[h2,h3]
   simp only[id,woken,aW b]at this;unfold VS at this;simp only[d]at this;have:=dZ Goroutine.status this;simp at this
def WS.running{Q p O g w}(h:WS P ty Wg Q p O g w)(c:p≠.quit):g.status=.running:=by
 cases h with
 |quit=>exact absurd rfl c
 |step _ b=>exact b
def Works.status{Q k s}(h:Works P ty Wg Q t k w s):s.g.status=.running\/s.g.status=.finished:=by
 by_cases b:s.p=.quit
 ·exact(h.qu b).1.status
 ·exact aF ((h.ws b).1.running b)
def Works.other{Q k j s w' ops}(h:Works P ty Wg Q t k w s)(e:∀op∈ops,op.g=j)(d:j≠k)(hr:Rel ty Wg s.O w w'):Works P ty Wg Q (t++ops) k w' s:=by have c:Deaf (t++ops) k=Deaf t k:=om e (dc d);refine⟨h.rel.trans hr,λb=>⟨(h.ws b).1,c▸(h.ws b).2⟩,λb=>⟨c▸(h.qu b).1,(h.qu b).2⟩,λb=>?_⟩;obtain⟨r,hr⟩:=h.rl b;exact⟨r,hr.other e d⟩
def Inv.status(h:Inv P ty Wg Shun Q M old O0 mp a bl w0 m f Ow q gs w t){j}(d:0<j){g}(b:gs[j]? =aa g):g.status=.running\/g.status=.finished:=by
 by_cases e:j<old
 ·exact(h.gC j g d e b).status
 ·obtain⟨i,rfl⟩:∃i,j=old+i:=⟨j-old,ak⟩
  have c:i<m:=by have:=(bq.1 b).1;have:=h.size;omega
  have:=(h.own i c).2;rw[b]at this;obtain rfl:=dP this;exact(h.work i c).status
def Inv.SQ(h:Inv P ty Wg Shun Q M old O0 mp a bl w0 m f Ow q gs w t)(d:a.status=.running):∀(j:Nat) x,gs[j]? =aa x->x.status=.blocked->x.offers=ay:=by
 intro j x b c;rcases mV j with rfl|hj
 ·rcases h.main with⟨_,h0⟩|⟨_,_,g,h0⟩
  ·rw[h0]at b;obtain rfl:=dP b;rw[d]at c;cases c
  ·rw[h0]at b;obtain rfl:=dP b;exact g
 ·rcases h.status hj b with e|e<;>rw[e]at c<;>cases c
def Inv.Pt(h:Inv P ty Wg Shun Q M old O0 mp a bl w0 m f Ow q gs w t)(c:a.status=.running):∀g∈gs,Go.Conc.awake g:=by
 intro g d;obtain⟨i,j,rfl⟩:=wJ.1 d;have b:=cX j;rcases mV i with rfl|hj
 ·rcases h.main with⟨_,h0⟩|⟨_,_,k,h0⟩
  ·rw[h0]at b;rw[<-dP b];exact sF (aF c)
  ·rw[h0]at b;rw[<-dP b];exact sF (aE (aF rfl))
 ·exact sF ((h.status hj b).elim aF λe=>aE (aE e))
def Inv.at (h:Inv P ty Wg Shun Q M old O0 mp a bl w0 m f Ow q gs w t)(d):Inv P ty Wg Shun Q M old O0 mp a bl w0 m f Ow q gs (w.at d) t:=
 ⟨h.many,h.size,h.room,h.tc,h.kt,h.mode,h.main,h.uz.trans (.at ..),h.deaf0,h.gC,h.own,λi b=>⟨(h.work i b).rel.trans (.at ..),(h.work i b).ws,(h.work i b).qu,(h.work i b).rl⟩,h.acq,h.above,h.bare,h.all.at d⟩
def zI{ops k j}(l:∀op∈ops,op.g=k)(e:j≠k)(h:∀i,t.g? i≠aa j):∀i,(t++ops).g? i≠aa j:=λi d=>by
 rcases xH d with⟨_,b⟩|⟨_,op,n,_,c⟩
 ·exact h i b
 ·exact e (c.symm.trans (l op n))
def fL.sem{O w w' p p' bT}(h:fL ty Wg O w p w' bT p'){st sm st' sm'}(b:WgAt ty Wg w st sm)(c:WgAt ty Wg w' st' sm')(d:¬O Wg)(e:Wg<w.heap.size):sm'=sm\/(p=.me/\p'=.quit):=by
 cases h with
 |own h=>exact aF (c.unique ((h.cO Wg e d).trans b)).2
 |add=>exact aF (c.unique (b.setSt _)).2
 |zero=>exact aF (c.unique (b.setSt _)).2
 |post=>exact aE ⟨rfl,rfl⟩
 |_=>exact aF (c.unique b).2
def UX(f i)(s:ni):(λj=>(upd f i s j).p)=upd (λj=>(f j).p) i s.p:=by
 funext j
 by_cases h:j=i
 ·subst h;rw[ig,ig]
 ·rw[jj _ _ h,jj _ _ h]
def Inv.worker(h:Inv P ty Wg Shun Q M old O0 mp a bl w0 m f Ow q gs w t)(ha:a.status=.running){i}(C:i<m)(A:(f i).p≠.quit):
  ∃I s' OU aG d U,runT P (crowd gs w sl) (old+i)=(.next (crowd aG d sl),U)/\Inv P ty Wg Shun Q M old O0 mp a I w0 m (upd f i s') OU q aG d (t++U)/\qZ P ty Wg s' (f i)/\ir w d/\(I=aq->bl=aq)/\OU 0=Ow 0:=by
 obtain⟨st,sm,aC,af,xK⟩:=h.mode;have L:=h.work i C;obtain⟨v,S⟩:=h.own i C;obtain⟨KF,R⟩:=L.ws A;have hm:m<2147483647:=by have:=h.room;omega
 have u:tW ty Wg (f i).p w:=af.zG aC C hm;have E:old+i≠0:=by have:=h.many;omega
 have aN:(old+i==0)=av:=by simp;have:=h.many;omega
 have hrel:=L.rel;have aj:=L.rl;generalize hs:f i=s at A L v S KF R u hrel aj;obtain⟨p,O,g,wz,n⟩:=s;simp only at A v S KF R u hrel aj;cases KF with
 |quit=>exact absurd rfl A
 |step _ hg V bk bn hk=>
  obtain⟨B,d,W,ht,k⟩:=bk w hrel u;have T:=hk w B d W hrel u ht
  obtain⟨H,ah⟩:∃H,V w=.quit->QuitsD P H 1 B/\∀aS,Rel ty Wg (ff O w d) d aS->Q i (ff O w d) aS:=by
   by_cases r:V w=.quit
   ·rw[r]at T;generalize bg:Ph.quit=p2 at T;cases T with
    |@quit _ _ _ H J X=>exact⟨H,λ_=>⟨J,X⟩⟩
    |step G=>exact absurd bg.symm G
   ·exact⟨0,λe=>absurd e r⟩
  obtain⟨F,U,hr,hF,N,o⟩:=UO (sl:=sl) S (h.SQ ha) (aN▸ht);obtain⟨I,Kx,RA⟩:=MN h.main ha hF E;have K:¬O Wg:=v▸h.tc.wg (old+i)
  have RL:∀j,j≠old+i->Rel ty Wg (Ow j) w d:=λj c=>
   k.Gp u (λb l Z=>c (h.tc.one _ _ b l (v▸Z))) (λb l=>h.tc.lt _ b l) K (h.tc.wg j) h.tc.qH
  have aX:old+i<gs.size:=(bq.1 S).1
  have cO:∀(j:Nat) x,0<j->j≠old+i->((gs.map F).setIfInBounds (old+i) B)[j]? =aa x->gs[j]? =aa x:=λj x c G z=>by rw[dO (dc G),fV]at z;obtain⟨y,hy,rfl⟩:=eV.1 z;rw[rL hF (h.status c hy)];exact hy
  have ZO:∀(j:Nat) x,0<j->j≠old+i->gs[j]? =aa x->((gs.map F).setIfInBounds (old+i) B)[j]? =aa x:=λj x c G z=>by rw[dO (dc G),fV,z];simp[rL hF (h.status c z)]
  have bB:=h.many;refine⟨I,⟨V w,ff O w d,B,d,H⟩,lK Ow (old+i) (ff O w d),_,d,U,hr,⟨h.many,by simp[h.size],h.room,k.tc v.symm h.tc N o,k.kt h.kt N o ak,?_,Kx,?_,?_,λj x c Ku z=>?_,λj c=>?_,λj c=>?_,λl=>?_,λj c=>⟨?_,?_,?_⟩,λj c Ku=>?_,Pj h.all (k.Gp u (λb l Z=>h.all.no (old+i) b (v▸Z) l) h.all.small K h.all.wg h.tc.qH) λb l=>l.elim (λh=>aF (v▸h)) λh=>aE h.1⟩,?_,k.same,λe=>(RA e).1,nK Ow (dc E) _⟩
  ·have bh:(f i).p=p:=by rw[hs]
   have bf:fL ty Wg O w (f i).p d W (V w):=by rw[bh];exact k
   obtain⟨bw,bu,J,X⟩:=af.worker aC C K h.tc.qH bf hm;refine⟨bw,bu,J,by rw[UX];exact X,λe he=>?_⟩;obtain⟨pE,lZ⟩:=RA e;rcases k.sem aC J K h.tc.qH with Y|⟨Y,h4⟩
   ·exact xK pE (Y▸he)
   ·obtain⟨k1,g2,w2,es,k2⟩:=bn w hrel u Y h4;rcases hF with hF|⟨_,hF⟩
    ·exact lZ ⟨hF,k1,(ah h4).1.status⟩
    ·rw[aN]at hF;exact hF _ _ _ k2
  ·rw[nK Ow (dc E)];exact h.uz.trans (RL 0 (dc E))
  ·rw[om o (dc E)];exact h.deaf0
  ·rw[om o ak];exact h.gC j x c Ku (cO j x c ak z)
  ·by_cases D:j=i
   ·subst D;rw[ig,GD];exact⟨rfl,by simp[aX]⟩
   ·rw[jj f _ D,nK Ow ak];exact⟨(h.own j c).1,ZO _ _ ak ak (h.own j c).2⟩
  ·by_cases D:j=i
   ·subst D;rw[ig];have hd:=k.lH N o R;refine⟨.refl ..,λ_=>⟨T,hd⟩,λr=>⟨?_,(ah r).2⟩,λr=>k.abH N o R aj r⟩;simp only at r⊢;rw[hd,r];exact(ah r).1
   ·rw[jj f _ D];exact(h.work j c).other o ak ((h.own j c).1▸RL (old+j) ak)
  ·subst l;have:=(af.xX trivial).1 i C;simp only[hs]at this;exact absurd this A
  ·rw[om o ak];exact(h.above j c).1
  ·rw[nK Ow ak];exact(h.above j c).2.1
  ·exact zI o ak (h.above j c).2.2
  ·rw[nK Ow ak];exact h.bare j c Ku
  ·exact aF ⟨A,w,W,hrel,u,ht,k,rfl⟩
end
section
variable [aP] [bw] {P:aY} {ty:aQ} {Wg:Nat} {Shun:Loc->Prop} {Q:Nat->(Nat->Prop)->az->Prop} {M old:Nat} {O0:vE} {mp:Mp} {a:bM} {bl:Bool} {w0:az} {m:Nat} {f:Nat->ni} {Ow:Nat->Nat->Prop} {q:Nat->Nat} {gs:aJ bM} {w:az} {t:fQ} {sl:aZ (Nat×Nat)}
def SE{k fn pos es}(hm:∀e∈es,e.mute=aq):∀op∈kA k fn pos es,op.act.touch?=ay:=λop c=>by obtain⟨e,b,rfl⟩:=Nn c;exact touch_mute (hm e b)
def SC{k fn pos es}(hm:∀e∈es,e.mute=aq)(B):∀op∈kA k fn pos es,op.act.low B:=λop c=>by obtain⟨e,b,rfl⟩:=Nn c;exact low_mute (hm e b) B
def SD{k fn pos es}(hm:∀e∈es,e.mute=aq)(ad):∀op∈kA k fn pos es,op.act≠.mark (.release ad):=λop c d=>by
 obtain⟨⟨loc,wr,g⟩,b,rfl⟩:=Nn c;have:=hm _ b;cases loc with
 |mark x=>cases x<;>simp_all[NT,cY]
 |_=>simp_all[NT]
def jl.Ld{k r}(h:jl Wg t k r){ops}(j:∀op∈ops,op.act.touch?=ay):jl Wg (t++ops) k r:=by
 refine h.app (λi l g e=>?_) λop b _ x c=>by grind
 obtain⟨x,c,_⟩:=e;rcases xH g with⟨n,_⟩|⟨_,op,b,d,_⟩
 ·omega
 ·have:touchAt (t++ops) i=aa x:=c;rw[Bx d,j op b]at this;cases this
def act?_old{ops s x}(h:t.act? s=aa x):(t++ops).act? s=aa x:=by obtain⟨z,b,c⟩:=eV.1 h;unfold yZ;rw[Oo (xd b),b];exact dZ aa c
def g?_old{ops s g}(h:t.g? s=aa g):(t++ops).g? s=aa g:=by obtain⟨z,b,c⟩:=eV.1 h;unfold sD;rw[Oo (xd b),b];exact dZ aa c
def heard_old{ops s}(h:t.heard s):(t++ops).heard s:=by obtain⟨g,b,c⟩:=h;refine⟨g,g?_old b,?_⟩;obtain⟨z,d,_⟩:=eV.1 b;rw[IU (mW (xd d))];exact c
def Acq.app{ops}(h:Acq Wg old m t)(hr:∀i k,i<m->jl Wg t (old+i) k->jl Wg (t++ops) (old+i) k):Acq Wg old m (t++ops):=by obtain⟨s,c,d,e,g⟩:=h;exact⟨s,act?_old c,g?_old d,heard_old e,λi b=>by obtain⟨k,j,l⟩:=g i b;exact⟨k,hr i k b j,l⟩⟩
def Inv.leaves(h:Inv P ty Wg Shun Q M old O0 mp a bl w0 m f Ow q gs w t)(U:a.status=.running){i}(H:i<m)(v:(f i).p=.quit)(A:(f i).g.status=.running):
  ∃u L E K,runT P (crowd gs w sl) (old+i)=(.next (crowd E w sl),K)/\Inv P ty Wg Shun Q M old O0 mp a u w0 m (upd f i L) Ow q E w (t++K)/\qZ P ty Wg L (f i)/\(u=aq->bl=aq):=by
 obtain⟨st,sm,aC,aj,W⟩:=h.mode;have B:=h.work i H;obtain⟨S,G⟩:=h.own i H;have I:old+i≠0:=by have:=h.many;omega
 have af:(old+i==0)=av:=by simp;have:=h.many;omega
 obtain⟨z,T⟩:=B.qu v;cases C:(f i).n with
 |zero=>rw[C]at z;rw[z.1]at A;cases A
 |succ n=>
  rw[C]at z;rcases z with⟨X,_⟩|⟨_,c,N,hm,uu,ru⟩
  ·rw[X]at A;cases A
  have hr:=sI (P:=P) (sl:=sl) (i:=old+i) G (by rw[af];exact uu w);have l:=mA (old+i) (f i).g.frame.fn (f i).g.frame.place N;have D:=SE (k:=old+i) (fn:=(f i).g.frame.fn) (pos:=(f i).g.frame.place) hm;have hF:woken P (f i).g c w=woken P (f i).g c w\/(woken P (f i).g c w=id/\False):=aF rfl;obtain⟨u,Kx,F⟩:=MN h.main U hF I;have ah:old+i<gs.size:=(bq.1 G).1
  have cO:∀(j:Nat) x,0<j->j≠old+i->((gs.map (woken P (f i).g c w)).setIfInBounds (old+i) c)[j]? =aa x->gs[j]? =aa x:=λj x b s o=>by rw[dO (dc s),fV]at o;obtain⟨y,J,rfl⟩:=eV.1 o;rw[rL hF (h.status b J)];exact J
  have R:∀(j:Nat) x,0<j->j≠old+i->gs[j]? =aa x->((gs.map (woken P (f i).g c w)).setIfInBounds (old+i) c)[j]? =aa x:=λj x b s o=>by rw[dO (dc s),fV,o];simp[rL hF (h.status b o)]
  have aH:=h.many;refine⟨u,⟨.quit,(f i).O,c,(f i).w,n⟩,_,_,hr,⟨h.many,by simp[h.size],h.room,h.tc.mute D (SC hm _) ⟨_,l⟩,h.kt.app (λop ho=>aE (aF (by rw[l op ho];omega))) (SD hm _),?_,Kx,h.uz,?_,λj x b Y o=>?_,λj b=>?_,λj b=>?_,λV=>?_,λj b=>⟨?_,(h.above j b).2.1,?_⟩,h.bare,h.all⟩,?_,λe=>(F e).1⟩
  ·refine⟨st,sm,aC,?_,λe=>W (F e).1⟩
   have:(λj=>(upd f i ⟨.quit,(f i).O,c,(f i).w,n⟩ j).p)=λj=>(f j).p:=by
    funext j
    by_cases d:j=i
    ·subst d;rw[ig];exact v.symm
    ·rw[jj f _ d]
   rw[this];exact aj
  ·rw[om l (dc I)];exact h.deaf0
  ·rw[om l ak];exact h.gC j x b Y (cO j x b ak o)
  ·by_cases d:j=i
   ·subst d;rw[ig];exact⟨S,by simp[ah]⟩
   ·rw[jj f _ d];exact⟨(h.own j b).1,R _ _ ak ak (h.own j b).2⟩
  ·by_cases d:j=i
   ·subst d;rw[ig];refine⟨B.rel,λs=>absurd rfl s,λ_=>⟨?_,T⟩,λ_=>?_⟩
    ·rw[AB];exact ru
    ·obtain⟨r,hr⟩:=B.rl (by rw[v];simp);exact⟨r,hr.Ld D⟩
   ·rw[jj f _ d];exact(h.work j b).other l ak (.refl ..)
  ·exact(h.acq V).app λj k _ Z=>Z.Ld D
  ·rw[om l ak];exact(h.above j b).1
  ·exact zI l ak (h.above j b).2.2
  ·exact aE ⟨v,rfl,by simp[C]⟩
def Inv.gone(h:Inv P ty Wg Shun Q M old O0 mp a bl w0 m f Ow q gs w t)(J:a.status=.running){k}(v:0<k)(S:k<old){g}(u:gs[k]? =aa g)(s:g.status=.running):
  ∃o n B G,runT P (crowd gs w sl) k=(.next (crowd B w sl),G)/\Inv P ty Wg Shun Q M old O0 mp a o w0 m f Ow (upd q k n) B w (t++G)/\n<q k/\(o=aq->bl=aq):=by
 obtain⟨st,sm,Z,V,L⟩:=h.mode;have D:k≠0:=ak;have R:(k==0)=av:=cq;have r:=h.gC k g v S u;cases E:q k with
 |zero=>rw[E]at r;rw[r.1]at s;cases s
 |succ n=>
  rw[E]at r;rcases r with⟨N,_⟩|⟨_,d,H,hm,Y,X⟩
  ·rw[N]at s;cases s
  have hr:=sI (P:=P) (sl:=sl) (i:=k) u (by rw[R];exact Y w);have l:=mA k g.frame.fn g.frame.place H;have A:=SE (k:=k) (fn:=g.frame.fn) (pos:=g.frame.place) hm;have hF:woken P g d w=woken P g d w\/(woken P g d w=id/\False):=aF rfl;obtain⟨o,U,C⟩:=MN h.main J hF D;have T:k<gs.size:=(bq.1 u).1
  have cO:∀(j:Nat) x,0<j->j≠k->((gs.map (woken P g d w)).setIfInBounds k d)[j]? =aa x->gs[j]? =aa x:=λj x b z c=>by rw[dO (dc z),fV]at c;obtain⟨y,F,rfl⟩:=eV.1 c;rw[rL hF (h.status b F)];exact F
  have I:∀(j:Nat) x,0<j->j≠k->gs[j]? =aa x->((gs.map (woken P g d w)).setIfInBounds k d)[j]? =aa x:=λj x b z c=>by rw[dO (dc z),fV,c];simp[rL hF (h.status b c)]
  refine⟨o,n,_,_,hr,⟨h.many,by simp[h.size],h.room,h.tc.mute A (SC hm _) ⟨_,l⟩,h.kt.app (λop W=>aE (aE (A op W))) (SD hm _),⟨st,sm,Z,V,λe=>L (C e).1⟩,U,h.uz,?_,λj x b O c=>?_,λj b=>?_,λj b=>?_,λK=>?_,λj b=>⟨?_,(h.above j b).2.1,?_⟩,h.bare,h.all⟩,ak,λe=>(C e).1⟩
  ·rw[om l (dc D)];exact h.deaf0
  ·by_cases p:j=k
   ·subst p;rw[wI (by simpa using T)]at c;obtain rfl:=dP c;rw[ig,AB];exact X
   ·rw[om l p,jj q n p];exact h.gC j x b O (cO j x b p c)
  ·exact⟨(h.own j b).1,I _ _ ak ak (h.own j b).2⟩
  ·exact(h.work j b).other l ak (.refl ..)
  ·exact(h.acq K).app λj k _ v=>v.Ld A
  ·rw[om l ak];exact(h.above j b).1
  ·exact zI l ak (h.above j b).2.2
end
section
variable [aP] [bw] {P:aY} {ty:aQ} {Wg:Nat} {Shun:Loc->Prop} {Q:Nat->(Nat->Prop)->az->Prop} {M old:Nat} {O0:vE} {mp:Mp} {a:bM} {w0:az} {m:Nat} {f:Nat->ni} {Ow:Nat->Nat->Prop} {q:Nat->Nat} {gs:aJ bM} {w:az} {t:fQ} {sl:aZ (Nat×Nat)}
def BK.running(h:BK mp a av gs):gs[0]? =aa a:=by
 rcases h with⟨_,h⟩|⟨e,_⟩
 ·exact h
 ·cases e
def Inv.Sv(h:Inv P ty Wg Shun Q M old O0 mp a av w0 m f Ow q gs w t)(D:a.status=.running){g' w' bT p'}(I:jm P aq a w g' w' bT)(J:∀d:fQ,d.map (·.act)=bT->(∀op∈d,op.g=0)->TC Wg (lK Ow 0 (ff (Ow 0) w w')) w'.heap.size (t++d)/\KT Shun Wg old (t++d)/\Deaf (t++d) 0=p'.lH/\(p'=.back->Acq Wg old m (t++d)))(H:∃st r,WgAt ty Wg w' st r/\Mode m (λi=>(f i).p) p' st r)(A:∀o:Nat->Prop,(∀b,o b->¬Ow 0 b)->(∀b,o b->b<w.heap.size)->¬o Wg->Rel ty Wg o w w'):
  ∃v z d,runT P (crowd gs w sl) 0=(.next (crowd z w' sl),d)/\Inv P ty Wg Shun Q M old O0 p' g' av w' m f v q z w' (t++d)/\v 0=ff (Ow 0) w w':=by
 have h0:=h.main.running;obtain⟨F,d,hr,hF,E,n⟩:=UO (sl:=sl) (i:=0) h0 (h.SQ D) I;obtain⟨K,L,N,O⟩:=J d E n;have G:0<gs.size:=(bq.1 h0).1;have R:=h.many
 have cO:∀(j:Nat) x,0<j->((gs.map F).setIfInBounds 0 g')[j]? =aa x->gs[j]? =aa x:=λj x c l=>by rw[dO ak,fV]at l;obtain⟨y,B,rfl⟩:=eV.1 l;rw[rL hF (h.status c B)];exact B
 have C:∀(j:Nat) x,0<j->gs[j]? =aa x->((gs.map F).setIfInBounds 0 g')[j]? =aa x:=λj x c l=>by rw[dO ak,fV,l];simp[rL hF (h.status c l)]
 obtain⟨st,r,m1,m2⟩:=H;refine⟨lK Ow 0 (ff (Ow 0) w w'),_,d,hr,⟨h.many,by simp[h.size],h.room,K,L,⟨st,r,m1,m2,λe=>by cases e⟩,aF ⟨rfl,by simp[G]⟩,.refl ..,N,λj x c u l=>?_,λj c=>?_,λj c=>?_,O,λj c=>⟨?_,?_,?_⟩,λj c u=>?_,Pj h.all (A O0.X (λb k s=>h.all.no 0 b s k) h.all.small h.all.wg) λb k=>k.imp id λh=>h.1⟩,GD ..⟩
 ·rw[om n ak];exact h.gC j x c u (cO j x c l)
 ·rw[nK Ow ak];exact⟨(h.own j c).1,C _ _ ak (h.own j c).2⟩
 ·refine(h.work j c).other n ak ((h.own j c).1▸A (Ow (old+j)) (λb k s=>?_) (λb k=>h.tc.lt _ b k) (h.tc.wg _));have:=h.tc.one _ _ b k s;omega
 ·rw[om n ak];exact(h.above j c).1
 ·rw[nK Ow ak];exact(h.above j c).2.1
 ·exact zI n ak (h.above j c).2.2
 ·rw[nK Ow ak];exact h.bare j c u
def fM.back{O w w' p bT}(h:fM ty Wg O w p w' bT .back):p=.back\/(p=.uk/\bT=#[NM (.acquire (stA Wg))]):=by
 generalize b:Mp.back=e at h;cases h with
 |acq=>exact aE ⟨rfl,by simp[mk,cY]⟩
 |own d=>subst b;exact aF rfl
 |idle=>subst b;exact aF rfl
 |nx c=>rcases c with rfl|⟨_,rfl,_⟩<;>cases b
 |_=>cases b
def Inv.U4(h:Inv P ty Wg Shun Q M old O0 mp a av w0 m f Ow q gs w t)(B:a.status=.running){g' w' bT p'}(F:jm P aq a w g' w' bT)(b:fM ty Wg (Ow 0) w mp w' bT p'):
  ∃n o d,runT P (crowd gs w sl) 0=(.next (crowd o w' sl),d)/\Inv P ty Wg Shun Q M old O0 p' g' av w' m f n q o w' (t++d)/\n 0=ff (Ow 0) w w':=by
 obtain⟨st,K,G,u,_⟩:=h.mode;have hm:m<2147483647:=by have:=h.room;omega
 have J:=h.many;refine h.Sv B F (λd g c=>⟨b.tc rfl h.tc g c,b.kt h.kt g c,b.lH g c h.deaf0,λD=>?_⟩) (u.main G (h.tc.wg 0) h.tc.qH b hm) λI x y A=>b.Gp x y (h.tc.wg 0) A h.tc.qH;subst D;rcases b.back with e|⟨e,v⟩
 ·exact(h.acq e).app λi k _ j=>j.other c ak
 ·subst e v;have E:d.size=1:=by have:=dZ Im g;simpa using this
  obtain⟨op,rfl⟩:∃op,d=#[op]:=by
   obtain⟨l⟩:=d
   match l,E with
   |[op],_=>exact⟨op,rfl⟩
  have C:op.act=.mark (.acquire (stA Wg)):=by simpa using g
  have j:=c op aC;refine⟨t.size,by simp[yZ,C],by simp[sD,j],⟨0,by simp[sD,j],?_⟩,λi s=>?_⟩
  ·rw[IU (bD _)];exact h.deaf0
  ·obtain⟨r,hr⟩:=(h.work i s).rl (by have e:(f i).p=.quit:=((u.xX trivial).1) i s;rw[e];simp);refine⟨r,hr.other c ak,?_⟩;have:=hr.by_.act;unfold yZ at this;obtain⟨z,H,_⟩:=eV.1 this;exact xd H
def Inv.take(h:Inv P ty Wg Shun Q M old O0 .reg a av w0 m f Ow q gs w t)(j:a.status=.running){st}(l:WgAt ty Wg w st 1){g'}(x:stepG P aq a w=.go g' (w.setCell (smA Wg) (.int .u32 0)) (semEvents (smA Wg))):
  ∃c d b,runT P (crowd gs w sl) 0=(.next (crowd d (w.setCell (smA Wg) (.int .u32 0)) sl),b)/\Inv P ty Wg Shun Q M old O0 .woken g' av (w.setCell (smA Wg) (.int .u32 0)) m f c q d (w.setCell (smA Wg) (.int .u32 0)) (t++b)/\c 0=Ow 0:=by
 obtain⟨C,B,y,v,_⟩:=h.mode;obtain⟨rfl,rfl⟩:=l.unique y;have A:=h.many;have u:ff (Ow 0) w (w.setCell (smA Wg) (.int .u32 0))=Ow 0:=Fq aC;have r:∀g∈(semEvents (smA Wg)).map cY,zo Wg g:=λg j=>(KR Wg g j).FL;have:=h.Sv (sl:=sl) (p':=.woken) j (.go x) (λb p k=>⟨UI (aE ⟨aC,r⟩) aC rfl h.tc p k,h.kt.app (λop s=>aF (k op s)) λop s=>(r _ (by grind)).rel,?_,λe=>by cases e⟩) (v.take l) λz n o i=>tB rfl i ⟨_,_,l.setSm _⟩
 ·obtain⟨c,d,b,n,o,i⟩:=this;exact⟨c,d,b,n,o,i.trans u⟩
 ·rw[EY k,p,h.deaf0];simp[oq,cY,semEvents,Mp.lH]
def Inv.block(h:Inv P ty Wg Shun Q M old O0 .reg a av w0 m f Ow q gs w t)(s:a.offers=ay){st}(v:WgAt ty Wg w st 0)(u:stepG P aq a w=.go {a with status:=.blocked} w #[]):
  ∃c l,runT P (crowd gs w sl) 0=(.next (crowd c w sl),l)/\Inv P ty Wg Shun Q M old O0 .reg a aq w0 m f Ow q c w (t++l):=by
 obtain⟨B,A,d,r,_⟩:=h.mode;obtain⟨rfl,rfl⟩:=v.unique d;have h0:=h.main.running;have p:0<gs.size:=(bq.1 h0).1;have z:=h.many;have hF:woken P a {a with status:=.blocked} w=woken P a {a with status:=.blocked} w\/(woken P a {a with status:=.blocked} w=id/\False):=aF rfl;have n:t++kA 0 a.frame.fn a.frame.place #[]=t:=by rw[Bq];simp
 refine⟨_,_,(sI (P:=P) (sl:=sl) (i:=0) h0 (show stepG P (0==0) a w=_ from u)),?_⟩;rw[n];refine⟨h.many,by simp[h.size],h.room,h.tc,h.kt,⟨_,_,d,r,λ_ e=>by cases e⟩,aE ⟨rfl,rfl,s,by simp[p]⟩,h.uz,h.deaf0,λj x b o g=>?_,λj b=>⟨(h.own j b).1,?_⟩,h.work,h.acq,h.above,h.bare,h.all⟩
 ·rw[dO ak,fV]at g;obtain⟨y,k,rfl⟩:=eV.1 g;rw[rL hF (h.status b k)];exact h.gC j y b o k
 ·rw[dO ak,fV,(h.own j b).2];simp[rL hF (h.status ak (h.own j b).2)]
def YO{x y c j}(b:x.act=.go c)(hy:y.act=.start):Deaf (t++#[x,y]) j=Deaf t j:=by rw[show(#[x,y]:aJ MemOp)=[x,y].toArray from rfl,(Deaf_append t j [x,y])];simp[Ed,b,hy]
def Inv.fork(h:Inv P ty Wg Shun Q M old O0 .ready a av w0 m f Ow q gs w t)(J:m<M){A R}(B:∀b,A b->Ow 0 b)(hR:∀b,R b->Ow 0 b)(I:∀b,A b->¬R b)(Y:∀b,Ow 0 b->A b\/R b){g' l}(S:stepG P aq a w=.spawn g' l w #[])(U:WS P ty Wg (Q m) .work A l w):
  ∃H D E ops,runT P (crowd gs w sl) 0=(.next (crowd E w sl),ops)/\Inv P ty Wg Shun Q M old O0 .opn g' av w (m+1) H D q E w (t++ops)/\D 0=R:=by
 obtain⟨st,X,T,O,_⟩:=h.mode;have h0:=h.main.running;have hr:=runT_crowd_spawn (P:=P) (sl:=sl) (i:=0) h0 (show stepG P (0==0) a w=_ from S);have N:0<gs.size:=(bq.1 h0).1;have Z:=h.many;have F:=h.size
 have K:((kA 0 a.frame.fn a.frame.place #[]).push {g:=0,fn:=a.frame.fn,pos:=a.frame.place,act:=.go gs.size}).push {g:=gs.size,fn:=l.frame.fn,pos:=a.frame.place,act:=.start}=#[{g:=0,fn:=a.frame.fn,pos:=a.frame.place,act:=.go gs.size},{g:=gs.size,fn:=l.frame.fn,pos:=a.frame.place,act:=.start}]:=by rw[Bq];simp
 rw[K]at hr;generalize u:({g:=0,fn:=a.frame.fn,pos:=a.frame.place,act:=.go gs.size}:MemOp)=x at hr;generalize V:({g:=gs.size,fn:=l.frame.fn,pos:=a.frame.place,act:=.start}:MemOp)=y at hr;have p:x.g=0/\x.act=.go (old+m):=by rw[<-u,<-F];exact⟨rfl,rfl⟩
 have r:y.g=old+m/\y.act=.start:=by rw[<-V,<-F];exact⟨rfl,rfl⟩
 have v:∀j,Deaf (t++#[x,y]) j=Deaf t j:=λj=>YO p.2 r.2;have split:t++#[x,y]=(t++#[x])++#[y]:=by apply Au;simp
 have W:∀(j:Nat) z,j≠0->gs[j]? =aa z->((gs.setIfInBounds 0 g').push l)[j]? =aa z:=λj z n o=>by have L:=(bq.1 o).1;rw[fJ,aK cq,dO ak];exact o
 have G:∀(j:Nat) z,j≠0->j<gs.size->((gs.setIfInBounds 0 g').push l)[j]? =aa z->gs[j]? =aa z:=λj z n L o=>by rw[fJ,aK cq,dO ak]at o;exact o
 refine⟨upd f m ⟨.work,A,l,w,0⟩,lK (lK Ow 0 R) (old+m) A,_,_,hr,⟨h.many,by simp[h.size];omega,⟨h.room.1,J⟩,h.tc.fork ak B hR I (h.above _ (bD _)).2.1 p r h.deaf0 (h.above _ (bD _)).1,h.kt.app (λop c=>?_) (λop c=>?_),⟨st,X,T,by rw[UX];exact O.spawn,(λe=>by cases e)⟩,aF ⟨rfl,?_⟩,.refl ..,?_,λj z n C o=>?_,λj n=>?_,λj n=>?_,(λe=>by cases e),λj n=>⟨?_,?_,?_⟩,λj n C=>?_,⟨λj b d u=>?_,λj b d=>?_,h.all.lt,h.all.rel,h.all.wg⟩⟩,?_⟩
 ·simp at c;rcases c with rfl|rfl
  ·exact aF p.1
  ·exact aE (aF (by rw[r.1];omega))
 ·simp at c;rcases c with rfl|rfl
  ·rw[p.2];simp
  ·rw[r.2];simp
 ·rw[fJ,aK cq];simp[N]
 ·rw[v];exact h.deaf0
 ·rw[v];exact h.gC j z n C (G j z ak ak o)
 ·by_cases s:j=m
  ·subst s;rw[ig,GD];refine⟨rfl,?_⟩;rw[fJ,aW cq]
  ·rw[jj f _ s,nK _ ak,nK _ ak];exact⟨(h.own j ak).1,W _ _ ak (h.own j ak).2⟩
 ·by_cases s:j=m
  ·subst s;rw[ig];refine⟨.refl ..,λ_=>⟨U,?_⟩,(λe=>by cases e),λe=>absurd rfl e⟩;rw[v];exact(h.above _ (bD _)).1
  ·rw[jj f _ s,split];exact((h.work j ak).other (j:=0) (ops:=#[x]) (λop c=>by simp at c;rw[c];exact p.1) ak (.refl ..)).other (j:=old+m) (λop c=>by simp at c;rw[c];exact r.1) ak (.refl ..)
 ·rw[v];exact(h.above j ak).1
 ·rw[nK _ ak,nK _ ak];exact(h.above j ak).2.1
 ·rw[split];exact zI (k:=old+m) (λop c=>by simp at c;rw[c];exact r.1) ak (zI (k:=0) (λop c=>by simp at c;rw[c];exact p.1) ak (h.above j ak).2.2)
 ·rw[nK _ ak,nK _ ak];exact h.bare j n C
 ·rcases d with⟨_,d⟩|⟨_,⟨_,d⟩|⟨_,d⟩⟩
  ·exact h.all.no 0 b (B b d) u
  ·exact h.all.no 0 b (hR b d) u
  ·exact h.all.no j b d u
 ·rcases d with⟨_,d⟩|⟨_,⟨_,d⟩|⟨_,d⟩⟩
  ·exact h.all.old 0 b (B b d)
  ·exact h.all.old 0 b (hR b d)
  ·exact h.all.old j b d
 ·rw[nK _ ak,GD]
end
section
variable [aP] [bw] {P:aY} {ty:aQ} {Wg:Nat} {Shun:Loc->Prop} {Post:Nat->(Nat->Prop)->bM->az->Prop} {Q:Nat->(Nat->Prop)->az->Prop} {M old:Nat} {O0:vE} {mp:Mp} {a:bM} {w0:az} {m:Nat}
def vl(P:aY)(ty:aQ)(Wg:Nat)(Shun:Loc->Prop)(Post:Nat->(Nat->Prop)->bM->az->Prop)(Q:Nat->(Nat->Prop)->az->Prop)(M old:Nat)(O0:vE)(gs:aJ bM)(w:az)(sl:aZ (Nat×Nat))(t:fQ):Prop:=
 ∃N a w0 m f Ow q c b e d,runNT P N (crowd gs w sl) t=(.next (crowd c b e),d)/\Inv P ty Wg Shun Q M old O0 .back a av w0 m f Ow q c b d/\Post m (Ow 0) a b/\ir w b
def vl.step{gs kO w w1 sl GG t ops}(i:stepT P (crowd gs w sl)=(.next (crowd kO w1 GG),ops))(j:ir w w1)(h:vl P ty Wg Shun Post Q M old O0 kO w1 GG (t++ops)):vl P ty Wg Shun Post Q M old O0 gs w sl t:=by obtain⟨N,a,w0,m,f,Ow,q,b,n,k,l,c,d,e,g⟩:=h;exact⟨N+1,a,w0,m,f,Ow,q,b,n,k,l,by simp only[runNT,i];exact c,d,e,j.trans g⟩
def aha(s:ni):zy ty Wg s s:=⟨rfl,rfl,rfl,rfl,.refl ..⟩
def Inv.go{O}(z:a.status=.running)
  (Y:∀f Ow q gs w sl t,Ow 0=O->Inv P ty Wg Shun Q M old O0 mp a av w0 m f Ow q gs w t->∃r c b,runT P (crowd gs w sl) 0=(.next (crowd r c sl),b)/\ir w c/\(vl P ty Wg Shun Post Q M old O0 r c sl (t++b)\/Inv P ty Wg Shun Q M old O0 mp a aq w0 m f Ow q r c (t++b))):
  ∀f,Acc (Down (qZ P ty Wg) (zy ty Wg) m) f->∀S bl Ow q gs w sl t,sumTo old q<S->Ow 0=O->Inv P ty Wg Shun Q M old O0 mp a bl w0 m f Ow q gs w t->vl P ty Wg Shun Post Q M old O0 gs w sl t:=by
 intro f V;induction V with
 |intro f _ L=>
  intro S;induction S with
  |zero=>exact λbl Ow q gs w sl t h=>absurd h ak
  |succ S af=>
   have down:∀{i:Nat} {C:ni},i<m->qZ P ty Wg C (f i)->Down (qZ P ty Wg) (zy ty Wg) m (upd f i C) f:=λ{i C} u X=>
    ⟨i,u,by rw[ig];exact X,λj _ Z=>by rw[jj f _ Z];exact aha _⟩
   have other:∀bl Ow q gs w sl t,sumTo old q<S+1->Ow 0=O->Inv P ty Wg Shun Q M old O0 mp a bl w0 m f Ow q gs w t->∀(k:Nat) g,0<k->gs[k]? =aa g->g.status=.running->
     ∃r c b,runT P (crowd gs w sl) k=(.next (crowd r c sl),b)/\ir w c/\vl P ty Wg Shun Post Q M old O0 r c sl (t++b):=by
    intro bl Ow q gs w sl t hS s h k g y v K
    by_cases J:k<old
    ·obtain⟨A,n,x,b,l,o,h3,_⟩:=h.gone (sl:=sl) z y J v K;have:sumTo old (upd q k n)+q k=sumTo old q+n:=Bw q n id J;exact⟨x,w,b,l,.refl _,af A Ow _ x w sl _ ak s o⟩
    ·obtain⟨i,rfl⟩:∃i,k=old+i:=⟨k-old,ak⟩
     have u:i<m:=by have:=(bq.1 v).1;have:=h.size;omega
     have I:=(h.own i u).2;rw[v]at I;obtain rfl:=dP I
     by_cases B:(f i).p=.quit
     ·obtain⟨A,C,x,b,l,o,h3,_⟩:=h.leaves (sl:=sl) z u B K;exact⟨x,w,b,l,.refl _,L _ (down u h3) _ A Ow q x w sl _ (yS _) s o⟩
     ·obtain⟨A,C,R,x,N,b,l,o,h3,T,_,U⟩:=h.worker (sl:=sl) z u B;exact⟨x,N,b,l,T,L _ (down u h3) _ A R q x N sl _ (yS _) (U.trans s) o⟩
   have G:∀Ow q gs w sl t,sumTo old q<S+1->Ow 0=O->Inv P ty Wg Shun Q M old O0 mp a aq w0 m f Ow q gs w t->vl P ty Wg Shun Post Q M old O0 gs w sl t:=by
    intro Ow q gs w sl t hS s h
    have H:mp=.reg/\gs[0]? =aa {a with status:=.blocked}:=by
     rcases h.main with⟨e,_⟩|⟨_,e,_,h0⟩
     ·cases e
     ·exact⟨e,h0⟩
    obtain⟨st,sm,ah,F,W⟩:=h.mode
    obtain⟨i,u,B⟩:∃i,i<m/\(f i).p≠.quit:=by
     rw[H.1]at F;rcases F.Mb with e|⟨_,e,_⟩
     ·subst e;exact F.adr
     ·exact absurd e (W rfl)
    obtain⟨k,g,d,D,y,v,E⟩:=Bl (P:=P) (w:=w) (sl:=sl) (h.Pt z) ⟨old+i,_,(h.own i u).2,((h.work i u).ws B).1.running B⟩;rcases mV k with rfl|hpos
    ·rw[H.2]at y;rw[<-dP y]at v;cases v
    ·obtain⟨r,c,b,l,o,h3⟩:=other aq Ow q gs (w.at d) D t hS s (h.at d) k g hpos y v;exact .step (E.trans l) ((ir.at w d).trans o) h3
   intro bl Ow q gs w sl t hS s h;cases bl with
   |true=>exact G Ow q gs w sl t hS s h
   |false=>
    obtain⟨k,g,d,D,y,v,E⟩:=Bl (P:=P) (w:=w) (sl:=sl) (h.Pt z) ⟨0,a,h.main.running,z⟩;rcases mV k with rfl|hpos
    ·obtain⟨r,c,b,l,o,h3⟩:=Y f Ow q gs (w.at d) D t s (h.at d);refine .step (E.trans l) ((ir.at w d).trans o) ?_;rcases h3 with h3|h3
     ·exact h3
     ·exact G Ow q r c D _ hS s h3
    ·obtain⟨r,c,b,l,o,h3⟩:=other av Ow q gs (w.at d) D t hS s (h.at d) k g hpos y v;exact .step (E.trans l) ((ir.at w d).trans o) h3
def Inv.acc{f bl Ow q gs w t}(h:Inv P ty Wg Shun Q M old O0 mp a bl w0 m f Ow q gs w t):Acc (Down (qZ P ty Wg) (zy ty Wg) m) f:=
 agK m f λi c=>by
  by_cases b:(f i).p=.quit
  ·exact aF b
  ·exact aE ((h.work i c).ws b).1
def phase{r p O g}(K:MS P ty Wg Post Q M r p O g w0):∀f Ow q gs w sl t,Ow 0=O->Inv P ty Wg Shun Q M old O0 p g av w0 r f Ow q gs w t->vl P ty Wg Shun Post Q M old O0 gs w sl t:=by
 induction K with
 |done h=>
  intro f Ow q gs w sl t b hI;subst b;exact⟨0,_,_,_,f,Ow,q,gs,w,sl,t,rfl,hI,h w hI.uz,.refl _⟩
 |@step r p O g w0 i S h k x=>
  intro f Ow q gs w sl t b hI;refine Inv.go i (λf Ow q gs w sl t b hI=>?_) f hI.acc (sumTo old q+1) av Ow q gs w sl t ak b hI;obtain⟨st,N,j,y,_⟩:=hI.mode;have D:BE ty Wg p w:=y.Zx j (by have:=hI.room;omega);have hrel:=hI.uz;rw[b]at hrel;obtain⟨s,z,E,e,C⟩:=h w hrel D;obtain⟨v,d,o,l,n,u⟩:=hI.U4 (sl:=sl) i e (by rw[b];exact C);rw[b]at u;exact⟨d,z,o,l,C.same,aF (x w s z E hrel D e f v q d z sl _ u n)⟩
 |@sem r O g w0 i L J h k x=>
  intro f Ow q gs w sl t b hI;refine Inv.go i (λf Ow q gs w sl t b hI=>?_) f hI.acc (sumTo old q+1) av Ow q gs w sl t ak b hI;obtain⟨st,N,j,y,_⟩:=hI.mode;have hrel:=hI.uz;rw[b]at hrel;rcases y.Mb with rfl|⟨rfl,rfl,_⟩
  ·obtain⟨d,o,l,n⟩:=hI.block (sl:=sl) L j (J w hrel ⟨_,j⟩);exact⟨d,w,o,l,.refl _,aE n⟩
  ·obtain⟨s,e⟩:=h w hrel j;obtain⟨v,d,o,l,n,u⟩:=hI.take (sl:=sl) i j e;exact⟨d,_,o,l,.set ..,aF (x w s hrel j e f v q d _ sl _ (u.trans b) n)⟩
 |@spawn r O A R g w0 hr i G hR H I h c k x=>
  intro f Ow q gs w sl t b hI;refine Inv.go i (λf Ow q gs w sl t b hI=>?_) f hI.acc (sumTo old q+1) av Ow q gs w sl t ak b hI;have hrel:=hI.uz;rw[b]at hrel;obtain⟨s,B,e,_⟩:=h w hrel;obtain⟨F,v,d,o,l,n,u⟩:=hI.fork (sl:=sl) hr (by rw[b];exact G) (by rw[b];exact hR) H (by rw[b];exact I) e (c w s B hrel e);exact⟨d,w,o,l,.refl _,aF (x w s B hrel e F v q d w sl _ u n)⟩
end
section
variable [aP] [bw] {P:aY} {ty:aQ} {Wg:Nat} {Shun:Loc->Prop} {Q:Nat->(Nat->Prop)->az->Prop} {M old:Nat} {O0:vE} {a:bM} {w0:az} {m:Nat} {f:Nat->ni} {Ow:Nat->Nat->Prop} {q:Nat->Nat} {gs:aJ bM} {w:az} {t:fQ}
def Inv.over(h:Inv P ty Wg Shun Q M old O0 .back a av w0 m f Ow q gs w t):
  gs[0]? =aa a/\(∃D,tJ P t gs D)/\vn (λl=>Shun l\/ShN Wg l) w.heap.size t/\WgAt ty Wg w 0 0/\(∀i,i<m->Q i (Ow (old+i)) w)/\(∀i j,t.g? i=aa j->j<gs.size)/\Rel ty Wg O0.X O0.W w/\(∀k b,Ow k b->b<w.heap.size)/\∀k,¬Ow k Wg:=by
 obtain⟨st,F,C,B,_⟩:=h.mode;obtain⟨u,rfl,rfl⟩:=B.xX trivial;obtain⟨s,v,x,y,z⟩:=h.acq rfl;have eW:∀i j,t.g? i=aa j->j<old+m:=λi j e=>Nat.lt_of_not_le λA=>(h.above j A).2.2 i e;refine⟨h.main.running,⟨λi=>if i<old then q i else(f (i-old)).n,λi g c d=>?_,λj e=>(h.above j (by rw[<-h.size];exact e)).1⟩,aaH h.tc h.kt v x y (λi g d E=>?_) h.deaf0,C,λi c=>?_,by rw[h.size];exact eW,h.all.rel,h.tc.lt,h.tc.wg⟩
 ·by_cases p:i<old
  ·rw[aW p];exact h.gC i g c p d
  ·rw[aK p];obtain⟨k,rfl⟩:∃k,i=old+k:=⟨i-old,ak⟩
   have o:k<m:=by have:=(bq.1 d).1;have:=h.size;omega
   have r:=(h.own k o).2;rw[d]at r;obtain rfl:=dP r;rw[wQ];exact((h.work k o).qu (u k o)).1
 ·obtain⟨k,rfl⟩:∃k,g=old+k:=⟨g-old,ak⟩;exact z k (by have:=eW i _ d;omega)
 ·have:=((h.work i c).qu (u i c)).2 w (h.work i c).rel;rw[(h.own i c).1]at this;exact this
def Inv.start{O X W}(B:∀b,O b->¬X b)(D:∀b,X b->b<W.heap.size)(E:Rel ty Wg X W w)(C:¬X Wg)(y:M<2147483647)(h0:gs[0]? =aa a)(r:tJ P t gs q)(h:vn Shun Wg t)(eW:∀i j,t.g? i=aa j->j<gs.size)(o:WgAt ty Wg w 0 0)(z:∀b,O b->b<w.heap.size)(A:¬O Wg)(hc:∀b,O b->∀l,lS b l->¬Shun l):
  Inv P ty Wg Shun Q M gs.size ⟨X,O,W⟩ .opn a av w 0 (λ_=>⟨.quit,λ_=>False,a,w,0⟩) (λk b=>k=0/\O b) q gs w t:=by
 have G:0<gs.size:=(bq.1 h0).1
 have v:Wg<w.heap.size:=by unfold Ig at o;exact(bq.1 o).1
 have s:vn Shun w.heap.size t:=h.mono (mW v);refine⟨G,rfl,⟨y,eZ _⟩,TC.start s hc z A v (λop n x I H=>?_),KT.start s (λi c=>?_),⟨0,0,o,?_,(λe=>by cases e)⟩,aF ⟨rfl,h0⟩,.refl ..,h.hears,λi g c _ F=>r.old i g c F,λi c=>absurd c (su _),λi c=>absurd c (su _),(λe=>by cases e),λj u=>⟨r.above j u,λb d=>?_,λi c=>?_⟩,λj u _ b d=>?_,⟨λj b d=>B b d.2,λj b d=>aF d.2,D,E,C⟩⟩
 ·have:=UP (h.seen op n) I;obtain⟨J,e,rfl⟩:=H;rw[e]at this;exact sr _ this
 ·unfold yZ at c;obtain⟨op,n,e⟩:=eV.1 c;have:=h.seen op (mw n);rw[e]at this;exact sr _ this
 ·have e:(0:Int)=((sumTo 0 (λi=>((λ_=>(⟨.quit,λ_=>False,a,w,0⟩:ni)) i).p.counted)+Mp.opn.pend:Nat):Int) *KK:=by simp[sumTo,Mp.pend]
  have:=Mode.opn (m:=0) (f:=λi=>((λ_=>(⟨.quit,λ_=>False,a,w,0⟩:ni)) i).p) (p:=.opn) trivial (λi c=>absurd c (su _)) (λb e=>by cases e) (λb e=>by cases e);rw[<-e]at this;exact this
 ·obtain⟨rfl,_⟩:=d;omega
 ·have:=eW i j c;omega
 ·obtain⟨rfl,_⟩:=d;omega
end
end
section
open Go.Conc
open Go.ConcN (sumTo upd sumTo_upd upd_ne upd_same)
def Ao(k:aB fW)(s:String):fW:=match k[s.length]? with
 |some (.code c)=>.code c
 |some (.inLoop c)=>.inLoop c
 |_=>.code .skip
def agG(k)(s:String):(∃c,Ao k s=.code c)\/∃c,Ao k s=.inLoop c:=by
 unfold Ao;split
 ·exact aF ⟨_,rfl⟩
 ·exact aE ⟨_,rfl⟩
 ·exact aF ⟨_,rfl⟩
abbrev bU(k:aB fW):bw:=⟨Ao k,agG k⟩
section
variable [aP] {P:aY} {Post Mid:aV->aB aV->az->Prop} {fr:aV} {cs:aB aV} {u:az}
structure XF(ρ:Ren)(fr:aV):Prop where
 tmps:bK ρ fr.tmps fr.tmps
 defers:dh (DR ρ) fr.defers fr.defers
 kind:fr.kind=.normal
 known:aP.known fr.fn
 mode:qi ρ fr.mode fr.mode
def XF.mono{ρ σ}(g:ρ.le σ)(h:XF ρ fr):XF σ fr:=by
 haveI:bw:=bU []
 exact⟨h.tmps.mono g,h.defers.mono λ_ _=>DR.mono g,h.kind,h.known,h.mode.mono g⟩
structure oN(ρ:Ren)(cs:aB aV):Prop where
 run:∀f∈cs,f.mode=.run
def oN.mono{ρ σ}(g:ρ.le σ)(h:oN ρ cs):oN σ cs:=⟨h.run⟩
def oN.push{ρ}(h:oN ρ cs)(hm:fr.mode=.run):oN ρ (fr::cs):=⟨λf hf=>by
 rcases jR.1 hf with rfl|hf
 ·exact hm
 ·exact h.run f hf⟩
def oN.pop{ρ}(h:oN ρ (fr::cs)):oN ρ cs:=⟨λf a=>h.run f (eJ _ a)⟩
def nh(ρ:Ren)(Shun:Loc->Prop)(w:az):Prop:=∀b o,aP.wat b=aa o->(∀x,¬ρ x b)/\w.heap[b]? =aa o/\∀a:bZ,a.block=b->¬Shun (.cell a)
def oO(Shun b:Loc->Prop)(w:az):Prop:=∀a:bZ,b (.cell a)->Shun (.cell a)\/w.heap.size<=a.block
def oO.refl(Shun:Loc->Prop)(w):oO Shun Shun w:=λ_ h=>aF h
def oO.trans{A B C w w1}(h:oO A B w)(c:w.heap.size<=w1.heap.size)(k:oO B C w1):oO A C w:=λa b=>(k a b).elim (h a) λe=>aE (dM c e)
def nh.went{ρ σ Shun Ex w w1}(h:nh ρ Shun w)(k:fA ρ σ w w1)(c:oO Shun Ex w):nh σ Ex w1:=λb o j=>by
 obtain⟨d,f,g⟩:=h b o j;have l:=(bq.1 f).1;refine⟨λx n=>?_,(k.cO b l d).trans f,λa i m=>?_⟩
 ·rcases k.news x b n with e|e
  ·exact d x e
  ·omega
 ·rcases c a m with e|e
  ·exact g a i e
  ·omega
def nh.at {ρ Shun w}(h:nh ρ Shun w)(d):nh ρ Shun (w.at d):=h
structure fu(P:aY)(Shun:Loc->Prop)(S:Nat->Prop)(fr:aV)(cs:aB aV)(u:az)(ρ:Ren)(gs:aJ bM)(w:az)(t:fQ)(q:Nat->Nat):Prop where
 qm:gs[0]? =aa (G fr cs)
 top:XF ρ fr
 below:oN ρ cs
 world:fy P ρ u w
 whole:Whole S ρ u
 gC:tJ P t gs q
 past:vn Shun w.heap.size t
 clear:Clear Shun S ρ w
 same:∀a b,ρ a b->a=b
 size:u.heap.size=w.heap.size
 eW:∀i j,t.g? i=aa j->j<gs.size
 full:Full ρ u
def Reach(P:aY)(Post:aV->aB aV->az->Prop)(fr:aV)(cs:aB aV)(u:az):Prop:=
 ∀(a:Loc->Prop) (S:Nat->Prop) (c:Ren) (gs:aJ bM) (w:az) (m:aZ (Nat×Nat)) (t:fQ) (q:Nat->Nat),fu P a S fr cs u c gs w t q->nh c a w->
  ∃N d k j f e i g b n h l,runNT P N (crowd gs w m) t=(.next (crowd g b n),h)/\Post f e i/\fu P d k f e i j g b h l/\fA c j w b/\oO a d w
def nT(I:Ren->Prop)(P:aY)(Post:aV->aB aV->az->Prop)(fr:aV)(cs:aB aV)(u:az):Prop:=
 ∀(b:Loc->Prop) (S:Nat->Prop) (a:Ren) (gs:aJ bM) (w:az) (m:aZ (Nat×Nat)) (t:fQ) (q:Nat->Nat),I a->fu P b S fr cs u a gs w t q->nh a b w->
  ∃N d k j f e i g c n h l,runNT P N (crowd gs w m) t=(.next (crowd g c n),h)/\Post f e i/\fu P d k f e i j g c h l/\fA a j w c/\oO b d w
variable {I J:Ren->Prop}
def nT.all(h:nT (λ_=>True) P Post fr cs u):Reach P Post fr cs u:=λa S c gs w b t q=>h a S c gs w b t q trivial
def Reach.any(h:Reach P Post fr cs u):nT I P Post fr cs u:=λa S c gs w b t q _=>h a S c gs w b t q
def wq:∀{N:Nat} {K:Nat} {m m1:Machine} {t t1:fQ},runNT P N m t=(.next m1,t1)->runNT P (N+K) m t=runNT P K m1 t1
 |0,K,m,m1,t,t1,h=>by simp only[runNT]at h;cases h;rw[fX]
 |N+1,K,m,m1,t,t1,h=>by
  rw[show N+1+K=(N+K)+1 by omega];simp only[runNT]at h⊢;cases a:stepT P m with
  |mk x b=>
   rw[a]at h;cases x with
   |next m2=>exact wq h
   |ended o w=>cases h
def Reach.here(h:Post fr cs u):Reach P Post fr cs u:=
 haveI:bw:=bU []
 λa S b gs w d t q c _=>⟨0,a,S,b,fr,cs,u,gs,w,d,t,q,rfl,h,c,.refl b w,.refl a w⟩
def nT.bind(hm:∀b e,b.le e->I b->I e)(h:Reach P Mid fr cs u)(k:∀fr cs u,Mid fr cs u->nT I P Post fr cs u):nT I P Post fr cs u:=λi S b gs w F t q hI r c=>by
 haveI:bw:=bU []
 obtain⟨N,j,f,Q,U,T,V,o,M,G,t1,A,C,D,E,a,d⟩:=h i S b gs w F t q r c;obtain⟨K,l,g,R,n,m,L,p,O,H,t2,B,s,v,x,y,z⟩:=k _ _ _ D j f Q o M G t1 A (hm _ _ a.le hI) E (c.went a d);exact⟨N+K,l,g,R,n,m,L,p,O,H,t2,B,(wq C).trans s,v,x,a.trans y,d.trans a.size z⟩
def Reach.bind(h:Reach P Mid fr cs u)(k:∀fr cs u,Mid fr cs u->Reach P Post fr cs u):Reach P Post fr cs u:=(nT.bind (λ_ _ _ h=>h) h λfr cs u hm=>(k fr cs u hm).any).all
def Reach.mono(h:Reach P Mid fr cs u)(k:∀fr cs u,Mid fr cs u->Post fr cs u):Reach P Post fr cs u:=h.bind λfr cs u hm=>.here (k fr cs u hm)
def fu.at {Shun S ρ gs w t q}(h:fu P Shun S fr cs u ρ gs w t q)(d):fu P Shun S fr cs u ρ gs (w.at d) t q:=
 haveI:bw:=bU []
 ⟨h.qm,h.top,h.below,h.world.at d,h.whole,h.gC,h.past,h.clear,h.same,h.size,h.eW,h.full⟩
structure Pb(P:aY)(S:Nat->Prop)(ρ c:Ren)(u1 w w1:az)(d:aV)(iY:aB aV)(es:aJ jw):Prop where
 went:fA ρ c w w1
 world:fy P c u1 w1
 whole:Whole S c u1
 same:∀a b,c a b->a=b
 size:u1.heap.size=w1.heap.size
 own:∀e∈es,gP S c e
 top:XF c d
 below:oN c iY
 full:Full c u1
def nT.one(h:∀f S c gs w t q,I c->fu P f S fr cs u c gs w t q->nh c f w->∃v s u1 σ T p,stepG P aq (G fr cs) w=.go (G v s) T p/\Pb P S c σ u1 w T v s p/\J σ/\nT J P Post v s u1):nT I P Post fr cs u:=by
 haveI:bw:=bU []
 have key:∀(n:Nat) f S c gs w sl t q,sumTo gs.size q<n->I c->fu P f S fr cs u c gs w t q->nh c f w->
   ∃N E V U H F R K D O Q X,runNT P N (crowd gs w sl) t=(.next (crowd K D O),Q)/\Post H F R/\fu P E V H F R U K D Q X/\fA c U w D/\oO f E w:=by
  intro n;induction n with
  |zero=>exact λf S c gs w sl t q hS=>absurd hS ak
  |succ n ih=>
   intro f S c gs w sl t q hS hI m W;have h0:=m.qm;have L:=m.gC;have aO:0<gs.size:=(bq.1 h0).1
   have xI:∀g∈gs,awake g:=by
    intro g M;obtain⟨i,r,rfl⟩:=wJ.1 M;rcases mV i with rfl|hpos
    ·have:gs[0]=G fr cs:=by simpa[cX r]using h0
     rw[this];exact sF (aF rfl)
    ·exact sF ((L.old i _ hpos (cX r)).status.elim aF λx=>aE (aE x))
   obtain⟨i,g,d,O,r,M,aP⟩:=Bl (P:=P) (w:=w) (sl:=sl) xI ⟨0,_,h0,rfl⟩;have z:=m.at d;rcases mV i with rfl|hpos
   ·
    obtain rfl:g=G fr cs:=by rw[h0]at r;exact(dP r).symm
    obtain⟨v,s,u1,σ,T,p,hs,l,o,hr⟩:=h f S c gs (w.at d) t q hI z (W.at d);have Ch:=sI (P:=P) (sl:=O) (i:=0) r (show stepG P (0==0) (G fr cs) (w.at d)=_ from hs);have Z:=mA 0 (G fr cs).frame.fn (G fr cs).frame.place p;have aS:(kA 0 (G fr cs).frame.fn (G fr cs).frame.place p).map (·.act)=p.map .ofEvent:=by rw[Bq];simp[Dh,Dv]
    have A:((gs.map (woken P (G fr cs) (G v s) T)).setIfInBounds 0 (G v s)).size=gs.size:=aC
    obtain⟨N,E,V,U,H,F,R,K,D,yg,Q,X,r1,r2,r3,r4,r5⟩:=hr f S σ ((gs.map (woken P (G fr cs) (G v s) T)).setIfInBounds 0 (G v s)) T O (t++kA 0 (G fr cs).frame.fn (G fr cs).frame.place p) q o
     ⟨by simp[aO],l.top,l.below,l.world,l.whole,⟨λj x o C=>by
      rw[dO ak,fV]at C;obtain⟨y,hy,rfl⟩:=eV.1 C;have B:=L.old j y o hy;rw[xh B,nN t (g':=0) ak _ Z];exact B,λj o=>by
      rw[nN t (g':=0) (by rw[A]at o;omega) _ Z];exact L.above j (by rw[A]at o;exact o)⟩,Tb z.past z.clear l.went (λy b ry=>(l.world.lt y b ry).2) Z (by rw[aS];exact BN l.own),z.clear.went l.went,l.same,l.size,xE (by rw[A];exact m.eW) (by rw[A];exact aO) Z,l.full⟩ ((W.at d).went l.went (.refl f _))
    refine⟨N+1,E,V,U,H,F,R,K,D,yg,Q,X,by simp only[runNT,aP,Ch];exact r1,r2,r3,(((fA.refl c w).at d).trans l.went).trans r4,λa ha=>(r5 a ha).imp id λe=>dM l.went.size e⟩
   ·
    have B:=L.old i g hpos r;have aU:(i==0)=av:=cq;have ah:i<gs.size:=(bq.1 r).1;cases ur:q i with
    |zero=>rw[ur]at B;rw[B.1]at M;cases M
    |succ k=>
     rw[ur]at B;rcases B with⟨hf,_⟩|⟨_,g',p,hm,uu,ru⟩
     ·rw[hf]at M;cases M
     have Ch:=sI (P:=P) (sl:=O) (i:=i) r (by rw[aU];exact uu (w.at d));have A:((gs.map (woken P g g' (w.at d))).setIfInBounds i g').size=gs.size:=aC;have bh:sumTo gs.size (upd q i k)+q i=sumTo gs.size q+k:=Bw q k id ah
     obtain⟨N,E,V,U,H,F,R,K,D,yg,Q,X,r1,r2,r3,r4,r5⟩:=ih f S c ((gs.map (woken P g g' (w.at d))).setIfInBounds i g') (w.at d) O (t++kA i g.frame.fn g.frame.place p) (upd q i k) (by rw[A];omega) hI
      ⟨by
       have aX:i≠0:=ak;rw[dO aX,fV,h0];simp[Je (show(G fr cs).status=.running from rfl)],m.top,m.below,z.world,m.whole,⟨λj x o C=>by
       by_cases Y:i=j
       ·subst Y;rw[wI (by simpa using ah)]at C;obtain rfl:=dP C;rw[ig,AB];exact ru
       ·rw[dO Y,fV]at C;obtain⟨y,hy,rfl⟩:=eV.1 C;have vT:=L.old j y o hy;rw[xh vT,jj q k (dc Y),nN t Y _ (mA _ _ _ _)];exact vT,λj o=>by
       rw[nN t (g':=i) (by simp at o;omega) _ (mA _ _ _ _)];exact L.above j (by simpa using o)⟩,z.past.mute ak hm,z.clear,m.same,z.size,xE (by rw[A];exact m.eW) (by rw[A];exact ah) (mA _ _ _ _),m.full⟩ (W.at d)
     exact⟨N+1,E,V,U,H,F,R,K,D,yg,Q,X,by simp only[runNT,aP,Ch];exact r1,r2,r3,((fA.refl c w).at d).trans r4,r5⟩
 exact λf S c gs w sl t q hI m W=>key (sumTo gs.size q+1) f S c gs w sl t q ak hI m W
def Reach.one(h:∀d S c gs w t q,fu P d S fr cs u c gs w t q->nh c d w->∃b a f i g e,stepG P aq (G fr cs) w=.go (G b a) g e/\Pb P S c i f w g b a e/\Reach P Post b a f):Reach P Post fr cs u:=
 (nT.one λd S c gs w t q _ m n=>by obtain⟨b,a,f,i,g,e,j,k,l⟩:=h d S c gs w t q m n;exact⟨b,a,f,i,g,e,j,k,trivial,l.any⟩).all
def Reach.ctl{gI}(h:∀w,stepG P aq (G fr cs) w=.go (G gI cs) w)(c:∀b,XF b fr->XF b gI)(k:Reach P Post gI cs u):Reach P Post fr cs u:=
 haveI:bw:=bU []
 .one λd S b gs w t q a _=>⟨gI,cs,u,b,w,#[],h w,⟨.refl b w,a.world,a.whole,a.same,a.size,aC,c b a.top,a.below,a.full⟩,k⟩
end
end
section
open Go.Conc
open Go.ConcN (ShN WgLive)
section
variable [aP] [bw] {P:aY} {main:Bool} {ty:aQ} {Wg:Nat} {Stop:(Nat->Prop)->bM->az->Prop} {O:Nat->Prop} {g g':bM} {w:az} {b:aV} {a:Act} {k:aB fW} {cs:aB aV}
def tU.refl(O w):tU O w w:=⟨λ_ _ _=>rfl,bD _,rfl,rfl,rfl⟩
def iF.more{O' B B' x}(h:iF Wg O B x)(f:∀c,O c->O' c)(j:B<=B'):iF Wg O' B' x:=
 ⟨λy l=>(h.touch y l).imp (λ⟨i,e,d⟩=>⟨i,e,f _ d⟩) λh=>h.imp (λ⟨r,e,d⟩=>⟨r,e,f _ d⟩) id,h.marks,WA j h.low,h.rel,h.LM⟩
def CJ.quiet(m:g.status=.running)(h:∀d,Rel ty Wg O w d->∃f,stepG P main g d=.go g' d f/\∀e∈f,iF Wg O d.heap.size (.ofEvent e))(c:CJ P main ty Wg Stop O g' w):CJ P main ty Wg Stop O g w:=
 .one m λd r=>by obtain⟨f,i,j⟩:=h d r;refine⟨g',d,_,.go i,.refl O d,λx n=>?_,by rw[Kf];exact c.rely r⟩;obtain⟨e,l,rfl⟩:=nM.1 n;rw[Kf];exact j e l
def CJ.ctl(e:g.status=.running)(h:∀d,Rel ty Wg O w d->stepG P main g d=.go g' d)(c:CJ P main ty Wg Stop O g' w):CJ P main ty Wg Stop O g w:=
 .quiet e (λd r=>⟨#[],h d r,aC⟩) c
def CJ.seq{x y}(c:CJ P main ty Wg Stop O (G (b.at a (.code x::.code y::k)) cs) w):CJ P main ty Wg Stop O (G (b.at a (.code (.seq x y)::k)) cs) w:=.ctl rfl (λ_ _=>cg) c
def CJ.skip(c:CJ P main ty Wg Stop O (G (b.at a k) cs) w):CJ P main ty Wg Stop O (G (b.at a (.code .skip::k)) cs) w:=.ctl rfl (λ_ _=>mB) c
def CJ.cond{x y z v}(hc:a.eval x=.bool v)(c:CJ P main ty Wg Stop O (G (b.at a (.code (if v then y else z)::k)) cs) w):CJ P main ty Wg Stop O (G (b.at a (.code (.cond x y z)::k)) cs) w:=.ctl rfl (λ_ _=>HK hc) c
def CJ.block{id x}(c:CJ P main ty Wg Stop O (G (b.at a (.code x::.inBlock id::k)) cs) w):CJ P main ty Wg Stop O (G (b.at a (.code (.block id x)::k)) cs) w:=.ctl rfl (λ_ _=>Ja) c
def CJ.inBlock{id}(c:CJ P main ty Wg Stop O (G (b.at a k) cs) w):CJ P main ty Wg Stop O (G (b.at a (.inBlock id::k)) cs) w:=.ctl rfl (λ_ _=>Oy) c
def CJ.loop{x}(c:CJ P main ty Wg Stop O (G (b.at a (.code x::.inLoop x::k)) cs) w):CJ P main ty Wg Stop O (G (b.at a (.code (.loop x)::k)) cs) w:=.ctl rfl (λ_ _=>BX) c
def CJ.inLoop{x}(c:CJ P main ty Wg Stop O (G (b.at a (.code x::.inLoop x::k)) cs) w):CJ P main ty Wg Stop O (G (b.at a (.inLoop x::k)) cs) w:=.ctl rfl (λ_ _=>Oz) c
def CJ.exit{id k'}(d:exitTo id k=aa k')(c:CJ P main ty Wg Stop O (G (b.at a k') cs) w):CJ P main ty Wg Stop O (G (b.at a (.code (.exit id)::k)) cs) w:=.ctl rfl (λ_ _=>stepG_exit d) c
def CJ.region{id ops}(c:CJ P main ty Wg Stop O (G (b.at a (.inRegion ops (dH ops.size)::k)) cs) w):CJ P main ty Wg Stop O (G (b.at a (.code (.region id ops av)::k)) cs) w:=.ctl rfl (λ_ _=>OC) c
def CJ.regionEnd{ops}(c:CJ P main ty Wg Stop O (G (b.at a k) cs) w):CJ P main ty Wg Stop O (G (b.at a (.inRegion ops []::k)) cs) w:=.ctl rfl (λ_ _=>cJ) c
def CJ.ret(c:CJ P main ty Wg Stop O (G {b.at a (.code .ret::k)with mode:=.returning} cs) w):CJ P main ty Wg Stop O (G (b.at a (.code .ret::k)) cs) w:=.ctl rfl (λ_ _=>qd) c
def CJ.end_(c:CJ P main ty Wg Stop O (G {b.at a []with mode:=.returning} cs) w):CJ P main ty Wg Stop O (G (b.at a []) cs) w:=.ctl rfl (λ_ _=>stepG_end) c
def CJ.unwanted{ops i rest o}(d:ops[i]? =aa o)(e:dg o (yielded ops a.tmps)=av)(c:CJ P main ty Wg Stop O (G (b.at (a.put o.dst au) (.inRegion ops rest::k)) cs) w):CJ P main ty Wg Stop O (G (b.at a (.inRegion ops (i::rest)::k)) cs) w:=.ctl rfl (λ_ _=>stepG_unwanted d e) c
def vX{fn o e}(h:e∈listed P fn a o w):e∈(execOp a.eval o).events P w #[]:=qb h
def CJ.op{ops i rest o}(v)(j:ops[i]? =aa o)(l:dg o (yielded ops a.tmps)=aq)(f:b.kind≠.early)(hr:∀d,Rel ty Wg O w d->(execOp a.eval o).run P d=.ok (.value v) d)(he:∀d,Rel ty Wg O w d->∀e∈(execOp a.eval o).events P d #[],iF Wg O d.heap.size (.ofEvent e))(c:CJ P main ty Wg Stop O (G (b.at (a.put o.dst v) (.inRegion ops rest::k)) cs) w):CJ P main ty Wg Stop O (G (b.at a (.inRegion ops (i::rest)::k)) cs) w:=
 .quiet rfl (λd r=>⟨_,Bu j l f (hr d r),λe h=>he d r e (vX h)⟩) c
def CJ.make{ops i rest o}(v:Nat->aD)(x:Obj)(m:ops[i]? =aa o)(n:dg o (yielded ops a.tmps)=aq)(l:b.kind≠.early)(hr:∀d,Rel ty Wg O w d->(execOp a.eval o).run P d=.ok (.value (v d.heap.size)) {d with heap:=d.heap.push x}) (he:∀d,Rel ty Wg O w d->∀e∈(execOp a.eval o).events P d #[],iF Wg (λc=>O c\/c=d.heap.size) (d.heap.size+1) (.ofEvent e)) (c:∀d,Rel ty Wg O w d->CJ P main ty Wg Stop (λc=>O c\/c=d.heap.size) (G (b.at (a.put o.dst (v d.heap.size)) (.inRegion ops rest::k)) cs) {d with heap:=d.heap.push x}):CJ P main ty Wg Stop O (G (b.at a (.inRegion ops (i::rest)::k)) cs) w:=
 .one rfl λd r=>by
  have f:ff O d {d with heap:=d.heap.push x}=λc=>O c\/c=d.heap.size:=by
   funext y
   apply propext;show(O y\/(d.heap.size<=y/\y<(d.heap.push x).size))↔_;rw[MY];constructor
   ·rintro(h|h)
    ·exact aF h
    ·exact aE ak
   ·rintro(h|h)
    ·exact aF h
    ·exact aE ak
  refine⟨_,_,_,.go (Bu m n l (hr d r)),⟨λy j _=>?_,aC,rfl,rfl,rfl⟩,λy j=>?_,by rw[f];exact c d r⟩
  ·show(d.heap.push x)[y]? =_;rw[fJ,aK ak]
  ·obtain⟨e,h,rfl⟩:=nM.1 j;rw[f];have:=he d r e (vX h);simpa using this
def CJ.enter{ops i rest o f args}(l:ops[i]? =aa o)(m:dg o (yielded ops a.tmps)=aq)(j:b.kind≠.early)(hr:∀d,Rel ty Wg O w d->(execOp a.eval o).run P d=.ok (.enter f args) d)(he:∀d,Rel ty Wg O w d->∀e∈(execOp a.eval o).events P d #[],iF Wg O d.heap.size (.ofEvent e))(c:CJ P main ty Wg Stop O (G (Frame.enter P f args .normal) (b.at a (.inRegion ops (i::rest)::k)::cs)) w):CJ P main ty Wg Stop O (G (b.at a (.inRegion ops (i::rest)::k)) cs) w:=
 .quiet rfl (λd r=>⟨_,stepG_enter l m j (hr d r),λe h=>he d r e (vX h)⟩) c
def CJ.call{ops i rest o f fn args ats}(n:ops[i]? =aa o)(p:dg o (yielded ops a.tmps)=aq)(m:b.kind≠.early)(l:o.op=.call {callee:=.value (.func f),args,argTypes:=ats}) (hf:P.funcs[f]? =aa fn) (j:(fn.name== "runtime.NumGoroutine")=av) (d:fn.body.isNone=av) (c:CJ P main ty Wg Stop O (G (Frame.enter P f (args.map a.eval) .normal) (b.at a (.inRegion ops (i::rest)::k)::cs)) w):CJ P main ty Wg Stop O (G (b.at a (.inRegion ops (i::rest)::k)) cs) w:=
 .enter n p m (λ_ _=>Ov l hf j d) (λ_ _ e h=>by rw[On l hf j d]at h;simp at h) c
def afl{fr c fn}(hm:fr.mode=.returning)(f:fr.defers=[])(h:fr.kind=.normal)(hf:P.funcs[fr.fn]? =aa fn)(hr:fn.results=#[])(w):
  stepG P main (G fr (c::cs)) w=.go (G (c.finish (.tuple #[])) cs) w:=by
 have d:(results fn fr.tmps).run P w=.ok (.tuple #[]) w:=by simp[results,hr]
 have e:(results fn fr.tmps).events P w #[]=#[]:=IV hr _ _;simp[G,stepG,qR,qN,hm,f,h,hf,d,e,seen,jy]
def CJ.leave{fr c fn}(hm:fr.mode=.returning)(d:fr.defers=[])(e:fr.kind=.normal)(hf:P.funcs[fr.fn]? =aa fn)(hr:fn.results=#[])(k:CJ P main ty Wg Stop O (G (c.finish (.tuple #[])) cs) w):CJ P main ty Wg Stop O (G fr (c::cs)) w:=
 .ctl rfl (λf _=>afl hm d e hf hr f) k
def CJ.frame{X:Nat->Prop}{w0:az}(h:CJ P main ty Wg Stop O g w):(∀b,X b->b<w.heap.size/\¬O b/\w.heap[b]? =w0.heap[b]?)->¬O Wg->WgLive ty Wg w->
  CJ P main ty Wg (λz g w=>∃m,Stop m g w/\z=(λb=>m b\/X b)/\(∀b,X b->w.heap[b]? =w0.heap[b]?)/\¬m Wg/\WgLive ty Wg w) (λb=>O b\/X b) g w:=by
 have p:∀{O:Nat->Prop} {w d:az},Rel ty Wg (λb=>O b\/X b) w d->Rel ty Wg O w d:=λr=>⟨λb e=>r.own b (aF e),r.size,r.live,r.os⟩;induction h with
 |@stop O g w h=>
  intro n i o;exact .stop λd r=>⟨O,h d (p r),rfl,λb e=>(r.own b (aE e)).trans (n b e).2.2,i,r.live o⟩
 |@step O g w D h k H=>
  intro n i o;refine .one D λd r=>?_;obtain⟨g',l,q,s,f,A⟩:=h d (p r);have v:=r.live o
  have E:Wg<d.heap.size:=by obtain⟨st,x,j⟩:=v;unfold Ig at j;exact(bq.1 j).1
  have t:ff (λb=>O b\/X b) d l=λb=>ff O d l b\/X b:=by
   funext b
   apply propext;constructor
   ·rintro((h|h)|h)
    ·exact aF (aF h)
    ·exact aE h
    ·exact aF (aE h)
   ·rintro((h|h)|h)
    ·exact aF (aF h)
    ·exact aE h
    ·exact aF (aE h)
  refine⟨g',l,q,s,⟨λb e F=>f.cO b e λG=>F (aF G),f.size,f.os,f.output,f.tape⟩,λa B=>?_,?_⟩
  ·rw[t];exact(A a B).more (λc C=>aF C) (bD _)
  ·rw[t];refine H d g' l q (p r) s (λb e=>?_) ?_ ?_
   ·obtain⟨I,y,J⟩:=n b e;have u:b<d.heap.size:=dI I r.size;refine⟨dI u f.size,?_,(f.cO b u y).trans ((r.own b (aE e)).trans J)⟩;rintro(h|h)
    ·exact y h
    ·omega
   ·rintro(h|h)
    ·exact i h
    ·omega
   ·obtain⟨st,x,j⟩:=v;exact⟨st,x,(f.cO Wg E i).trans j⟩
end
end
section
open Go.Conc
open Go.ConcN (WgLive)
section
variable [aP] [bw] {P:aY} {ρ:Ren} {A:Nat->Prop} {w:az}
def eF(A:Nat->Prop):Ren:=λa b=>a=b/\A b
def mask(A:Nat->Prop)[DecidablePred A](w:az):az:={w with heap:=Array.ofFn λi:Fin w.heap.size=>if A i.1 then w.heap[i.1]else cm}
def vY[DecidablePred A]:(mask A w).heap.size=w.heap.size:=by simp[mask]
def pI[DecidablePred A]{b}(h:A b):(mask A w).heap[b]? =w.heap[b]? :=by
 unfold mask
 by_cases a:b<w.heap.size
 ·simp[a,h]
 ·simp[a]
def FT[DecidablePred A]{b}(h:¬A b)(a:b<w.heap.size):(mask A w).heap[b]? =aa cm:=by unfold mask;simp[a,h]
def Closed(A:Nat->Prop)(w:az):Prop:=∀b,A b->∃o,w.heap[b]? =aa o/\OR (eF A) o o
def Vq[DecidablePred A](i:P=aP.prog)(hc:Closed A w)(j:P.globals.size<=w.heap.size):fy P (eF A) (mask A w) w:=by
 refine⟨⟨λa b m h e=>h.1.symm.trans e.1,λa l b h e=>h.1.trans e.1.symm⟩,?_,?_,?_,by rw[vY];exact j,?_,rfl,i⟩
 ·rintro a b ⟨rfl,h⟩;obtain⟨o,c,_⟩:=hc a h;have:=(bq.1 c).1;rw[vY];exact⟨this,this⟩
 ·rintro a b o ⟨rfl,h⟩ c;rw[pI h]at c;obtain⟨k,d,f⟩:=hc a h;rw[d]at c;obtain rfl:=dP c;exact aE ⟨_,d,f⟩
 ·rintro a b ⟨rfl,_⟩ h;exact h
 ·rintro a b ⟨rfl,h⟩ g;rw[pI h]at g;obtain⟨k,d,f⟩:=hc a h;rw[d]at g;cases g;exact absurd rfl (gq f)
def Vi[DecidablePred A](hc:Closed A w):Whole (λ_=>False) (eF A) (mask A w):=by refine⟨?_,λb h=>h.elim⟩;rintro a b ⟨rfl,h⟩;obtain⟨e,c,d⟩:=hc a h;exact aF ⟨id,e,by rw[pI h];exact c,gq d⟩
def BP{x a:aJ aD}(e:a.size=x.size)(h:∀(i:Nat) v b,x[i]? =aa v->a[i]? =aa b->v=b):x=a:=by apply Array.ext e.symm;intro i c d;exact h i _ _ (cX c) (cX d)
def VR.eq(j:∀a b,ρ a b->a=b){v q:aD}(h:VR ρ v q):v=q:=by
 have k:∀{a i:bZ},AR ρ a i->a=i:=λ{a i} h=>by obtain⟨r,n,o⟩:=h;obtain⟨x,y,z⟩:=a;obtain⟨C,D,E⟩:=i;have p:=j _ _ r;simp only at n o p;rw[n,o,p]
 induction h with
 |ptr h=>rw[k h]
 |slice l c h=>rw[k h]
 |map h=>rw[j _ _ h]
 |chan h=>rw[j _ _ h]
 |func h d _ s _ u B=>
  have e:∀{f m:Fn},FR ρ f m->f=m:=λh=>by
   cases h with
   |func f _=>rfl
   |yield h=>rw[j _ _ h]
  rw[e h,BP d u,BP s B]
 |iface t _ g=>rw[g]
 |agg d _ g=>rw[BP d g]
 |tuple d _ g=>rw[BP d g]
 |_=>rfl
def bK.eq(d:∀a b,ρ a b->a=b){x c:aJ aD}(h:bK ρ x c):x=c:=BP h.1 λi v e a b=>(h.2 i v e a b).eq d
def Ren.im(ρ:Ren):Nat->Prop:=λb=>∃a,ρ a b
def AR.right{a a'}(h:AR ρ a a'):AR (eF ρ.im) a' a':=⟨⟨rfl,_,h.1⟩,rfl,rfl⟩
def FR.right{f f'}(h:FR ρ f f'):FR (eF ρ.im) f' f':=by
 cases h with
 |func f a=>exact .func f a
 |yield h=>exact .yield ⟨rfl,_,h⟩
def CF{x b:aJ aD}(e:b.size=x.size)(h:∀(i:Nat) v a,x[i]? =aa v->b[i]? =aa a->VR (eF ρ.im) a a):∀(i:Nat) v a,b[i]? =aa v->b[i]? =aa a->VR (eF ρ.im) v a:=λi v a c d=>by grind
def VR.right{v e:aD}(h:VR ρ v e):VR (eF ρ.im) e e:=by
 induction h with
 |bool b=>exact .bool b
 |int k n=>exact .int k n
 |string s=>exact .string s
 |gT=>exact .gT
 |ptr h=>exact .ptr h.right
 |fH l c=>exact .fH l c
 |slice l c h=>exact .slice l c h.right
 |mN=>exact .mN
 |map h=>exact .map ⟨rfl,_,h⟩
 |oh=>exact .oh
 |chan h=>exact .chan ⟨rfl,_,h⟩
 |func h a _ f _ g i=>exact .func h.right rfl (CF a g) rfl (CF f i)
 |nilFunc=>exact .nilFunc
 |iface t _ d=>exact .iface t d
 |nilIface=>exact .nilIface
 |agg a _ d=>exact .agg rfl (CF a d)
 |tuple a _ d=>exact .tuple rfl (CF a d)
def bK.right{x c:aJ aD}(h:bK ρ x c):bK (eF ρ.im) c c:=⟨rfl,CF h.1 λi v d a b=>(h.2 i v d a b).right⟩
def OR.right{o o'}(h:OR ρ o o'):OR (eF ρ.im) o' o':=by
 cases h with
 |cells t m h=>exact .cells t m h.right
 |@map x F c h=>
  refine .map c ⟨rfl,λi e D f g=>?_⟩;rw[f]at g;cases g;obtain⟨B,C,_⟩:=h.2 i _ _ (cX (h.1▸(bq.1 f).1)) f;exact⟨B.right,C.right,rfl⟩
 |chan j k s r t=>exact .chan j k s r t
 |loop h0 f g n p E q u v=>
  obtain⟨a,b,c,d⟩:=h0;exact .loop ⟨n▸a,q▸b,u▸c,λx z=>d x (g▸z)⟩ rfl rfl rfl p.right rfl rfl rfl ⟨rfl,_,v⟩
 |vO=>exact .vO
 |sV=>exact .sV
 |number l h=>exact .number l h.right
 |view t y h=>exact .view t y h.right
def RU{A B}(h:∀b,A b->B b):(eF A).le (eF B):=λa b c=>⟨c.1,h b c.2⟩
def fy.closed{u}(h:fy P ρ u w)(d:Whole (λ_=>False) ρ u):Closed ρ.im w:=by
 rintro b ⟨a,c⟩;rcases d.all a b c with⟨_,o,i,g⟩|⟨f,_⟩
 ·rcases h.obj a b o c i with e|⟨l,j,k⟩
  ·exact absurd e g
  ·exact⟨l,j,k.right⟩
 ·exact f.elim
end
end
section
open Go.Conc
open Go.ConcN (ShN WgLive)
def rf(l:Nat)(b:aV)(a:Act)(todo:aB fW):aV:={b.at a todo with roundOf:=aa l}
section
variable {P:aY} {main:Bool} {w:az} {b:aV} {a:Act} {k:aB fW} {cs:aB aV} {l:Nat}
def acf{x y}:stepG P main (G (rf l b a (.code (.seq x y)::k)) cs) w=.go (G (rf l b a (.code x::.code y::k)) cs) w:=by simp[G,stepG,gZ,rf,Frame.at]
def abV{id x}:stepG P main (G (rf l b a (.code (.block id x)::k)) cs) w=.go (G (rf l b a (.code x::.inBlock id::k)) cs) w:=by simp[G,stepG,gZ,rf,Frame.at]
def abY{id}:stepG P main (G (rf l b a (.inBlock id::k)) cs) w=.go (G (rf l b a k) cs) w:=by simp[G,stepG,gZ,rf,Frame.at]
def acd{id ops}:stepG P main (G (rf l b a (.code (.region id ops av)::k)) cs) w=.go (G (rf l b a (.inRegion ops (dH ops.size)::k)) cs) w:=by simp[G,stepG,gZ,rf,Frame.at]
def ace{ops}:stepG P main (G (rf l b a (.inRegion ops []::k)) cs) w=.go (G (rf l b a k) cs) w:=by simp[G,stepG,gZ,rf,Frame.at]
def Gt(ops i rest v):(rf l b a (.inRegion ops (i::rest)::k)).finish v=rf l b (a.put ((ops[i]?).bind (·.dst)) v) (.inRegion ops rest::k):=by cases h:(ops[i]?).bind (·.dst)<;>simp[Frame.finish,rf,Frame.at,Act.put,h]
def Gu{ops i rest o}(d:ops[i]? =aa o)(n:dg o (yielded ops a.tmps)=aq)(f:∀c,o.op≠.defer c):
  stepG P main (G (rf l b a (.inRegion ops (i::rest)::k)) cs) w=stepG.apply P aq (rf l b a (.inRegion ops (i::rest)::k)) cs ay (execOp a.eval o) w:=by
 have h:(rf l b a (.inRegion ops (i::rest)::k)).eval=a.eval:=by
  rw[<-(Frame.eval_at' b a (.inRegion ops (i::rest)::k))]
  funext x
  cases x<;>rfl
 have m:(rf l b a (.inRegion ops (i::rest)::k)).oper?=aa o:=by simp[Frame.oper?,rf,Frame.at,d]
 have e:stepG P main (G (rf l b a (.inRegion ops (i::rest)::k)) cs) w=td P aq (rf l b a (.inRegion ops (i::rest)::k)) cs ay w:=by simp[G,stepG,gZ,rf,Frame.at,d,n]
 rw[e];unfold td;rw[m];simp only;have hr:(rf l b a (.inRegion ops (i::rest)::k)).roundOf=aa l:=rfl;rw[hr,h];cases j:o.op with
 |defer c=>exact absurd j (f c)
 |_=>rfl
def Tz{ops i rest o v w'}(d:ops[i]? =aa o)(m:dg o (yielded ops a.tmps)=aq)(e:∀c,o.op≠.defer c)(h:b.kind≠.early)(hr:(execOp a.eval o).run P w=.ok (.value v) w'):
  stepG P main (G (rf l b a (.inRegion ops (i::rest)::k)) cs) w=.go (G (rf l b (a.put o.dst v) (.inRegion ops rest::k)) cs) w' (listed P b.fn a o w):=by
 have f:(rf l b a (.inRegion ops (i::rest)::k)).finish v=rf l b (a.put o.dst v) (.inRegion ops rest::k):=by rw[Gt,d];rfl
 have j:(b.kind==wL)=av:=by simpa using h
 rw[Gu d m e,<-f];simp[stepG.apply,hr,G,rf,Frame.at,j,jy,listed]
def abZ{ops i rest o w'}(d:ops[i]? =aa o)(m:dg o (yielded ops a.tmps)=aq)(e:∀c,o.op≠.defer c)(h:b.kind≠.early)(hr:(execOp a.eval o).run P w=.ok .skip w'):
  stepG P main (G (rf l b a (.inRegion ops (i::rest)::k)) cs) w=.go (G (rf l b (a.put o.dst au) (.inRegion ops rest::k)) cs) w' (listed P b.fn a o w):=by
 have f:(rf l b a (.inRegion ops (i::rest)::k)).finish au=rf l b (a.put o.dst au) (.inRegion ops rest::k):=by rw[Gt,d];rfl
 have j:(b.kind==wL)=av:=by simpa using h
 rw[Gu d m e,<-f];simp[stepG.apply,hr,G,rf,Frame.at,j,jy,listed]
def abX{ops i rest o f args w'}(h:ops[i]? =aa o)(j:dg o (yielded ops a.tmps)=aq)(d:∀c,o.op≠.defer c)(m:b.kind≠.early)(hr:(execOp a.eval o).run P w=.ok (.enter f args) w'):
  stepG P main (G (rf l b a (.inRegion ops (i::rest)::k)) cs) w=.go (G (Frame.enter P f args .normal) (rf l b a (.inRegion ops (i::rest)::k)::cs)) w' (listed P b.fn a o w):=by
 have e:(b.kind==wL)=av:=by grind
 rw[Gu h j d];simp[stepG.apply,hr,G,rf,Frame.at,e,jy,listed]
def acg{ops i rest o d w' f c}(e:ops[i]? =aa o)(q:dg o (yielded ops a.tmps)=aq)(p:∀c,o.op≠.defer c)(m:b.kind≠.early)(hr:(execOp a.eval o).run P w=.ok (.spawn d) w')(h:d.target=.fn f c):
  stepG P main (G (rf l b a (.inRegion ops (i::rest)::k)) cs) w=.spawn (G (rf l b (a.put o.dst au) (.inRegion ops rest::k)) cs) (born P d) w' (listed P b.fn a o w):=by
 have j:(rf l b a (.inRegion ops (i::rest)::k)).finish au=rf l b (a.put o.dst au) (.inRegion ops rest::k):=by rw[Gt,e];rfl
 have n:(b.kind==wL)=av:=by simpa using m
 rw[Gu e q p,<-j];simp[stepG.apply,hr,G,rf,Frame.at,n,jy,listed,born,h]
def gl(w:az)(l:Nat)(r:Loop):az:={w with heap:=w.heap.setIfInBounds l (.loop r)}
def kN(l:Nat):aJ jw:=#[⟨.obj l,av,av⟩,⟨.obj l,aq,av⟩]
def LZ(f)(hf:((P.funcs[f]?).any (·.norace))=av):seen P f (kN l)=kN l:=by
 cases h:P.funcs[f]? with
 |none=>simp[seen,kN,h]
 |some c=>
  rw[h]at hf;have:c.norace=av:=by grind
  simp[seen,kN,h,this]
def abU{r}(i:b.kind≠.early)(hf:((P.funcs[b.fn]?).any (·.norace))=av)(m:w.heap[l]? =aa (.loop r))(hr:r.state=.ready):
  stepG P main (G (rf l b a (.beginRound::k)) cs) w=.go (G (rf l b a k) cs) (gl w l {r with state:=.busy}) (kN l):=by
 have j:(b.kind==wL)=av:=by simpa using i
 have c:(do AF l;pure Next.skip:Sem Next).runT P w #[]=(.ok .skip (gl w l {r with state:=.busy}),kN l):=by simp only[AF,tI,getObj,setObj,bind,cL,pure,dx,m,hr];rfl
 have d:stepG P main (G (rf l b a (.beginRound::k)) cs) w=stepG.apply P aq (rf l b a (.beginRound::k)) cs ay (do AF l;pure Next.skip) w:=by simp[G,stepG,gZ,rf,Frame.at]
 rw[d];unfold stepG.apply;simp only[cV];rw[c];have e:((rf l b a (.beginRound::k)).kind==wL)=av:=j;have f:(rf l b a (.beginRound::k)).finish au=rf l b a k:=rfl;simp only[e,f,eX,dQ];have h:seen P (rf l b a (.beginRound::k)).fn (kN l)=kN l:=LZ _ hf;rw[h];simp[jy,G]
def abW{r c}(f:b.kind=.normal)(hf:((P.funcs[b.fn]?).any (·.norace))=av)(h:w.heap[l]? =aa (.loop r)):
  stepG P main (G (rf l b a []) (c::cs)) w=.go (G (c.finish (.bool aq)) cs) (gl w l {r with state:=.ready,pending:=ay}) (kN l):=by
 have d:(tH l ay).runT P w #[]=(.ok (.bool aq) (gl w l {r with state:=.ready,pending:=ay}),kN l):=by simp only[tH,tI,getObj,setObj,bind,cL,pure,dx,h];rfl
 have e:seen P b.fn (kN l)=kN l:=LZ _ hf;simp only[G,stepG,gZ,rf,Frame.at,d];simp[qN,f,e,jy]
def afn{r}(hf:((P.funcs[b.fn]?).any (·.norace))=av)(e:w.heap[l]? =aa (.loop r))(hr:r.state=.ready)(f:r.pending=ay):
  stepG P main (G (b.at a (.endRangeFunc l::k)) cs) w=.go (G (b.at a k) cs) (gl w l {r with state:=.exhausted}) (kN l):=by
 have c:(yH l).runT P w #[]=(.ok ay (gl w l {r with state:=.exhausted}),kN l):=by have h:(LoopState.ready==LoopState.busy)=av:=bL;simp only[yH,tI,getObj,setObj,bind,cL,pure,dx,e,hr,f,h,eX,dQ];rfl
 have d:seen P b.fn (kN l)=kN l:=LZ _ hf;simp only[G,stepG,gZ,Frame.at,c];simp[d,jy]
def mm(b:aV)(a:Act)(ps:aJ Tmp)(lD bd:gN)(D:Nat)(st:DV):Loop:={state:=st,pending:=ay,fn:=b.fn,tmps:=a.tmps,params:=ps,assign:=lD,body:=bd,defers:=D}
def nX(w:az)(r:Loop):az:={w with heap:=(w.heap.push (.deferred (aa []))).push (.loop r)}
def afm{g ps lD bd f fn caps}(t:b.kind≠.early)(s:a.eval g=.func (.func f) #[] caps)(r:P.funcs[f]? =aa fn)(z:(fn.name== "runtime.NumGoroutine")=av)(i:fn.body.isNone=av):
  stepG P main (G (b.at a (.code (.rangeFunc g ps lD bd)::k)) cs) w=
   .go (G (Frame.enter P f (#[.func (.yield (w.heap.size+1)) #[] #[]]++caps) .normal) (b.at ⟨a.tmps,{target:=.collected w.heap.size,args:=#[]}::a.defers⟩ (.inRangeFunc (w.heap.size+1)::k)::cs)) (nX w (mm b a ps lD bd w.heap.size .ready)):=by
 have n:(yI b.fn a.tmps ps lD bd ay).runT P w #[]=(.ok (w.heap.size+1,[{target:=.collected w.heap.size,args:=#[]}]) (nX w (mm b a ps lD bd w.heap.size .ready)),#[]):=by simp only[yI,newObj,bind,cL,pure,dx,MY];rfl
 have v:¬fn.name= "runtime.NumGoroutine" :=by simpa using z
 obtain⟨c,q⟩:∃c,fn.body=aa c:=by
  cases h:fn.body with
  |none=>rw[h]at i;cases i
  |some c=>exact⟨c,rfl⟩
 have o:∀(W:az) (y:aD),(do let d <-resolve a.eval {callee:=.value g,args:=#[.const y],argTypes:=#[]} 0;invoke d.target d.args:Sem Next).runT P W #[]=(.ok (.enter f (#[y]++caps)) W,#[]):=λW y=>by have p:a.eval (.const y)=y:=rfl;simp[resolve,wM,s,p,invoke,callFunc,r,v,q]
 have j:∀m e,({b.at a (.code (.rangeFunc g ps lD bd)::k)with todo:=m,defers:=e}:aV).eval=a.eval:=λm e=>by
  funext x
  cases x<;>rfl
 have u:(b.kind==wL)=av:=by simpa using t
 simp only[G,stepG,gZ,Frame.at]at j⊢;simp only[n,HO];unfold stepG.apply;simp only[cV,j,o,u,eX,dQ,HO,jy];rfl
def afo{ops i rest o f tmps lD bd w'}(d:ops[i]? =aa o)(e:dg o (yielded ops a.tmps)=aq)(h:b.kind≠.early)(hr:(execOp a.eval o).run P w=.ok (.round l f tmps lD bd) w'):
  stepG P main (G (b.at a (.inRegion ops (i::rest)::k)) cs) w=.go (G (rf l {(default:aV)with fn:=f,kind:=.normal} ⟨tmps,[]⟩ [.code lD,.beginRound,.code bd]) (b.at a (.inRegion ops (i::rest)::k)::cs)) w' (listed P b.fn a o w):=by
 have c:(b.kind==wL)=av:=by grind
 rw[stepG_oper d e];simp[stepG.apply,hr,G,Frame.at,c,jy,listed,rf,Frame.round]
end
section
variable [aP] [bw] {P:aY} {main:Bool} {ty:aQ} {Wg:Nat} {Stop:(Nat->Prop)->bM->az->Prop} {O:Nat->Prop} {w:az} {b:aV} {a:Act} {k:aB fW} {cs:aB aV} {l:Nat} {g:bM}
def Js{n}(h:O l)(d:l<n)(wr):iF Wg O n (.ofEvent ⟨.obj l,wr,av⟩):=by refine⟨λx c=>?_,by cases wr<;>simp[cY],by cases wr<;>exact d,λ_=>by cases wr<;>simp[cY],λ_=>by cases wr<;>simp[cY]⟩;cases wr<;>simp[cY,uY]at c<;>(subst c;exact aE (aF ⟨l,rfl,h⟩))
def Xo{n}(h:O l)(d:l<n):∀e∈kN l,iF Wg O n (.ofEvent e):=λe c=>by
 simp only[kN,Ws,jR,DS,or_false]at c;rcases c with rfl|rfl
 ·exact Js h d av
 ·exact Js h d aq
def qB{r i}(h:i≠l):(gl w l r).heap[i]? =w.heap[i]? :=dO (dc h)
def abf{r}(h:l<w.heap.size):(gl w l r).heap[l]? =aa (.loop r):=by show(w.heap.setIfInBounds l (.loop r))[l]? =_;simp[h]
def xZ{r}:(gl w l r).heap.size=w.heap.size:=by simp[gl]
def CJ.gl{g' r}(n:g.status=.running)(j:O l)(o:l<w.heap.size)(h:∀d,Rel ty Wg O w d->stepG P main g d=.go g' (Go.Proofs.YtpobhljcainmdaaGreat.gl d l r) (kN l))(c:∀d,Rel ty Wg O w d->CJ P main ty Wg Stop O g' (Go.Proofs.YtpobhljcainmdaaGreat.gl d l r)):CJ P main ty Wg Stop O g w:=
 .one n λd f=>by have i:ff O d (Go.Proofs.YtpobhljcainmdaaGreat.gl d l r)=O:=Fq xZ;refine⟨g',_,_,.go (h d f),⟨λb s p=>qB λe=>p (e▸j),by rw[xZ];exact bD _,rfl,rfl,rfl⟩,λx q=>?_,by rw[i];exact c d f⟩;obtain⟨e,m,rfl⟩:=nM.1 q;rw[i,xZ];exact Xo j (dI o f.size) e m
def CJ.leave1{c fn t todo}(e:b.kind=.normal)(d:a.defers=[])(hf:P.funcs[b.fn]? =aa fn)(hr:fn.results=#[.tmp t])(k:CJ P main ty Wg Stop O (G (c.finish (a.tmps.getD t au)) cs) w):CJ P main ty Wg Stop O (G {b.at a todo with mode:=.returning} (c::cs)) w:=
 .ctl rfl (λf _=>OA e d hf (by simp[results,hr]) (events_results_tmp hr _ _)) k
def zC{r i}(h:i<w.heap.size):(nX w r).heap[i]? =w.heap[i]? :=by show((w.heap.push _).push _)[i]? =_;rw[fJ,aK cq,fJ,aK ak]
def XS{r}:(nX w r).heap[w.heap.size]? =aa (.deferred (aa [])):=by show((w.heap.push _).push _)[w.heap.size]? =_;rw[fJ,aK aC,fJ,aW rfl]
def XT{r}:(nX w r).heap[w.heap.size+1]? =aa (.loop r):=by show((w.heap.push _).push _)[w.heap.size+1]? =_;rw[fJ,aW aC]
def EH{r}:(nX w r).heap.size=w.heap.size+2:=by simp[nX]
def CJ.T8{x ps lD bd f fn caps}(o:b.kind≠.early)(n:a.eval x=.func (.func f) #[] caps)(m:P.funcs[f]? =aa fn)(p:(fn.name== "runtime.NumGoroutine")=av)(j:fn.body.isNone=av)(c:∀d,Rel ty Wg O w d->CJ P main ty Wg Stop (λc=>O c\/c=d.heap.size\/c=d.heap.size+1) (G (Frame.enter P f (#[.func (.yield (d.heap.size+1)) #[] #[]]++caps) .normal) (b.at ⟨a.tmps,{target:=.collected d.heap.size,args:=#[]}::a.defers⟩ (.inRangeFunc (d.heap.size+1)::k)::cs)) (nX d (mm b a ps lD bd d.heap.size .ready))):
  CJ P main ty Wg Stop O (G (b.at a (.code (.rangeFunc x ps lD bd)::k)) cs) w:=
 .one rfl λd r=>by
  have i:ff O d (nX d (mm b a ps lD bd d.heap.size .ready))=λc=>O c\/c=d.heap.size\/c=d.heap.size+1:=by
   funext y
   apply propext;show(O y\/(d.heap.size<=y/\y<(nX d _).heap.size))↔_;rw[EH];constructor
   ·rintro(h|h)
    ·exact aF h
    ·exact aE ak
   ·rintro(h|h)
    ·exact aF h
    ·exact aE ak
  refine⟨_,_,_,.go (afm o n m p j),⟨λy e _=>zC e,by rw[EH];omega,rfl,rfl,rfl⟩,λy e=>by simp at e,by rw[i];exact c d r⟩
def CJ.round{ops i rest o f tmps lD bd}(m:ops[i]? =aa o)(n:dg o (yielded ops a.tmps)=aq)(j:b.kind≠.early)(hr:∀d,Rel ty Wg O w d->(execOp a.eval o).run P d=.ok (.round l f tmps lD bd) d)(he:∀d,Rel ty Wg O w d->∀e∈(execOp a.eval o).events P d #[],iF Wg O d.heap.size (.ofEvent e))(c:CJ P main ty Wg Stop O (G (rf l {(default:aV)with fn:=f,kind:=.normal} ⟨tmps,[]⟩ [.code lD,.beginRound,.code bd]) (b.at a (.inRegion ops (i::rest)::k)::cs)) w):CJ P main ty Wg Stop O (G (b.at a (.inRegion ops (i::rest)::k)) cs) w:=
 .quiet rfl (λd r=>⟨_,afo m n j (hr d r),λe h=>he d r e (vX h)⟩) c
def CJ.aco{x y}(c:CJ P main ty Wg Stop O (G (rf l b a (.code x::.code y::k)) cs) w):CJ P main ty Wg Stop O (G (rf l b a (.code (.seq x y)::k)) cs) w:=.ctl rfl (λ_ _=>acf) c
def CJ.abm{id x}(c:CJ P main ty Wg Stop O (G (rf l b a (.code x::.inBlock id::k)) cs) w):CJ P main ty Wg Stop O (G (rf l b a (.code (.block id x)::k)) cs) w:=.ctl rfl (λ_ _=>abV) c
def CJ.ach{id}(c:CJ P main ty Wg Stop O (G (rf l b a k) cs) w):CJ P main ty Wg Stop O (G (rf l b a (.inBlock id::k)) cs) w:=.ctl rfl (λ_ _=>abY) c
def CJ.LQ{id ops}(c:CJ P main ty Wg Stop O (G (rf l b a (.inRegion ops (dH ops.size)::k)) cs) w):CJ P main ty Wg Stop O (G (rf l b a (.code (.region id ops av)::k)) cs) w:=.ctl rfl (λ_ _=>acd) c
def CJ.LR{ops}(c:CJ P main ty Wg Stop O (G (rf l b a k) cs) w):CJ P main ty Wg Stop O (G (rf l b a (.inRegion ops []::k)) cs) w:=.ctl rfl (λ_ _=>ace) c
def CJ.rop{ops i rest o}(v)(m:ops[i]? =aa o)(n:dg o (yielded ops a.tmps)=aq)(f:∀c,o.op≠.defer c)(j:b.kind≠.early)(hr:∀d,Rel ty Wg O w d->(execOp a.eval o).run P d=.ok (.value v) d)(he:∀d,Rel ty Wg O w d->∀e∈(execOp a.eval o).events P d #[],iF Wg O d.heap.size (.ofEvent e))(c:CJ P main ty Wg Stop O (G (rf l b (a.put o.dst v) (.inRegion ops rest::k)) cs) w):CJ P main ty Wg Stop O (G (rf l b a (.inRegion ops (i::rest)::k)) cs) w:=
 .quiet rfl (λd r=>⟨_,Tz m n f j (hr d r),λe h=>he d r e (vX h)⟩) c
def Rl{x d}:ff O d {d with heap:=d.heap.push x}=λc=>O c\/c=d.heap.size:=by
 funext y
 apply propext;show(O y\/(d.heap.size<=y/\y<(d.heap.push x).size))↔_;rw[MY];constructor
 ·rintro(h|h)
  ·exact aF h
  ·exact aE ak
 ·rintro(h|h)
  ·exact aF h
  ·exact aE ak
def CJ.acj{ops i rest o}(v:Nat->aD)(x:Obj)(n:ops[i]? =aa o)(p:dg o (yielded ops a.tmps)=aq)(j:∀c,o.op≠.defer c)(m:b.kind≠.early)(hr:∀d,Rel ty Wg O w d->(execOp a.eval o).run P d=.ok (.value (v d.heap.size)) {d with heap:=d.heap.push x}) (he:∀d,Rel ty Wg O w d->∀e∈(execOp a.eval o).events P d #[],iF Wg (λc=>O c\/c=d.heap.size) (d.heap.size+1) (.ofEvent e)) (c:∀d,Rel ty Wg O w d->CJ P main ty Wg Stop (λc=>O c\/c=d.heap.size) (G (rf l b (a.put o.dst (v d.heap.size)) (.inRegion ops rest::k)) cs) {d with heap:=d.heap.push x}):CJ P main ty Wg Stop O (G (rf l b a (.inRegion ops (i::rest)::k)) cs) w:=
 .one rfl λd r=>by
  refine⟨_,_,_,.go (Tz n p j m (hr d r)),⟨λy f _=>?_,aC,rfl,rfl,rfl⟩,λy f=>?_,by rw[Rl];exact c d r⟩
  ·show(d.heap.push x)[y]? =_;rw[fJ,aK ak]
  ·obtain⟨e,h,rfl⟩:=nM.1 f;rw[Rl];have:=he d r e (vX h);simpa using this
def CJ.acp{ops i rest o ad v}(m:O ad.block)(s:ops[i]? =aa o)(t:dg o (yielded ops a.tmps)=aq)(n:∀c,o.op≠.defer c)(p:b.kind≠.early)(hr:∀d,Rel ty Wg O w d->(execOp a.eval o).run P d=.ok .skip (d.setCell ad v))(he:∀d,Rel ty Wg O w d->∀e∈(execOp a.eval o).events P d #[],iF Wg O d.heap.size (.ofEvent e))(c:∀d,Rel ty Wg O w d->CJ P main ty Wg Stop O (G (rf l b (a.put o.dst au) (.inRegion ops rest::k)) cs) (d.setCell ad v)):CJ P main ty Wg Stop O (G (rf l b a (.inRegion ops (i::rest)::k)) cs) w:=
 .one rfl λd r=>by have f:ff O d (d.setCell ad v)=O:=Fq aC;refine⟨_,_,_,.go (abZ s t n p (hr d r)),⟨λy j q=>(zc d ad v).block y λe=>q (e▸m),aC,by simp[fY],by simp[fY],by simp[fY]⟩,λy j=>?_,by rw[f];exact c d r⟩;obtain⟨e,h,rfl⟩:=nM.1 j;rw[f];have:=he d r e (vX h);simpa using this
def CJ.abn{ops i rest o f fn args ats}(q:ops[i]? =aa o)(s:dg o (yielded ops a.tmps)=aq)(m:∀c,o.op≠.defer c)(p:b.kind≠.early)(j:o.op=.call {callee:=.value (.func f),args,argTypes:=ats}) (hf:P.funcs[f]? =aa fn) (h:(fn.name== "runtime.NumGoroutine")=av) (d:fn.body.isNone=av) (c:CJ P main ty Wg Stop O (G (Frame.enter P f (args.map a.eval) .normal) (rf l b a (.inRegion ops (i::rest)::k)::cs)) w):CJ P main ty Wg Stop O (G (rf l b a (.inRegion ops (i::rest)::k)) cs) w:=
 .quiet rfl (λt r=>⟨_,abX q s m p (Ov j hf h d),λe n=>by have:=vX n;rw[On j hf h d]at this;simp at this⟩) c
end
end
section
open Go.Conc
open Go.ConcN (sumTo)
def rK:Nat->String
 |0=> ""
 |n+1=> "x" ++rK n
def Vl:∀n,(rK n).length=n
 |0=>rfl
 |n+1=>by show("x" ++rK n).length=n+1;rw[String.length_append,Vl n];show 1+n=n+1;omega
def Sy:∀n,KX (rK n)=aq
 |0=>rfl
 |n+1=>by unfold KX;show(match("x" ++rK n).toList with|[]=>aq|c::_=>c.toNat==120)=aq;rw[String.toList_append];rfl
def iQ:Nat->aB fW->aB fW
 |_,[]=>[]
 |i,.inBlock id::k=>.inBlock id::iQ (i+1) k
 |i,_::k=>.code (.refuse (rK i))::iQ (i+1) k
def mC:aB fW->Prop
 |[]=>True
 |.code _::k=>mC k
 |.inLoop _::k=>mC k
 |.inBlock _::k=>mC k
 |_::_=>False
section
variable [aP] {P:aY} {l:aB bC} {ρ:Ren}
def Hf(pre k x)(h:(∃c,x=.code c)\/∃c,x=.inLoop c):Ao (pre++x::k) (rK pre.length)=x:=by unfold Ao;rw[Vl,uR (bD _)];rcases h with⟨c,rfl⟩|⟨c,rfl⟩<;>simp
def Vh:∀(k pre:aB fW),mC k->@dh _ _ (@IR (bU (pre++k)) P l ρ av) (iQ pre.length k) k
 |[],pre,_=>.nil
 |x::k,pre,h=>by
  have a:∀d:mC k,@dh _ _ (@IR (bU (pre++x::k)) P l ρ av) (iQ (pre.length+1) k) k:=λd=>by have e:pre++[x]++k=pre++x::k:=aC;have b:=Vh k (pre++[x]) d;rw[e,gW]at b;exact b
  cases x with
  |inBlock id=>exact .cons (@IR.inBlock (bU _) _ _ _ _ id) (a h)
  |code c=>
   have e:=Hf pre k (.code c) (aF ⟨c,rfl⟩);refine .cons ?_ (a h);have:=@IR.stop (bU (pre++.code c::k)) P l ρ av (rK pre.length)
   rwa [show @bw.wall (bU (pre++.code c::k)) (rK pre.length)=.code c from e]at this
  |inLoop c=>
   refine .cons ?_ (a h);have:=@IR.stop (bU (pre++.inLoop c::k)) P l ρ av (rK pre.length)
   rwa [show @bw.wall (bU (pre++.inLoop c::k)) (rK pre.length)=.inLoop c from(Hf pre k (.inLoop c) (aE ⟨c,rfl⟩))]at this
  |_=>exact h.elim
def MO:∀(k pre:aB fW) {y:aB fW},mC k->@dh _ _ (@IR (bU (pre++k)) P l ρ av) (iQ pre.length k) y->y=k
 |[],pre,y,_,h=>by cases h;rfl
 |x::k,pre,y,d,h=>by
  have g:∀{y:aB fW},mC k->@dh _ _ (@IR (bU (pre++x::k)) P l ρ av) (iQ (pre.length+1) k) y->y=k:=λ{y} i h=>by have e:pre++[x]++k=pre++x::k:=aC;refine MO k (pre++[x]) i ?_;rw[e,gW];exact h
  cases x with
  |inBlock id=>
   cases h with
   |cons a b=>cases a;rw[g d b]
  |code c=>
   cases h with
   |cons a b=>
    cases a with
    |code f=>simp[eK,Sy]at f
    |stop _=>rw[g d b];congr 1;exact Hf pre k (.code c) (aF ⟨c,rfl⟩)
  |inLoop c=>
   cases h with
   |cons a b=>
    cases a with
    |code f=>simp[eK,Sy]at f
    |stop _=>rw[g d b];congr 1;exact Hf pre k (.inLoop c) (aE ⟨c,rfl⟩)
  |_=>exact d.elim
def Qu(id):∀(k:aB fW) (i:Nat) {k':aB fW},mC k->exitTo id k=aa k'->∃pre,k=pre++k'/\exitTo id (iQ i k)=aa (iQ (i+pre.length) k')
 |[],i,k',_,h=>by cases h
 |x::k,i,k',a,h=>by
  have step:mC k->exitTo id k=aa k'->∃pre,x::k=pre++k'/\exitTo id (iQ (i+1) k)=aa (iQ (i+pre.length) k'):=λg h=>by
   obtain⟨pre,d,f⟩:=Qu id k (i+1) g h;refine⟨x::pre,by rw[d];rfl,?_⟩;rw[f]
   congr 2
   simp;omega
  cases x with
  |inBlock b=>
   unfold exitTo at h
   by_cases e:(b==id)=aq
   ·rw[aW e]at h;cases h;exact⟨[.inBlock b],rfl,by show exitTo id (.inBlock b::iQ (i+1) k)=_;unfold exitTo;rw[aW e];rfl⟩
   ·rw[aK e]at h;obtain⟨pre,d,f⟩:=step a h;exact⟨pre,d,by show exitTo id (.inBlock b::iQ (i+1) k)=_;unfold exitTo;rw[aK e];exact f⟩
  |code c=>exact step a h
  |inLoop c=>exact step a h
  |_=>exact a.elim
end
section
variable [aP] {P:aY} {l:aB bC} {ρ:Ren}
def Pg{α:Type}{R}(h:∀a b,R a b->a=b):∀{x y:aB α},dh R x y->x=y:=λk=>by
 induction k with
 |nil=>rfl
 |cons c _ d=>rw[h _ _ c,d]
def FR.eq(c:∀a b,ρ a b->a=b){f f'}(h:FR ρ f f'):f=f':=by
 cases h with
 |func f _=>rfl
 |yield h=>rw[c _ _ h]
def DR.eq(c:∀a b,ρ a b->a=b)(d d':Deferred)(h:DR ρ d d'):d=d':=by
 haveI:bw:=bU []
 obtain⟨t,x⟩:=d;obtain⟨k,m⟩:=d';obtain⟨g,i⟩:=h;have f:x=m:=bK.eq c i
 have e:t=k:=by
  cases g with
  |fn h j=>rw[FR.eq c h,bK.eq c j]
  |nil=>rfl
  |collected h=>rw[c _ _ h]
 rw[e,f]
def sO.eq(k:∀a b,ρ a b->a=b)(e c:PanicEntry)(h:sO ρ e c):e=c:=by
 haveI:bw:=bU []
 obtain⟨v,r,g⟩:=e;obtain⟨o,n,m⟩:=c;obtain⟨d,f,i,j⟩:=h;simp only at d f i j;rw[VR.eq k d,f,i,j]
def qi.eq(c:∀a b,ρ a b->a=b){m m'}(h:qi ρ m m'):m=m':=by
 cases h with
 |run=>rfl
 |returning=>rfl
 |panicking h=>rw[Pg (sO.eq c) h]
def cy.same[bw](d:∀a b,ρ a b->a=b){fr c}(h:cy P l ρ fr c):c={fr with todo:=c.todo}:=by
 obtain⟨f1,f2,f3,f4,f5,f6,f7⟩:=fr;obtain⟨v,w,x,y,z,A,q⟩:=c;obtain⟨e,r,f,s,g,i,j,t,k⟩:=h;simp only at e f g i j k;have m:=bK.eq d f;have n:=Pg (DR.eq d) g;have o:=qi.eq d i
 have p:f7=q:=by
  cases k with
  |none=>rfl
  |some h=>rw[d _ _ h]
 subst e m n o j p;rfl
def cy.xf[bw](k:∀a b,ρ a b->a=b){fr fr'}(h:cy P l ρ fr fr')(j:fr.kind=.normal):XF ρ fr':=by
 have e:=h.same k;have c:fr'.tmps=fr.tmps:=by rw[e]
 have d:fr'.defers=fr.defers:=by rw[e]
 have f:fr'.mode=fr.mode:=by rw[e]
 have g:fr'.kind=fr.kind:=by rw[e]
 have i:fr'.fn=fr.fn:=by rw[e]
 refine⟨?_,?_,g.trans j,by rw[i];exact h.ok,?_⟩
 ·have:=h.tmps;rw[c]at this⊢;exact this
 ·have:=h.defers;rw[d]at this⊢;exact this
 ·have:=h.mode;rw[f]at this⊢;exact this
end
def Xm(Q:mS->Act->az->Prop):Prop:=∀e a u b,Q e a u->Q e a (az.tp u b)
def Arr(b:aV)(k:aB fW)(cs:aB aV):mS->Act->aV->aB aV->Prop
 |.normal,a,d,c=>d=b.at a k/\c=cs
 |.exit id,a,d,c=>(∃f,exitTo id k=aa f/\d=b.at a f)/\c=cs
 |.ret,a,d,c=>(∃e,d={b.at a e with mode:=.returning})/\c=cs
 |.panic g,a,d,c=>(∃e,d={b.at a e with mode:=.panicking g})/\c=cs
 |_,_,_,_=>False
def qV(Q:mS->Act->az->Prop)(k:aB fW):Prop:=∀id,(∃a u,Q (.exit id) a u)->∃b,exitTo id k=aa b
def zk(Q:mS->Act->az->Prop)(b:aV)(k:aB fW)(cs:aB aV)(fr:aV)(c:aB aV)(u:az):Prop:=∃e a,Q e a u/\Arr b k cs e a fr c
def OM(b:aV)(k:aB fW):mS->Act->aV->Prop
 |.normal,a,c=>c=b.at a (iQ 0 k)
 |.exit id,a,c=>∃pre d,k=pre++d/\exitTo id k=aa d/\c=b.at a (iQ pre.length d)
 |.ret,a,c=>∃e,c={b.at a e with mode:=.returning}
 |.panic f,a,c=>∃e,c={b.at a e with mode:=.panicking f}
 |_,_,_=>False
section
variable [aP] {P:aY} {Q:mS->Act->az->Prop} {a:Act} {u:az}
def WX(P:aY)(c:gN)(Q:mS->Act->az->Prop)(a:Act)(u:az):Prop:=
 ∀(b:aV) (k:aB fW) (cs:aB aV),mC k->qV Q k->Reach P (zk Q b k cs) (b.at a (.code c::k)) cs u
def fc(P:aY)(f:bC)(args:aJ aD)(u:az)(R:iz->az->Prop):Prop:=
 ∀(cs:aB aV),Reach P (λb d c=>d=cs/\b.fn=f/\∃e,e≠.outgrown/\R e c/\b.leaving P c e) (Frame.enter P f args .normal) cs u
def Ff:∀{pre k:aB fW},mC (pre++k)->mC k
 |[],_,h=>h
 |x::pre,k,h=>by
  cases x with
  |code c=>exact Ff (pre:=pre) h
  |inLoop c=>exact Ff (pre:=pre) h
  |inBlock c=>exact Ff (pre:=pre) h
  |_=>exact h.elim
end
section
variable [aP] {P:aY} {l:aB bC} {Q:mS->Act->az->Prop} {a:Act} {u:az}
def Vg(k i):∀c j rest b,iQ i k≠.inRegion c (j::rest)::b:=by
 intro c j rest b e;cases k with
 |nil=>cases e
 |cons x k=>cases x<;>cases e
def Pp{b k}(fr:aV)(cs:aB aV)(u:az)(h:cs=[]/\∃e d,Q e d u/\OM b k e d fr):¬oT fr:=by
 rintro⟨hm,n,j,rest,m,f⟩;obtain⟨_,e,d,_,h⟩:=h;cases e with
 |normal=>obtain rfl:fr=b.at d (iQ 0 k):=h;exact Vg k 0 _ _ _ _ f
 |exit id=>obtain⟨pre,g,_,_,rfl⟩:=h;exact Vg g _ _ _ _ _ f
 |ret=>obtain⟨i,rfl⟩:=h;cases hm
 |panic c=>obtain⟨i,rfl⟩:=h;cases hm
 |goto x=>exact h.elim
 |outgrown=>exact h.elim
def WX.lift(X:Fit P l){c}(hc:eK P l av c=aq)(hQ:Xm Q)(aR:∀x a u,¬Q (.goto x) a u)(aT:∀a u,¬Q .outgrown a u)(h:∀L,c.wp P Q a (u.tp L)):WX P c Q a u:=λb k cs z ho F S ρ gs w sl t q d hV=>by
 letI:bw:=bU k
 have Y:cy P l ρ (b.at a (.code c::iQ 0 k)) (b.at a (.code c::k)):=⟨rfl,d.top.known,d.top.tmps,.cons (.code hc) (Vh k [] z),d.top.defers,.run,rfl,aF d.top.kind,.none⟩;have af:Still cs:=λf z=>aF (d.below.run f z);have aG:Beside P l cs F S (b.at a (.code c::iQ 0 k)) [] u ρ gs w t q:=⟨⟨_,d.qm,⟨_,[],rfl,Y,.nil⟩⟩,d.world,d.whole,d.gC,d.past,d.clear,d.same,d.size,d.eW,d.full⟩
 have hL:mD P l (b.at a (.code c::iQ 0 k)) [] u:=by have:mD P l (b.at a (.code c::iQ 0 k)) [] (u.tp (laid u w)):=⟨S,ρ,cs,_,w,af,⟨_,[],rfl,Y,.nil⟩,d.world.lay,d.whole⟩;exact this.tp u.tape
 have Cn:oX P (λW s j=>s=[]/\∃e i,Q e i j/\OM b k e i W) (b.at a (.code c::iQ 0 k)) [] u:=by
  refine MQ X Pp (λW s j L _ ⟨m,e,i,v,h3⟩=>⟨m,e,i,hQ _ _ _ _ v,h3⟩) hL λL _=>?_;obtain⟨e,i,j,m,v⟩:=h L b (iQ 0 k) ([]++[bot P]);cases e with
  |normal=>
   obtain⟨n,r⟩:=v;exact⟨n,_,[],j,r,rfl,.normal,i,m,rfl⟩
  |exit id=>
   obtain⟨A,Z⟩:=ho id ⟨i,j,m⟩;obtain⟨pre,p1,O⟩:=Qu id k 0 z Z;obtain⟨n,r⟩:=v _ O;exact⟨n,_,[],j,r,rfl,.exit id,i,m,pre,A,p1,Z,by rw[fX]⟩
  |goto x=>exact absurd m (aR _ _ _)
  |ret=>
   obtain⟨D,n,r⟩:=v;exact⟨n,_,[],j,r,rfl,.ret,i,m,D,rfl⟩
  |panic V=>
   obtain⟨D,n,r⟩:=v;exact⟨n,_,[],j,r,rfl,.panic V,i,m,D,rfl⟩
  |outgrown=>exact absurd m (aT _ _)
 obtain⟨N,C,G,s,j,H,E,T,K,R,r1,r2,⟨rfl,e,i,hq,y⟩,r4,r5⟩:=MP X Pp af Cn (sumTo gs.size q+1) ρ gs w sl t q ak aG;obtain⟨⟨g,hg,o,bA,rfl,p,aN⟩,k2,k3,k4,k5,k6,B,k8,k9,bf⟩:=r4;cases aN;have J:=p.same B;have I:b.kind=.normal:=d.top.kind;have fin:XF C o->Arr b k cs e i o cs->∃N U S' C G s j H E T K R,runNT P N (crowd gs w sl) t=(.next (crowd H E T),K)/\zk Q b k cs G s j/\fu P U S' G s j C H E K R/\fA ρ C w E/\oO F U w:=λhx ha=>⟨N,F,S,C,o,cs,j,H,E,T,K,R,r1,⟨e,i,hq,ha⟩,⟨hg,hx,d.below.mono r5.le,k2,k3,k4,k5,k6,B,k8,k9,bf⟩,r5,.refl F w⟩;cases e with
 |normal=>
  obtain rfl:G=b.at i (iQ 0 k):=y;have M:o.todo=k:=MO k [] z p.todo;exact fin (p.xf B I) ⟨by rw[J,M];rfl,rfl⟩
 |exit id=>
  obtain⟨pre,A,p1,O,rfl⟩:=y;have aO:mC A:=Ff (pre:=pre) (p1▸z)
  have M:o.todo=A:=by refine MO (P:=P) (l:=l) (ρ:=C) A pre aO ?_;rw[<-p1];exact p.todo
  exact fin (p.xf B I) ⟨⟨A,O,by rw[J,M];rfl⟩,rfl⟩
 |goto x=>exact y.elim
 |ret=>
  obtain⟨D,rfl⟩:=y;exact fin (p.xf B I) ⟨⟨o.todo,J⟩,rfl⟩
 |panic V=>
  obtain⟨D,rfl⟩:=y;exact fin (p.xf B I) ⟨⟨o.todo,J⟩,rfl⟩
 |outgrown=>exact y.elim
end
section
variable [aP] {P:aY} {l:aB bC} {Q:mS->Act->az->Prop} {a:Act} {u:az} {Post:aV->aB aV->az->Prop} {b:aV} {k:aB fW} {cs:aB aV}
def Zy{ρ f args}(h:bK ρ (Frame.enter P f args .normal).tmps (Frame.enter P f args .normal).tmps):bK ρ args args:=by
 refine⟨rfl,λi v g c d=>?_⟩;rw[c]at d;cases d
 have e:(Frame.enter P f args .normal).tmps[i]? =aa v:=by unfold Frame.enter;rw[Hl ((bq.1 c).1)];exact c
 exact h.2 i v v e e
def fc.lift(j:Fit P l){f}(M:aP.ok f){args R}(hR:∀e u n,R e u->R e (az.tp u n))(s:∀e u,R e u->∃v,e=aM v)(h:∀n,Calls P f args (u.tp n) R):fc P f args u R:=λcs i S d gs w sl t q c hV=>by
 letI:bw:=bU []
 have r:cy P l d (Frame.enter P f args .normal) (Frame.enter P f args .normal):=Fb j M (Zy c.top.tmps) (aF rfl);have y:Still cs:=λf I=>aF (c.below.run f I);have F:Beside P l cs i S (Frame.enter P f args .normal) [] u d gs w t q:=⟨⟨_,c.qm,⟨_,[],rfl,r,.nil⟩⟩,c.world,c.whole,c.gC,c.past,c.clear,c.same,c.size,c.eW,c.full⟩
 have G:mD P l (Frame.enter P f args .normal) [] u:=by have:mD P l (Frame.enter P f args .normal) [] (u.tp (laid u w)):=⟨S,d,cs,_,w,y,⟨_,[],rfl,r,.nil⟩,c.world.lay,c.whole⟩;exact this.tp u.tape
 have T:=Vj j G hR (λu O=>by obtain⟨v,e⟩:=s _ _ O;cases e) h;obtain⟨N,aT,bf,aU,B,E,w',aO,t',q',r1,r2,⟨rfl,J,e,he,o,L⟩,r4,A⟩:=MP j Cs y T (sumTo gs.size q+1) d gs w sl t q ak F;obtain⟨⟨g,K,D,aX,rfl,p,H⟩,V,W,X,Y,Z,m,k8,k9,U⟩:=r4;cases H;have x:=p.same m;obtain⟨v,rfl⟩:=s e B o;obtain⟨l1,l2,z,C,l4,l5⟩:=L;refine⟨N,i,S,aT,D,cs,B,E,w',aO,t',q',r1,⟨rfl,by rw[x];exact J,aM v,aC,o,?_⟩,⟨K,p.xf m z,c.below.mono A.le,V,W,X,Y,Z,m,k8,k9,U⟩,A,.refl i w⟩;rw[x];exact⟨l1,l2,z,C,l4,l5⟩
def ahb{ρ k k'}(h:XF ρ (b.at a k)):XF ρ (b.at a k'):=⟨h.tmps,h.defers,h.kind,h.known,h.mode⟩
def Reach.at_{k'}(h:∀w,stepG P aq (G (b.at a k) cs) w=.go (G (b.at a k') cs) w)(c:Reach P Post (b.at a k') cs u):Reach P Post (b.at a k) cs u:=.ctl h (λ_=>ahb) c
def Lr{x}(g:x.plain=aq)(d:qV Q k):qV Q (x::k):=λid c=>by obtain⟨e,f⟩:=d id c;exact⟨e,by cases x<;>simp_all[exitTo,Tk]⟩
def uh{x cs' e fr}(j:x.plain=aq)(f:e≠.normal)(h:Arr b (x::k) cs e a fr cs'):Arr b k cs e a fr cs':=by
 cases e with
 |normal=>exact absurd rfl f
 |exit id=>
  obtain⟨⟨g,i,c⟩,d⟩:=h;exact⟨⟨g,by cases x<;>simp_all[exitTo,Tk],c⟩,d⟩
 |_=>exact h
def WX.mono{c Q'}(h:WX P c Q a u)(d:∀e a u,Q e a u->Q' e a u):WX P c Q' a u:=λb k cs j m=>
 (h b k cs j λid ⟨a,u,n⟩=>m id ⟨a,u,d _ _ _ n⟩).mono λp o q ⟨e,f,g,i⟩=>⟨e,f,d _ _ _ g,i⟩
def fc.mono{f args R R'}(h:fc P f args u R)(hr:∀e u,R e u->R' e u):fc P f args u R':=λcs=>
 (h cs).mono λo n m ⟨c,d,e,g,i,j⟩=>⟨c,d,e,g,hr e m i,j⟩
def WX.seq{x y}(h:WX P x (Exit.then (WX P y Q) Q) a u):WX P (.seq x y) Q a u:=λb k cs g i=>by
 refine .at_ (λ_=>cg) ?_;have n:qV (Exit.then (WX P y Q) Q) (.code y::k):=λid m=>Lr rfl i id m;refine(h b (.code y::k) cs g n).bind ?_;rintro q j o ⟨e,d,f,c⟩;cases e with
 |normal=>
  obtain⟨rfl,rfl⟩:=c;exact(show WX P y Q d o from f) b k j g i
 |exit id=>exact .here ⟨_,d,f,uh rfl aC c⟩
 |goto x=>exact c.elim
 |ret=>exact .here ⟨_,d,f,uh rfl aC c⟩
 |panic p=>exact .here ⟨_,d,f,uh rfl aC c⟩
 |outgrown=>exact c.elim
def WX.cond{c x y v}(hc:a.eval c=.bool v)(h:WX P (if v then x else y) Q a u):WX P (.cond c x y) Q a u:=λb k cs d e=>.at_ (λ_=>HK hc) (h b k cs d e)
def WX.skip(h:Q .normal a u):WX P .skip Q a u:=λb k cs _ _=>.at_ (λ_=>mB) (.here ⟨.normal,a,h,rfl,rfl⟩)
end
section
variable [aP] {P:aY} {l:aB bC} {Q:mS->Act->az->Prop} {a:Act} {u u1:az} {b fr:aV} {k:aB fW} {cs:aB aV} {ops:aJ dK} {i:Nat} {rest:aB Nat} {o:dK}
def BM{ρ}(d:Fit P l)(h:bK ρ a.tmps a.tmps):Reads l ρ a.eval a.eval:=by
 haveI:bw:=bU []
 have j:∀f,l.contains f=aq->aP.ok f:=λf e=>(d.ok f).2 e;intro x c;cases x with
 |tmp t=>exact Ke h t
 |const v=>exact Te c ρ
 |global g=>cases c
 |func f=>exact .func (.func f (j f c)) rfl (λi v m hv=>by simp at hv) rfl (λi v m hv=>by simp at hv)
def agB{ρ}(h:bK ρ a.tmps a.tmps){v}(hv:VR ρ v v)(d:aZ Tmp):bK ρ (a.put d v).tmps (a.put d v).tmps:=by
 cases d with
 |none=>exact h
 |some d=>exact h.set hv d
def Vt{ρ k k'}(h:XF ρ (b.at a k)){v}(hv:VR ρ v v)(d:aZ Tmp):XF ρ (b.at (a.put d v) k'):=
 ⟨agB h.tmps hv d,by cases d<;>exact h.defers,h.kind,h.known,h.mode⟩
def Ve{ρ}(e:Fit P l)(h:bK ρ a.tmps a.tmps){args:aJ Operand}(f:args.all (cS l)=aq):bK ρ (args.map a.eval) (args.map a.eval):=by refine⟨rfl,λi v j c d=>?_⟩;rw[c]at d;cases d;rw[fV]at c;obtain⟨x,g,rfl⟩:=eV.1 c;exact BM e h x (rN.1 f x (mw g))
def MU{ρ f args fn c}(hf:P.funcs[f]? =aa fn)(g:fn.body=aa c)(m:aP.known f)(h:bK ρ args args):XF ρ (Frame.enter P f args .normal):=by
 haveI:bw:=bU []
 rw[vg args hf g];refine⟨⟨rfl,λi v n d e=>?_⟩,.nil,rfl,m,.run⟩;rw[d]at e;cases e;change(args++oF (fn.ntmps-args.size) au)[i]? =_ at d
 by_cases j:i<args.size
 ·rw[Hl j]at d;exact h.2 i v v d d
 ·rw[Vw ak,Dg]at d;split at d
  ·cases d;exact uH ρ
  ·cases d
def fu.ok{Shun S ρ gs w t q}(g:fu P Shun S fr cs u ρ gs w t q){α C:Type}{R s}{m:Sem C}(B:SR P R ρ (λ_=>False) s m){v:α}(h:∀n,s.run P (u.tp n)=.ok v (u1.tp n)):
  ∃c j d x,m.runT P w #[]=(.ok j d,x)/\R c v j/\fA ρ c w d/\fy P c u1 d/\Whole S c u1/\(∀a b,c a b->a=b)/\u1.heap.size=d.heap.size/\(∀e∈x,gP S c e)/\Full c u1:=by
 haveI:bw:=bU []
 obtain⟨_,c,j,d,x,p,r,f,y,z⟩:=rB B (iy _) g.world.lay g.whole (h (laid u w));have E:u.heap.size=w.heap.size:=g.size;have D:u1.heap.size+w.heap.size=d.heap.size+u.heap.size:=f.xY;refine⟨c,j,d,x,p,r,f.went,?_,y,λa b A=>?_,ak,z,f.full g.full⟩
 ·have:=f.rel.drop;exact⟨this.one,this.lt,this.obj,this.low,this.base,this.calm,this.os⟩
 ·rcases f.news a b A with h|⟨_,_,h⟩
  ·exact g.same a b h
  ·have h:a+w.heap.size=b+u.heap.size:=h;omega
def Mw{fr c fn v w w1 x}(hm:fr.mode=.returning)(f:fr.defers=[])(g:fr.kind=.normal)(hf:P.funcs[fr.fn]? =aa fn)(hr:(results fn fr.tmps).runT P w #[]=(.ok v w1,x)):
  stepG P aq (G fr (c::cs)) w=.go (G (c.finish v) cs) w1 (seen P fr.fn x):=by
 have d:(Go.results fn fr.tmps).run P w=.ok v w1:=by rw[<-ji P _ w #[],hr]
 have e:(Go.results fn fr.tmps).events P w #[]=x:=by unfold yY;rw[hr]
 simp[G,stepG,qR,qN,hm,f,g,hf,d,e,jy]
def fu.results{Shun S ρ gs w t q}(c:fu P Shun S fr cs u ρ gs w t q){fn v}(h:(results fn fr.tmps).run P u=.ok v u)(d:Nat->jS->Nat):(results fn fr.tmps).run P (u.tp d)=.ok v (u.tp d):=by
 haveI:bw:=bU []
 have f:WR P ρ u (w.tp λj q=>u.tape (u.drawn+(j-w.drawn)) q):=⟨c.world.one,c.world.lt,c.world.obj,λi q=>by show u.tape (u.drawn+(w.drawn+i-w.drawn)) q=_;rw[wQ],c.world.low,c.world.base,c.world.calm,c.world.os⟩
 obtain⟨_,e⟩:=(rB (yl (P:=P) (K:=λ_=>False) fn c.top.tmps) (iy u) f c.whole h).1;rw[<-ji P _ (u.tp d) #[],e d (λi q a b=>by omega)]
def OX(P:aY)(ops:aJ dK)(Q:mS->Act->az->Prop)(is:aB Nat)(a:Act)(u:az):Prop:=
 ∀(b:aV) (k:aB fW) (cs:aB aV),mC k->qV Q k->Reach P (zk Q b k cs) (b.at a (.inRegion ops is::k)) cs u
def OX.nil(h:Q .normal a u):OX P ops Q [] a u:=λ_ _ _ _ _=>.at_ (λ_=>cJ) (.here ⟨.normal,a,h,rfl,rfl⟩)
def OX.value(g:Fit P l)(I:ops[i]? =aa o)(N:dg o (yielded ops a.tmps)=aq)(J:okB P l o.op=aq){v:aD}(hr:∀y,(execOp a.eval o).run P (u.tp y)=.ok (.value v) (u1.tp y))(c:OX P ops Q rest (a.put o.dst v) u1):OX P ops Q (i::rest) a u:=λb k cs m L=>by
 haveI:bw:=bU []
 exact .one λU S V gs w t q d _=>by
  have H:∀f,l.contains f=aq->aP.ok f:=λf m=>(g.ok f).2 m;obtain⟨T,O,s,x,p,z,h,A,B,r,C,D,E⟩:=d.ok (CP (K:=λ_=>False) g.zeros g.fns H (BM g d.top.tmps) (λR n v=>by(subst n;rfl)) (λR n v=>by(subst n;rfl)) J) hr;cases z with
  |@value _ O hv=>
   obtain rfl:=hv.eq r;have M:(execOp a.eval o).run P w=.ok (.value v) s:=by rw[<-ji P _ w #[],p]
   have G:b.kind≠.early:=by have:b.kind=.normal:=d.top.kind;rw[this];simp
   refine⟨_,cs,u1,T,s,_,Bu I N G M,⟨h,A,B,r,C,λe F=>?_,Vt (d.top.mono h.le) hv _,d.below.mono h.le,E⟩,c b k cs m L⟩;have j:=qb F;unfold yY at j;rw[p]at j;exact D e j
def OX.call(T:Fit P l)(D:ops[i]? =aa o)(hw:dg o (yielded ops a.tmps)=aq){f fn body}{args:aJ Operand}{G:aJ aQ}(E:o.op=.call {callee:=.value (.func f),args,argTypes:=G}) (m:P.funcs[f]? =aa fn) (C:(fn.name== "runtime.NumGoroutine")=av) (y:fn.body=aa body) (X:aP.known f) (U:args.all (cS l)=aq) (c:fc P f (args.map a.eval) u λe g=>∃v,e=aM v/\OX P ops Q rest (a.put o.dst v) g):OX P ops Q (i::rest) a u:=λb k cs V Y=>by
 haveI:bw:=bU []
 have z:fn.body.isNone=av:=by rw[y];rfl
 have B:∀v,(b.at a (.inRegion ops (i::rest)::k)).finish v=b.at (a.put o.dst v) (.inRegion ops rest::k):=by intro v;rw[wN,D];rfl
 refine(nT.one (J:=λp=>XF p (b.at a (.inRegion ops (i::rest)::k))) λF S n gs w t q _ d _=>?_).all
 have W:b.kind≠.early:=by have:b.kind=.normal:=d.top.kind;rw[this];simp
 refine⟨Frame.enter P f (args.map a.eval) .normal,b.at a (.inRegion ops (i::rest)::k)::cs,u,n,w,_,stepG_enter D hw W (Ov E m C z),⟨.refl n w,d.world,d.whole,d.same,d.size,λe j=>?_,MU m y X (Ve T d.top.tmps U),d.below.push rfl,d.full⟩,d.top,nT.bind (λ_ _=>XF.mono) (c (b.at a (.inRegion ops (i::rest)::k)::cs)) ?_⟩
 ·have A:=qb j;rw[On E m C z]at A;simp at A
 ·rintro fr aG g ⟨rfl,_,e,_,⟨v,rfl,Z⟩,l1,l2,l3,H,l4,l5⟩;refine nT.one (J:=λ_=>True) λF S n gs w t q hI d _=>?_;obtain⟨p,v',w1,x,I,r,h,L,M,s,N,O,R⟩:=d.ok (u1:=g) (yl (P:=P) (K:=λ_=>False) H d.top.tmps) (d.results l5);obtain rfl:=VR.eq s r;refine⟨_,cs,g,p,w1,_,Mw l1 l2 l3 l4 I,⟨h,L,M,s,N,λe j=>O e (qb j),?_,d.below.pop.mono h.le,R⟩,trivial,?_⟩
  ·rw[B];exact Vt (hI.mono h.le) r _
  ·rw[B];exact(Z b k cs V Y).any
def WX.region{id}(h:OX P ops Q (dH ops.size) a u):WX P (.region id ops av) Q a u:=λb k cs c d=>.at_ (λ_=>OC) (h b k cs c d)
end
end
section
open Go.Conc
open Go.ConcN (ShN WgLive sumTo upd sumTo_upd upd_ne upd_same)
open Go.ConcR (WgAt)
section
variable [aP] {P:aY} {l:aB bC} {Post:aV->aB aV->az->Prop} {fr:aV} {cs:aB aV} {u w:az} {gs:aJ bM} {t:fQ} {q:Nat->Nat}
def Er(P:aY)(Post:aV->aB aV->az->Prop)(ρ:Ren)(Shun:Loc->Prop)(w0:az)(gs:aJ bM)(w:az)(sl:aZ (Nat×Nat))(t:fQ):Prop:=
 ∃N b i h d c g e a k f j,runNT P N (crowd gs w sl) t=(.next (crowd e a k),f)/\Post d c g/\fu P b i d c g h e a f j/\fA ρ h w0 a/\oO Shun b w0
def Reach.aas(h:∀b S a gs w t q,fu P b S fr cs u a gs w t q->nh a b w->∃o m B,stepG P aq (G fr cs) w=.go (G o m) B/\∀C sl,C[0]? =aa (G o m)->C.size=gs.size->tJ P t C q->Er P Post a b w C B sl t):Reach P Post fr cs u:=by
 haveI:bw:=bU []
 have key:∀(n:Nat) b S a gs w sl t q,sumTo gs.size q<n->fu P b S fr cs u a gs w t q->nh a b w->Er P Post a b w gs w sl t:=by
  intro n;induction n with
  |zero=>exact λb S a gs w sl t q hS=>absurd hS ak
  |succ n ih=>
   intro b S a gs w sl t q hS c D;have h0:=c.qm;have s:=c.gC;have aN:0<gs.size:=(bq.1 h0).1
   have xI:∀g∈gs,awake g:=by
    intro g v;obtain⟨i,e,rfl⟩:=wJ.1 v;rcases mV i with rfl|hpos
    ·have:gs[0]=G fr cs:=by simpa[cX e]using h0
     rw[this];exact sF (aF rfl)
    ·exact sF ((s.old i _ hpos (cX e)).status.elim aF λx=>aE (aE x))
   obtain⟨i,g,d,F,e,v,an⟩:=Bl (P:=P) (w:=w) (sl:=sl) xI ⟨0,_,h0,rfl⟩;have A:=c.at d;rcases mV i with rfl|hpos
   ·obtain rfl:g=G fr cs:=by rw[h0]at e;exact(dP e).symm
    obtain⟨o,m,B,hs,hr⟩:=h b S a gs (w.at d) t q A (D.at d);have O:=sI (P:=P) (sl:=F) (i:=0) e (show stepG P (0==0) (G fr cs) (w.at d)=_ from hs);have z:((gs.map (woken P (G fr cs) (G o m) B)).setIfInBounds 0 (G o m)).size=gs.size:=aC;have he:t++kA 0 (G fr cs).frame.fn (G fr cs).frame.place #[]=t:=by rw[Bq];simp
    obtain⟨N,I,H,aj,K,J,u',L,w',Y,Z,R,T,U,V,W,X⟩:=hr ((gs.map (woken P (G fr cs) (G o m) B)).setIfInBounds 0 (G o m)) F (by simp[aN]) z
     ⟨λj x f r=>by rw[dO ak,fV]at r;obtain⟨y,Q,rfl⟩:=eV.1 r;have p:=s.old j y f Q;rw[xh p];exact p,λj f=>s.above j (by rw[z]at f;exact f)⟩
    refine⟨N+1,I,H,aj,K,J,u',L,w',Y,Z,R,by simp only[runNT,an,O];rw[he];exact T,U,V,((fA.refl a w).at d).trans W,X⟩
   ·have p:=s.old i g hpos e;have aL:(i==0)=av:=cq;have M:i<gs.size:=(bq.1 e).1;cases ur:q i with
    |zero=>rw[ur]at p;rw[p.1]at v;cases v
    |succ k=>
     rw[ur]at p;rcases p with⟨hf,_⟩|⟨_,g',es,hm,uu,ru⟩
     ·rw[hf]at v;cases v
     have O:=sI (P:=P) (sl:=F) (i:=i) e (by rw[aL];exact uu (w.at d));have z:((gs.map (woken P g g' (w.at d))).setIfInBounds i g').size=gs.size:=aC;have aS:sumTo gs.size (upd q i k)+q i=sumTo gs.size q+k:=Bw q k id M
     obtain⟨N,I,H,aj,K,J,u',L,w',Y,Z,R,T,U,V,W,X⟩:=ih b S a ((gs.map (woken P g g' (w.at d))).setIfInBounds i g') (w.at d) F (t++kA i g.frame.fn g.frame.place es) (upd q i k) (by rw[z];omega)
      ⟨by
       have aO:i≠0:=ak;rw[dO aO,fV,h0];simp[Je (show(G fr cs).status=.running from rfl)],c.top,c.below,A.world,c.whole,⟨λj x f r=>by
       by_cases E:i=j
       ·subst E;rw[wI (by simpa using M)]at r;obtain rfl:=dP r;rw[ig,AB];exact ru
       ·rw[dO E,fV]at r;obtain⟨y,Q,rfl⟩:=eV.1 r;have vT:=s.old j y f Q;rw[xh vT,jj q k (dc E),nN t E _ (mA _ _ _ _)];exact vT,λj f=>by
       rw[nN t (g':=i) (by simp at f;omega) _ (mA _ _ _ _)];exact s.above j (by simpa using f)⟩,A.past.mute ak hm,A.clear,c.same,A.size,xE (by rw[z];exact c.eW) (by rw[z];exact M) (mA _ _ _ _),c.full⟩ (D.at d)
     exact⟨N+1,I,H,aj,K,J,u',L,w',Y,Z,R,by simp only[runNT,an,O];exact T,U,V,((fA.refl a w).at d).trans W,X⟩
 exact λb S a gs w sl t q c D=>key (sumTo gs.size q+1) b S a gs w sl t q ak c D
def SF{Shun S Own}[DecidablePred Own](H:P=aP.prog)(h0:gs[0]? =aa (G fr cs))(z:tJ P t gs q)(A:vn Shun w.heap.size t)(eW:∀i j,t.g? i=aa j->j<gs.size)(k:∀b,Own b->¬S b/\∃o,w.heap[b]? =aa o/\OR (eF λb=>Own b\/S b) o o)(hS:∀b,S b->b<w.heap.size/\Calm w.heap[b]?)(D:P.globals.size<=w.heap.size)(p:XF (eF λb=>Own b\/S b) fr)(C:oN (eF λb=>Own b\/S b) cs)(B:∀l,Shun l->∃a:bZ,l=.cell a/\a.block<w.heap.size/\¬Own a.block):
  fu P Shun S fr cs (mask Own w) (eF λb=>Own b\/S b) gs w t q:=by
 haveI:bw:=bU []
 have e:∀b,Own b\/S b->b<w.heap.size:=λb c=>c.elim (λh=>by obtain⟨_,o,d,_⟩:=k b h;exact(bq.1 d).1) λh=>(hS b h).1;refine⟨h0,p,C,⟨⟨λa b K h m=>h.1.symm.trans m.1,λa J b h m=>h.1.trans m.1.symm⟩,?_,?_,?_,by rw[vY];exact D,?_,rfl,H⟩,⟨?_,?_⟩,z,A,?_,λa b h=>h.1,vY,eW,λa o d F=>?_⟩
 ·rintro a b ⟨rfl,h⟩;rw[vY];exact⟨e a h,e a h⟩
 ·rintro a b o ⟨rfl,h⟩ d
  by_cases c:Own a
  ·rw[pI c]at d;obtain⟨_,r,f,g⟩:=k a c;rw[f]at d;obtain rfl:=dP d;exact aE ⟨_,f,g⟩
  ·rw[FT c (e a h)]at d;exact aF (dP d).symm
 ·rintro a b ⟨rfl,_⟩ h;exact h
 ·rintro a b ⟨rfl,h⟩ n
  by_cases c:Own a
  ·rw[pI c]at n;obtain⟨_,r,f,g⟩:=k a c;rw[f]at n;cases n;exact absurd rfl (gq g)
  ·exact(hS a (h.resolve_left c)).2
 ·rintro a b ⟨rfl,h⟩
  by_cases c:Own a
  ·obtain⟨I,r,f,g⟩:=k a c;exact aF ⟨I,r,by rw[pI c];exact f,gq g⟩
  ·exact aE ⟨h.resolve_left c,FT c (e a h)⟩
 ·exact λb c=>⟨b,rfl,aE c⟩
 ·intro l E;obtain⟨a,s,v,y⟩:=B l E;exact⟨a,s,v,λx p=>p.2.resolve_left y⟩
 ·by_cases c:Own a
  ·exact⟨a,rfl,aF c⟩
  ·have e:a<w.heap.size:=by
    have:=(bq.1 d).1
    rwa [vY]at this
   rw[FT c e]at d;exact absurd (dP d).symm F
end
end
section
open Classical
open Go.Conc
open Go.ConcN (ShN WgLive sumTo upd)
open Go.ConcR (WgAt)
section
variable [aP] [bw] {P:aY} {Post:aV->aB aV->az->Prop} {fr:aV} {cs:aB aV} {u w w1:az} {gs kO:aJ bM} {t:fQ} {q:Nat->Nat} {Shun:Loc->Prop} {S:Nat->Prop} {ρ:Ren} {ty:aQ} {OW:Nat->(Nat->Prop)->bM->az->Prop} {Q:Nat->(Nat->Prop)->az->Prop} {M:Nat} {sl:aZ (Nat×Nat)} {x:Obj}
def Yk{Wg st sm}(h:WgAt ty Wg w st sm):Calm w.heap[Wg]? :=by unfold Ig at h;rw[h];exact⟨_,_,_,rfl,aC,bD _⟩
def F8(d:fu P Shun S fr cs u ρ gs w t q)(V:w1.heap=w.heap.push x)(L:ir w w1)(bf:WgAt ty w.heap.size w1 0 0){a}(ha:kO[0]? =aa a)(aX:kO.size=gs.size)(hL:tJ P t kO q)(hM:M<2147483647)
  (K1:MS P ty w.heap.size OW Q M 0 .opn (λb=>ρ b b/\¬S b) a w1)
  (Kq:∀m F B n (s:Nat->Nat->Prop),OW m F B n->(∀i,i<m->Q i (s i) n)->(∀b,F b->∀i,i<m->¬s i b)->(∀b i j,i<m->j<m->s i b->s j b->i=j)->(∀b,F b\/(∃i,i<m/\s i b)->b≠w.heap.size/\b<n.heap.size/\¬S b/\((ρ b b/\¬S b)\/w.heap.size<b))->WgAt ty w.heap.size n 0 0->ir w1 n->
   ∃z y Own,B=G z y/\Post z y (mask Own n)/\(∀b,Own b->b≠w.heap.size/\(b<w.heap.size->ρ b b/\¬S b)/\∃o,n.heap[b]? =aa o/\OR (eF λb=>Own b\/S b\/b=w.heap.size) o o)/\XF (eF λb=>Own b\/S b\/b=w.heap.size) z/\(∀b,ρ b b->Own b\/S b\/b=w.heap.size)/\oN (eF λb=>Own b\/S b\/b=w.heap.size) y):
  Er P Post ρ Shun w kO w1 sl t:=by
 have bE:w1.heap.size=w.heap.size+1:=by rw[V];simp
 have R:∀b,b<w.heap.size->w1.heap[b]? =w.heap[b]? :=λb hb=>by rw[V,fJ,aK ak]
 have I:∀b,S b->b<w.heap.size:=λb hb=>by obtain⟨c,r⟩:=d.whole.has b hb;exact(d.world.lt c b r).2
 have W:∀b,ρ b b->b<w.heap.size:=λb hb=>(d.world.lt b b hb).2
 have I3:(λb=>ρ b b/\¬S b)=(λk b=>k=0/\(ρ b b/\¬S b):Nat->Nat->Prop) 0:=by
  funext b
  apply propext;exact⟨λh=>⟨rfl,h⟩,λh=>h.2⟩
 have hI:Inv P ty w.heap.size Shun Q M kO.size ⟨λb=>b<w1.heap.size/\¬(ρ b b/\¬S b)/\b≠w.heap.size,λb=>ρ b b/\¬S b,w1⟩ .opn a av w1 0 (λ_=>⟨.quit,λ_=>False,a,w1,0⟩) (λk b=>k=0/\(ρ b b/\¬S b)) q kO w1 t:=
  .start (λb hb hx=>hx.2.1 hb) (λb hb=>hb.1) (.refl ..) (λh=>h.2.2 rfl) hM ha hL d.past (by rw[aX];exact d.eW) bf (λb hb=>by have:=W b hb.1;omega) (λh=>sr _ (W _ h.1)) λb hb l g aU=>by
   obtain⟨v,rfl,_,H⟩:=d.clear l aU;rcases g with⟨aj,e,rfl⟩|e
   ·cases e;exact hb.2 (H _ hb.1)
   ·cases e
 obtain⟨N,B,bH,m,f,Ow,q1,an,n,bz,t',aT,p,aS,A⟩:=phase K1 _ _ q kO w1 sl t I3.symm hI;obtain⟨o1,⟨q',o2⟩,o3,Y,o5,o6,Z,o8,o9⟩:=p.over;have U:=p.tc;have RJ:=p.many
 have X:∀b,(ρ b b/\¬S b)\/w1.heap.size<=b->¬S b:=λb hb T=>hb.elim (λh=>h.2 T) λh=>by have:=I b T;omega
 obtain⟨z,y,Own,rfl,h1,C,H,aH,h4⟩:=Kq m (Ow 0) B n (λi=>Ow (kO.size+i)) aS o5 (λb hb i hi h=>by have:=U.one _ _ b hb h;omega) (λb i j _ _ h h'=>by have:=U.one _ _ b h h';omega) (λb hb=>by
  rcases hb with hb|⟨i,_,hb⟩
  ·exact⟨λe=>o9 0 (e▸hb),o8 0 b hb,X b (p.all.old 0 b hb),(p.all.old 0 b hb).imp id λh=>by(have h:w1.heap.size<=b:=h;omega)⟩
  ·exact⟨λe=>o9 _ (e▸hb),o8 _ b hb,X b (p.all.old _ b hb),(p.all.old _ b hb).imp id λh=>by(have h:w1.heap.size<=b:=h;omega)⟩) Y A
 have bF:=A.size;refine⟨N,λl=>Shun l\/ShN w.heap.size l,λb=>S b\/b=w.heap.size,_,z,y,mask Own n,an,n,bz,t',q',aT,h1,SF d.world.os.2 o1 o2 o3 o6 (λb hb=>?_) (λb hb=>?_) ?_ H h4 λl g=>?_,?_,λv g=>?_⟩
 ·obtain⟨k1,E,k3⟩:=C b hb;refine⟨?_,k3⟩;rintro(h|h)
  ·exact(E (I b h)).2 h
  ·exact k1 h
 ·rcases hb with hb|rfl
  ·have J:=I b hb;refine⟨ak,?_⟩;have e:n.heap[b]? =w1.heap[b]? :=Z.own b ⟨ak,λh=>h.2 hb,ak⟩;rw[e,R b J];obtain⟨c,r⟩:=d.whole.has b hb;rcases d.whole.all c b r with⟨h,_⟩|⟨_,h⟩
   ·exact absurd hb h
   ·exact d.world.calm c b r h
  ·exact⟨ak,Yk Y⟩
 ·have:=d.world.base;have:=d.size;omega
 ·rcases g with g|⟨v,rfl,g⟩
  ·obtain⟨v,e,O,h6⟩:=d.clear l g;refine⟨v,e,ak,λK=>?_⟩;obtain⟨_,E,_⟩:=C _ K;exact(E O).2 (h6 _ (E O).1)
  ·exact⟨v,rfl,by rw[g];omega,λK=>(C _ K).1 g⟩
 ·refine⟨λa b D=>?_,ak,λb hb hn=>?_,λa b D=>?_,A.os.trans L.os,A.output.trans L.output,A.tape.trans L.tape⟩
  ·obtain rfl:=d.same _ _ D;exact⟨rfl,aH a D⟩
  ·exact(Z.own b ⟨ak,λh=>hn b h.1,ak⟩).trans (R b hb)
  ·obtain⟨rfl,hb⟩:=D
   by_cases J:w.heap.size<=a
   ·exact aE J
   ·rcases hb with hb|hb|hb
    ·exact aF ((C a hb).2.1 ak).1
    ·obtain⟨c,r⟩:=d.whole.has a hb;have e:=d.same _ _ r;subst e;exact aF r
    ·omega
 ·rcases g with g|⟨aj,e,g⟩
  ·exact aF g
  ·cases e;exact aE ak
end
end
section
open Go.Conc
open Go.ConcN (sumTo)
section
variable [aP] {P:aY} {l:aB bC} {ρ:Ren} {fr:aV} {cs:aB aV} {u w:az} {gs:aJ bM} {t:fQ} {q:Nat->Nat} {Shun:Loc->Prop} {S:Nat->Prop}
def OR.eq(j:∀a b,ρ a b->a=b){o o'}(h:OR ρ o o'):o'=o:=by
 haveI:bw:=bU []
 cases h with
 |cells t Q h=>rw[bK.eq j h]
 |@map x k c h=>
  have:x=k:=by apply Array.ext h.1.symm;intro i e d;obtain⟨I,J,v⟩:=h.2 i _ _ (cX e) (cX d);have n:=VR.eq j I;have p:=VR.eq j J;cases G:x[i];cases H:k[i];rw[G,H]at n p v;simp only at n p v;rw[n,p,v]
  rw[this]
 |chan N O s r t=>rfl
 |@loop l K h0 e d f g C D E F=>
  have A:=bK.eq j g;have B:=j _ _ F;cases l;cases K;simp only at e d f A C D E B;subst e d f A C D E B;rfl
 |vO=>rfl
 |sV=>rfl
 |@number a m l h=>
  obtain⟨e,d,f⟩:=h;obtain⟨x,y,z⟩:=a;obtain⟨k,L,M⟩:=m;have g:=j _ _ e;simp only at d f g;rw[d,f,g]
 |@view a m l _ h=>
  obtain⟨e,d,f⟩:=h;obtain⟨x,y,z⟩:=a;obtain⟨k,L,M⟩:=m;have g:=j _ _ e;simp only at d f g;rw[d,f,g]
def fu.heap(d:fu P Shun S fr cs u ρ gs w t q){b o}(i:u.heap[b]? =aa o)(g:o≠cm):ρ b b/\¬S b/\w.heap[b]? =aa o/\OR (eF λb=>ρ b b) o o:=by
 haveI:bw:=bU []
 obtain⟨n,f⟩:=d.full b o i g;obtain rfl:=d.same _ _ f;rcases d.world.obj b b o f i with h|⟨p,m,j⟩
 ·exact absurd h g
 ·obtain rfl:=j.eq d.same;refine⟨f,d.whole.own f i g,m,?_⟩;have:=j.right;refine this.mono λa c h=>⟨h.1,?_⟩;obtain⟨x,k⟩:=h.2;have e:=d.same _ _ k;subst e;exact k
def fu.cell(e:fu P Shun S fr cs u ρ gs w t q){ad v}(h:u.cell? ad=aa v):ρ ad.block ad.block/\¬S ad.block/\w.cell? ad=aa v:=by obtain⟨o,a,f⟩:=rD h;obtain⟨b,c,d,_⟩:=e.heap a f;refine⟨b,c,?_⟩;unfold fC at h⊢;rw[a]at h;rw[d];exact h
def fu.FU(a:fu P Shun S fr cs u ρ gs w t q){b}(h:ρ b b)(hS:¬S b):∃o,u.heap[b]? =aa o/\o≠cm:=by
 rcases a.whole.all b b h with⟨_,o,d,c⟩|⟨h,_⟩
 ·exact⟨o,d,c⟩
 ·exact absurd h hS
def fy.FU{Own}[DecidablePred Own](h:fy P ρ u w)(d:∀a b,ρ a b->Own b):fy P ρ u (mask Own w):=
 haveI:bw:=bU []
 ⟨h.one,λa b c=>by rw[vY];exact h.lt a b c,λa b o c e=>by rw[pI (d a b c)];exact h.obj a b o c e,h.low,h.base,λa b c f=>by rw[pI (d a b c)];exact h.calm a b c f,h.os⟩
def Reach.left(p:Fit P l){R:iz->az->Prop}(W:∀ρ,@dh fW fW (@IR (bU []) P l ρ av) fr.todo fr.todo)(A:fr.roundOf=ay)(hR:∀e u d,R e u->R e (az.tp u d))(z:∀e u,R e u->∃v,e=aM v)
  (h:∀d,∃e b c,R e b/\Comes P (lone fr [bot P] (u.tp d)) (lone c [bot P] b) e/\c.fn=fr.fn/\c.leaving P b e):
  Reach P (λc j b=>j=cs/\c.fn=fr.fn/\∃e,e≠.outgrown/\R e b/\c.leaving P b e) fr cs u:=λShun S ρ gs w sl t q a hV=>by
 letI:bw:=bU []
 have y:cy P l ρ fr fr:=⟨rfl,a.top.known,a.top.tmps,by rw[A];exact W ρ,a.top.defers,a.top.mode,rfl,aF a.top.kind,by rw[A];exact .none⟩;have C:Still cs:=λf M=>aF (a.below.run f M);have J:Beside P l cs Shun S fr [] u ρ gs w t q:=⟨⟨_,a.qm,⟨_,[],rfl,y,.nil⟩⟩,a.world,a.whole,a.gC,a.past,a.clear,a.same,a.size,a.eW,a.full⟩
 have K:mD P l fr [] u:=by have:mD P l fr [] (u.tp (laid u w)):=⟨S,ρ,cs,_,w,C,⟨_,[],rfl,y,.nil⟩,a.world.lay,a.whole⟩;exact this.tp u.tape
 have X:oX P (Left P fr.fn R) fr [] u:=by refine MQ p Cs (λc j b d T ⟨i,k,e,m,o,I⟩=>⟨i,k,e,m,hR e b d o,Sl p T d I⟩) K λd _=>?_;obtain⟨e,b,c,i,k,m,o⟩:=h d;obtain⟨v,rfl⟩:=z e b i;obtain⟨n,V⟩:=k;exact⟨n,c,[],b,V,rfl,m,_,aC,i,o⟩
 obtain⟨N,bf,c,j,b,H,w',aT,t',q',r1,r2,⟨rfl,O,e,he,s,U⟩,r4,E⟩:=MP p Cs C X (sumTo gs.size q+1) ρ gs w sl t q ak J;obtain⟨⟨g,Q,G,bg,rfl,x,L⟩,Z,k3,k4,k5,k6,r,k8,k9,Y⟩:=r4;cases L;have B:=x.same r;obtain⟨v,rfl⟩:=z e b s;obtain⟨l1,l2,D,F,l4,l5⟩:=U;refine⟨N,Shun,S,bf,G,cs,b,H,w',aT,t',q',r1,⟨rfl,by rw[B];exact O,aM v,aC,s,?_⟩,⟨Q,x.xf r D,a.below.mono E.le,Z,k3,k4,k5,k6,r,k8,k9,Y⟩,E,.refl Shun w⟩;rw[B];exact⟨l1,l2,D,F,l4,l5⟩
end
end
section
open Go.Conc
open Go.ConcN (sumTo upd sumTo_upd upd_ne upd_same)
section
variable [aP] {P:aY} {Post Mid:aV->aB aV->az->Prop} {fr:aV} {cs:aB aV} {u u1:az} {Shun:Loc->Prop} {S:Nat->Prop} {ρ σ:Ren} {gs:aJ bM} {w w1:az} {t:fQ} {q:Nat->Nat} {sl:aZ (Nat×Nat)}
def kH(Shun:Loc->Prop)(B:Nat)(e:jw):Prop:=(∀x,(cY e).touch?=aa x->¬Shun x.loc)/\(cY e≠.mark .disable/\cY e≠.mark .enable)/\(cY e).low B
def BY{e}(i:Clear Shun S σ w1)(j:∀y b,σ y b->b<w1.heap.size)(h:gP S σ e):kH Shun w1.heap.size e:=by
 haveI:bw:=bU []
 have d:tT S σ (.ofEvent e):=aF ⟨e,rfl,h⟩;refine⟨λx l k=>?_,Lv d,Lu d j⟩;obtain⟨a,c,n,g⟩:=i _ k;rcases Lx d l with⟨m,y,e,f⟩|⟨r,y,e,f⟩|e
 ·rw[e]at c;cases c;exact absurd (g y f.1) f.2
 ·rw[e]at c;cases c
 ·rw[e]at c;cases c
def step0{K:aV->aB aV->az->Prop}:
  ∀(n:Nat) (gs:aJ bM) (w:az) (sl:aZ (Nat×Nat)) (t:fQ) (q:Nat->Nat),sumTo gs.size q<n->gs[0]? =aa (G fr cs)->tJ P t gs q->vn Shun w.heap.size t->(∀i j,t.g? i=aa j->j<gs.size)->
   (∀d,∃c a w1 f,stepG P aq (G fr cs) (w.at d)=.go (G c a) w1 f/\w.heap.size<=w1.heap.size/\(∀e∈f,kH Shun w1.heap.size e)/\K c a w1)->
   ∃N c a w1 z R t1 Q,K c a w1/\runNT P N (crowd gs w sl) t=(.next (crowd z w1 R),t1)/\z[0]? =aa (G c a)/\tJ P t1 z Q/\vn Shun w1.heap.size t1/\(∀i j,t1.g? i=aa j->j<z.size):=by
 haveI:bw:=bU []
 intro n;induction n with
 |zero=>exact λgs w sl t q hS=>absurd hS ak
 |succ n ih=>
  intro gs w sl t q hS h0 A U T h;have W:0<gs.size:=(bq.1 h0).1
  have xI:∀g∈gs,awake g:=by
   intro g B;obtain⟨i,m,rfl⟩:=wJ.1 B;rcases mV i with rfl|hpos
   ·have:gs[0]=G fr cs:=by simpa[cX m]using h0
    rw[this];exact sF (aF rfl)
   ·exact sF ((A.old i _ hpos (cX m)).status.elim aF λx=>aE (aE x))
  obtain⟨i,g,d,F,m,B,Z⟩:=Bl (P:=P) (w:=w) (sl:=sl) xI ⟨0,_,h0,rfl⟩;rcases mV i with rfl|hpos
  ·obtain rfl:g=G fr cs:=by rw[h0]at m;exact(dP m).symm
   obtain⟨c,a,w1,f,M,hz,H,hK⟩:=h d;have L:=sI (P:=P) (sl:=F) (i:=0) m (show stepG P (0==0) (G fr cs) (w.at d)=_ from M);have E:=mA 0 (G fr cs).frame.fn (G fr cs).frame.place f;have aj:(kA 0 (G fr cs).frame.fn (G fr cs).frame.place f).map (·.act)=f.map .ofEvent:=by rw[Bq];simp[Dh,Dv]
   have o:((gs.map (woken P (G fr cs) (G c a) w1)).setIfInBounds 0 (G c a)).size=gs.size:=aC
   have I:∀op∈kA 0 (G fr cs).frame.fn (G fr cs).frame.place f,∃e,op.act=.ofEvent e/\kH Shun w1.heap.size e:=λop r=>by
    have:op.act∈f.map cY:=by rw[<-aj];exact nM.2 ⟨op,r,rfl⟩
    obtain⟨e,he,p⟩:=nM.1 this;exact⟨e,p.symm,H e he⟩
   refine⟨1,c,a,w1,(gs.map (woken P (G fr cs) (G c a) w1)).setIfInBounds 0 (G c a),F,t++kA 0 (G fr cs).frame.fn (G fr cs).frame.place f,q,hK,by simp only[runNT,Z,L],by simp[W],⟨λj x l v=>?_,λj l=>?_⟩,?_,xE (by rw[o];exact T) (by rw[o];exact W) E⟩
   ·rw[dO ak,fV]at v;obtain⟨y,O,rfl⟩:=eV.1 v;have s:=A.old j y l O;rw[xh s,nN t (g':=0) ak _ E];exact s
   ·rw[nN t (g':=0) (by rw[o]at l;omega) _ E];exact A.above j (by rw[o]at l;exact l)
   ·refine(U.mono hz).app0 E (λop r b V M=>?_) (VQ t 0 _ λop r=>?_) (λop r=>?_)
    ·obtain⟨e,p,C⟩:=I op r;rw[p]at V;exact absurd M (C.1 b V)
    ·obtain⟨e,p,C⟩:=I op r;rw[p];exact C.2.1
    ·obtain⟨e,p,C⟩:=I op r;rw[p];exact C.2.2
  ·have s:=A.old i g hpos m;have aG:(i==0)=av:=cq;have J:i<gs.size:=(bq.1 m).1;cases X:q i with
   |zero=>rw[X]at s;rw[s.1]at B;cases B
   |succ k=>
    rw[X]at s;rcases s with⟨H,_⟩|⟨_,g',f,hm,uu,ru⟩
    ·rw[H]at B;cases B
    have L:=sI (P:=P) (sl:=F) (i:=i) m (by rw[aG];exact uu (w.at d));have o:((gs.map (woken P g g' (w.at d))).setIfInBounds i g').size=gs.size:=aC;have aU:sumTo gs.size (upd q i k)+q i=sumTo gs.size q+k:=Bw q k id J
    obtain⟨N,c,a,w1,z,R,t1,Q,r0,r1,r2,r3,r4,r5⟩:=ih ((gs.map (woken P g g' (w.at d))).setIfInBounds i g') (w.at d) F (t++kA i g.frame.fn g.frame.place f) (upd q i k) (by rw[o];omega)
     (by
      have aH:i≠0:=ak;rw[dO aH,fV,h0];simp[Je (show(G fr cs).status=.running from rfl)]) ⟨λj x l v=>by
      by_cases D:i=j
      ·subst D;rw[wI (by simpa using J)]at v;obtain rfl:=dP v;rw[ig,AB];exact ru
      ·rw[dO D,fV]at v;obtain⟨y,O,rfl⟩:=eV.1 v;have Y:=A.old j y l O;rw[xh Y,jj q k (dc D),nN t D _ (mA _ _ _ _)];exact Y,λj l=>by
      rw[nN t (g':=i) (by simp at l;omega) _ (mA _ _ _ _)];exact A.above j (by simpa using l)⟩ (U.mute ak hm) (xE (by rw[o];exact T) (by rw[o];exact J) (mA _ _ _ _)) (λd'=>h d')
    exact⟨N+1,c,a,w1,z,R,t1,Q,r0,by simp only[runNT,Z,L];exact r1,r2,r3,r4,r5⟩
structure kL(ρ:Ren)(L:aB Nat)(fr:aV):Prop where
 tmps:∀(i:Nat) v,fr.tmps[i]? =aa v->i∉L->VR ρ v v
 kind:fr.kind=.normal
 known:aP.known fr.fn
def kL.mono{L}(g:ρ.le σ)(h:kL ρ L fr):kL σ L fr:=⟨λi v hv a=>(h.tmps i v hv a).mono g,h.kind,h.known⟩
structure oU(Lf:bC->aB Nat)(P:aY)(Shun:Loc->Prop)(S:Nat->Prop)(fr:aV)(cs:aB aV)(u:az)(ρ:Ren)(gs:aJ bM)(w:az)(t:fQ)(q:Nat->Nat):Prop where
 qm:gs[0]? =aa (G fr cs)
 top:kL ρ (Lf fr.fn) fr
 low:∀f∈cs,kL ρ (Lf f.fn) f/\f.mode=.run
 world:fy P ρ u w
 whole:Whole S ρ u
 gC:tJ P t gs q
 past:vn Shun w.heap.size t
 clear:Clear Shun S ρ w
 same:∀a b,ρ a b->a=b
 size:u.heap.size=w.heap.size
 eW:∀i j,t.g? i=aa j->j<gs.size
 full:Full ρ u
def iW(Lf:bC->aB Nat)(P:aY)(Post:aV->aB aV->az->Prop)(fr:aV)(cs:aB aV)(u:az):Prop:=
 ∀(Shun:Loc->Prop) (S:Nat->Prop) (ρ:Ren) (gs:aJ bM) (w:az) (sl:aZ (Nat×Nat)) (t:fQ) (q:Nat->Nat),oU Lf P Shun S fr cs u ρ gs w t q->nh ρ Shun w->
  ∃N b i h d c g e a k f j,runNT P N (crowd gs w sl) t=(.next (crowd e a k),f)/\Post d c g/\oU Lf P b i d c g h e a f j/\fA ρ h w a/\oO Shun b w
variable {Lf:bC->aB Nat}
def iW.here(h:Post fr cs u):iW Lf P Post fr cs u:=λShun S ρ gs w sl t q a _=>
 haveI:bw:=bU []
 ⟨0,Shun,S,ρ,fr,cs,u,gs,w,sl,t,q,rfl,h,a,.refl ρ w,.refl Shun w⟩
def iW.bind(h:iW Lf P Mid fr cs u)(k:∀fr cs u,Mid fr cs u->iW Lf P Post fr cs u):iW Lf P Post fr cs u:=λShun S ρ gs w sl t q n b=>by
 haveI:bw:=bU []
 obtain⟨N,f,d,G,J,I,u1,l,w1,C,t1,x,z,A,B,a,c⟩:=h Shun S ρ gs w sl t q n b;obtain⟨K,g,e,H,j,i,E,m,F,D,t2,y,o,p,r,s,v⟩:=k _ _ _ A f d G l w1 C t1 x B (b.went a c);exact⟨N+K,g,e,H,j,i,E,m,F,D,t2,y,(wq z).trans o,p,r,a.trans s,c.trans a.size v⟩
def iW.mono(h:iW Lf P Mid fr cs u)(k:∀fr cs u,Mid fr cs u->Post fr cs u):iW Lf P Post fr cs u:=h.bind λfr cs u hm=>.here (k fr cs u hm)
structure OZ(Lf:bC->aB Nat)(P:aY)(Shun:Loc->Prop)(S:Nat->Prop)(ρ σ:Ren)(u1 w w1:az)(c:aV)(iY:aB aV)(es:aJ jw):Prop where
 went:fA ρ σ w w1
 world:fy P σ u1 w1
 whole:Whole S σ u1
 same:∀a b,σ a b->a=b
 size:u1.heap.size=w1.heap.size
 fine:∀e∈es,kH Shun w1.heap.size e
 top:kL σ (Lf c.fn) c
 low:∀f∈iY,kL σ (Lf f.fn) f/\f.mode=.run
 full:Full σ u1
def oU.at (h:oU Lf P Shun S fr cs u ρ gs w t q)(d):oU Lf P Shun S fr cs u ρ gs (w.at d) t q:=
 haveI:bw:=bU []
 ⟨h.qm,h.top,h.low,h.world.at d,h.whole,h.gC,h.past,h.clear,h.same,h.size,h.eW,h.full⟩
def iW.one(h:∀Shun S ρ gs w t q,oU Lf P Shun S fr cs u ρ gs w t q->nh ρ Shun w->∃f c u1 σ w1 g,stepG P aq (G fr cs) w=.go (G f c) w1 g/\OZ Lf P Shun S ρ σ u1 w w1 f c g/\iW Lf P Post f c u1):iW Lf P Post fr cs u:=λShun S ρ gs w sl t q i j=>by
 haveI:bw:=bU []
 obtain⟨N,f,c,w1,p,L,t1,C,⟨u1,σ,d,b,hr⟩,E,F,H,I,J⟩:=step0 (K:=λf c w1=>∃u1 σ d,(∃g,OZ Lf P Shun S ρ σ u1 (w.at d) w1 f c g)/\iW Lf P Post f c u1) (sumTo gs.size q+1) gs w sl t q ak i.qm i.gC i.past i.eW λd=>by obtain⟨f,c,u1,σ,w1,g,v,b,hr⟩:=h Shun S ρ gs (w.at d) t q (i.at d) (j.at d);exact⟨f,c,w1,g,v,b.went.size,b.fine,u1,σ,d,⟨g,b⟩,hr⟩
 obtain⟨g,b⟩:=b;obtain⟨k,m,l,R,o,n,O,r,Q,M,t2,D,x,y,z,A,B⟩:=hr Shun S σ p w1 L t1 C ⟨F,b.top,b.low,b.world,b.whole,H,I,(i.at d).clear.went b.went,b.same,b.size,J,b.full⟩ ((j.at d).went b.went (.refl Shun _));exact⟨N+k,m,l,R,o,n,O,r,Q,M,t2,D,(wq E).trans x,y,z,(((fA.refl ρ w).at d).trans b.went).trans A,λa s=>(B a s).imp id λe=>dM b.went.size e⟩
def iW.ctl{gI}(h:∀w,stepG P aq (G fr cs) w=.go (G gI cs) w)(b:∀ρ,kL ρ (Lf fr.fn) fr->kL ρ (Lf gI.fn) gI)(k:iW Lf P Post gI cs u):iW Lf P Post fr cs u:=
 haveI:bw:=bU []
 .one λShun S ρ gs w t q a _=>⟨gI,cs,u,ρ,w,#[],h w,⟨.refl ρ w,a.world,a.whole,a.same,a.size,aC,b ρ a.top,a.low,a.full⟩,k⟩
end
end
section
open Go.Conc
open Go.ConcN (sumTo)
section
variable [aP] {P:aY} {l:aB bC} {Q:mS->Act->az->Prop} {a:Act} {u u1:az} {Post:aV->aB aV->az->Prop} {b fr:aV} {k:aB fW} {cs:aB aV} {ops:aJ dK} {i:Nat} {rest:aB Nat} {o:dK} {Lf:bC->aB Nat} {f0:bC} {dn:Nat}
def FX(Lf:bC->aB Nat)(f0:bC)(dn:Nat)(P:aY)(c:gN)(Q:mS->Act->az->Prop)(a:Act)(u:az):Prop:=
 ∀(b:aV) (k:aB fW) (cs:aB aV),b.fn=f0->cs.length=dn->mC k->qV Q k->iW Lf P (zk Q b k cs) (b.at a (.code c::k)) cs u
def FO(Lf:bC->aB Nat)(f0:bC)(dn:Nat)(P:aY)(ops:aJ dK)(Q:mS->Act->az->Prop)(is:aB Nat)(a:Act)(u:az):Prop:=
 ∀(b:aV) (k:aB fW) (cs:aB aV),b.fn=f0->cs.length=dn->mC k->qV Q k->iW Lf P (zk Q b k cs) (b.at a (.inRegion ops is::k)) cs u
def iW.at_{k'}(h:∀w,stepG P aq (G (b.at a k) cs) w=.go (G (b.at a k') cs) w)(c:iW Lf P Post (b.at a k') cs u):iW Lf P Post (b.at a k) cs u:=.ctl h (λ_ d=>⟨d.tmps,d.kind,d.known⟩) c
def FX.mono{c:gN}{d:mS->Act->az->Prop}(h:FX Lf f0 dn P c Q a u)(f:∀e a u,Q e a u->d e a u):FX Lf f0 dn P c d a u:=λb k cs n p q r=>
 (h b k cs n p q λid ⟨a,u,s⟩=>r id ⟨a,u,f _ _ _ s⟩).mono λfr t v ⟨e,g,j,m⟩=>⟨e,g,f _ _ _ j,m⟩
def FX.seq{x y}(h:FX Lf f0 dn P x (Exit.then (FX Lf f0 dn P y Q) Q) a u):FX Lf f0 dn P (.seq x y) Q a u:=λb k cs g j m n=>by
 refine .at_ (λ_=>cg) ?_;have r:qV (Exit.then (FX Lf f0 dn P y Q) Q) (.code y::k):=λid q=>Lr rfl n id q;refine(h b (.code y::k) cs g j m r).bind ?_;rintro fr p s ⟨e,d,f,c⟩;cases e with
 |normal=>
  obtain⟨rfl,rfl⟩:=c;exact(show FX Lf f0 dn P y Q d s from f) b k p g j m n
 |exit id=>exact .here ⟨_,d,f,uh rfl aC c⟩
 |goto x=>exact c.elim
 |ret=>exact .here ⟨_,d,f,uh rfl aC c⟩
 |panic t=>exact .here ⟨_,d,f,uh rfl aC c⟩
 |outgrown=>exact c.elim
def FX.cond{c x y v}(hc:a.eval c=.bool v)(h:FX Lf f0 dn P (if v then x else y) Q a u):FX Lf f0 dn P (.cond c x y) Q a u:=λb k cs d e f g=>.at_ (λ_=>HK hc) (h b k cs d e f g)
def FX.skip(h:Q .normal a u):FX Lf f0 dn P .skip Q a u:=λb k cs _ _ _ _=>.at_ (λ_=>mB) (.here ⟨.normal,a,h,rfl,rfl⟩)
def FX.exit{id}(h:Q (.exit id) a u):FX Lf f0 dn P (.exit id) Q a u:=λb k cs _ _ _ d=>by obtain⟨e,c⟩:=d id ⟨a,_,h⟩;exact .at_ (λ_=>stepG_exit c) (.here ⟨.exit id,a,h,⟨e,c,rfl⟩,rfl⟩)
def FX.ret(h:Q .ret a u):FX Lf f0 dn P .ret Q a u:=λb k cs _ _ _ _=>.ctl (λ_=>qd) (λd c=>⟨c.tmps,c.kind,c.known⟩) (.here ⟨.ret,a,h,⟨_,rfl⟩,rfl⟩)
def FX.block{id c}(h:FX Lf f0 dn P c (Du id Q) a u):FX Lf f0 dn P (.block id c) Q a u:=λb k cs r s t y=>by
 refine .at_ (λ_=>Ja) ?_
 have z:qV (Du id Q) (.inBlock id::k):=λg ⟨d,q,p⟩=>by
  by_cases e:g=id
  ·exact⟨k,by simp[exitTo,e]⟩
  ·simp only[Du,e,dQ]at p;obtain⟨m,v⟩:=y g ⟨d,q,p⟩;have:(id==g)=av:=by simp;exact λh=>e h.symm
   exact⟨m,by simp[exitTo,this,v]⟩
 refine(h b (.inBlock id::k) cs r s t z).bind ?_;rintro fr B q ⟨e,d,f,j⟩;cases e with
 |normal=>
  obtain⟨rfl,rfl⟩:=j;exact .at_ (λ_=>Oy) (.here ⟨.normal,d,f,rfl,rfl⟩)
 |exit g=>
  obtain⟨⟨m,n,rfl⟩,rfl⟩:=j
  by_cases e:g=id
  ·simp only[Du,e,cV]at f;have:m=k:=by simpa[exitTo,e]using n.symm
   subst this;exact .here ⟨.normal,d,f,rfl,rfl⟩
  ·simp only[Du,e,dQ]at f;have w:(id==g)=av:=by simp;exact λh=>e h.symm
   exact .here ⟨.exit g,d,f,⟨m,by simpa[exitTo,w]using n,rfl⟩,rfl⟩
 |goto x=>exact j.elim
 |ret=>exact .here ⟨_,d,f,j⟩
 |panic A=>exact .here ⟨_,d,f,j⟩
 |outgrown=>exact j.elim
def FX.loop{c}(I:Act->az->Prop)(h:Act->az->Nat)(z:I a u)(round:∀a u,I a u->FX Lf f0 dn P c (Exit.then (λd f=>I d f/\h d f<h a u) Q) a u):FX Lf f0 dn P (.loop c) Q a u:=λb k cs q r s w=>by
 have key:∀n a u,h a u=n->I a u->iW Lf P (zk Q b k cs) (b.at a (.code c::.inLoop c::k)) cs u:=by
  intro n;induction n using NO with
  |ind n A=>
   intro a u v hI;have y:qV (Exit.then (λd f=>I d f/\h d f<h a u) Q) (.inLoop c::k):=λid t=>Lr rfl w id t;refine(round a u hI b (.inLoop c::k) cs q r s y).bind ?_;rintro fr C f ⟨e,d,j,g⟩;cases e with
   |normal=>
    obtain⟨rfl,rfl⟩:=g;obtain⟨m,p⟩:=j;exact .at_ (λ_=>Oz) (A (h d f) (v▸p) d f rfl m)
   |exit id=>exact .here ⟨_,d,j,uh rfl aC g⟩
   |goto x=>exact g.elim
   |ret=>exact .here ⟨_,d,j,uh rfl aC g⟩
   |panic B=>exact .here ⟨_,d,j,uh rfl aC g⟩
   |outgrown=>exact g.elim
 exact .at_ (λ_=>BX) (key _ a u rfl z)
def FX.region{id}(h:FO Lf f0 dn P ops Q (dH ops.size) a u):FX Lf f0 dn P (.region id ops av) Q a u:=λb k cs c d e f=>.at_ (λ_=>OC) (h b k cs c d e f)
def FO.nil(h:Q .normal a u):FO Lf f0 dn P ops Q [] a u:=λ_ _ _ _ _ _ _=>.at_ (λ_=>cJ) (.here ⟨.normal,a,h,rfl,rfl⟩)
def mP(L:aB Nat)(x:aJ aD):aJ aD:=x.mapIdx λi v=>if i∈L then au else v
def rJ(L:aB Nat)(a:Act):Act:=⟨mP L a.tmps,a.defers⟩
def Am{L i}(h:i∉L):(rJ L a).eval (.tmp i)=a.eval (.tmp i):=by simp only[Act.eval,rJ,mP,tD,Vx,h,dQ];cases a.tmps[i]? <;>rfl
def CZ{ρ L}(h:∀(i:Nat) v,a.tmps[i]? =aa v->i∉L->VR ρ v v):bK ρ (rJ L a).tmps (rJ L a).tmps:=by
 haveI:bw:=bU []
 refine⟨rfl,λi v g c f=>?_⟩;rw[c]at f;cases f;simp only[rJ,mP,Vx]at c;cases e:a.tmps[i]? with
 |none=>rw[e]at c;cases c
 |some y=>
  rw[e]at c;simp at c
  by_cases d:i∈L
  ·rw[aW d]at c;subst c;exact uH ρ
  ·rw[aK d]at c;subst c;exact h i _ e d
def As{ρ L k k' d v}(h:kL ρ L (b.at a k))(hv:d∉L->VR ρ v v):kL ρ L (b.at (a.put (aa d) v) k'):=by
 refine⟨λi x c f=>?_,h.kind,h.known⟩;change(a.tmps.setIfInBounds d v)[i]? =aa x at c
 by_cases e:d=i
 ·subst e
  by_cases g:d<a.tmps.size
  ·rw[wI g]at c;cases c;exact hv f
  ·rw[lN cq]at c;cases c
 ·rw[dO e]at c;exact h.tmps i x c f
def oU.ok{Shun S ρ gs w}{t:fQ}{q:Nat->Nat}(g:oU Lf P Shun S fr cs u ρ gs w t q){α n:Type}{R:Ren->α->n->Prop}{s:Sem α}{m:Sem n}(C:SR P R ρ (λ_=>False) s m){v:α}(h:∀p,s.run P (u.tp p)=.ok v (u1.tp p)):
  ∃c j d x,m.runT P w #[]=(.ok j d,x)/\R c v j/\fA ρ c w d/\fy P c u1 d/\Whole S c u1/\(∀a b,c a b->a=b)/\u1.heap.size=d.heap.size/\(∀e∈x,gP S c e)/\Full c u1:=by
 haveI:bw:=bU []
 obtain⟨_,c,j,d,x,r,y,f,z,A⟩:=rB C (iy _) g.world.lay g.whole (h (laid u w));have E:u.heap.size=w.heap.size:=g.size;have D:u1.heap.size+w.heap.size=d.heap.size+u.heap.size:=f.xY;refine⟨c,j,d,x,r,y,f.went,?_,z,λa b B=>?_,ak,A,f.full g.full⟩
 ·have:=f.rel.drop;exact⟨this.one,this.lt,this.obj,this.low,this.base,this.calm,this.os⟩
 ·rcases f.news a b B with h|⟨_,_,h⟩
  ·exact g.same a b h
  ·have h:a+w.heap.size=b+u.heap.size:=h;omega
def FO.own{d}{v:aD}(m:Fit P l)(V:ops[i]? =aa o)(Z:dg o (yielded ops a.tmps)=aq)(C:o.dst=aa d)(W:okB P l o.op=aq)(n:execOp a.eval o=execOp (rJ (Lf f0) a).eval o)(hr:∀G,(execOp a.eval o).run P (u.tp G)=.ok (.value v) (u1.tp G))(c:FO Lf f0 dn P ops Q rest (a.put (aa d) v) u1):FO Lf f0 dn P ops Q (i::rest) a u:=λb k cs p O h X=>by
 haveI:bw:=bU []
 exact .one λak S ρ gs w t q g hV=>by
  have U:∀f,l.contains f=aq->aP.ok f:=λf h=>(m.ok f).2 h;have D:kL ρ (Lf f0) (b.at a (.inRegion ops (i::rest)::k)):=p▸g.top;rw[n]at hr;obtain⟨F,v',E,x,z,H,j,A,I,B,J,M,N⟩:=g.ok (CP (K:=λ_=>False) m.zeros m.fns U (BM m (CZ (a:=a) (L:=Lf f0) D.tmps)) (λζ s v=>by(subst s;rfl)) (λζ s v=>by(subst s;rfl)) W) hr;cases H with
  |@value _ v' hv=>
   obtain rfl:=hv.eq B;have Y:(execOp a.eval o).run P w=.ok (.value v) E:=by rw[n,<-ji P _ w #[],z]
   have T:b.kind≠.early:=by have:b.kind=.normal:=g.top.kind;rw[this];simp
   refine⟨_,cs,u1,F,E,_,Bu V Z T Y,⟨j,A,I,B,J,λe R=>?_,?_,λf h=>⟨(g.low f h).1.mono j.le,(g.low f h).2⟩,N⟩,?_⟩
   ·have r:=qb R;unfold yY at r;rw[n,z]at r;exact BY (g.clear.went j) (λy b ry=>(A.lt y b ry).2) (M e r)
   ·rw[C];show kL F (Lf b.fn) _;rw[p];exact As (D.mono j.le) (λ_=>hv)
   ·rw[C];exact c b k cs p O h X
def FO.void(j:Fit P l)(R:ops[i]? =aa o)(X:dg o (yielded ops a.tmps)=aq)(A:o.dst=ay)(T:okB P l o.op=aq)(m:execOp a.eval o=execOp (rJ (Lf f0) a).eval o)(hr:∀C,(execOp a.eval o).run P (u.tp C)=.ok .skip (u1.tp C))(c:FO Lf f0 dn P ops Q rest a u1):FO Lf f0 dn P ops Q (i::rest) a u:=λb k cs z J g U=>by
 haveI:bw:=bU []
 exact .one λaj S ρ gs w t q d hV=>by
  have O:∀f,l.contains f=aq->aP.ok f:=λf g=>(j.ok f).2 g;have W:kL ρ (Lf f0) (b.at a (.inRegion ops (i::rest)::k)):=z▸d.top;rw[m]at hr;obtain⟨σ,v',B,x,r,D,h,s,E,F,G,H,I⟩:=d.ok (CP (K:=λ_=>False) j.zeros j.fns O (BM j (CZ (a:=a) (L:=Lf f0) W.tmps)) (λZ p v=>by(subst p;rfl)) (λZ p v=>by(subst p;rfl)) T) hr;cases D with
  |skip=>
   have V:(execOp a.eval o).run P w=.ok .skip B:=by rw[m,<-ji P _ w #[],r]
   have N:b.kind≠.early:=by have:b.kind=.normal:=d.top.kind;rw[this];simp
   refine⟨_,cs,u1,σ,B,_,stepG_none R X N V,⟨h,s,E,F,G,λe M=>?_,?_,λf g=>⟨(d.low f g).1.mono h.le,(d.low f g).2⟩,I⟩,?_⟩
   ·have n:=qb M;unfold yY at n;rw[m,r]at n;exact BY (d.clear.went h) (λy b Y=>(s.lt y b Y).2) (H e n)
   ·rw[A];have hm:=d.top.mono h.le;exact⟨hm.tmps,hm.kind,hm.known⟩
   ·rw[A];exact c b k cs z J g U
def FO.blind{d v}(y:ops[i]? =aa o)(A:dg o (yielded ops a.tmps)=aq)(m:o.dst=aa d)(hr:∀w,(execOp a.eval o).run P w=.ok (.value v) w)(he:∀w,(execOp a.eval o).events P w #[]=#[])(hv:d∈Lf f0\/∀g,VR g v v)(c:FO Lf f0 dn P ops Q rest (a.put (aa d) v) u):FO Lf f0 dn P ops Q (i::rest) a u:=λb k cs j p r z=>by
 haveI:bw:=bU []
 exact .one λC S g gs w t q f D=>by
  have s:b.kind≠.early:=by have:b.kind=.normal:=f.top.kind;rw[this];simp
  refine⟨_,cs,u,g,w,_,Bu y A s (hr w),⟨.refl g w,f.world,f.whole,f.same,f.size,λe B=>?_,?_,f.low,f.full⟩,?_⟩
  ·have n:=qb B;rw[he]at n;simp at n
  ·rw[m];exact As f.top (λx=>hv.elim (λh=>absurd (show d∈Lf b.fn from j▸h) x) λh=>h g)
  ·rw[m];exact c b k cs j p r z
def FO.aaI{d wb v ob}(G:aP.wat wb=aa ob)(C:ops[i]? =aa o)(F:dg o (yielded ops a.tmps)=aq)(p:o.dst=aa d)(hr:∀w,w.heap[wb]? =aa ob->(execOp a.eval o).run P w=.ok (.value v) w)(he:∀w,w.heap[wb]? =aa ob->∀e∈(execOp a.eval o).events P w #[],∃g:bZ,e.loc=.cell g/\g.block=wb)(hv:∀h,VR h v v)(c:FO Lf f0 dn P ops Q rest (a.put (aa d) v) u):FO Lf f0 dn P ops Q (i::rest) a u:=λb k cs y z A D=>by
 haveI:bw:=bU []
 exact .one λI S h gs w t q f s=>by
  have B:b.kind≠.early:=by have:b.kind=.normal:=f.top.kind;rw[this];simp
  obtain⟨K,m,H⟩:=s wb ob G;refine⟨_,cs,u,h,w,_,Bu C F B (hr w m),⟨.refl h w,f.world,f.whole,f.same,f.size,λe j=>?_,?_,f.low,f.full⟩,?_⟩
  ·obtain⟨g,r,n⟩:=he w m e (qb j);obtain⟨loc,wr,J⟩:=e;obtain rfl:loc=.cell g:=r;refine⟨λx j E=>?_,⟨by simp[cY],by simp[cY]⟩,?_⟩
   ·simp[cY,uY]at j;subst j;exact H g n E
   ·show g.block<w.heap.size;rw[n];exact(bq.1 m).1
  ·rw[p];exact As f.top (λ_=>hv h)
  ·rw[p];exact c b k cs y z A D
def iV(Lf:bC->aB Nat)(P:aY)(dn:Nat)(f:bC)(args:aJ aD)(u:az)(R:iz->az->Prop):Prop:=
 ∀(cs:aB aV),cs.length=dn->iW Lf P (λfr d c=>d=cs/\fr.fn=f/\∃e,e≠.outgrown/\R e c/\fr.leaving P c e) (Frame.enter P f args .normal) cs u
def iV.mono{f args R R'}(h:iV Lf P dn f args u R)(hr:∀e u,R e u->R' e u):iV Lf P dn f args u R':=λcs n=>
 (h cs n).mono λfr q p ⟨c,d,e,g,j,m⟩=>⟨c,d,e,g,hr e p j,m⟩
def iV.aao{f fn c args R}(hf:P.funcs[f]? =aa fn)(d:fn.body=aa c)(h:FX Lf f dn P c (λe a u=>e=.ret/\a.defers=[]/\∃v,(results fn a.tmps).run P u=.ok v u/\R (aM v) u) {tmps:=args++oF (fn.ntmps-args.size) au,defers:=[]} u):iV Lf P dn f args u R:=λcs g=>by
 haveI:bw:=bU []
 rw[vg args hf d];refine(h (base f) [] cs rfl g trivial λid ⟨a,u,m,_⟩=>by cases m).mono ?_;rintro fr p r ⟨e,n,⟨rfl,j,v,hr,hv⟩,⟨q,rfl⟩,rfl⟩;exact⟨rfl,rfl,aM v,aC,hv,rfl,j,rfl,fn,hf,hr⟩
end
end
section
open Go.Conc
section
variable [aP] [bw] {P:aY}
def afT{t:aQ}{d:TypeDesc}(h:P.underlying t=aa d)(w es):(underlying t).runT P w es=(.ok d w,es):=by simp[underlying,program,bind,cL,dx,pure,h,Sem.run,yY]
def ZE{t b:aQ}(h:P.underlying t=aa (.pointer b))(a w es):(Op.equal t (.pointer a) (.pointer ay)).runT P w es=(.ok a.isNone w,es):=by unfold Op.equal;rw[show Op.maxDepth=9999+1 from rfl];unfold Op.equalIn;show(cL _ _).runT P w es=_;rw[dN,afT h];cases a<;>rfl
def SH{t b:aQ}(h:P.underlying t=aa (.pointer b))(a w es):(binOp .neq t (.pointer a) (.pointer ay)).runT P w es=(.ok (.bool a.isSome) w,es):=by unfold binOp;show(cL _ _).runT P w es=_;rw[dN,ZE h];cases a<;>rfl
def SI{t b:aQ}(h:P.underlying t=aa (.pointer b))(a w es):(binOp .neq t (.pointer a) (.pointer ay)).events P w es=es:=by unfold yY;rw[SH h]
def SJ{t b:aQ}(h:P.underlying t=aa (.pointer b))(a w):(binOp .neq t (.pointer a) (.pointer ay)).run P w=.ok (.bool a.isSome) w:=by rw[<-ji P _ w #[],SH h]
end
end
section
open Go.Conc Go.Conc.Lib Go.ConcN.Gen Go.ConcR.Gen Go.RowKit
open Go.ConcN (ShN WgLive Has)
open Go.Proofs.Tryz
abbrev pt(b:Nat):aD:=aR b
def vN(a B:Nat):Deferred:={target:=.fn (.func 98) #[pt a,pt B],args:=#[]}
def qE(P:aY):aV:={(default:aV)with fn:=P.funcs.size,defers:=[],mode:=.panicking [Bn]}
def PN(fn:kZ):gN:=fn.body.getD .skip
def aaa:(f98.name== "runtime.NumGoroutine")=av:=aT
def Ya(Wg B w):stepG prog av (born prog (vN Wg B)) w=.go (G ((Ai 98).at ⟨#[pt Wg,pt B,au,au],[]⟩ [.code (PN f98)]) [qE prog]) w:=by
 have c:¬f98.name= "runtime.NumGoroutine" :=by simpa using aaa
 have a:f98.body=aa (PN f98):=rfl;have e:=enter_atD #[pt Wg,pt B] func98 a;have b:(#[pt Wg,pt B]++oF (f98.ntmps - #[pt Wg,pt B].size) au)=#[pt Wg,pt B,au,au]:=rfl;rw[b]at e;rw[<-e];simp[born,vN,qE,G,stepG,qR,callDeferred,invoke,callFunc,func98,c,a,jy,HO]
end
section
open Classical
open Go.Conc Go.Conc.Lib Go.ConcN.Gen Go.ConcR.Gen Go.RowKit
open Go.ConcN (ShN WgLive Has)
open Go.ConcR (Payload)
open Go.Proofs.Tryz
section
variable [aP] [bw] {l:aB bC} {C:Nat->Prop} {R:iz->az->Prop} {Wg B c:Nat} {w:az}
def Qr(C:Nat->Prop)(R:iz->az->Prop)(O:Nat->Prop)(w:az):Prop:=∃u d v,R (aM v) u/\(eF C).le d/\fy prog d u w/\Whole (λ_=>False) d u/\∀a b,d a b->O b
def Qr.rel{O}{m:aQ}{w₁}(h:Qr C R O w)(r:Rel m Wg O w w₁):Qr C R O w₁:=by obtain⟨u,n,v,f,g,i,d,e⟩:=h;exact⟨u,n,v,f,g,i.rel d (λb k=>k.elim) (λa b j _=>e a b j) r,d,e⟩
def OO(C:Nat->Prop)(R:iz->az->Prop)(Wg B:Nat)(O:Nat->Prop)(g:bM)(w:az):Prop:=
 (∃k,k.mode=.returning/\(∃a,QuitsD prog a 0 (G k [qE prog]))/\g=G ((Ai link.done).at ⟨#[pt Wg,au,au,au],[]⟩ [.code (IQ link)]) [k,qE prog])/\O B/\¬O Wg/\WgLive link.tWg Wg w/\(∃v,Has B 0 v w)/\Qr C R O w
def agQ[Payload]{O g}(h:∀a,Rel link.tWg Wg O w a->OO C R Wg B O g a):WS prog link.tWg Wg (Qr C R) .work O g w:=by obtain⟨⟨k,b,⟨n,d⟩,rfl⟩,e,f,i,⟨v,j⟩,m⟩:=h w (.refl ..);exact agW yy e f b d i j λa r=>m.rel r
def Rel.cell{O}{a:aQ}{w₁}(r:Rel a Wg O w w₁){ad}(h:O ad.block):w₁.cell? ad=w.cell? ad:=by unfold fC;rw[r.own _ h]
def xA{O ad n}(h:O ad.block)(b:ad.block<n)(wr):iF Wg O n (.ofEvent ⟨.cell ad,wr,av⟩):=by refine⟨λx a=>?_,by simp[cY],b,λ_=>by simp[cY],λ_=>by simp[cY]⟩;simp[cY,uY]at a;subst a;exact aF ⟨ad,rfl,h⟩
def abh(k)(hm:k.mode=.returning)(d:k.defers=[])(e:k.kind=.deferred)(hf:k.fn=98):QuitsD prog 2 0 (G k [qE prog]):=by
 refine aE ⟨rfl,G (qE prog) [],#[],aC,λw=>?_,aE ⟨rfl,{frame:=qE prog,callers:=[],status:=.finished,dying:=ay},#[],aC,λw=>?_,⟨rfl,rfl⟩⟩⟩
 ·have hr:f98.results=#[]:=rfl;have a:(results f98 k.tmps).run prog w=.ok (.tuple #[]) w:=by simp[results,hr]
  have b:(results f98 k.tmps).events prog w #[]=#[]:=IV hr _ _;simp[G,stepG,qR,qN,hm,d,e,hf,func98,a,b,seen,jy,qE,Bn]
 ·have f:prog.funcs[prog.funcs.size]? =ay:=aC;simp[G,stepG,qR,qE,Bn,Ic,f];rfl
def agZ[Payload](p:Fit prog l)(aR:aP.ok 100)(M:prog.globals.size<=w.heap.size)(m:Closed C w)(K:C c)(T:¬C B)(af:¬C Wg)(U:B≠Wg)(aL:WgLive link.tWg Wg w)(k:w.cell? (aj B 0)=aa (pt c))
  (hR:∀e u F,R e u->R e (az.tp u F)) (P:∀e u,R e u->∃v,e=aM v) (ak:∀F,Calls prog 100 #[pt c] ((mask C w).tp F) R):
  WS prog link.tWg Wg (Qr C R) .work (λb=>C b\/b=B) (born prog (vN Wg B)) w:=by
 refine agY (Stop:=OO C R Wg B) ?_ λO g w h=>agQ h
 have I:B<w.heap.size:=by
  unfold fC at k;split at k
  ·rename_i h;exact(bq.1 h).1
  ·cases k
 refine .ctl rfl (λd _=>Ya Wg B d) ?_;simp;refine .seq (.region ?_);simp;refine .ctl rfl (λd _=>stepG_defer rfl rfl (by simp[Ai]) rfl) (.regionEnd (.region ?_));simp;refine .op (pt c) rfl rfl (by simp[Ai]) (λd r=>?_) (λd r e D=>?_) ?_
 ·have A:d.cell? (aj B 0)=aa (pt c):=(r.cell (ad:=aj B 0) (aE rfl)).trans k;unfold execOp;simp[go_sem,A,Act.put,Act.eval]
 ·have A:d.cell? (aj B 0)=aa (pt c):=(r.cell (ad:=aj B 0) (aE rfl)).trans k;unfold execOp at D;simp[go_sem,A,Act.put,Act.eval]at D;subst D;exact xA (aE rfl) (dI I r.size) av
 refine .call rfl rfl (by simp[Ai]) rfl func100 aT rfl ?_
 walk_nrm
 generalize N:(Ai 98).at _ _=kf;have aH:kf.mode=.run:=by rw[<-N];rfl
 have ah:Still [kf,qE prog]:=λb s=>by
  simp at s;rcases s with rfl|rfl
  ·exact aF aH
  ·exact aE rfl
 have L:cy prog l (eF C) (Frame.enter prog 100 #[pt c] .normal) (Frame.enter prog 100 #[pt c] .normal):=
  Fb p aR ⟨rfl,λi v v' j H=>by
   rw[j]at H;cases H
   match i,j with
   |0,j=>simp at j;subst j;exact .ptr ⟨⟨rfl,K⟩,rfl,rfl⟩
   |n+1,j=>simp at j⟩ (aF rfl)
 have W:mD prog l (Frame.enter prog 100 #[pt c] .normal) [] (mask C w):=by have:mD prog l (Frame.enter prog 100 #[pt c] .normal) [] ((mask C w).tp (laid (mask C w) w)):=⟨λ_=>False,eF C,[],_,w,afr,⟨_,[],rfl,L,.nil⟩,(Vq p.prog m M).lay,Vi m⟩;exact this.tp (mask C w).tape
 have Cn:=Vj p W hR (λu hu=>by obtain⟨v,e⟩:=P _ _ hu;cases e) ak
 have an:CJ prog av link.tWg Wg (λO g w=>Qr C R O w/\∃f:aV,f.mode=.returning/\f.defers=[]/\f.kind=.normal/\f.fn=100/\g=G f [kf,qE prog]) C (G (Frame.enter prog 100 #[pt c] .normal) [kf,qE prog]) w:=by
  refine Yu p Cs (S:=λ_=>False) (ρ0:=eF C) ah Cn ?_ (eF C) C _ w (Ren.le_refl _) ⟨_,[],rfl,L,.nil⟩ (Vq p.prog m M) (Vi m) (λb h=>h.elim) (λa b q _=>q.2);rintro f cs u E O g Q ⟨rfl,aG,e,_,J,aN⟩ aI V Y I4 _ z;obtain⟨v,rfl⟩:=P e u J;obtain⟨y,bu,rfl,t,aC⟩:=V.of;cases aC;obtain⟨l1,l2,l3,fn,l4,_⟩:=aN;refine .stop λd r=>⟨Qr.rel ⟨u,E,v,J,aI,Y,I4,λa b q=>z a b q id⟩ r,y,?_,?_,t.kind.trans l3,t.fn.trans aG,rfl⟩
  ·have:=t.mode;rw[l1]at this;generalize y.mode=md at this;cases this;rfl
  ·have:=t.defers;rw[l2]at this;generalize y.defers=ds at this;cases this;rfl
 have bA:c<w.heap.size:=by obtain⟨o,ho,_⟩:=m c K;exact(bq.1 ho).1
 have z:(λb=>C b\/b=B)=λb=>C b\/(λx=>x=B) b:=rfl;rw[z];refine(an.frame (X:=λx=>x=B) (w0:=w) (λb s=>by subst s;exact⟨I,T,rfl⟩) af aL).bind ?_;intro O g Q h;obtain⟨O1,⟨hq,f,f1,f2,f3,f4,rfl⟩,rfl,hx,Z,Cd⟩:=h Q (.refl ..);subst N;refine .leave f1 f2 f3 (by rw[f4];exact func100) rfl ?_;rw[wN]
 walk_nrm
 refine .regionEnd (.end_ (.ctl rfl (λd _=>stepG_unwind_enter rfl yy.f_done aT rfl) ?_));refine .stop λd r=>⟨⟨_,rfl,⟨2,abh _ rfl rfl rfl rfl⟩,rfl⟩,aE rfl,?_,r.live Cd,⟨pt c,?_⟩,?_⟩
 ·rintro(h|h)
  ·exact Z h
  ·exact U h.symm
 ·show d.cell? (aj B 0)=_;rw[r.cell (ad:=aj B 0) (aE rfl)];unfold fC at k⊢;rw[hx B rfl];exact k
 ·obtain⟨u,E,v,q1,q2,q3,q4,q5⟩:=hq;exact Qr.rel ⟨u,E,v,q1,q2,q3,q4,λa b q=>aF (q5 a b q)⟩ r
end
end
section
open Go.Conc Go.Conc.Lib Go.ConcN.Gen Go.ConcR.Gen Go.RowKit
open Go.ConcN (ShN WgLive Has)
open Go.Proofs.Tryz
def eu:aV:={(default:aV)with fn:=61,kind:=.normal}
def zU(fn:kZ):gN:=match fn.body with|some (.seq _ (.seq _ x))=>x|_=>.skip
def An(fn:kZ):gN:=match fn.body with|some (.seq _ (.seq _ (.seq _ x)))=>x|_=>.skip
def nV(fn:kZ):gN:=match fn.body with|some (.seq _ (.seq _ (.seq (.seq _ (.block _ (.rangeFunc _ _ x _))) _)))=>x|_=>.skip
def lV(fn:kZ):gN:=match fn.body with|some (.seq _ (.seq _ (.seq (.seq _ (.block _ (.rangeFunc _ _ _ x))) _)))=>x|_=>.skip
def sZ(fn:kZ):gN:=match fn.body with|some (.seq _ (.block _ (.loop x)))=>x|_=>.skip
section
variable [aP] [bw] {Stop:(Nat->Prop)->bM->az->Prop} {O:Nat->Prop} {w:az} {xb sb B1 Wg n:Nat} {cl:aB (aZ Nat)} {cs0:aB aV}
def kT(xb B1 Wg B2:Nat):aJ aD:=#[pt xb,pt B1,pt Wg,au,au,pt xb,.func (.func 96) #[] #[pt B2],au,au,au,au,au,au,au,au,au,au,au,au,au,au,au,au]
def hdT(L B2 xb sb n i:Nat)(v:Nat->aD):aJ aD:=#[.func (.yield L) #[] #[],pt B2,au,au,v 4,pt xb,pt xb,.pointer (aa (aj xb 9)),.slice (aa (aj sb 0)) n n,an n,an i,v 11,v 12,v 13,v 14,v 15,v 16,v 17,v 18,v 19,v 20,v 21,v 22]
def wj(fn:kZ)(xb B1 Wg B2 D L:Nat):aV:=eu.at ⟨kT xb B1 Wg B2,[{target:=.collected D,args:=#[]}]⟩ (.inRangeFunc L::.inBlock 0::.code (An fn)::[])
def pF(fG a:kZ)(xb sb B1 Wg B2 D L n i:Nat)(v:Nat->aD)(cs0:aB aV):bM:=G ((base 96).at ⟨hdT L B2 xb sb n i v,[]⟩ [.code (sZ a),.inLoop (sZ a),.inBlock 0]) (wj fG xb B1 Wg B2 D L::cs0)
def vp(v:aZ Nat):aD:=.pointer (v.map λc=>⟨c,0,ay⟩)
structure fF(fG:kZ)(xb sb B1 Wg B2 D L n:Nat)(cl:aB (aZ Nat))(st:DV)(O:Nat->Prop)(w:az):Prop where
 ox:O xb
 os:O sb
 o1:O B1
 o2:O B2
 oD:O D
 oL:O L
 nW:¬O Wg
 lv:WgLive link.tWg Wg w
 b1:w.cell? (aj B1 0)=aa (pt xb)
 b2:w.cell? (aj B2 0)=aa (pt xb)
 sl:w.cell? (aj xb 9)=aa (.slice (aa (aj sb 0)) n n)
 at_:∀(j:Nat) v,cl[j]? =aa v->w.cell? (aj sb j)=aa (vp v)
 len:cl.length=n
 df:w.heap[D]? =aa (.deferred (aa []))
 lp:w.heap[L]? =aa (.loop (mm eu ⟨kT xb B1 Wg B2,[]⟩ #[7] (nV fG) (lV fG) D st))
 bx:w.heap[B2]? =aa (aA #[pt xb] 36)
def zD{ad v}(h:w.cell? ad=aa v):ad.block<w.heap.size:=by
 unfold fC at h;split at h
 ·rename_i a;exact(bq.1 a).1
 ·cases h
def cell_of{w':az}{ad:bZ}(h:w'.heap[ad.block]? =w.heap[ad.block]?):w'.cell? ad=w.cell? ad:=by unfold fC;rw[h]
variable {fG:kZ} {B2 D L:Nat} {st:DV}
def fF.kept{d:Nat->Prop}{w':az}(h:fF fG xb sb B1 Wg B2 D L n cl st O w)(c:∀b,O b->d b)(e:¬d Wg)(a:∀b,O b->w'.heap[b]? =w.heap[b]?)(g:WgLive link.tWg Wg w'):fF fG xb sb B1 Wg B2 D L n cl st d w':=
 ⟨c _ h.ox,c _ h.os,c _ h.o1,c _ h.o2,c _ h.oD,c _ h.oL,e,g,(cell_of (ad:=aj B1 0) (a _ h.o1)).trans h.b1,(cell_of (ad:=aj B2 0) (a _ h.o2)).trans h.b2,(cell_of (ad:=aj xb 9) (a _ h.ox)).trans h.sl,
  λj v f=>(cell_of (ad:=aj sb j) (a _ h.os)).trans (h.at_ j v f),h.len,(a _ h.oD).trans h.df,(a _ h.oL).trans h.lp,(a _ h.o2).trans h.bx⟩
def fF.rel{w₁}(h:fF fG xb sb B1 Wg B2 D L n cl st O w)(r:Rel link.tWg Wg O w w₁):fF fG xb sb B1 Wg B2 D L n cl st O w₁:=h.kept (λ_ x=>x) h.nW r.own (r.live h.lv)
def BS{l r ad v}(h:w.cell? ad=aa v)(k:w.heap[l]? =aa (.loop r)):ad.block≠l:=λe=>by unfold fC at h;rw[e,k]at h;cases h
def Cv{w'}(h:WgLive link.tWg Wg w)(e:w'.heap[Wg]? =w.heap[Wg]?):WgLive link.tWg Wg w':=by obtain⟨st,b,a⟩:=h;exact⟨st,b,e.trans a⟩
def fF.gl(h:fF fG xb sb B1 Wg B2 D L n cl st O w)(b:DV):fF fG xb sb B1 Wg B2 D L n cl b O (gl w L (mm eu ⟨kT xb B1 Wg B2,[]⟩ #[7] (nV fG) (lV fG) D b)):=by
 have c:D≠L:=λe=>by have:=h.df;rw[e,h.lp]at this;cases this
 have d:Wg≠L:=λe=>h.nW (e▸h.oL)
 exact⟨h.ox,h.os,h.o1,h.o2,h.oD,h.oL,h.nW,Cv h.lv (qB d),(cell_of (ad:=aj B1 0) (qB (BS h.b1 h.lp))).trans h.b1,(cell_of (ad:=aj B2 0) (qB (BS h.b2 h.lp))).trans h.b2,(cell_of (ad:=aj xb 9) (qB (BS h.sl h.lp))).trans h.sl,
  λj v a=>(cell_of (ad:=aj sb j) (qB (BS (h.at_ j v a) h.lp))).trans (h.at_ j v a),h.len,(qB c).trans h.df,abf (bq.1 h.lp).1,(qB (BS h.b2 h.lp)).trans h.bx⟩
def Cu(h:WgLive link.tWg Wg w):Wg<w.heap.size:=by obtain⟨st,b,a⟩:=h;unfold Ig at a;exact(bq.1 a).1
def Gk{x i}(h:i<w.heap.size):({w with heap:=w.heap.push x}:az).heap[i]? =w.heap[i]? :=by rw[fJ,aK ak]
def acI(p:O B1)(B:O xb)(A:O sb)(H:¬O Wg)(t:∀b,O b->b<w.heap.size)(x:WgLive link.tWg Wg w)(s:w.cell? (aj B1 0)=aa (pt xb))(P:w.cell? (aj xb 9)=aa (.slice (aa (aj sb 0)) n n))(I:∀(j:Nat) v,cl[j]? =aa v->w.cell? (aj sb j)=aa (vp v))(K:cl.length=n)
  (M:∀B2 D L o m v,(∀b,O b->o b)->(∀b,o b->O b\/w.heap.size<=b)->(∀b,O b->m.heap[b]? =w.heap[b]?)->(∀b,o b->b<m.heap.size)->w.heap.size<=m.heap.size->m.os=w.os->w.heap.size<=B2->w.heap.size<=D->w.heap.size<=L->fF f61 xb sb B1 Wg B2 D L n cl .ready o m->CJ prog aq link.tWg Wg Stop o (pF f61 f96 xb sb B1 Wg B2 D L n 0 v cs0) m):
  CJ prog aq link.tWg Wg Stop O (G (eu.at ⟨#[pt xb,pt B1,pt Wg,au,au,au,au,au,au,au,au,au,au,au,au,au,au,au,au,au,au,au,au],[]⟩ [.code (zU f61)]) cs0) w:=by
 simp;refine .seq (.seq ?_);refine .region ?_;simp;refine .op (pt xb) rfl rfl (by simp[eu]) (λl r=>?_) (λl r e k=>?_) ?_
 ·have g:l.cell? (aj B1 0)=aa (pt xb):=(r.cell (ad:=aj B1 0) p).trans s;unfold execOp;simp[go_sem,g,Act.put,Act.eval]
 ·have g:l.cell? (aj B1 0)=aa (pt xb):=(r.cell (ad:=aj B1 0) p).trans s;unfold execOp at k;simp[go_sem,g,Act.put,Act.eval]at k;subst k;exact xA p (dI (zD s) r.size) av
 walk_nrm
 refine .call rfl rfl (by simp[eu]) rfl func59 aT rfl ?_;rw[vg _ func59 rfl]
 walk_nrm
 simp;refine .seq ?_;refine .region ?_;simp;refine .make (λn=>pt n) (aA #[pt xb] 36) rfl rfl (by simp[base]) iL iM λa u=>?_
 walk_nrm
 refine .op .nilFunc rfl rfl (by simp[base]) iL iM ?_
 walk_nrm
 refine .regionEnd (.seq ?_);refine .region ?_;simp only[jB,eM,gX,lR,fX,dH,pW];refine .op (.func (.func 96) #[] #[pt a.heap.size]) rfl rfl (by simp[base]) iL iM ?_
 walk_nrm
 refine .op (.func (.func 96) #[] #[pt a.heap.size]) rfl rfl (by simp[base]) iL iM ?_
 walk_nrm
 refine .regionEnd (.ret (.leave1 rfl rfl func59 rfl ?_));rw[wN]
 walk_nrm
 refine .regionEnd (.block (.T8 (caps:=#[pt a.heap.size]) (by simp[eu]) rfl func96 aT rfl λd q=>?_));rw[vg _ func96 rfl]
 walk_nrm
 have F:∀b,O b->a.heap[b]? =w.heap[b]? :=u.own;have E:=u.size;have Q:a.heap.size+1<=d.heap.size:=by have:=q.size;simpa using this
 have y:∀b,O b->d.heap[b]? =w.heap[b]? :=λb hb=>by rw[q.own b (aF hb),Gk (dI (t b hb) E)];exact F b hb
 have z:d.heap[a.heap.size]? =aa (aA #[pt xb] 36):=by rw[q.own _ (aE rfl)];show(a.heap.push _)[a.heap.size]? =_;simp
 have C:WgLive link.tWg Wg d:=q.live (Cv (u.live x) (Gk (dI (Cu x) E)));generalize hr:mm eu _ _ _ _ d.heap.size .ready=rec
 have f:fF f61 xb sb B1 Wg a.heap.size d.heap.size (d.heap.size+1) n cl .ready (λc=>(O c\/c=a.heap.size)\/c=d.heap.size\/c=d.heap.size+1) (nX d rec):=by
  have old:∀b,O b->(nX d rec).heap[b]? =w.heap[b]? :=λb hb=>by rw[zC (by have:=t b hb;omega)];exact y b hb
  refine⟨aF (aF B),aF (aF A),aF (aF p),aF (aE rfl),aE (aF rfl),aE (aE rfl),?_,Cv C (zC (Cu C)),(cell_of (ad:=aj B1 0) (old _ p)).trans s,?_,(cell_of (ad:=aj xb 9) (old _ B)).trans P,λj v J=>(cell_of (ad:=aj sb j) (old _ A)).trans (I j v J),K,XS,?_,(zC ak).trans z⟩
  ·have:=Cu x;rintro((h|h)|h|h)
   ·exact H h
   all_goals omega
  ·have:(nX d rec).heap[a.heap.size]? =aa (aA #[pt xb] 36):=(zC ak).trans z;simp[fC,this]
  ·rw[XT,<-hr];rfl
 have N:=M a.heap.size d.heap.size (d.heap.size+1) (λc=>(O c\/c=a.heap.size)\/c=d.heap.size\/c=d.heap.size+1) (nX d rec) (λi=>au) (λb hb=>aF (aF hb)) (λb hb=>by rcases hb with(hb|hb)|hb|hb;exact aF hb;all_goals exact aE ak) (λb hb=>by rw[zC (by have:=t b hb;omega)];exact y b hb) (λb hb=>by rw[EH];rcases hb with(hb|hb)|hb|hb;have:=t b hb;omega;all_goals omega) (by rw[EH];omega) (q.os.trans u.os) ak ak ak f;simp only[f96,mY];refine .seq ?_;refine .region ?_;simp only[jB,eM,gX,lR,fX,dH,pW];refine .op (pt xb) rfl rfl (by simp[base]) (λl r=>?_) (λl r e k=>?_) ?_
 ·have g:l.cell? (aj a.heap.size 0)=aa (pt xb):=(r.cell (ad:=aj a.heap.size 0) f.o2).trans f.b2;unfold execOp;simp[go_sem,g,Act.put,Act.eval]
 ·have g:l.cell? (aj a.heap.size 0)=aa (pt xb):=(r.cell (ad:=aj a.heap.size 0) f.o2).trans f.b2;unfold execOp at k;simp[go_sem,g,Act.put,Act.eval]at k;subst k;exact xA f.o2 (dI (zD f.b2) r.size) av
 walk_nrm
 refine .op (pt xb) rfl rfl (by simp[base]) iL iM ?_
 walk_nrm
 refine .op (.pointer (aa (aj xb 9))) rfl rfl (by simp[base]) iL iM ?_
 walk_nrm
 refine .op (.slice (aa (aj sb 0)) n n) rfl rfl (by simp[base]) (λl r=>?_) (λl r e k=>?_) ?_
 ·have g:l.cell? (aj xb 9)=aa (.slice (aa (aj sb 0)) n n):=(r.cell (ad:=aj xb 9) f.ox).trans f.sl;unfold execOp;simp[go_sem,g,Act.put,Act.eval]
 ·have g:l.cell? (aj xb 9)=aa (.slice (aa (aj sb 0)) n n):=(r.cell (ad:=aj xb 9) f.ox).trans f.sl;unfold execOp at k;simp[go_sem,g,Act.put,Act.eval]at k;subst k;exact xA f.ox (dI (zD f.sl) r.size) av
 walk_nrm
 refine .op (an n) rfl rfl (by simp[base]) iL iM ?_
 walk_nrm
 refine .op (an 0) rfl rfl (by simp[base]) iL iM ?_
 walk_nrm
 refine .regionEnd (.block (.loop ?_));exact N
end
section
variable [aP] [bw] {Stop:(Nat->Prop)->bM->az->Prop} {O:Nat->Prop} {w:az} {xb sb B1 Wg n B2 D L i:Nat} {cl:aB (aZ Nat)} {cs0:aB aV} {v:Nat->aD}
def Vr(h:i<n)(a:n<4294967296):IntKind.i64.wrap ((i:Int)+1)=((i+1:Nat):Int):=by rw[IntKind.wrap_i64];omega
def acM(c:fF f61 xb sb B1 Wg B2 D L n cl .ready O w)(l:i<n)(m:n<4294967296)(g:cl[i]? =aa ay)
  (o:∀v,CJ prog aq link.tWg Wg Stop O (pF f61 f96 xb sb B1 Wg B2 D L n (i+1) v cs0) w):
  CJ prog aq link.tWg Wg Stop O (pF f61 f96 xb sb B1 Wg B2 D L n i v cs0) w:=by
 have d:(i:Int)<(n:Int):=ak;have h:(0:Int)<=(i:Int):=ak;have j:=Vr l m;simp only[pF,sZ,f96,hdT];refine .seq ?_;refine .region ?_;simp only[jB,eM,gX,lR,fX,dH,pW];refine .op (.bool aq) rfl rfl (by simp[base]) (λb r=>by unfold execOp;simp[go_sem,Act.put,Act.eval,d]) (λb r e a=>by unfold execOp at a;simp[go_sem,Act.put,Act.eval,d]at a) ?_
 walk_nrm
 refine .regionEnd (.seq (.cond rfl ?_));simp only[cV,eX,dQ];refine .skip (.seq (.block (.seq ?_)));refine .region ?_;simp only[jB,eM,gX,lR,fX,dH,pW];refine .op (.pointer (aa (aj sb i))) rfl rfl (by simp[base]) (λb r=>by unfold execOp;simp[go_sem,Act.put,Act.eval,d,h]) (λb r e a=>by unfold execOp at a;simp[go_sem,Act.put,Act.eval,d,h]at a) ?_
 walk_nrm
 refine .op (vp ay) rfl rfl (by simp[base]) (λb r=>?_) (λb r e a=>?_) ?_
 ·have f:=(r.cell c.os).trans (c.at_ i ay g);unfold execOp;simp[go_sem,f,Act.put,Act.eval]
 ·have f:=(r.cell c.os).trans (c.at_ i ay g);unfold execOp at a;simp[go_sem,f,Act.put,Act.eval]at a;subst a;exact xA c.os (dI (zD (c.at_ i ay g)) r.size) av
 walk_nrm
 refine .op (vp ay) rfl rfl (by simp[base]) iL iM ?_
 walk_nrm
 refine .regionEnd (.seq ?_);refine .region ?_;simp only[jB,eM,gX,lR,fX,dH,pW];refine .op (vp ay) rfl rfl (by simp[base]) iL iM ?_
 walk_nrm
 refine .op (.bool av) rfl rfl (by simp[base]) (λb r=>by unfold execOp;simp[go_sem,Act.put,Act.eval,vp,SJ underlying119]) (λb r e a=>by unfold execOp at a;simp[go_sem,Act.put,Act.eval,vp,SI underlying119]at a) ?_
 walk_nrm
 refine .op (.bool av) rfl rfl (by simp[base]) iL iM ?_
 walk_nrm
 refine .unwanted rfl rfl ?_
 walk_nrm
 refine .unwanted rfl rfl ?_
 walk_nrm
 refine .unwanted rfl rfl ?_
 walk_nrm
 refine .unwanted rfl rfl ?_
 walk_nrm
 refine .op (.bool av) rfl rfl (by simp[base]) iL iM ?_
 walk_nrm
 refine .regionEnd (.cond rfl ?_);simp only[cV,eX,dQ];refine .skip (.inBlock ?_);refine .region ?_;simp only[jB,eM,gX,lR,fX,dH,pW];refine .op (an ((i+1:Nat):Int)) rfl rfl (by simp[base]) (λb r=>by unfold execOp;simp[go_sem,Act.put,Act.eval,j]) (λb r e a=>by unfold execOp at a;simp[go_sem,Act.put,Act.eval,j]at a) ?_
 walk_nrm
 refine .op (an ((i+1:Nat):Int)) rfl rfl (by simp[base]) iL iM ?_
 walk_nrm
 refine .regionEnd (.inLoop ?_);exact o (λk=>(#[au,au,au,au,vp ay,au,au,au,au,au,au,.bool aq,.pointer (aa (aj sb i)),vp ay,vp ay,.bool av,.bool av,au,au,au,au,.bool av,an ((i+1:Nat):Int)]:aJ aD).getD k au)
end
section
variable [aP] [bw] {P:aY} {w:az}
def yieldT{l args r}(h:w.heap[l]? =aa (.loop r))(a:args.size=r.params.size)(es):(AH l args).runT P w es=(.ok (.round l r.fn ((r.params.zip args).foldl (λb x=>b.setIfInBounds x.1 x.2) r.tmps) r.assign r.body) w,es.push ⟨.obj l,av,av⟩):=by simp only[AH,tI,getObj,bind,cL,pure,dx,h,a,ne_eq,not_true_eq_false,dQ];rfl
def ahd{a:Act}{o:dK}{f x:Operand}{b:aJ aQ}{l:Nat}{v:aD}{r:Loop}(d:o.op=.call {callee:=.value f,args:=#[x],argTypes:=b}) (hf:a.eval f=.func (.yield l) #[] #[]) (g:a.eval x=v) (h:w.heap[l]? =aa (.loop r)) (k:1=r.params.size) (es):
  (execOp a.eval o).runT P w es=(.ok (.round l r.fn ((r.params.zip #[v]).foldl (λj x=>j.setIfInBounds x.1 x.2) r.tmps) r.assign r.body) w,es.push ⟨.obj l,av,av⟩):=by
 have e:execOp a.eval o=AH l #[v]:=by unfold execOp;simp[d,resolve,wM,hf,g,invoke,bind,cL,pure]
 rw[e];exact yieldT h ak es
end
section
variable [aP] [bw] {O:Nat->Prop} {w:az} {xb sb B1 Wg n B2 D L i c:Nat} {cl:aB (aZ Nat)} {cs0:aB aV} {v:Nat->aD}
def rnT(xb B1 Wg B2 B c:Nat)(t8:aD):aJ aD:=#[pt xb,pt B1,pt Wg,pt B,au,pt xb,.func (.func 96) #[] #[pt B2],pt c,t8,au,au,au,au,au,au,au,au,au,au,au,au,au,au]
def EC(fn:kZ):aJ dK:=match lV fn with|.block _ (.seq (.region _ x _) _)=>x|_=>#[]
def goCode(fn:kZ):gN:=match lV fn with|.block _ (.seq _ x)=>x|_=>.skip
def PE(fn:kZ):aJ dK:=match sZ fn with|.seq _ (.seq _ (.seq (.block _ (.seq _ (.seq (.region _ x _) _))) _))=>x|_=>#[]
def PO(fn:kZ):gN:=match sZ fn with|.seq _ (.seq _ (.seq (.block _ (.seq _ (.seq _ x))) _))=>x|_=>.skip
def RV(fn:kZ):gN:=match sZ fn with|.seq _ (.seq _ (.seq _ x))=>x|_=>.skip
def itT(L B2 xb sb n i c:Nat)(v:Nat->aD):aJ aD:=#[.func (.yield L) #[] #[],pt B2,au,au,pt c,pt xb,pt xb,.pointer (aa (aj xb 9)),.slice (aa (aj sb 0)) n n,an n,an i,.bool aq,.pointer (aa (aj sb i)),pt c,pt c,.bool aq,.bool aq,.func (.yield L) #[] #[],pt c,v 19,v 20,v 21,v 22]
def itF(a:kZ)(xb sb B2 L n i c:Nat)(v:Nat->aD):aV:=(base 96).at ⟨itT L B2 xb sb n i c v,[]⟩ (.inRegion (PE a) [5,6,7]::.code (PO a)::.inBlock 1::.code (RV a)::.inLoop (sZ a)::.inBlock 0::[])
def rnF(a:kZ)(xb B1 Wg B2 L B c:Nat)(is:aB Nat)(t8:aD):aV:=rf L eu ⟨rnT xb B1 Wg B2 B c t8,[]⟩ (.inRegion (EC a) is::.code (goCode a)::.inBlock 1::[])
def ON(d e:kZ)(P:aY)(xb sb B1 Wg B2 D L n i c:Nat)(cl:aB (aZ Nat))(cs0:aB aV)(O:Nat->Prop)(w:az)(a:Nat->Prop)(g':bM)(w':az):Prop:=
 ∃B v,g'=G (Frame.enter P 97 #[pt Wg,an 1] .normal) (rnF d xb B1 Wg B2 L B c [0] au::itF e xb sb B2 L n i c v::wj d xb B1 Wg B2 D L::cs0)/\fF d xb sb B1 Wg B2 D L n cl .busy a w'/\a B/\¬O B/\w'.cell? (aj B 0)=aa (pt c)/\
  (∀b,O b->a b)/\(∀b,a b->O b\/(w.heap.size<=b/\b<w'.heap.size))/\(∀b,O b->b≠L->w'.heap[b]? =w.heap[b]?)/\w.heap.size<=w'.heap.size/\w'.os=w.os
def acJ(k:fF f61 xb sb B1 Wg B2 D L n cl .ready O w)(K:∀b,O b->b<w.heap.size)(hi:i<n)(hn:n<4294967296)(E:cl[i]? =aa (aa c)):
  CJ prog aq link.tWg Wg (ON f61 f96 prog xb sb B1 Wg B2 D L n i c cl cs0 O w) O (pF f61 f96 xb sb B1 Wg B2 D L n i v cs0) w:=by
 have z:(i:Int)<(n:Int):=ak;have J:(0:Int)<=(i:Int):=ak;have aG:vp (aa c)=pt c:=rfl;generalize hS:ON f61 f96 prog xb sb B1 Wg B2 D L n i c cl cs0 O w=Z;simp only[pF,sZ,f96,hdT];refine .seq ?_;refine .region ?_;simp only[jB,eM,gX,lR,fX,dH,pW];refine .op (.bool aq) rfl rfl (by simp[base]) (λd r=>by unfold execOp;simp[go_sem,Act.put,Act.eval,z]) (λd r e j=>by unfold execOp at j;simp[go_sem,Act.put,Act.eval,z]at j) ?_
 walk_nrm
 refine .regionEnd (.seq (.cond rfl ?_));simp only[cV,eX,dQ];refine .skip (.seq (.block (.seq ?_)));refine .region ?_;simp only[jB,eM,gX,lR,fX,dH,pW];refine .op (.pointer (aa (aj sb i))) rfl rfl (by simp[base]) (λd r=>by unfold execOp;simp[go_sem,Act.put,Act.eval,z,J]) (λd r e j=>by unfold execOp at j;simp[go_sem,Act.put,Act.eval,z,J]at j) ?_
 walk_nrm
 refine .op (vp (aa c)) rfl rfl (by simp[base]) (λd r=>?_) (λd r e j=>?_) ?_
 ·have p:=(r.cell k.os).trans (k.at_ i (aa c) E);unfold execOp;simp[go_sem,p,Act.put,Act.eval]
 ·have p:=(r.cell k.os).trans (k.at_ i (aa c) E);unfold execOp at j;simp[go_sem,p,Act.put,Act.eval]at j;subst j;exact xA k.os (dI (zD (k.at_ i (aa c) E)) r.size) av
 walk_nrm
 refine .op (vp (aa c)) rfl rfl (by simp[base]) iL iM ?_
 walk_nrm
 refine .regionEnd (.seq ?_);refine .region ?_;simp only[jB,eM,gX,lR,fX,dH,pW];refine .op (vp (aa c)) rfl rfl (by simp[base]) iL iM ?_
 walk_nrm
 refine .op (.bool aq) rfl rfl (by simp[base]) (λd r=>by unfold execOp;simp[go_sem,Act.put,Act.eval,vp,SJ underlying119]) (λd r e j=>by unfold execOp at j;simp[go_sem,Act.put,Act.eval,vp,SI underlying119]at j) ?_
 walk_nrm
 refine .op (.bool aq) rfl rfl (by simp[base]) iL iM ?_
 walk_nrm
 refine .op (.func (.yield L) #[] #[]) rfl rfl (by simp[base]) iL iM ?_
 walk_nrm
 refine .op (vp (aa c)) rfl rfl (by simp[base]) iL iM ?_
 walk_nrm
 have hrd:∀d,Rel link.tWg Wg O w d->∀(a:Act) (o:dK),o.op=.call {callee:=.value (.tmp 17),args:=#[.tmp 18],argTypes:=#[119]}->a.eval (.tmp 17)=.func (.yield L) #[] #[]->a.eval (.tmp 18)=vp (aa c)->(execOp a.eval o).runT prog d #[]=(.ok (.round L 61 #[pt xb,pt B1,pt Wg,au,au,pt xb,.func (.func 96) #[] #[pt B2],pt c,au,au,au,au,au,au,au,au,au,au,au,au,au,au,au] (nV f61) (lV f61)) d,#[⟨.obj L,av,av⟩]):=λd r a o R S T=>by rw[ahd R S T (k.rel r).lp rfl #[]];simp[mm,kT,eu,vp]
 refine .round (l:=L) (f:=61) (tmps:=#[pt xb,pt B1,pt Wg,au,au,pt xb,.func (.func 96) #[] #[pt B2],pt c,au,au,au,au,au,au,au,au,au,au,au,au,au,au,au]) (lD:=nV f61) (bd:=lV f61) rfl rfl (by simp[base]) (λd r=>?_) (λd r e j=>?_) ?_
 ·rw[<-ji _ _ d #[],hrd d r _ _ rfl rfl rfl]
 ·unfold yY at j;rw[hrd d r _ _ rfl rfl rfl]at j;simp at j;subst j;exact Js k.oL (bq.1 ((k.rel r).lp)).1 av
 simp only[nV,lV,f61];show CJ _ _ _ _ _ _ (G (rf L eu _ _) _) _;refine .LQ ?_;simp only[jB,eM,gX,lR,fX,dH,pW];refine .acj (λn=>pt n) (aA #[.pointer ay] 119) rfl rfl aC (by simp[eu]) iL iM λg A=>?_
 walk_nrm
 have M:=A.size;have u:¬O g.heap.size:=λh=>by have:=K _ h;omega
 have C:∀d:az,Rel link.tWg Wg (λc=>O c\/c=g.heap.size) {g with heap:=g.heap.push (aA #[.pointer ay] 119)} d->d.heap[g.heap.size]? =aa (aA #[.pointer ay] 119):=λd r=>by rw[r.own _ (aE rfl)];show(g.heap.push _)[g.heap.size]? =_;simp
 refine .acp (ad:=aj g.heap.size 0) (v:=pt c) (aE rfl) rfl rfl aC (by simp[eu]) (λd r=>?_) (λd r e j=>?_) λm s=>?_
 ·have hb:=C d r;have p:d.cell? (aj g.heap.size 0)=aa (.pointer ay):=by simp[fC,hb]
  have y:d.frozen? (aj g.heap.size 0)=av:=by simp[oJ,hb]
  unfold execOp;simp[go_sem,p,y,Act.put,Act.eval]
 ·have hb:=C d r;have p:d.cell? (aj g.heap.size 0)=aa (.pointer ay):=by simp[fC,hb]
  have y:d.frozen? (aj g.heap.size 0)=av:=by simp[oJ,hb]
  unfold execOp at j;simp[go_sem,p,y,Act.put,Act.eval]at j;rw[events_store _ _ _ _ _ _ rfl]at j;simp[go_sem,p,y]at j;subst j;exact xA (aE rfl) (bq.1 hb).1 aq
 walk_nrm
 have s2:g.heap.size+1<=m.heap.size:=by have:=s.size;simpa using this
 have H:∀b,O b->m.heap[b]? =w.heap[b]? :=λb hb=>by rw[s.own b (aF hb),Gk (dI (K b hb) M)];exact A.own b hb
 have X:WgLive link.tWg Wg m:=s.live (Cv (A.live k.lv) (Gk (dI (Cu k.lv) M)));have I:Wg≠g.heap.size:=by have:=Cu k.lv;omega
 have B:∀b,b≠g.heap.size->(m.setCell (aj g.heap.size 0) (pt c)).heap[b]? =m.heap[b]? :=λb hb=>(zc m ⟨g.heap.size,0,ay⟩ (pt c)).block b hb
 have x:fF f61 xb sb B1 Wg B2 D L n cl .ready (λc=>O c\/c=g.heap.size) (m.setCell (aj g.heap.size 0) (pt c)):=
  k.kept (λb hb=>aF hb) (λh=>h.elim k.nW I) (λb hb=>(B b λe=>u (e▸hb)).trans (H b hb)) (Cv X (B Wg I))
 have Q:(m.setCell (aj g.heap.size 0) (pt c)).cell? (aj g.heap.size 0)=aa (pt c):=by have hb:=C m s;have ah:=(bq.1 hb).1;simp[fC,fY,lO,hb]
 have V:L<(m.setCell (aj g.heap.size 0) (pt c)).heap.size:=(bq.1 x.lp).1;have U:L≠g.heap.size:=λe=>u (e▸k.oL);refine .LR (.gl (l:=L) (r:=mm eu ⟨kT xb B1 Wg B2,[]⟩ #[7] (nV f61) (lV f61) D .busy) rfl x.oL V (λd r=>abU (by simp[eu]) aT (x.rel r).lp rfl) λF t=>?_);refine .abm (.aco (.LQ ?_));simp only[jB,eM,gX,lR,fX,dH,pW];refine .abn rfl rfl aC (by simp[eu]) rfl func97 aT rfl ?_
 walk_nrm
 subst hS;have s3:m.heap.size<=F.heap.size:=by have:=t.size;simpa using this
 refine .stop λN q=>⟨g.heap.size,v,rfl,?_,aE rfl,u,?_,λb hb=>aF hb,λb hb=>?_,λb hb W=>?_,?_,?_⟩
 ·exact((x.rel t).gl .busy).rel q
 ·rw[q.cell (ad:=aj g.heap.size 0) (aE rfl),cell_of (ad:=aj g.heap.size 0) (qB (dc U)),t.cell (ad:=aj g.heap.size 0) (aE rfl)];exact Q
 ·have Y:F.heap.size<=N.heap.size:=by have:=q.size;rwa [xZ]at this
  rcases hb with hb|hb
  ·exact aF hb
  ·exact aE ak
 ·rw[q.own b (aF hb),qB W,t.own b (aF hb),B b λe=>u (e▸hb)];exact H b hb
 ·have Y:F.heap.size<=N.heap.size:=by have:=q.size;rwa [xZ]at this
  omega
 ·exact q.os.trans (t.os.trans ((by simp[fY]:(m.setCell (aj g.heap.size 0) (pt c)).os=m.os).trans (s.os.trans A.os)))
end
end
end Go.Proofs.YtpobhljcainmdaaGreat
