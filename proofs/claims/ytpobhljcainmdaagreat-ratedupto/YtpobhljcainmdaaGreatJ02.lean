/- Parts of the proof. -/
import Derived.BigQuiet
import Derived.Conc.CompanyDraw
import Derived.Conc.LeavingOf
import Derived.Conc.WgGenN3
import Derived.Deep.AppendLies
import Derived.Deep.DeepCutAuto
import Derived.Deep.DrawnRows
import Derived.Deep.Light
import Derived.Lib.BufferWrite
import Derived.Lib.Walk
import Derived.Test.YtpobhljcainmdaaGreatRows
import Derived.WalkLawsBesides
import Derived.WalkSpells
import Derived.Test.YtpobhljcainmdaaGreatJ01
set_option maxRecDepth 100000
set_option maxHeartbeats 8000000
set_option linter.all false
namespace Go.Proofs.YtpobhljcainmdaaGreat
open Go.Conc renaming stepG_region_end->cH,stepG_seq->bZ,stepG_skip->nH,stepG_ret'->oN,aside_setCell->zU,events_results_none->KU,runT_crowd_go->FQ,stepG_block->Cy,mem_ofEvents->Qj,stepG_markAt->FU,Leavers->uv,touchAt_of->Cz,enter_at->ya,stepG_mark0->FT,stepG_load_atomic->Ra,stepG_value->FV,noRace_append->KW,events_call_body->QT,stepG_region->La,ofEvents_eq->KX,seen_none->FR,lt_size_of_getElem?->I5,stepG_inBlock->QX,run_call_body->QW,stepG_unwind_entry->I8,stepG_inLoop->QY,deafStep->FK,mem_seen->FP,stepG_add_atomic->Im,stepG_leave->QZ,Past->NT,calls_of_loneTo->Vp,stepG_loop->Wq,deaf_old->KS,baseD->Wx,getElem?_append_cases->ke,semEvents->fk,Goes->eS,Deaf->ik
open Go renaming World->aq,Goroutine->bK,Frame->aP,Program->bM,TypeId->aY,Value->aB,FuncId->aZ,Ending->jA,Trace->iN,Item->gB,Func->gG,MemAct->uC,run_convert_bytes_back->yd,bodyPost_ret->iB,HappensBefore->Qk,Code->fu,Oper->ep,LoopState->Kv,goexitEntry->Cs,below_drewN->jj,mayWake->FN,doReturn->lZ,Exit->xl,maxLen->cP,Addr->iL,unwind->CB,Event->gv,heap_alloc_new->ao,results->bo,yielded->co,execOp->a7,exitTo->fp,Calls->ax,stepG->bi,Frame->du,binOp->ju,Act->eQ
open Go.MemAct renaming ofEvent->dW,touch?->vX,mark->QD,low_mono->E1
open Go.Region renaming wanted->cY
open Go.World renaming setCell->iQ,cell?->gp,frozen?->qG,setCell->kB,cell?->kD,alloc->lL
open Go.ConcN renaming upd_same->jN,upd_ne->lu,sumTo->fa
open Go.GStep renaming after->iw
open _root_.List renaming range->dA,isEmpty_iff->B6,length->pA
open Go.CallKind renaming early->xP
open _root_.List.range renaming loop->zI
open Go.ConcR renaming wgBlock->BG,WgAt->JU,Payload->oM,WgAt->eh
open Go.stepG renaming exec->fy,oper->zg,apply->ce
open Go.Frame renaming finish_at->BF,enter->ba
open _root_.Nat renaming reduceAdd->rS,strongRecOn->Ky
open Go.MemOp renaming ofEvents->sZ,ofEvents_g->xT
open Go.Sem renaming bind->fK,runT_fst->iM,events->FH,runT->eA
open Go.Trace renaming act?->zP,g?->wm
open Go.Lib renaming size_eq->BO,byteCells->lR
open _root_.Array renaming replicate->oG,getElem?_mapIdx->Zo,setIfInBounds->mP,size->pB
open Go.Exit renaming inBlock->ER
open Go.Instr renaming getLoop->zE,beginRound->ET,yield->Qo,enterLoop->BI,endRound->zD,endLoop->JW
open Go.Deferred renaming ofValue->uu
open Go.Conc.LoneTo renaming goes->Ku,step->D6
open Go.ConcR.Gen renaming x_enable_n->Li,x_enable_b->Lg,x_enable_x->Lk,x_enable_f->Lh,body_wait->KR,x_disable_n->Rh,x_disable_b->Rf,x_disable_x->Ri,x_disable_f->Rg,x_loadU64_n->Rl,x_loadU64_b->Rj,x_loadU64_x->Rm,x_loadU64_f->Rk
open Go.Extern.Race renaming none_->ZJ
open Go.IntKind renaming wrap_u64->n9,wrap_i32->n8,u64->Qu,i32->l9
open Go.Goroutine renaming again->ZO
open Go.Ending renaming returned->JN
open _root_.UInt8 renaming ofNat->ji
open Go renaming undef->y
open Go.Ending renaming returned->aG
open Go.Obj renaming cells->au
open _root_.Bool renaming false->aa,true->M
open _root_.Option renaming none->aj,some->Z
open _root_.Or renaming inl->aA,inr->az
open Go.Proofs.Tryz renaming underlying158->dp,underlying9->gc,underlying5->kc,prog->ai,f61->fe
open Go.Conc.Goes renaming stop->dC
open Go.Act renaming eval->cn,put->dv
open an renaming known->il,prog->ae
open bh renaming zero->ka
open Go.RowKit renaming Below->ca,Hid->bc
open Go.ConcN (WgLive ShN fork_knows Deaf_absent RelBy RW Has AtR0 AtK1 AtD1 AtD2 AtD3 AtD4 DWs PayAt EvW sumTo upd sumTo_upd upd_ne upd_same le_sumTo sumTo_le sumTo_upd_out)
open Go.ConcR (KK wgBlock WgAt stA smA rd wr mk Payload Aside2 DC0)
open Go.Conc
open Go.Program renaming underlying->nf
open Go.Value renaming slice->ζ,string->ξ,pointer->π,bool->ω,tuple->θ,agg->ν,int->ι
open _root_.ByteArray renaming size->pC
abbrev _root_.Relation.TransGen.E:=@Relation.TransGen.trans
abbrev _root_.Go.Conc.Good.V:=@Go.Conc.Good.mono
section
variable [an] [bJ]
section
variable {P:bM} {l:av aZ} {S:Nat->Prop}
def Pt{P:bM}{km g w g1 g2 w1 w2 a1 a2}(h:jl P km g w g1 w1 a1)(k:jl P km g w g2 w2 a2):g1=g2/\w1=w2/\a1=a2:=by
 cases h with
 |go h=>
  cases k with
  |go k=>rw[h]at k;cases k;exact⟨U,U,U⟩
  |shut k=>rw[h]at k;cases k
  |sG k=>rw[h]at k;cases k
  |sH k=>rw[h]at k;cases k
 |shut h b=>
  cases k with
  |go k=>rw[h]at k;cases k
  |shut k a=>rw[h]at k;cases k;exact⟨U,U,U⟩
  |sG k a=>rw[h]at k;cases k;rw[b]at a;cases a
  |sH k=>rw[h]at k;cases k
 |sG h b=>
  cases k with
  |go k=>rw[h]at k;cases k
  |shut k a=>rw[h]at k;cases k;rw[b]at a;cases a
  |sG k a=>rw[h]at k;cases k;exact⟨U,U,U⟩
  |sH k=>rw[h]at k;cases k
 |sH h=>
  cases k with
  |go k=>rw[h]at k;cases k
  |shut k=>rw[h]at k;cases k
  |sG k=>rw[h]at k;cases k
  |sH k=>rw[h]at k;cases k;exact⟨U,U,U⟩
structure tb(d:aY)(c:Nat)(O:Nat->Prop)(w a:aq):Prop where
 own:∀b,O b->a.1[b]? =w.1[b]?
 size:w.1.size<=a.1.size
 live:WgLive d c w->WgLive d c a
 os:a.os=w.os
def tb.refl(ty Wg O w):tb ty Wg O w w:=⟨λ_ _=>U,aR _,id,U⟩
def tb.E{d:aY}{Wg O a b c}(h:tb d Wg O a b)(k:tb d Wg O b c):tb d Wg O a c:=⟨λx e=>(k.1 x e).E (h.1 x e),cM h.2 k.2,k.3 ∘ h.3,k.4.E h.4⟩
def tb.at (ty Wg O w d):tb ty Wg O w (w.at d):=⟨λ_ _=>U,aR _,id,U⟩
def fE(O:Nat->Prop)(w w':aq):Nat->Prop:=λb=>O b\/(pB w.1<=b/\b<pB w'.1)
structure uI(O:Nat->Prop)(w w':aq):Prop where
 cm:∀b,b<w.1.size->¬O b->w'.1[b]? =w.1[b]?
 size:w.1.size<=w'.1.size
 os:w'.os=w.os
 output:w'.output=w.output
 tape:w'.2=w.2
structure iR(c:Nat)(O:Nat->Prop)(B:Nat)(a:uC):Prop where
 ss:∀x,a.touch?=Z x->(∃b:iL,x.1=.cell b/\O b.block)\/(∃r,x.1=.obj r/\O r)\/x.1=.output\/(∃b:iL,x.1=.cell b/\b.block=c/\x.kind=.atomic)
 marks:a≠.mark .disable/\a≠.mark .enable
 low:a.low B
 rel:∀b,a≠.mark (.release b)
 Oi:∀b,a≠.mark (.releaseMerge b)
def K8{S:Nat->Prop}{σ a}(h:Ow S σ a)(Wg){O B}(g:∀x b,σ x b->¬S b->O b)(e:∀x b,σ x b->b<B):iR Wg O B a:=by let⟨j,c,f⟩:=WR h;refine⟨λx i=>?_,⟨c _ ay ay,c _ ay ay⟩,f B e,λd=>c _ ay ay,λd=>c _ ay ay⟩;grind
inductive CJ(P:bM)(km:Bool)(e:aY)(d:Nat)(ky:(Nat->Prop)->bK->aq->Prop):(Nat->Prop)->bK->aq->Prop
 |stop {O:Nat->Prop} {g:bK} {w:aq} (h:∀b,tb e d O w b->ky O g b):CJ P km e d ky O g w
 |step {O:Nat->Prop} {g:bK} {w:aq} (j:g.status=.running)
   (h:∀b,tb e d O w b->∃i c f,jl P km g b i c f/\uI O b c/\∀a∈f,iR d (fE O b c) c.1.size a)
   (k:∀b i c f,tb e d O w b->jl P km g b i c f->CJ P km e d ky (fE O b c) i c):CJ P km e d ky O g w
def CJ.rely{P:bM}{km}{c:aY}{Wg ky O g w w₁}(h:CJ P km c Wg ky O g w)(r:tb c Wg O w w₁):CJ P km c Wg ky O g w₁:=by
 cases h with
 |stop h=>exact .stop λb a=>h b (r.E a)
 |step f h k=>exact .step f (λb a=>h b (r.E a)) λb e i d a=>k b e i d (r.E a)
def CJ.one{P:bM}{km}{m:aY}{Wg ky O g w}(n:g.3=.running)(h:∀f,tb m Wg O w f->∃j e i,jl P km g f j e i/\uI O f e/\(∀a∈i,iR Wg (fE O f e) e.1.size a)/\CJ P km m Wg ky (fE O f e) j e):CJ P km m Wg ky O g w:=by refine .step n (λf k=>?_) λf j e i k o=>?_;let⟨j,e,i,a,b,c,_⟩:=h f k;exact⟨j,e,i,a,b,c⟩;let⟨g2,q,p,a,_,_,d⟩:=h f k;let⟨rfl,rfl,rfl⟩:=Pt o a;exact d
def CJ.bind{P:bM}{km}{a:aY}{Wg ky RD O g w}(h:CJ P km a Wg ky O g w)(d:∀O g w,(∀b,tb a Wg O w b->ky O g b)->CJ P km a Wg RD O g w):CJ P km a Wg RD O g w:=by
 induction h with
 |stop h=>exact d _ _ _ h
 |step c h _ e=>exact .step c h e
def yl(c:aY)(a:Nat)(S:Nat->Prop)(w:aq):Prop:=∀b,S b->b=a/\WgLive c a w
def yl.rel{S:Nat->Prop}{a:aY}{Wg O w w₁}(h:yl a Wg S w)(r:tb a Wg O w w₁):yl a Wg S w₁:=λb c=>⟨(h b c).1,r.3 (h b c).2⟩
def WgLive.calm{a:aY}{Wg w}(h:WgLive a Wg w):CT w.1[Wg]? :=let⟨st,sm,h⟩:=h;⟨_,_,_,h,ay,aR _⟩
def Wl.rel{S:Nat->Prop}{c:aY}{Wg O ρ u w w₁}(h:Wl S ρ u w)(e:yl c Wg S w)(f:∀a b,ρ a b->¬S b->O b)(r:tb c Wg O w w₁):Wl S ρ u w₁:=cX.be h U r.2 (λa b g j=>r.1 b (f a b g j)) (λb i=>by let⟨rfl,d⟩:=e.rel r b i;exact WgLive.calm d) (Ht u w₁) (r.4.E h.os)
def U5{P:bM}{l:av aZ}{S:Nat->Prop}(H:vb P l){km}{m:aY}{Wg kw}(E:∀fr cs u,kw fr cs u->¬nN fr){ky base}(q:te base){ρ0:ut}{fr cs u}(Q:pS P kw fr cs u)(J:∀fr cs u ρ O f d w,kw fr cs u->ρ0.le ρ->Fs l S ρ u.1.size fr cs f d->Wl S ρ u w->yl m Wg S w->(∀a b,ρ a b->¬S b->O b)->CJ P km m Wg ky O (G f<|d++base) w):
  ∀(ρ:ut) (O:Nat->Prop) (f:aP) (d:av aP) (w:aq),ρ0.le ρ->Fs l S ρ u.1.size fr cs f d->Wl S ρ u w->yl m Wg S w->(∀a b,ρ a b->¬S b->O b)->CJ P km m Wg ky O (G f<|d++base) w:=by
 induction Q with
 |stop h=>exact λρ O f d w h0 p i j C=>J _ _ _ ρ O f d w h h0 p i j C
 |@step fr cs u T V R=>
  refine λρ O f d w h0 p i t j=>.one U λs r=>?_;let⟨og,X,A,Mt,LX,n,B,c,N,m1,m2,z,g,W⟩:=YW H E q (i.rel t j r) p T V km;let x:∀a b,fc ρ u s A a b->b<pB n.1:=λa b o=>(z.3 a b o).2;let v:∀a b,fc ρ u s A a b->¬S b->fE O s n b:=λa b o c=>o.e (λh=>aA (j a b h c)) λh=>az ⟨Y,x a b o⟩;let D:yl m Wg S n:=λb c=>by let⟨e,st,sm,K⟩:=t.rel r b c;let⟨a,k⟩:=i.5 b c;refine⟨e,st,sm,?_⟩;have:=g.3 b (cS (i.3 a b k).2 r.2) (az c);rw[e]at this;exact this.E K
  refine⟨_,n,B,m1,⟨λb q L=>g.3 b q ?_,g.went.2,g.6.1,g.6.2.1,g.6.2.2⟩,λa k=>K8 (W a k) Wg v x,R _ N _ _ _ c _ _ _ _ n (ut.le_trans h0 g.went.1) m2 z D v⟩;by_cases c:S b;exact az c;exact aA λa k=>L (j a b k c)
end
end
open Go.Conc.Lib Go.ConcN Go.ConcN.Gen Go.ConcR.Gen Go.RowKit
def DZ(Wg:Nat)(w w':aq)(es:aF gv):Prop:=w'=w/\∀e∈es,e=⟨.mark<|.read<|smA Wg,aa,M⟩\/e=⟨.mark<|.write<|smA Wg,aa,M⟩
variable{w w₁:aq}{Wg n m b B k i lw:Nat}{O A:Nat->Prop}{P:bM}{g:bK}{ky:bK->aq->Prop}{R:aq->aq->Prop}{cs:av aP}{L:WgLink}{b₀:aP}{a₀:eQ}{ops₀:aF ep}{rest₀:av Nat}{k₀:av gB}{l:Loc}{a:uC}{u:iN}{kp:Loc->Prop}{nR bd:fu}
def lr{ty:aY}(h:WgLive ty Wg w)(r:tb ty Wg O w w₁):WgLive ty Wg w₁:=r.3 h
section
variable (P:bM) (ty:aY) (Wg:Nat) (O:Nat->Prop) (Fin:bK->aq->Prop)
def ZA3(g:bK)(w:aq):Prop:=g.3=.running/\∃g',bi P M g w=.go g' w #[mk .enable]/\∃m,eS P M (tb ty Wg O) (DZ Wg) Fin m g' w
def ZA2(g:bK)(w:aq):Prop:=g.3=.running/\∀v:Nat,v<2147483647->eh ty Wg w (v*KK) 0->
 ∃g',bi P M g w=.go g' (w.setCell (stA Wg)<|ι .u64<|(v+1) *KK) #[rd<|stA Wg,wr<|stA Wg]/\∃m,eS P M (tb ty Wg O) (DZ Wg) (ZA3 P ty Wg O Fin) m g' (w.setCell (stA Wg)<|ι .u64<|(v+1) *KK)
def ZA1(g:bK)(w:aq):Prop:=g.3=.running/\∃g',bi P M g w=.go g' w #[mk .disable]/\∃m,eS P M (tb ty Wg O) (DZ Wg) (ZA2 P ty Wg O Fin) m g' w
end
def UC{D}(h:eS P M R D ky n g w):∀k,eS P M R D ky (n+k) g w
 |0=>h|k+1=>(UC h k).more
def jI:∀{n:Nat} {g:bK} {w:aq},eS P M R DC0 ky n g w->eS P M R (DZ Wg) ky n g w
 |0,_,_,h=>h|n+1,_,_,h=>h.imp id λ⟨b,c⟩=>⟨b,λw₁ r=>by have:=c w₁ r;revert this;cases bi P M _ w₁<;>simp only[GStep.goes]<;>first|exact id|exact λ⟨a,d⟩=>⟨⟨a.1,by rw[a.2];simp⟩,jI d⟩⟩
def UD(hR:∀w,R w w):∀{n:Nat} {g:bK} {w:aq},eS P M R DC0 (λg w=>g.3=.running/\∃g' e,bi P M g w=.go g' w #[e]/\(e=⟨.mark<|.read<|smA Wg,aa,M⟩\/e=⟨.mark<|.write<|smA Wg,aa,M⟩)/\eS P M R (DZ Wg) ky m g' w) n g w->eS P M R (DZ Wg) ky (m+1+n) g w:=by
 let one:∀{g:bK} {w:aq},(∀w₁,R w w₁->(g.3=.running/\∃g' e,bi P M g w₁=.go g' w₁ #[e]/\(e=⟨.mark<|.read<|smA Wg,aa,M⟩\/e=⟨.mark<|.write<|smA Wg,aa,M⟩)/\eS P M R (DZ Wg) ky m g' w₁))->eS P M R (DZ Wg) ky (m+1) g w:=λ{g w} h=>az ⟨(h w<|hR w).1,λw₁ r=>by let⟨_,g',e,b,c,a⟩:=h w₁ r;rw[b];exact⟨⟨U,λx hx=>by rw[Array.mem_singleton]at hx;rw[hx];exact c⟩,a⟩⟩;intro n;induction n with
 |zero=>exact λh=>one h
 |succ n f=>intro g w h;obtain h|⟨b,c⟩:=h;exact UC (one h)<|n+1;refine az ⟨b,λw₁ r=>?_⟩;have:=c w₁ r;revert this;cases bi P M g w₁<;>simp only[GStep.goes]<;>first|exact id|exact λ⟨a,d⟩=>⟨⟨a.1,by rw[a.2];simp⟩,f d⟩
def M0{c₀:aP}{Fin:bK->aq->Prop}(H:WgLib P L)(c:∀w,WgLive L.30 Wg w->Fin (G (c₀.finish<|θ #[]) cs) w)(w)(hK:WgLive L.30 Wg w):
  eS P M (tb L.30 Wg O) (DZ Wg) (ZA1 P L.30 Wg O Fin) 100 (G ((base L.1).at ⟨#[aQ Wg,I 1,y,y,y,y,y,y,y,y,y,y,y,y,y,y,y,y,y,y,y,y,y,y,y,y,y,y,y,y,y,y,y,y,y,y,y,y,y,y,y,y,y,y,y,y,y,y,y,y,y,y,y,y,y,y,y,y,y,y,y,y,y,y,y,y,y,y,y,y,y,y,y,y,y,y,y,y,y,y,y,y,y,y,y,y,y,y,y,y,y,y,y,y,y,y,y,y,y,y,y,y,y,y,y,y,y,y,y,y,y,y,y,y,y,y,y],[]⟩ [.code<|body_add L]) (c₀::cs)) w:=by
 lib_facts
 simp only[body_add,addFn,oK];apply jI;u_c bZ lr hK;u_cond M lr hK;u_c bZ lr hK;u_c bZ lr hK;u_reg lr hK;u_op lr hK;u_op lr hK;u_c cH lr hK;u_cond aa lr hK;u_c nH lr hK;u_c bZ lr hK;u_reg lr hK;refine dC<|λ_ hr=>?_;replace hK:=lr hK hr;refine⟨U,_,FT .disable ay U U (by k_ne) U H.5 (Rh L) (Rf L) (Ri L)<|Rg L,100,?_⟩;apply jI
 walk_nrm
 u_c cH lr hK;u_reg lr hK;u_defer lr hK;u_c cH lr hK;u_c bZ lr hK;u_reg lr hK;u_op lr hK;u_c cH lr hK;u_c bZ lr hK;u_c bZ lr hK;u_reg lr hK;u_bub lr hK;u_c cH lr hK;u_cond aa lr hK;u_c nH lr hK;u_c bZ lr hK;u_reg lr hK;u_op lr hK;u_op lr hK;u_op lr hK;u_op lr hK;u_op lr hK;u_op lr hK;u_call H.11 (nm_uAdd L) uAddFn lr hK;u_c bZ lr hK;u_reg lr hK;u_op lr hK;u_c cH lr hK;u_c bZ lr hK;u_reg lr hK;u_op lr hK;u_op lr hK;u_op lr hK;u_op lr hK;refine dC<|λ_ hr=>?_;replace hK:=lr hK hr;refine⟨U,λv hv hw=>?_⟩;rcases qF v with rfl|hvp
 ·replace hw:=show eh L.30 Wg _ 0 0 from by simpa using hw
  have z:(((0:Nat):Int)+1) *KK=KK:=ay;rw[z];have d:Qu.wrap (0+4294967296)=KK:=aM;refine⟨_,(Im U U (by k_ne) U H.23 (x_addU64_n L) (x_addU64_b L) (x_addU64_x L) .u64 (x_addU64_f L) U U hw.cellSt<|hw.thaw 0).E (by rw[d];rfl),120,?_⟩;replace hK:WgLive L.30 Wg (iQ _ (stA Wg)<|ι .u64 KK):=⟨_,_,hw.setSt _⟩;simp only[KK]at hK⊢;refine UD (n:=70) (m:=49) (λ_=>⟨λ_ _=>U,aR _,id,U⟩) ?_;walk_nrm;u_op lr hK;u_c cH lr hK;u_c oN lr hK;u_leave1 H.11 lr hK;u_op lr hK;u_c cH lr hK;u_c bZ lr hK;u_c bZ lr hK;u_reg lr hK;u_op lr hK;u_op lr hK;u_op lr hK;u_op lr hK;u_skip lr hK;u_skip lr hK;u_op lr hK;u_c cH lr hK;u_cond aa lr hK;u_c nH lr hK;u_c bZ lr hK;u_reg lr hK;u_op lr hK;u_op lr hK;u_op lr hK;u_op lr hK;u_c cH lr hK;u_c bZ lr hK;u_reg lr hK;u_op lr hK;u_op lr hK;u_op lr hK;u_op lr hK;u_c cH lr hK;u_c bZ lr hK;u_c bZ lr hK;u_reg lr hK;u_op lr hK;u_op lr hK;u_op lr hK;u_op lr hK;u_op lr hK;u_op lr hK;u_op lr hK;u_op lr hK;u_op lr hK;u_op lr hK;u_c cH lr hK;u_cond M lr hK;u_reg lr hK;u_op lr hK;u_op lr hK;u_op lr hK;u_conv H.67 H.113 (WgLive.cell1 hK).choose_spec lr hK;refine dC<|λ_ hr=>?_;replace hK:=lr hK hr;refine⟨U,_,_,FU .read ay U U (by k_ne) U H.12 (x_raceRead_n L) (x_raceRead_b L) (x_raceRead_x L) (x_raceRead_f L) (ad:=F Wg 1) (by simp[cn]),aA U,?_⟩;apply jI;walk_nrm;u_c cH lr hK;u_c bZ lr hK;u_c bZ lr hK;u_reg lr hK;u_op lr hK;u_op lr hK;u_c cH lr hK;u_cond aa lr hK;u_c nH lr hK;u_c bZ lr hK;u_c bZ lr hK;u_reg lr hK;u_op lr hK;u_op lr hK;u_op lr hK;u_skip lr hK;u_skip lr hK;u_op lr hK;u_op lr hK;u_skip lr hK;u_skip lr hK;u_skip lr hK;u_skip lr hK;u_op lr hK;u_c cH lr hK;u_cond aa lr hK;u_c nH lr hK;u_c bZ lr hK;u_c bZ lr hK;u_reg lr hK;u_op lr hK;u_op lr hK;u_op lr hK;u_skip lr hK;u_skip lr hK;u_op lr hK;u_c cH lr hK;u_cond M lr hK;u_c oN lr hK;refine dC<|λ_ hr=>?_;replace hK:=lr hK hr;refine⟨U,_,I8 (v:=θ #[]) (evs:=#[mk .enable]) U H.6 (Li L) (Lg L) (Lk L) (Lh L) (by simp[ZJ]) (by simp[mk]) (by simp[mk]),2,?_⟩;apply jI;u_in lr hK;rw[QZ U U H.1 (results_none U _ P _)<|KU U _ _];simp only[goes_go];exact⟨by u_nil,dC λw₁ r=>c _ (lr hK r)⟩
 let⟨V,a⟩:∃V:Int,V=(v:Int)+1:=⟨_,U⟩;let⟨S,hS⟩:∃S:Int,S=V*KK:=⟨_,U⟩;have b:Qu.wrap ((v:Int) *KK+4294967296)=S:=by rw[n9,hS,a];simp only[KK];omega
 rw[<-a,<-hS];have a1:S / 4294967296=V:=by rw[hS];simp only[KK];omega
 have b1:bits .and .u64 S 2147483648=0:=by rw[hS,a];have:=st_flag (v+1) 0 Y Y;simpa[KK]using this
 have e:bits .and .u64 S 2147483647=0:=by rw[hS,a];have:=st_waiters (v+1) 0 Y Y;simpa[KK]using this
 have f:l9.wrap V=V:=by rw[n8];omega
 have g:1<V:=Y;have h:V<2147483648:=Y;have i:(V==1)=aa:=bV;have j:decide (V=1)=aa:=lX Y;have k:decide (V<0)=aa:=lX Y;have l:decide (0<V)=M:=lY Y;have o:(V==0)=aa:=bV;refine⟨_,(Im U U (by k_ne) U H.23 (x_addU64_n L) (x_addU64_b L) (x_addU64_x L) .u64 (x_addU64_f L) U U hw.cellSt<|hw.thaw 0).E (by rw[b];rfl),120,?_⟩
 replace hK:WgLive L.30 Wg (iQ _ (stA Wg)<|ι .u64 S):=⟨_,_,hw.setSt _⟩
 clear hw hS a b;apply jI
 walk_nrm
 u_op lr hK;u_c cH lr hK;u_c oN lr hK;u_leave1 H.11 lr hK;u_op lr hK;u_c cH lr hK;u_c bZ lr hK;u_c bZ lr hK;u_reg lr hK;u_op lr hK;u_op lr hK;u_op lr hK;u_op lr hK;u_skip lr hK;u_skip lr hK;u_op lr hK;u_c cH lr hK;u_cond aa lr hK;u_c nH lr hK;u_c bZ lr hK;u_reg lr hK;u_op lr hK;u_op lr hK;u_op lr hK;u_op lr hK;u_c cH lr hK;u_c bZ lr hK;u_reg lr hK;u_op lr hK;u_op lr hK;u_op lr hK;u_op lr hK;u_c cH lr hK;u_c bZ lr hK;u_c bZ lr hK;u_reg lr hK;u_op lr hK;u_op lr hK;u_op lr hK;u_op lr hK;u_op lr hK;u_op lr hK;u_op lr hK;u_op lr hK;u_op lr hK;u_op lr hK;u_c cH lr hK;u_cond aa lr hK;u_c nH lr hK;u_c bZ lr hK;u_c bZ lr hK;u_reg lr hK;u_op lr hK;u_op lr hK;u_c cH lr hK;u_cond aa lr hK;u_c nH lr hK;u_c bZ lr hK;u_c bZ lr hK;u_reg lr hK;u_op lr hK;u_op lr hK;u_op lr hK;u_skip lr hK;u_skip lr hK;u_op lr hK;u_op lr hK;u_skip lr hK;u_skip lr hK;u_skip lr hK;u_skip lr hK;u_op lr hK;u_c cH lr hK;u_cond aa lr hK;u_c nH lr hK;u_c bZ lr hK;u_c bZ lr hK;u_reg lr hK;u_op lr hK;u_op lr hK;u_op lr hK;u_skip lr hK;u_skip lr hK;u_op lr hK;u_c cH lr hK;u_cond M lr hK;u_c oN lr hK;refine dC<|λ_ hr=>?_;replace hK:=lr hK hr;refine⟨U,_,I8 (v:=θ #[]) (evs:=#[mk .enable]) U H.6 (Li L) (Lg L) (Lk L) (Lh L) (by simp[ZJ]) (by simp[mk]) (by simp[mk]),2,?_⟩;apply jI
 u_in lr hK
 rw[QZ U U H.1 (results_none U _ P _)<|KU U _ _];simp only[goes_go];exact⟨by u_nil,dC λw₁ r=>c _ (lr hK r)⟩
section
variable (P:bM) (ty:aY) (Wg:Nat) (O:Nat->Prop)
def ZR2(g:bK)(w:aq):Prop:=g.3=.running/\∃g',bi P aa g w=.go g' w #[mk .disable]
def Uy(g:bK)(w:aq):Prop:=g.3=.running/\∃g',bi P aa g w=.go g' w #[mk<|.releaseMerge<|stA Wg]/\∃m,eS P aa (tb ty Wg O) DC0 (ZR2 P) m g' w
end
def aah{c:aP}(H:WgLib P L)(w)(hK:WgLive L.30 Wg w):
  eS P aa (tb L.30 Wg O) DC0 (Uy P L.30 Wg O) 60 (G ((Wx L.2).at ⟨#[aQ Wg,y,y,y],[]⟩ [.code<|body_done L]) (c::cs)) w:=by
 lib_facts
 simp only[body_done,doneFn,oK];u_reg lr hK;u_op lr hK
 u_in lr hK
 refine goes_call U U (by k_ne) U H.1 (nm_add L) U ⟨by u_nil,?_⟩
 walk_nrmf addFn
 u_c bZ lr hK;u_cond M lr hK;u_c bZ lr hK;u_c bZ lr hK;u_reg lr hK;u_op lr hK;u_op lr hK;u_c cH lr hK;u_cond M lr hK;u_reg lr hK;u_op lr hK
 u_conv H.27 H.112 (WgLive.cell0 hK).choose_spec lr hK
 refine dC<|λ_ hr=>?_;replace hK:=lr hK hr;refine⟨U,_,FU .releaseMerge ay U U (by k_ne) U H.4 (x_relMerge_n L) (x_relMerge_b L) (x_relMerge_x L) (x_relMerge_f L) Uc,40,?_⟩
 walk_nrm
 u_c cH lr hK;u_c bZ lr hK;u_reg lr hK;refine dC<|λ_ hr=>?_;replace hK:=lr hK hr;exact⟨U,_,FT .disable ay U U (by k_ne) U H.5 (Rh L) (Rf L) (Ri L)<|Rg L⟩
section
variable (P:bM) (ty:aY) (Wg:Nat) (O:Nat->Prop) (Fin Anch:bK->aq->Prop)
def ZAq(g:bK)(w:aq):Prop:=g.3=.running/\∃g',bi P M g w=.go g' w #[mk<|.acquire<|stA Wg]/\∃m,eS P M (tb ty Wg O) (DZ Wg) Fin m g' w
def UB(g:bK)(w:aq):Prop:=g.3=.running/\∃g',bi P M g w=.go g' w #[mk .enable]/\∃m,eS P M (tb ty Wg O) (DZ Wg) (ZAq P ty Wg O Fin) m g' w
def ZW4(g:bK)(w:aq):Prop:=g.3=.running/\(eh ty Wg w 0 0->∃g',bi P M g w=.go g' w #[rd<|stA Wg]/\∃m,eS P M (tb ty Wg O) (DZ Wg) (UB P ty Wg O Fin) m g' w)
def ZW3(g:bK)(w:aq):Prop:=g.3=.running/\g.5=aj/\
 ((∃st,eh ty Wg w st 0)->bi P M g w=.go {g with status:=.blocked} w #[])/\
 (eh ty Wg w 0 1->∃g',bi P M g w=.go g' (w.setCell (smA Wg)<|ι .u32 0) (fk<|smA Wg)/\∃m,eS P M (tb ty Wg O) (DZ Wg) (ZW4 P ty Wg O Fin) m g'<|w.setCell (smA Wg)<|ι .u32 0)
def ZW2(vs:Nat)(g:bK)(w:aq):Prop:=g.3=.running/\∀v:Nat,v<2147483648->eh ty Wg w (v*KK) 0->
 (v=vs->∃g',bi P M g w=.go g' (w.setCell (stA Wg)<|ι .u64<|v*KK+1) #[rd<|stA Wg,wr<|stA Wg]/\∃m,eS P M (tb ty Wg O) (DZ Wg) (ZW3 P ty Wg O Fin) m g'<|w.setCell (stA Wg)<|ι .u64<|v*KK+1)/\
 (v≠vs->∃g',bi P M g w=.go g' w #[rd<|stA Wg]/\∃m,eS P M (tb ty Wg O) (DZ Wg) Anch m g' w)
def RP(g:bK)(w:aq):Prop:=g.3=.running/\∀v:Nat,v<2147483648->eh ty Wg w (v*KK) 0->∃g',bi P M g w=.go g' w #[rd<|stA Wg]/\
 (v=0->∃m,eS P M (tb ty Wg O) (DZ Wg) (UB P ty Wg O Fin) m g' w)/\(v≠0->∃m,eS P M (tb ty Wg O) (DZ Wg) (ZW2 P ty Wg O Fin Anch v) m g' w)
def ZDi(g:bK)(w:aq):Prop:=g.3=.running/\∃g',bi P M g w=.go g' w #[mk .disable]/\∃m,eS P M (tb ty Wg O) (DZ Wg) Anch m g' w
end
def Lx(L:WgLink)(Wg:Nat)(c:aP)(cs:av aP)(g:bK)(w:aq):Prop:=∃T:aF aB,g=G ((base L.3).at ⟨T,[]⟩ [.code<|L7 L,.inLoop<|L7 L,.inBlock 0]) (c::cs)/\pB T=84/\T[0]? =Z (aQ Wg)/\WgLive L.30 Wg w
def ajW{i₀}(H:WgLib P L)(w)(hK:WgLive L.30 Wg w):
  eS P M (tb L.30 Wg O) (DZ Wg) (ZDi P L.30 Wg O<|Lx L Wg (b₀.at a₀ (.inRegion ops₀ (i₀::rest₀)::k₀)) cs) 40 (G ((base L.3).at ⟨#[aQ Wg,y,y,y,y,y,y,y,y,y,y,y,y,y,y,y,y,y,y,y,y,y,y,y,y,y,y,y,y,y,y,y,y,y,y,y,y,y,y,y,y,y,y,y,y,y,y,y,y,y,y,y,y,y,y,y,y,y,y,y,y,y,y,y,y,y,y,y,y,y,y,y,y,y,y,y,y,y,y,y,y,y,y,y],[]⟩ [.code<|KR L]) (b₀.at a₀ (.inRegion ops₀ (i₀::rest₀)::k₀)::cs)) w:=by
 lib_facts
 simp only[KR,waitFn,oK];apply jI;u_c bZ lr hK;u_cond M lr hK;u_reg lr hK;refine dC<|λ_ hr=>?_;replace hK:=lr hK hr;refine⟨U,_,FT .disable ay U U (by k_ne) U H.5 (Rh L) (Rf L) (Ri L)<|Rg L,40,?_⟩;apply jI
 walk_nrm
 u_c cH lr hK;u_c Cy lr hK;u_c Wq lr hK;exact dC λa r=>⟨_,U,ay,ay,lr hK r⟩
def ajY{i₀}{Fin:bK->aq->Prop}(H:WgLib P L)(a:∀w,WgLive L.30 Wg w->Fin (G (b₀.at (a₀.put ((ops₀[i₀]?).bind (·.dst))<|θ #[]) (.inRegion ops₀ rest₀::k₀)) cs) w)(g w)(h:Lx L Wg (b₀.at a₀ (.inRegion ops₀ (i₀::rest₀)::k₀)) cs g w):
  ∃m,eS P M (tb L.30 Wg O) (DZ Wg) (RP P L.30 Wg O Fin<|Lx L Wg (b₀.at a₀ (.inRegion ops₀ (i₀::rest₀)::k₀)) cs) m g w:=by
 lib_facts
 obtain⟨T,rfl,b,t0,hK⟩:=h;obtain⟨l,o,D,v3,v4,v5,v6,v7,v8,v9,p,q,s,t,u,x,z,A,B,C,E,J,K,N,Q,R,V,W,X,af,ak,an,aC,aD,aE,aH,aJ,aK,aL,aN,aS,aT,aW,aX,bg,bh,bk,bl,bn,bp,bt,bu,bw,bz,bA,bB,bC,bD,bE,bG,bJ,bL,bN,bO,bP,bQ,bR,bS,bT,bW,b7,b8,b9,cg,cj,ck,cm,cq,cr,cu,cw,cx,cz,cA,rfl⟩:=array84 T b;simp at t0;subst t0;refine⟨60,?_⟩;simp only[L7,KR,waitFn,oK];apply jI;u_c Cy lr hK;u_c bZ lr hK;u_reg lr hK;u_op lr hK;u_op lr hK;u_op lr hK;u_call H.13 (nm_uLoad L) uLoadFn lr hK;u_c bZ lr hK;u_reg lr hK;u_op lr hK;u_c cH lr hK;u_c bZ lr hK;u_reg lr hK;u_op lr hK;u_op lr hK;u_op lr hK;refine dC<|λ_ hr=>?_;replace hK:=lr hK hr;clear hr;refine⟨U,λv hv hw=>?_⟩;obtain rfl|hvp:=qF v
 ·replace hw:=show eh L.30 Wg _ 0 0 from by simpa using hw
  refine⟨_,Ra (v:=0) U U (by k_ne) U H.24 (Rl L) (Rj L) (Rm L) .u64 (Rk L) U hw.cellSt,λ_=>⟨60,?_⟩,λh=>absurd U h⟩;apply jI;walk_nrm;u_op lr hK;u_c cH lr hK;u_c oN lr hK;u_leave1 H.13 lr hK;u_op lr hK;u_c cH lr hK;u_c bZ lr hK;u_reg lr hK;u_op lr hK;u_op lr hK;u_op lr hK;u_op lr hK;u_c cH lr hK;u_c bZ lr hK;u_reg lr hK;u_op lr hK;u_op lr hK;u_op lr hK;u_op lr hK;u_c cH lr hK;u_c bZ lr hK;u_c bZ lr hK;u_reg lr hK;u_op lr hK;u_op lr hK;u_c cH lr hK;u_cond M lr hK;u_c bZ lr hK;u_cond M lr hK;u_c bZ lr hK;u_reg lr hK;refine dC<|λ_ hr=>?_;replace hK:=lr hK hr;refine⟨U,_,FT .enable ay U U (by k_ne) U H.6 (Li L) (Lg L) (Lk L)<|Lh L,40,?_⟩;apply jI;walk_nrm;u_c cH lr hK;u_reg lr hK;u_op lr hK;u_conv H.27 H.112 (WgLive.cell0 hK).choose_spec lr hK;refine dC<|λ_ hr=>?_;replace hK:=lr hK hr;refine⟨U,_,FU .acquire ay U U (by k_ne) U H.17 (x_acquire_n L) (x_acquire_b L) (x_acquire_x L) (x_acquire_f L) Uc,40,?_⟩;apply jI;walk_nrm;u_c cH lr hK;u_c bZ lr hK;u_c bZ lr hK;u_reg lr hK;u_op lr hK;u_op lr hK;u_op lr hK;u_op lr hK;u_op lr hK;u_op lr hK;u_op lr hK;u_op lr hK;u_skip lr hK;u_skip lr hK;u_op lr hK;u_c cH lr hK;u_cond aa lr hK;u_c nH lr hK;u_c oN lr hK;u_leave0 H.3 lr hK;exact dC λw₁ r=>a _ (lr hK r)
 let⟨S,hS⟩:∃S:Int,(v:Int) *KK=S:=⟨_,U⟩;let a1:S / 4294967296=(v:Int):=by rw[<-hS];simp only[KK];omega
 let b1:bits .and .u64 S 2147483648=0:=by rw[<-hS];have:=st_flag v 0 Y Y;simpa[KK]using this
 let c:bits .and .u64 S 2147483647=0:=by rw[<-hS];have:=st_waiters v 0 Y Y;simpa[KK]using this
 let d:l9.wrap (v:Int)=(v:Int):=by rw[n8];omega
 let w1:Qu.wrap (S+1)=S+1:=by rw[n9,<-hS];simp only[KK];omega
 let f:decide ((v:Int)<0)=aa:=lX Y;let i:decide (0<(v:Int))=M:=lY Y;let j:((v:Int)==0)=aa:=bV;let k:decide ((v:Int)=0)=aa:=lX Y;rw[hS]at hw;refine⟨_,Ra (v:=S) U U (by k_ne) U H.24 (Rl L) (Rj L) (Rm L) .u64 (Rk L) U hw.cellSt,λh0=>absurd h0 Y,λ_=>⟨100,?_⟩⟩;clear hw;apply jI
 walk_nrm
 u_op lr hK;u_c cH lr hK;u_c oN lr hK;u_leave1 H.13 lr hK;u_op lr hK;u_c cH lr hK;u_c bZ lr hK;u_reg lr hK;u_op lr hK;u_op lr hK;u_op lr hK;u_op lr hK;u_c cH lr hK;u_c bZ lr hK;u_reg lr hK;u_op lr hK;u_op lr hK;u_op lr hK;u_op lr hK;u_c cH lr hK;u_c bZ lr hK;u_c bZ lr hK;u_reg lr hK;u_op lr hK;u_op lr hK;u_c cH lr hK;u_cond aa lr hK;u_c nH lr hK;u_c bZ lr hK;u_reg lr hK;u_op lr hK;u_op lr hK;u_op lr hK;u_op lr hK;u_op lr hK;u_op lr hK;u_call H.19 (nm_uCas L) uCasFn lr hK;u_c bZ lr hK;u_reg lr hK;u_op lr hK;u_c cH lr hK;u_c bZ lr hK;u_reg lr hK;u_op lr hK;u_op lr hK;u_op lr hK;u_op lr hK;u_op lr hK;refine dC<|λ_ hr=>?_;replace hK:=lr hK hr;refine⟨U,λv' hv' hw=>⟨λe=>?_,λe=>?_⟩⟩
 ·subst e;rw[hS]at hw⊢;refine⟨_,(stepG_cas_hit (v:=S) (n:=S+1) U U (by k_ne) U H.26 (x_casU64_n L) (x_casU64_b L) (x_casU64_x L) .u64 (x_casU64_f L) U U U hw.cellSt<|hw.thaw 0).E n7,100,?_⟩;replace hK:WgLive L.30 Wg (iQ _ (stA Wg)<|ι .u64<|S+1):=⟨_,_,hw.setSt _⟩;refine UD (n:=50) (m:=49) (λ_=>⟨λ_ _=>U,aR _,id,U⟩) ?_;walk_nrm;u_op lr hK;u_c cH lr hK;u_c oN lr hK;u_leave1 H.19 lr hK;u_c cH lr hK;u_cond M lr hK;u_c bZ lr hK;u_c bZ lr hK;u_reg lr hK;u_op lr hK;u_op lr hK;u_op lr hK;u_op lr hK;u_c cH lr hK;u_cond M lr hK;u_reg lr hK;u_op lr hK;u_op lr hK;u_op lr hK;u_conv H.67 H.113 (WgLive.cell1 hK).choose_spec lr hK;refine dC<|λ_ hr=>?_;replace hK:=lr hK hr;refine⟨U,_,_,FU .write ay U U (by k_ne) U H.20 (x_raceWrite_n L) (x_raceWrite_b L) (x_raceWrite_x L) (x_raceWrite_f L) (ad:=F _ 1) (by simp[cn]<;>rfl),az U,?_⟩;apply jI;walk_nrm;u_c cH lr hK;u_c bZ lr hK;u_reg lr hK;u_op lr hK;u_c cH lr hK;u_c bZ lr hK;u_c bZ lr hK;u_reg lr hK;u_op lr hK;u_op lr hK;u_op lr hK;u_op lr hK;u_skip lr hK;u_op lr hK;u_c cH lr hK;u_cond aa lr hK;u_c nH lr hK;u_c bZ lr hK;u_reg lr hK;u_op lr hK;u_op lr hK;u_op lr hK;u_op lr hK;refine dC<|λ_ hr=>?_;replace hK:=lr hK hr;refine⟨U,U,λ⟨st,hw⟩=>stepG_semacquire_wait U U U H.21 (x_semacquire_n L) (x_semacquire_b L) (x_semacquire_x L) (x_semacquire_f L) (by simp[cn,smA]) hw.cellSm,λhf=>⟨_,(stepG_semacquire (n:=1) U U (by k_ne) U H.21 (x_semacquire_n L) (x_semacquire_b L) (x_semacquire_x L) (x_semacquire_f L) (by simp[cn,smA]) hf.cellSm (by k_ne)<|hf.thaw 1).E n7,60,?_⟩⟩;replace hK:WgLive L.30 Wg (iQ _ (smA Wg)<|ι .u32 0):=⟨_,_,hf.setSm 0⟩;apply jI;walk_nrm;u_c cH lr hK;u_c bZ lr hK;u_reg lr hK;u_op lr hK;u_op lr hK;u_op lr hK;u_call H.13 (nm_uLoad L) uLoadFn lr hK;u_c bZ lr hK;u_reg lr hK;u_op lr hK;u_c cH lr hK;u_c bZ lr hK;u_reg lr hK;u_op lr hK;u_op lr hK;u_op lr hK;refine dC<|λ_ hr=>?_;replace hK:=lr hK hr;refine⟨U,λhw=>⟨_,Ra (v:=0) U U (by k_ne) U H.24 (Rl L) (Rj L) (Rm L) .u64 (Rk L) U hw.cellSt,60,?_⟩⟩;apply jI;walk_nrm;u_op lr hK;u_c cH lr hK;u_c oN lr hK;u_leave1 H.13 lr hK;u_op lr hK;u_op lr hK;u_c cH lr hK;u_c bZ lr hK;u_cond M lr hK;u_c bZ lr hK;u_reg lr hK;refine dC<|λ_ hr=>?_;replace hK:=lr hK hr;refine⟨U,_,FT .enable ay U U (by k_ne) U H.6 (Li L) (Lg L) (Lk L)<|Lh L,40,?_⟩;apply jI;walk_nrm;u_c cH lr hK;u_reg lr hK;u_op lr hK;u_conv H.27 H.112 (WgLive.cell0 hK).choose_spec lr hK;refine dC<|λ_ hr=>?_;replace hK:=lr hK hr;refine⟨U,_,FU .acquire ay U U (by k_ne) U H.17 (x_acquire_n L) (x_acquire_b L) (x_acquire_x L) (x_acquire_f L) Uc,40,?_⟩;apply jI;walk_nrm;u_c cH lr hK;u_c bZ lr hK;u_c bZ lr hK;u_reg lr hK;u_op lr hK;u_c cH lr hK;u_cond aa lr hK;u_c nH lr hK;u_c oN lr hK;u_leave0 H.3 lr hK;exact dC λw₁ r=>a _ (lr hK r)
 refine⟨_,stepG_cas_miss (v:=(v':Int) *KK) (old:=S) (n:=S+1) U U (by k_ne) U H.26 (x_casU64_n L) (x_casU64_b L) (x_casU64_x L) .u64 (x_casU64_f L) U U U hw.cellSt (hw.thaw 0) (by rw[<-hS];simp only[KK];omega),40,?_⟩;apply jI
 walk_nrm
 u_op lr hK;u_c cH lr hK;u_c oN lr hK;u_leave1 H.19 lr hK;u_c cH lr hK;u_cond aa lr hK;u_c nH lr hK;u_c QX lr hK;u_c QY lr hK;exact dC λw₁ r=>⟨_,U,ay,ay,lr hK r⟩
def mh(b:Nat)(l:Loc):Prop:=(∃a:iL,l=.cell a/\a.1=b)\/l=.obj b
def mh.one{b'}(h:mh b l)(k:mh b' l):b=b':=by obtain⟨a,rfl,rfl⟩|rfl:=h<;>obtain⟨c,e,rfl⟩|e:=k<;>cases e<;>rfl
def mh.low(h:mh b l)(hl:l.low B):b<B:=by obtain⟨a,rfl,rfl⟩|rfl:=h<;>exact hl
def mh.memory(h:mh b l):l.isMemory=M:=by obtain⟨a,rfl,_⟩|rfl:=h<;>rfl
def mh.sh(h:mh b l)(c:ShN Wg l):b=Wg:=by obtain⟨a,rfl,rfl⟩:=c;obtain⟨d,e,rfl⟩|e:=h<;>cases e;rfl
def YF{x:uC}{t}(h:x.low B)(a:x.touch?=Z t):t.1.low B:=by
 cases x with
 |access e=>cases a;exact h
 |mark m=>cases m<;>first|(cases a;exact h)|cases a
 |_=>cases a
def Lu(Wg:Nat)(O:Nat->Prop)(k:Nat)(x:Touch):Prop:=(∃b,O b/\mh b x.1)\/x.1.isMemory=aa\/(ShN Wg x.1/\x.3≠.plain/\(x.3=.said->k=0))
def iR.cy(h:iR Wg O B a)(k){x}(g:a.touch?=Z x):Lu Wg O k x:=by obtain⟨b,e,c⟩|⟨r,e,c⟩|e|⟨b,e,f,d⟩:=h.1 x g;exact aA ⟨_,c,aA ⟨b,e,rfl⟩⟩;exact aA ⟨r,c,az e⟩;exact az<|aA C1;exact az (az ⟨⟨b,e,f⟩,by rw[d];simp,by rw[d];simp⟩)
def lN(Ow:Nat->Nat->Prop)(k:Nat)(O:Nat->Prop):Nat->Nat->Prop:=λa b=>(a=k/\O b)\/(a≠k/\Ow a b)
structure TC(Wg:Nat)(Ow:Nat->Nat->Prop)(B:Nat)(t:iN):Prop where
 quiet:Quiet (ShN Wg) t
 own:∀k b,Ow k b->∀l,mh b l->Perm t k l
 one:∀k a b,Ow k b->Ow a b->k=a
 wg:∀k,¬Ow k Wg
 lt:∀k b,Ow k b->b<B
 rA:Wg<B
 nr:∀said,¬Race said t
 low:∀op∈t,op.act.low B
variable{t:iN}{c:Nat}
def TC.fresh{Ow:Nat->Nat->Prop}(h:TC Wg Ow B t)(g:B<=b)(k)(hl:mh b l):Perm t k l:=λi a c e=>by let⟨z,d,f⟩:=touch_of c;have:=YF (h.8 z<|vF d) f;rw[e]at this;have:=hl.low this;omega
def TC.app{Ow:Nat->Nat->Prop}(h:TC Wg Ow B t){B'}(s:B<=B')(q:∀b,O b->Ow k b\/B<=b)(G:∀b,O b->b<B')(m:∀op∈u,op.g=k/\(∀x,op.4.touch?=Z x->Lu Wg O k x)/\op.4.low B'):TC Wg (lN Ow k O) B' (t++u):=by
 have A:¬O Wg:=λf=>(q _ f).e (h.4 k) λc=>by have:=h.6;omega
 let D:∀b,O b->∀l,mh b l->Perm t k l:=λb c l j=>(q b c).e (λf=>h.2 k b f l j) λv=>h.fresh v k j;refine⟨h.1.app λop hop x p o=>?_,λn b c l j=>?_,λN P b h1 d=>?_,λn E=>?_,λn b c=>?_,cS h.6 s,λK=>?_,λop hop=>?_⟩;rcases(m op hop).2.1 x p with⟨b,f,c⟩|hm|⟨_,h1,d⟩;cases A (c.sh o▸f);let⟨a,e,_⟩:=o;rw[e]at hm;cases hm;exact⟨h1,λe=>(m op hop).1.E (d e)⟩;obtain⟨rfl,c⟩|⟨w,c⟩:=c;exact(D b c l j).app λop hop _ _ _=>(m op hop).1;refine(h.2 n b c l j).app λop hop x p e=>?_;exfalso;rcases(m op hop).2.1 x p with⟨L,f,v⟩|hm|⟨o,_⟩;obtain rfl:=mh.one (e▸v) j;obtain h1|h1:=q _ f;exact w<|h.3 _ _ _ c h1;have:=h.5 _ _ c;omega;rw[e,j.memory]at hm;cases hm;obtain rfl:=mh.sh j (e▸o);exact h.4 _ c;let cm:∀n,n≠k->Ow n b->O b->False:=λn w h1 d=>(q b d).e (λz=>w (h.3 _ _ _ h1 z)) λz=>by have:=h.5 _ _ h1;omega
 obtain⟨rfl,h1⟩|⟨H,h1⟩:=h1<;>obtain⟨rfl,d⟩|⟨J,d⟩:=d;rfl;exact(cm _ J d h1).e;exact(cm _ H h1 d).e;exact h.3 _ _ _ h1 d;obtain⟨_,h1⟩|⟨_,h1⟩:=E;exact A h1;exact h.4 _ h1;obtain⟨_,h1⟩|⟨_,h1⟩:=c;exact G b h1;exact cS (h.5 _ _ h1) s;refine KW (g:=k) (h.7 K) (λop hop=>(m op hop).1) λi a C op hop x p r=>?_;rcases(m op hop).2.1 x p with⟨b,f,c⟩|hm|⟨o,h1,d⟩;exact D b f x.1 c i a C r.1;have:=r.2.1;rw[r.1,hm]at this;cases this;exact h.1.known o h1 d i a C r;obtain hop|hop:=vE.1 hop;exact E1 s<|h.8 op hop;exact(m op hop).2.2
def TC.fork{Ow:Nat->Nat->Prop}(h:TC Wg Ow B t)(N:c≠0){R}(r:∀b,A b->Ow 0 b)(hR:∀b,R b->Ow 0 b)(w:∀b,A b->¬R b)(hc:∀b,¬Ow c b){x lm}(n:x.g=0/\x.4=.go c)(hy:lm.g=c/\lm.4=.start)(h0:ik t 0=0)(hd:ik t c=0):
  TC Wg (lN (lN Ow 0 R) c A) B (t++#[x,lm]):=by
 let m:∀op∈#[x,lm],∀b,op.4.touch?=Z b->False:=by intro op hop b d;simp at hop;obtain rfl|rfl:=hop;rw[n.2]at d;cases d;rw[hy.2]at d;cases d
 let lw:∀{i:Nat} {a:Touch},touchAt (t++#[x,lm]) i=Z a->touchAt t i=Z a:=by intro i a j;let⟨z,E,v⟩:=touch_of j;obtain⟨_,G⟩|⟨_,H⟩:=ke E;rw[Cz G];exact v;exact(m z H a v).e
 have sub:∀k b,lN (lN Ow 0 R) c A k b->Ow k b\/(k=c/\Ow 0 b/\A b):=by rintro k b (⟨rfl,d⟩|⟨_,⟨rfl,d⟩|⟨_,d⟩⟩);exact az ⟨U,r b d,d⟩;exact aA<|hR b d;exact aA d
 refine⟨h.1.app λop hop b d _=>(m op hop b d).e,λk b d l s=>?_,λJ K b f q=>?_,λk C=>?_,λk b d=>?_,h.6,λL=>?_,λop hop=>?_⟩;obtain f|⟨rfl,f,_⟩:=sub k b d;exact(h.2 k b f l s).app λop hop b d _=>(m op hop b d).e;exact λi a j e=>fork_knows n hy h0 hd (h.2 0 b f l s i a (lw j) e)
 let mc:∀k,lN (lN Ow 0 R) c A k b->A b->k=c:=by rintro k (⟨rfl,_⟩|⟨O,⟨rfl,d⟩|⟨D,d⟩⟩) j;rfl;cases w b j d;cases D (h.3 _ _ _ d<|r b j)
 obtain o|⟨rfl,_,o⟩:=sub J b f<;>obtain p|⟨rfl,_,p⟩:=sub K b q;exact h.3 _ _ _ o p;exact mc _ f p;exact(mc _ q o).y;rfl;obtain f|⟨_,f,_⟩:=sub k Wg C<;>exact h.4 _ f;obtain f|⟨_,f,_⟩:=sub k b d<;>exact h.5 _ _ f;let e:t++#[x,lm]=(t++#[x])++#[lm]:=by apply Bx;simp
 rw[e]
 refine KW (g:=c) (KW (g:=0) (h.7 L) (λop hop=>by simp at hop;rw[hop];exact n.1)<|λi a _ op hop b d _=>(m op j4 b d).e)
  (λop hop=>by simp at hop;rw[hop];exact hy.1) (λi a _ op hop b d _=>(m op j4 b d).e)
 obtain hop|hop:=vE.1 hop;exact h.8 op hop;simp at hop;obtain rfl|rfl:=hop;rw[n.2];trivial;rw[hy.2];trivial
def TC.mute{Ow:Nat->Nat->Prop}(h:TC Wg Ow B t)(j:∀op∈u,op.4.touch?=aj)(hl:∀op∈u,op.4.low B)(d:∃k,∀op∈u,op.g=k):TC Wg Ow B (t++u):=by
 let⟨k,d⟩:=d;let e:∀op∈u,∀b,op.4.touch?=Z b->False:=λop hop b c=>by grind
 refine⟨h.1.app λop hop b c _=>(e op hop b c).e,λk b c l hl=>(h.2 k b c l hl).app λop hop b c _=>(e op hop b c).e,h.3,h.4,h.5,h.6,λf=>KW (g:=k) (h.7 f) d λi a _ op hop b c _=>(e op hop b c).e,λop hop=>?_⟩;obtain hop|hop:=vE.1 hop;exact h.8 op hop;exact hl op hop
structure jG(Wg:Nat)(t:iN)(k r:Nat):Prop where
 by_:RelBy (stA Wg) t k r
 aft:∀i,r<i->t.g? i=Z k->∀x,touchAt t i=Z x->ShN Wg x.1/\x.kind=.atomic
structure KT(kp:Loc->Prop)(Wg lw:Nat)(t:iN):Prop where
 known:∀i a g,touchAt t i=Z a->a.1.isMemory=M->t.g? i=Z g->g<lw->Knows t 0 i\/((kp a.1\/ShN Wg a.1)/\a.kind=.atomic)
 over:∀i g,t.g? i=Z g->g≠0->g<lw->t.counts i->∃j,t.g? j=Z 0/\Qk t i j
 norel:∀i,t.act? i≠Z (.mark (.release (stA Wg)))
def yF{g}(h:(t++u).g? i=Z g):(i<pB t/\t.g? i=Z g)\/(pB t<=i/\∃op∈u,(t++u)[i]? =Z op/\op.g=g):=by unfold wm at h;obtain⟨op,c,rfl⟩:=gJ.1 h;obtain⟨b,a⟩|⟨b,a⟩:=ke c;exact aA ⟨b,by unfold wm;rw[a];rfl⟩;exact az ⟨b,op,a,c,rfl⟩
def KT.app(h:KT kp Wg lw t)(o:∀op∈u,op.g=0\/lw<=op.g\/op.4.touch?=aj)(hr:∀op∈u,op.4≠.mark (.release<|stA Wg)):KT kp Wg lw (t++u):=by refine⟨λi a g f hm k l=>?_,λi g k n l m=>?_,λi c=>?_⟩;obtain⟨c,b⟩|⟨c,op,d,b,rfl⟩:=yF k;rw[touchAt_old c]at f;exact(h.1 i a g f hm b l).imp (λx=>x.app u) id;obtain h2|h2|h2:=o op d;have:=knows_own b;grind;omega;rw[Cz b,h2]at f;cases f;obtain⟨c,b⟩|⟨c,op,d,b,rfl⟩:=yF k;let⟨j,q,p⟩:=h.2 i g b n l ((counts_old c).1 m);refine⟨j,?_,hb_app u p⟩;let⟨z,s,v⟩:=gJ.1 q;unfold wm;grind;obtain h2|h2|h2:=o op d;cases n h2;omega;let⟨x,r,_⟩:=m;have:touchAt (t++u) i=Z x:=r;rw[Cz b,h2]at this;cases this;unfold zP at c;let⟨op,d,e⟩:=gJ.1 c;obtain⟨_,b⟩|⟨_,b⟩:=ke d;exact h.3 i (by unfold zP;rw[b];exact cG Z e);exact hr op b e
def jG.app{r}(h:jG Wg t k r)(d:∀i,pB t<=i->(t++u).g? i=Z k->¬(t++u).counts i)(m:∀op∈u,op.g=k->∀x,op.4.touch?=Z x->ShN Wg x.1/\x.3=.atomic):jG Wg (t++u) k r:=by refine⟨h.1.app d,λi f e x a=>?_⟩;obtain⟨j,b⟩|⟨_,op,l,b,c⟩:=yF e;rw[touchAt_old j]at a;exact h.2 i f b x a;rw[Cz b]at a;exact m op l c x a
def aeU{Ow q}(j:TC Wg Ow B t)(e:KT kp Wg lw t)(w:t.act? q=Z (.mark<|.acquire<|stA Wg))(n:t.g? q=Z 0)(s:t.heard q)(all:∀i g,t.g? i=Z g->lw<=g->∃r,jG Wg t g r/\r<q)(h0:ik t 0=0):
  NT (λl=>kp l\/ShN Wg l) B t:=by
 let h:∀{k r:Nat},jG Wg t k r->r<q->Qk t r q:=λhr c=>.single (az ⟨.marked c (az hr.1.1) w<|λk _ _=>e.3 k,hr.1.3,s⟩)
 let way:∀{i k r:Nat},t.g? i=Z k->jG Wg t k r->r<q->i<=r->Qk t i q:=λ{i k r} b hr c E=>by obtain d|hge:=lq i r;exact .E (.single<|aA ⟨d,k,b,hr.1.g⟩)<|h hr c;obtain rfl:i=r:=Y;exact h hr c
 refine⟨j.7,λi a f hm=>?_,λi g b v m=>?_,h0,j.8⟩
 let⟨z,C,_⟩:=touch_of f
 let b:t.g? i=Z z.g:=by unfold wm;rw[C];rfl
 obtain d|hge:=lq z.g lw;exact e.1 i a _ f hm b d
 let⟨r,hr,c⟩:=all i _ b hge
 obtain h1|h1:=lq r i
 let⟨o,p⟩:=hr.2 i h1 b a f
 exact az ⟨az o,p⟩
 let⟨D,x,A⟩:=gJ.1 n
 exact aA ⟨q,D,x,A,az<|way b hr c h1⟩;obtain d|hge:=lq g lw;exact e.2 i g b v d m
 let⟨r,hr,c⟩:=all i g b hge
 exact⟨q,n,way b hr c<|xW λd=>hr.1.4 i d b m⟩
def TC.start{c:Nat->Prop}(h:NT kp B t)(hc:∀b,c b->∀l,mh b l->¬kp l)(q:∀b,c b->b<B)(s:¬c Wg)(v:Wg<B)(r:∀op∈t,∀x,op.4.touch?=Z x->¬ShN Wg x.1):TC Wg (λk b=>k=0/\c b) B t:=by refine⟨λi op x o w f=>absurd f (r op (vF o) x w),?_,λk z b j m=>j.1.E m.1.y,λk p=>s p.2,λk b d=>q b d.2,v,h.1,h.5⟩;rintro k b ⟨rfl,d⟩ l g i a n e;subst e;exact(h.2 i a n g.memory).resolve_right λf=>hc b d _ g f.1
def KT.start(h:NT kp B t)(hr:∀i,t.act? i≠Z (.mark<|.release<|stA Wg)):KT kp Wg lw t:=⟨λi a _ b hm _ _=>(h.2 i a b hm).imp id λx=>⟨aA x.1,x.2⟩,λi g d e _ c=>h.3 i g d e c,hr⟩
section
variable {S:Type} (r e:S->S->Prop)
def Ax(n:Nat)(f' f:Nat->S):Prop:=∃i,i<n/\r (f' i) (f i)/\∀j,j<n->j≠i->e (f j) (f' j)
variable {r e}
def RH(he:∀s a x,e s a->r x a->r x s){s a}(h:Acc r s)(k:e s a):Acc r a:=.intro _ λx b=>h.inv (he s a x k b)
def Mj(he:∀s w x,e s w->r x w->r x s):∀(n:Nat) (f:Nat->S),(∀i,i<n->Acc r (f i))->Acc (Ax r e n) f
 |0,f,_=>.intro _ λf' ⟨i,l,_⟩=>absurd l (rR _)|n+1,f,d=>by
  let all:∀{f f':Nat->S} {m:Nat},Ax r e m f' f->(∀i,i<m->Acc r (f i))->∀i,i<m->Acc r (f' i):=λ{f f' m} ⟨i,_,k,c⟩ h j b=>by by_cases u:j=i;subst u;exact(h j b).inv k;exact RH he (h j b)<|c j b u
  let mc:∀a,Acc r a->∀f,Acc (Ax r e n) f->(∀i,i<n->Acc r (f i))->(∀x,r x (f n)->r x a)->Acc (Ax r e<|n+1) f:=by
   intro a z;induction z with
   |intro a _ C=>
    intro f d;induction d with
    |intro f _ D=>intro o v;refine .intro _ λf' A=>?_;let⟨i,l,k,c⟩:=A;by_cases t:i=n;subst t;let p:∀j,j<i->Acc r (f' j):=λj b=>RH he (o j b) (c j Y Y);exact C (f' i) (v _ k) f' (Mj he i f' p) p λx g=>g;let q:Ax r e n f' f:=⟨i,Y,k,λj b B=>c j Y B⟩;exact D f' q (all q o) λx g=>v x (he _ _ x (c n Y<|λe=>t e.y) g)
  exact mc (f n) (d n Y) f (Mj he n f λi l=>d i Y) (λi l=>d i Y) λx g=>g
end
inductive Ph|work|said|deaf|qh|sJ|lG|quit
def wE(ty:aY)(Wg:Nat):Ph->aq->Prop
 |.deaf,w=>∃v wt:Nat,wt<=1/\v<2147483647/\eh ty Wg w ((v+1) *KK+wt) 0|.qh,w=>eh ty Wg w 1 0|.sJ,w=>eh ty Wg w 1 0|.lG,w=>eh ty Wg w 0 0|_,_=>True
inductive gk(ty:aY)(Wg:Nat)(O:Nat->Prop)(w:aq):Ph->aq->aF uC->Ph->Prop
 |own {w':aq} {b:aF uC} (h:uI O w w') (k:∀a∈b,iR Wg (fE O w w') w'.1.size a):gk ty Wg O w .work w' b .work
 |rel:gk ty Wg O w .work w #[.mark (.releaseMerge (stA Wg))] .said
 |idle {p:Ph} (d:p≠.work) (c:p≠.quit):gk ty Wg O w p w #[] p
 |nY:gk ty Wg O w .said w #[.mark .disable] .deaf
 |add {v wt:Nat} (h:eh ty Wg w ((v+1) *KK+wt) 0) (f:wt<=1) (hv:v<2147483647) {q:Ph} (c:(v=0/\wt=1/\q=.qh)\/(¬(v=0/\wt=1)/\q=.quit)):gk ty Wg O w .deaf (w.setCell (stA Wg) (ι .u64 (v*KK+wt))) (#[rd (stA Wg),wr (stA Wg)].map .ofEvent) q
 |look:gk ty Wg O w .qh w (#[rd (stA Wg)].map .ofEvent) .sJ
 |zero:gk ty Wg O w .sJ (w.setCell (stA Wg) (ι .u64 0)) (#[wr (stA Wg)].map .ofEvent) .lG
 |post:gk ty Wg O w .lG (w.setCell (smA Wg) (ι .u32 1)) ((fk (smA Wg)).map .ofEvent) .quit
inductive WS(P:bM)(ty:aY)(Wg:Nat)(Q:(Nat->Prop)->aq->Prop):Ph->(Nat->Prop)->bK->aq->Prop
 |quit {O:Nat->Prop} {g:bK} {w:aq} {n:Nat} (h:QuitsD P n 1 g) (l:∀a,tb ty Wg O w a->Q O a):WS P ty Wg Q .quit O g w
 |step {p:Ph} {O:Nat->Prop} {g:bK} {w:aq} (j:p≠.quit) (i:g.status=.running) (q:aq->Ph)
   (h:∀a,tb ty Wg O w a->wE ty Wg p a->∃c b d,jl P aa g a c b d/\gk ty Wg O a p b d (q a))
   (m:∀a,tb ty Wg O w a->wE ty Wg p a->p=.lG->q a=.quit->FN P g=M/\∃c b f,bi P aa g a=.go c b f)
   (k:∀a c b d,tb ty Wg O w a->wE ty Wg p a->jl P aa g a c b d->WS P ty Wg Q (q a) (fE O a b) c b):WS P ty Wg Q p O g w
section
variable [an] [bJ] {P:bM} {ty:aY} {Wg:Nat} {Q:(Nat->Prop)->aq->Prop}
def rj{O' a v}(d:a.1=Wg)(c:¬O' Wg)(hl:WgLive ty Wg (w.setCell a v)):tb ty Wg O' w (w.setCell a v):=⟨λb f=>(zU w a v).5 b λe=>c j4,ay,λ_=>hl,T9⟩
def Pu{km g1 g2 w1 w2 es bW}(h:bi P km g w=.go g1 w1 es)(k:jl P km g w g2 w2 bW):g2=g1/\w2=w1/\bW=es.map .ofEvent:=let⟨a,b,c⟩:=Pt k (.go h);⟨a,b,c⟩
def akz{ky}(h:CJ P aa ty Wg ky O g w)(l:∀O g w,(∀a,tb ty Wg O w a->ky O g a)->WS P ty Wg Q .work O g w):WS P ty Wg Q .work O g w:=by
 induction h with
 |stop h=>exact l _ _ _ h
 |step k h _ n=>refine .step ay k (λ_=>.work) (λa r _=>?_) (λ_ _ _ e=>by cases e) λa c d b r _ m=>n a c d b r m;let⟨c,d,b,f,i,j⟩:=h a r;exact⟨c,d,b,f,.own i j⟩
def MF(O w):fE O w w=O:=by funext b;apply propext;constructor;rintro(h|⟨a,c⟩);exact h;omega;exact aA
def xM{p}(n:p≠.work)(i:p≠.quit)(hR:∀a b,tb ty Wg O a b->R a b){wb}(l:∀g w,tb ty Wg O wb w->(∀c,tb ty Wg O w c->ky g c)->WS P ty Wg Q p O g w):
  ∀(m:Nat) (g:bK) (w:aq),tb ty Wg O wb w->eS P aa R DC0 ky m g w->WS P ty Wg Q p O g w
 |0,g,w,f,h=>l g w f λc r=>h c (hR _ _ r)
 |m+1,g,w,f,h=>by
  obtain h|⟨q,h⟩:=h;·exact l g w f λc r=>h c (hR _ _ r)
  let one:∀c,tb ty Wg O w c->∃d,bi P aa g c=.go d c #[]/\eS P aa R DC0 ky m d c:=λc r=>by
   have:=h c (hR _ _ r);revert this;cases z:bi P aa g c with
   |go d t x=>rintro⟨⟨rfl,rfl⟩,k⟩;exact⟨d,U,k⟩
   |_=>exact λh=>h.e
  refine .step i q (λ_=>p) (λc r _=>?_) (λc _ _ v o=>absurd o i) λc d t u r _ s=>?_;let⟨d,j,_⟩:=one c r;exact⟨d,c,#[],by have:=jl.go j;simpa using this,.idle n i⟩;let⟨g2,j,k⟩:=one c r;let⟨rfl,rfl,rfl⟩:=Pu j s;rw[MF];exact xM n i hR l m _ _ (f.E r) k
end
section
variable [an] [bJ] [oM] {P:bM} {ty:aY} {Wg C n:Nat} {O:Nat->Prop} {Q:(Nat->Prop)->aq->Prop}
def qw(a:O C)(r:tb ty Wg O w w₁):RW ty Wg C n 0 i w w₁:=⟨λb e=>absurd e (rR _),r.3,λ⟨cs,c,d⟩=>⟨cs,(r.1 C a).E c,d⟩,by unfold gp;simp only[r.1 C a]⟩
def vg(Low i w):RW ty Wg C n Low i w w:=⟨λ_ _ _ _=>U,id,id,U⟩
def aci{w'}(h:pB w'.1=pB w.1):fE O w w'=O:=by funext b;apply propext;constructor;rintro(a|⟨a,c⟩);exact a;omega;exact aA
def adM:#[QD .disable]=#[mk .disable].map dW:=by simp[mk,dW]
def adO(Wg):#[QD<|.releaseMerge<|stA Wg]=#[mk<|.releaseMerge<|stA Wg].map dW:=by simp[mk,dW]
def tZ{p}(m:p≠.quit)(l:g.3=.running)(q:aq->Ph)(s:p=.lG->FN P g=M)(h:∀a,tb ty Wg O w a->wE ty Wg p a->∃c b d,bi P aa g a=.go c b d/\gk ty Wg O a p b (d.map .ofEvent) (q a)/\pB b.1=pB a.1/\WS P ty Wg Q (q a) O c b):WS P ty Wg Q p O g w:=by refine .step m l q (λa r e=>?_) (λa r e i _=>⟨s i,let⟨c,b,d,f,_⟩:=h a r e;⟨c,b,d,f⟩⟩) λa c b t r e o=>?_;let⟨c,b,d,f,j,_,_⟩:=h a r e;exact⟨c,b,_,.go f,j⟩;let⟨g2,v,d,f,_,k,u⟩:=h a r e;let⟨rfl,rfl,rfl⟩:=Pu f o;rwa [aci k]
def akx(i:¬O Wg){wb}(f:∀a,tb ty Wg O wb a->Q O a)(j:tb ty Wg O wb w)(h:∀a,tb ty Wg O w a->AtD4 P ty Wg g a):WS P ty Wg Q .lG O g w:=by let⟨k,hm,_⟩:=h w (.refl ..);refine tZ ay k (λ_=>.quit) (λ_=>hm) λa r e=>?_;let⟨b,c,q,d⟩:=(h a r).2.2 e;exact⟨b,_,_,c,.post,ay,.quit d λm l=>f m ((j.E r).E<|(rj U i ⟨_,_,e.setSm _⟩).E l)⟩
def akw(j:O C)(i:¬O Wg){wb}(k:∀a,tb ty Wg O wb a->Q O a)(f:tb ty Wg O wb w)(h:∀a,tb ty Wg O w a->AtD3 P ty Wg C n 0 1 g a):WS P ty Wg Q .sJ O g w:=by
 refine tZ ay (h w<|.refl ..).1 (λ_=>.lG) (λe=>by cases e) λa r e=>?_;let⟨b,c,m,d⟩:=(h a r).2 e
 exact⟨b,_,_,c,.zero,ay,xM ay ay (λ_ _ r=>qw j r) (λg w f h=>(by
      let⟨l,hm,_⟩:=h w (.refl ..);refine tZ ay l (λ_=>.quit) (λ_=>hm) λa r e=>?_;let⟨b,c,q,d⟩:=(h a r).2.2 e;exact⟨b,_,_,c,.post,ay,.quit d λp o=>k p ((f.E r).E<|(rj U i ⟨_,_,e.setSm _⟩).E o)⟩)) m b _ ((f.E r).E<|rj U i ⟨_,_,e.setSt _⟩) d⟩
def akT(i:O C)(j:¬O Wg){wb}(k:∀a,tb ty Wg O wb a->Q O a)(c:tb ty Wg O wb w)(h:∀a,tb ty Wg O w a->AtD2 P ty Wg C n 0 1 g a):WS P ty Wg Q .qh O g w:=by
 refine tZ ay (h w<|.refl ..).1 (λ_=>.sJ) (λe=>by cases e) λa r e=>?_;let⟨b,d,m,f⟩:=(h a r).2 e
 exact⟨b,_,_,d,.look,U,xM ay ay (λ_ _ r=>qw i r) (λg w c h=>(by
      refine tZ ay (h w<|.refl ..).1 (λ_=>.lG) (λe=>by cases e) λa r e=>?_;let⟨b,d,m,f⟩:=(h a r).2 e;exact⟨b,_,_,d,.zero,ay,xM ay ay (λ_ _ r=>qw i r) (λg w c h=>akx j k c h) m b _ ((c.E r).E<|rj U j ⟨_,_,e.setSt _⟩) f⟩)) m b _ (c.E r) f⟩
open Classical in
def akv(o:O C)(p:¬O Wg){wb}(t:∀a,tb ty Wg O wb a->Q O a)(i:tb ty Wg O wb w)(h:∀a,tb ty Wg O w a->AtD1 P ty Wg C n 0 1 g a):WS P ty Wg Q .deaf O g w:=by
 refine tZ ay (h w<|.refl ..).1 (λa=>if eh ty Wg a (KK+1) 0 then .qh else .quit) (λe=>by cases e) λa r e=>?_;let⟨v,wt,s,hv,b⟩:=e;let⟨f,j,k,u⟩:=(h a r).2 v wt s hv b;by_cases d:v=0/\wt=1;let c:eh ty Wg a (KK+1) 0:=by obtain⟨rfl,rfl⟩:=d;simpa using b
 refine⟨f,_,_,j,?_,ay,?_⟩;rw[aO c];exact .add b s hv<|aA ⟨d.1,d.2,U⟩;rw[aO c];let⟨m,l⟩:=k d
 exact xM ay ay (λ_ _ r=>qw o r) (λg w i h=>(by
       refine tZ ay (h w<|.refl ..).1 (λ_=>.sJ) (λe=>by cases e) λa r e=>?_;let⟨f,j,m,k⟩:=(h a r).2 e;exact⟨f,_,_,j,.look,U,xM ay ay (λ_ _ r=>qw o r) (λg w i h=>akw o p t i h) m f _ (i.E r) k⟩)) m f _ ((i.E r).E<|rj U p ⟨_,_,b.setSt _⟩) l
 let c:¬eh ty Wg a (KK+1) 0:=λc=>d (by have:=(b.unique c).1;simp only[KK]at this;omega);refine⟨f,_,_,j,?_,ay,?_⟩;rw[aI c];exact .add b s hv<|az ⟨d,U⟩;rw[aI c];let⟨q,l⟩:=u d;exact .quit l λz x=>t z ((i.E r).E<|(rj U p ⟨_,_,b.setSt _⟩).E x)
variable {val:aB}
def aeo:∀(a m:Nat) (g:bK) (w:aq),eS P aa (tb ty Wg O) DC0 (ZR2 P) a g w->eS P aa (RW ty Wg C n 0<|1-1) (DWs Wg (λ_ _=>False) (λ_ _=>False) C n 1) (AtR0 P ty Wg C n 0 1 val) m g w->False:=by
 intro a;induction a with
 |zero=>
  intro m g w h k;let⟨j,i,c⟩:=h w (.refl ..);cases m with
  |zero=>let⟨_,_,g2,b,_⟩:=k w (vg ..);rw[c]at b;cases b
  |succ m=>obtain k|⟨_,k⟩:=k;let⟨_,_,g2,b,_⟩:=k w (vg ..);rw[c]at b;cases b;have:=k w (vg ..);rw[c]at this;exact(this.1.2 (mk .disable) ay).2.1 U
 |succ a l=>
  intro m g w h k;obtain h|⟨j,h⟩:=h;let⟨j,i,c⟩:=h w (.refl ..);cases m with
  |zero=>let⟨_,_,g2,b,_⟩:=k w (vg ..);rw[c]at b;cases b
  |succ m=>obtain k|⟨_,k⟩:=k;let⟨_,_,g2,b,_⟩:=k w (vg ..);rw[c]at b;cases b;have:=k w (vg ..);rw[c]at this;exact(this.1.2 (mk .disable) ay).2.1 U
  have h0:=h w (.refl ..);cases e:bi P aa g w with
  |go i f o=>
   rw[e]at h0;obtain⟨⟨rfl,rfl⟩,b⟩:=h0;cases m with
   |zero=>let⟨_,_,g2,d,_⟩:=k f (vg ..);rw[e]at d;cases d
   |succ m=>obtain k|⟨_,k⟩:=k;let⟨_,_,g2,d,_⟩:=k f (vg ..);rw[e]at d;cases d;have:=k f (vg ..);rw[e]at this;exact l m i f b this.2
  |_=>rw[e]at h0;exact h0.e
def aky(d:O C)(t:¬O Wg){wb}(s:∀b,tb ty Wg O wb b->Q O b):∀(a m:Nat) (g:bK) (w:aq),tb ty Wg O wb w->eS P aa (tb ty Wg O) DC0 (Uy P ty Wg O) a g w->eS P aa (RW ty Wg C n 0<|1-1) (DWs Wg (λ_ _=>False) (λ_ _=>False) C n 1) (AtR0 P ty Wg C n 0 1 val) m g w->WS P ty Wg Q .work O g w:=by
 let stop:∀(m:Nat) (g:bK) (w:aq),tb ty Wg O wb w->(∀b,tb ty Wg O w b->Uy P ty Wg O g b)->eS P aa (RW ty Wg C n 0<|1-1) (DWs Wg (λ_ _=>False) (λ_ _=>False) C n 1) (AtR0 P ty Wg C n 0 1 val) m g w->WS P ty Wg Q .work O g w:=by
  intro m g w c h k;refine tZ ay (h w<|.refl ..).1 (λ_=>.said) (λe=>by cases e) λb r _=>?_;let⟨_,f,p,a,j⟩:=h b r;have hR:AtR0 P ty Wg C n 0 1 val g b:=by
   cases m with
   |zero=>exact k b<|qw d r
   |succ m=>obtain k|⟨_,k⟩:=k;exact k b<|qw d r;have:=k b (qw d r);rw[p]at this;exact(aeo a m f b j this.2).e
  let⟨_,_,g2,i,m2,q⟩:=hR
  exact⟨g2,_,_,i,(adO Wg)▸.rel,U,xM ay ay (λ_ _ r=>qw d r) (λg w c h=>(by
       refine tZ ay (h w<|.refl ..).1 (λ_=>.deaf) (λe=>by cases e) λb r _=>?_;let⟨_,f,p,m,j⟩:=h b r;exact⟨f,_,_,p,adM▸.nY,U,xM ay ay (λ_ _ r=>qw d r) (λg w c h=>akv d t s c h) m f _ (c.E r) j⟩)) m2 g2 _ (c.E r) q⟩
 intro a;induction a with
 |zero=>exact λm g w c h k=>stop m g w c h k
 |succ a x=>
  intro m g w c h k;obtain h|⟨v,h⟩:=h;·exact stop m g w c h k
  refine tZ ay v (λ_=>.work) (λe=>by cases e) λb r _=>?_;have h0:=h b r;cases l:bi P aa g b with
  |go f o z=>
   rw[l]at h0;obtain⟨⟨rfl,rfl⟩,j⟩:=h0;refine⟨f,o,#[],U,.own ⟨λ_ _ _=>U,aR _,U,U,U⟩ (λa u=>by simp at u),U,?_⟩;cases m with
   |zero=>let⟨_,_,g2,i,_⟩:=k o (qw d r);rw[l]at i;cases i
   |succ m=>obtain k|⟨_,k⟩:=k;let⟨_,_,g2,i,_⟩:=k o (qw d r);rw[l]at i;cases i;have:=k o (qw d r);rw[l]at this;exact x m f o (c.E r) j this.2
  |_=>rw[l]at h0;exact h0.e
end
section
variable [an] [bJ] {P:bM} {ty:aY} {Wg:Nat} {O:Nat->Prop} {Q:(Nat->Prop)->aq->Prop}
def gk.det{w' p q q' d}(h:gk ty Wg O w p w' d q)(k:gk ty Wg O w p w' d q'):q=q':=by
 generalize m:w'=t at k;generalize a:d=j at k;cases h with
 |own f c=>
  cases k with
  |own=>rfl
  |rel=>subst a;cases ((c _ ay).5<|stA Wg) U
  |idle b=>cases b U
 |rel=>
  cases k with
  |own f c=>subst a;cases ((c _ ay).5<|stA Wg) U
  |rel=>rfl
  |idle b=>cases b U
 |idle b g=>
  cases k with
  |own=>cases b U
  |rel=>cases b U
  |idle=>rfl
  |nY=>simp at a
  |add=>simp at a
  |look=>simp at a
  |zero=>simp at a
  |post=>simp[fk]at a
 |nY=>
  cases k with
  |idle=>simp at a
  |nY=>rfl
 |@add v wt f c l _ g=>
  cases k with
  |idle=>simp at a
  |@add s u i n o _ r=>have e:=(f.unique i).1;simp only[KK]at e;grind
 |look=>
  cases k with
  |idle=>simp at a
  |look=>rfl
 |zero=>
  cases k with
  |idle=>simp at a
  |zero=>rfl
 |post=>
  cases k with
  |idle=>simp[fk]at a
  |post=>rfl
structure oP where
 p:Ph
 O:Nat->Prop
 g:bK
 w:aq
 n:Nat
def su(P:bM)(ty:aY)(Wg:Nat)(a s:oP):Prop:=
 (s.p≠.quit/\∃b c,tb ty Wg s.O s.w b/\wE ty Wg s.p b/\jl P aa s.g b a.g a.w c/\gk ty Wg s.O b s.p a.w c a.p/\a.O=fE s.O b a.w)\/
 (s.p=.quit/\a.p=.quit/\a.n<s.n)
def CY(ty:aY)(Wg:Nat)(s a:oP):Prop:=a.p=s.p/\a.O=s.O/\a.g=s.g/\a.n=s.n/\tb ty Wg s.O s.w a.w
def akc(s i x:oP)(h:CY ty Wg s i)(k:su P ty Wg x i):su P ty Wg x s:=by let⟨e,l,m,n,o⟩:=h;obtain⟨a,p,j,b,c,f,d,g⟩|⟨a,b,c⟩:=k;rw[l]at b d g;rw[e]at a c d;rw[m]at f;exact aA ⟨a,p,j,o.E b,c,f,d,g⟩;exact az ⟨e▸a,b,n▸c⟩
def LA:∀(n:Nat) (s:oP),s.p=.quit->s.n<=n->Acc (su P ty Wg) s
 |0,s,h,d=>.intro _ λc a=>by obtain⟨b,_⟩|⟨_,_,f⟩:=a;cases b h;omega
 |n+1,s,h,d=>.intro _ λc a=>by obtain⟨b,_⟩|⟨_,e,f⟩:=a;cases b h;exact LA n c e Y
def akt{p}(h:WS P ty Wg Q p O g w):∀n,Acc (su P ty Wg) ⟨p,O,g,w,n⟩:=by
 induction h with
 |quit h B=>exact λn=>LA n _ U (aR _)
 |@step p O g w m A q h _ _ C=>refine λn=>.intro _ λs l=>?_;obtain⟨_,t,v,r,e,d,c,k⟩|⟨o,_⟩:=l;let⟨g2,H,x,i,j⟩:=h t r e;let⟨a,b,f⟩:=Pt d i;let⟨E,u,z,G,D⟩:=s;simp only at d c k a b;subst a b f;have:=c.det j;grind;cases m o
def akn{Q:Nat->(Nat->Prop)->aq->Prop}(n f)(h:∀i,i<n->(f i).p=.quit\/WS P ty Wg (Q i) (f i).p (f i).O (f i).g (f i).w):Acc (Ax (su P ty Wg) (CY ty Wg) n) f:=Mj akc n f λi a=>(h i a).e (λe=>LA _ _ e (aR _)) λe=>akt e _
end
inductive Mp|opn|wT|added|ready|waiting(b:Nat)|seen(v:Nat)|reg|woken|fin|wZ|back
def Ga(ty:aY)(Wg:Nat):Mp->aq->Prop
 |.wT,w=>∃v:Nat,v<2147483647/\eh ty Wg w (v*KK) 0|.waiting b,w=>∃v:Nat,v<=b/\v<2147483648/\eh ty Wg w (v*KK) 0|.seen b,w=>∃v:Nat,v<=b/\v<2147483648/\eh ty Wg w (v*KK) 0|.woken,w=>eh ty Wg w 0 0|_,_=>True
inductive fN(ty:aY)(Wg:Nat)(O:Nat->Prop)(w:aq):Mp->aq->aF uC->Mp->Prop
 |own {p:Mp} (f:p=.opn\/p=.ready) {w':aq} {c:aF uC} (h:uI O w w') (k:∀a∈c,iR Wg (fE O w w') w'.1.size a):fN ty Wg O w p w' c p
 |idle {p:Mp} {es:aF gv} (h:DZ Wg w w es):fN ty Wg O w p w (es.map .ofEvent) p
 |nY {q:Mp} (g:q=.wT\/∃b,q=.waiting b/\2147483646<=b):fN ty Wg O w .opn w (#[mk .disable].map .ofEvent) q
 |add {v:Nat} (h:eh ty Wg w (v*KK) 0) (hv:v<2147483647):fN ty Wg O w .wT (w.setCell (stA Wg) (ι .u64 ((v+1) *KK))) (#[rd (stA Wg),wr (stA Wg)].map .ofEvent) .added
 |AD:fN ty Wg O w .added w (#[mk .enable].map .ofEvent) .ready
 |zero {b:Nat} (h:eh ty Wg w 0 0):fN ty Wg O w (.waiting b) w (#[rd (stA Wg)].map .ofEvent) .fin
 |saw {b v:Nat} (h:eh ty Wg w (v*KK) 0) (e:v<=b) (h0:v≠0):fN ty Wg O w (.waiting b) w (#[rd (stA Wg)].map .ofEvent) (.seen v)
 |hit {v:Nat} (h:eh ty Wg w (v*KK) 0) (h0:v≠0):fN ty Wg O w (.seen v) (w.setCell (stA Wg) (ι .u64 (v*KK+1))) (#[rd (stA Wg),wr (stA Wg)].map .ofEvent) .reg
 |Nr {v d:Nat} (h:eh ty Wg w (d*KK) 0) (e:d<v):fN ty Wg O w (.seen v) w (#[rd (stA Wg)].map .ofEvent) (.waiting (v-1))
 |got (h:eh ty Wg w 0 0):fN ty Wg O w .woken w (#[rd (stA Wg)].map .ofEvent) .fin
 |Mg:fN ty Wg O w .fin w (#[mk .enable].map .ofEvent) .wZ
 |acq:fN ty Wg O w .wZ w (#[mk (.acquire (stA Wg))].map .ofEvent) .back
inductive MS(P:bM)(ty:aY)(Wg:Nat)(kw:Nat->(Nat->Prop)->bK->aq->Prop)(Q:Nat->(Nat->Prop)->aq->Prop)(lh:Nat):Nat->Mp->(Nat->Prop)->bK->aq->Prop
 |done {r:Nat} {O:Nat->Prop} {g:bK} {w:aq} (h:∀a,tb ty Wg O w a->kw r O g a):MS P ty Wg kw Q lh r .back O g w
 |step {r:Nat} {p:Mp} {O:Nat->Prop} {g:bK} {w:aq} (j:g.status=.running) (q:aq->Mp)
   (h:∀a,tb ty Wg O w a->Ga ty Wg p a->∃d f i,jl P M g a d f i/\fN ty Wg O a p f i (q a))
   (k:∀a d f i,tb ty Wg O w a->Ga ty Wg p a->jl P M g a d f i->MS P ty Wg kw Q lh r (q a) (fE O a f) d f):MS P ty Wg kw Q lh r p O g w
 |sem {r:Nat} {O:Nat->Prop} {g:bK} {w:aq} (j:g.status=.running) (s:g.5=aj)
   (o:∀a,tb ty Wg O w a->(∃st,eh ty Wg a st 0)->bi P M g a=.go {g with status:=.blocked} a #[])
   (h:∀a,tb ty Wg O w a->eh ty Wg a 0 1->∃d,bi P M g a=.go d (a.setCell (smA Wg) (ι .u32 0)) (fk (smA Wg)))
   (k:∀a d,tb ty Wg O w a->eh ty Wg a 0 1->bi P M g a=.go d (a.setCell (smA Wg) (ι .u32 0)) (fk (smA Wg))->MS P ty Wg kw Q lh r .woken O d (a.setCell (smA Wg) (ι .u32 0))):MS P ty Wg kw Q lh r .reg O g w
 |spawn {r:Nat} {O A R:Nat->Prop} {g:bK} {w:aq} (hr:r<lh) (j:g.status=.running) (l:∀b,A b->O b) (hR:∀b,R b->O b) (m:∀b,A b->¬R b) (n:∀b,O b->A b\/R b)
   (h:∀a,tb ty Wg O w a->∃d e,bi P M g a=.spawn d e a #[]/\e.status=.running)
   (c:∀a d e,tb ty Wg O w a->bi P M g a=.spawn d e a #[]->WS P ty Wg (Q r) .work A e a)
   (k:∀a d e,tb ty Wg O w a->bi P M g a=.spawn d e a #[]->MS P ty Wg kw Q lh (r+1) .opn R d a):MS P ty Wg kw Q lh r .ready O g w
section
variable [an] [bJ] {P:bM} {ty:aY} {Wg:Nat} {kw:Nat->(Nat->Prop)->bK->aq->Prop} {Q:Nat->(Nat->Prop)->aq->Prop} {lh:Nat} {O:Nat->Prop} {r:Nat}
def MS.rely{p}(h:MS P ty Wg kw Q lh r p O g w)(hr:tb ty Wg O w w₁):MS P ty Wg kw Q lh r p O g w₁:=by
 cases h with
 |done h=>exact .done λb a=>h b (hr.E a)
 |step e q h k=>exact .step e q (λb a=>h b (hr.E a)) λb d t i a=>k b d t i (hr.E a)
 |sem e o n h k=>exact .sem e o (λb a=>n b (hr.E a)) (λb a=>h b (hr.E a)) λb d a=>k b d (hr.E a)
 |spawn s e j hR l m h c k=>exact .spawn s e j hR l m (λb a=>h b (hr.E a)) (λb d f a=>c b d f (hr.E a)) λb d f a=>k b d f (hr.E a)
def yO{ky p}(k:p=.opn\/p=.ready)(h:CJ P M ty Wg ky O g w)(l:∀O g w,(∀a,tb ty Wg O w a->ky O g a)->MS P ty Wg kw Q lh r p O g w):MS P ty Wg kw Q lh r p O g w:=by
 induction h with
 |stop h=>exact l _ _ _ h
 |step j h _ n=>refine .step j (λ_=>p) (λa r _=>?_) λa c d b r _ m=>n a c d b r m;let⟨c,d,b,e,f,i⟩:=h a r;exact⟨c,d,b,e,.own k f i⟩
def GZ{w'}(h:pB w'.1=pB w.1):fE O w w'=O:=by funext b;apply propext;constructor;rintro(a|⟨a,c⟩);exact a;omega;exact aA
def tR{p}(k:g.3=.running)(q:aq->Mp)(h:∀a,tb ty Wg O w a->Ga ty Wg p a->∃c b d,bi P M g a=.go c b d/\fN ty Wg O a p b (d.map .ofEvent) (q a)/\pB b.1=pB a.1/\MS P ty Wg kw Q lh r (q a) O c b):MS P ty Wg kw Q lh r p O g w:=by refine .step k q (λa r e=>?_) λa c b m r e l=>?_;let⟨c,b,d,f,i,_,_⟩:=h a r e;exact⟨c,b,_,.go f,i⟩;let⟨g2,o,d,f,_,j,n⟩:=h a r e;let⟨rfl,rfl,rfl⟩:=Pu f l;rwa [GZ j]
def lH{J:aq->Prop}(e:∀w a,tb ty Wg O w a->J w->J a){p}(c:∀g w,J w->(∀a,tb ty Wg O w a->ky g a)->MS P ty Wg kw Q lh r p O g w):
  ∀(m:Nat) (g:bK) (w:aq),J w->eS P M (tb ty Wg O) (DZ Wg) ky m g w->MS P ty Wg kw Q lh r p O g w
 |0,g,w,b,h=>c g w b h
 |m+1,g,w,b,h=>by
  obtain h|⟨k,h⟩:=h;·exact c g w b h
  refine tR k (λ_=>p) λa r _=>?_;have:=h a r;revert this;cases l:bi P M g a with
  |go d n i=>rintro⟨f,j⟩;obtain rfl:=f.1;exact⟨d,_,i,U,.idle f,U,lH e c m d _ (e _ _ r b) j⟩
  |_=>exact λh=>h.e
def adU{J:aq->Prop}(c:∀w a,tb ty Wg O w a->J w->J a)(k:∀w v,WgLive ty Wg (w.setCell (stA Wg) v)->J w->J (w.setCell (stA Wg) v)){Fin}(hF:∀g w,J w->(∀a,tb ty Wg O w a->Fin g a)->MS P ty Wg kw Q lh r .ready O g w)(d:J w)(h:eS P M (tb ty Wg O) (DZ Wg) (ZA1 P ty Wg O Fin) m g w):MS P ty Wg kw Q lh r .opn O g w:=by
 let n:∀g w,J w->(∀a,tb ty Wg O w a->ZA3 P ty Wg O Fin g a)->MS P ty Wg kw Q lh r .added O g w:=λg w d h=>by refine tR (h w<|.refl ..).1 (λ_=>.ready) λa r _=>?_;let⟨_,b,f,m,i⟩:=h a r;exact⟨b,_,_,f,.AD,U,lH c hF m b _ (c _ _ r d) i⟩
 let l:∀g w,J w->(∀a,tb ty Wg O w a->ZA2 P ty Wg O Fin g a)->MS P ty Wg kw Q lh r .wT O g w:=λg w d h=>by refine tR (h w<|.refl ..).1 (λ_=>.added) λa r e=>?_;let⟨v,hv,j⟩:=e;let⟨b,f,m,i⟩:=(h a r).2 v hv j;exact⟨b,_,_,f,.add j hv,ay,lH c n m b _ (k _ _ ⟨_,_,j.setSt _⟩<|c _ _ r d) i⟩
 refine lH c (λg w d h=>tR (h w<|.refl ..).1 (λ_=>.wT) λa r _=>?_) m g w d h;let⟨_,b,f,m,i⟩:=h a r;exact⟨b,_,_,f,.nY<|aA U,U,lH c l m b _ (c _ _ r d) i⟩
open Classical in
def adX{J:aq->Prop}(i:∀w c,tb ty Wg O w c->J w->J c)(C:∀w v,WgLive ty Wg (w.setCell (stA Wg) v)->J w->J (w.setCell (stA Wg) v))(D:∀w v,WgLive ty Wg (w.setCell (smA Wg) v)->J w->J (w.setCell (smA Wg) v)){Fin p:bK->aq->Prop}(hF:∀g w,J w->(∀c,tb ty Wg O w c->Fin g c)->MS P ty Wg kw Q lh r .back O g w)
  (round:∀g w,p g w->∃m,eS P M (tb ty Wg O) (DZ Wg) (RP P ty Wg O Fin p) m g w):∀(b:Nat) (g:bK) (w:aq),J w->p g w->MS P ty Wg kw Q lh r (.waiting b) O g w:=by
 let R:∀g w,J w->(∀c,tb ty Wg O w c->ZAq P ty Wg O Fin g c)->MS P ty Wg kw Q lh r .wZ O g w:=λg w j h=>by refine tR (h w<|.refl ..).1 (λ_=>.back) λc r _=>?_;let⟨_,d,f,m,k⟩:=h c r;exact⟨d,_,_,f,.acq,U,lH i hF m d _ (i _ _ r j) k⟩
 let A:∀g w,J w->(∀c,tb ty Wg O w c->UB P ty Wg O Fin g c)->MS P ty Wg kw Q lh r .fin O g w:=λg w j h=>by refine tR (h w<|.refl ..).1 (λ_=>.wZ) λc r _=>?_;let⟨_,d,f,m,k⟩:=h c r;exact⟨d,_,_,f,.Mg,U,lH i R m d _ (i _ _ r j) k⟩
 let N:∀g w,J w->(∀c,tb ty Wg O w c->ZW4 P ty Wg O Fin g c)->MS P ty Wg kw Q lh r .woken O g w:=λg w j h=>by refine tR (h w<|.refl ..).1 (λ_=>.fin) λc r e=>?_;let⟨d,f,m,k⟩:=(h c r).2 e;exact⟨d,_,_,f,.got e,U,lH i A m d _ (i _ _ r j) k⟩
 let L:∀g w,J w->(∀c,tb ty Wg O w c->ZW3 P ty Wg O Fin g c)->MS P ty Wg kw Q lh r .reg O g w:=λg w j h=>by refine .sem (h w<|.refl ..).1 (h w<|.refl ..).2.1 (λc r e=>(h c r).2.2.1 e) (λc r e=>?_) λc d r e E=>?_;let⟨d,f,_⟩:=(h c r).2.2.2 e;exact⟨d,f⟩;let⟨g2,f,m,k⟩:=(h c r).2.2.2 e;rw[E]at f;cases f;exact lH i N m d _ (D _ _ ⟨_,_,e.setSm _⟩<|i _ _ r j) k
 intro b;induction b using Ky with
 |ind b G=>
  let K:∀v,v≠0->v<=b->∀g w,J w->(∀c,tb ty Wg O w c->ZW2 P ty Wg O Fin p v g c)->MS P ty Wg kw Q lh r (.seen v) O g w:=λv h0 S g w j h=>by refine tR (h w<|.refl ..).1 (λc=>if eh ty Wg c (v*KK) 0 then .reg else .waiting (v-1)) λc r e=>?_;let⟨o,s,t,l⟩:=e;let⟨u,x⟩:=(h c r).2 o t l;by_cases hv:o=v;subst hv;let⟨d,f,m,k⟩:=u U;refine⟨d,_,_,f,?_,ay,?_⟩;rw[aO l];exact .hit l h0;rw[aO l];exact lH i L m d _ (C _ _ ⟨_,_,l.setSt _⟩<|i _ _ r j) k;let q:¬eh ty Wg c (v*KK) 0:=λn=>hv (by have:=(l.unique n).1;simp only[KK]at this;omega);let⟨d,f,m,k⟩:=x hv;refine⟨d,_,_,f,?_,U,?_⟩;rw[aI q];exact .Nr l Y;rw[aI q];exact lH i (λg w j h=>G (v-1) Y g w j (h w<|.refl ..)) m d _ (i _ _ r j) k
  let H:∀g w,J w->(∀c,tb ty Wg O w c->RP P ty Wg O Fin p g c)->MS P ty Wg kw Q lh r (.waiting b) O g w:=λg w j h=>by
   let B:∀{c:aq} {v o:Nat},eh ty Wg c (v*KK) 0->eh ty Wg c (o*KK) 0->v=o:=λa b=>by have:=(a.unique b).1;simp only[KK]at this;omega
   refine tR (h w<|.refl ..).1 (λc=>if n:∃v:Nat,v≠0/\eh ty Wg c (v*KK) 0 then .seen n.choose else .fin) λc r e=>?_;let⟨v,s,t,l⟩:=e;let⟨d,f,u,x⟩:=(h c r).2 v t l;by_cases hv:v=0;let q:¬∃v:Nat,v≠0/\eh ty Wg c (v*KK) 0:=λ⟨o,h0,f⟩=>h0 ((B f l).E hv);let⟨m,k⟩:=u hv;refine⟨d,_,_,f,?_,U,?_⟩;rw[dif_neg q];exact .zero (by subst hv;simpa using l);rw[dif_neg q];exact lH i A m d _ (i _ _ r j) k;let n:∃v:Nat,v≠0/\eh ty Wg c (v*KK) 0:=⟨v,hv,l⟩;let z:n.choose=v:=B n.choose_spec.2 l;let⟨m,k⟩:=x hv;refine⟨d,_,_,f,?_,U,?_⟩;rw[wy n,z];exact .saw l s hv;rw[wy n,z];exact lH i (K v hv s) m d _ (i _ _ r j) k
  intro g w j n;let⟨m,hm⟩:=round g w n;exact lH i H m g w j hm
def adY{J:aq->Prop}(d:∀w a,tb ty Wg O w a->J w->J a)(j:∀w v,WgLive ty Wg (w.setCell (stA Wg) v)->J w->J (w.setCell (stA Wg) v))(k:∀w v,WgLive ty Wg (w.setCell (smA Wg) v)->J w->J (w.setCell (smA Wg) v)){Fin Head}(l:2147483646<=b)(hF:∀g w,J w->(∀a,tb ty Wg O w a->Fin g a)->MS P ty Wg kw Q lh r .back O g w)(round:∀g w,Head g w->∃m,eS P M (tb ty Wg O) (DZ Wg) (RP P ty Wg O Fin Head) m g w)(c:J w)(h:eS P M (tb ty Wg O) (DZ Wg) (ZDi P ty Wg O Head) m g w):MS P ty Wg kw Q lh r .opn O g w:=by refine lH d (λg w c h=>tR (h w<|.refl ..).1 (λ_=>.waiting b) λa r _=>?_) m g w c h;let⟨_,e,f,m,i⟩:=h a r;exact⟨e,_,_,f,.nY<|az ⟨b,U,l⟩,U,lH d (λg w c h=>adX d j k hF round b g w c (h w<|.refl ..)) m e _ (d _ _ r c) i⟩
end
section
variable [an] [bJ] {ty:aY} {Wg:Nat} {O O':Nat->Prop}
def Tf{w'}(h:uI O w w')(hd:∀b,O' b->¬O b)(d:∀b,O' b->b<pB w.1)(c:¬O Wg)(e:Wg<pB w.1):tb ty Wg O' w w':=⟨λb a=>h.1 b (d b a) (hd b a),h.2,λ⟨st,sm,k⟩=>⟨st,sm,(h.1 Wg e c).E k⟩,h.3⟩
def gk.IC{w' p q bW}(h:gk ty Wg O w p w' bW q)(he:wE ty Wg p w)(hd:∀b,O' b->¬O b)(d:∀b,O' b->b<pB w.1)(c:¬O Wg)(a:¬O' Wg)(e:Wg<pB w.1):tb ty Wg O' w w':=by
 cases h with
 |own h=>exact Tf h hd d c e
 |rel=>exact .refl ..
 |idle=>exact .refl ..
 |nY=>exact .refl ..
 |add h=>exact rj U a ⟨_,_,h.setSt _⟩
 |look=>exact .refl ..
 |zero=>exact rj U a ⟨_,_,eh.setSt (show eh ty Wg w 1 0 from he) _⟩
 |post=>exact rj U a ⟨_,_,eh.setSm (show eh ty Wg w 0 0 from he) _⟩
def fN.IC{w' p q bW}(h:fN ty Wg O w p w' bW q)(hd:∀b,O' b->¬O b)(d:∀b,O' b->b<pB w.1)(c:¬O Wg)(a:¬O' Wg)(e:Wg<pB w.1):tb ty Wg O' w w':=by
 cases h with
 |own _ h=>exact Tf h hd d c e
 |add h=>exact rj U a ⟨_,_,h.setSt _⟩
 |hit h=>exact rj U a ⟨_,_,h.setSt _⟩
 |_=>exact .refl ..
def afK(a):(dW<|rd a).touch?=Z ⟨.cell a,aa,.atomic⟩:=U
def akq(a):(dW<|wr a).touch?=Z ⟨.cell a,M,.atomic⟩:=U
structure mO(Wg:Nat)(a:uC):Prop where
 ss:∀x,a.touch?=Z x->ShN Wg x.1/\x.kind=.atomic
 low:∀B,Wg<B->a.low B
 rel:a≠.mark (.release (stA Wg))
def xj(Wg a)(b:a.1=Wg):mO Wg (.ofEvent<|rd a):=⟨λx c=>by rw[afK]at c;cases c;exact⟨⟨a,U,b⟩,U⟩,λB d=>by show a.1<B;rw[b];exact d,λe=>A6⟩
def Ia(Wg a)(b:a.1=Wg):mO Wg (.ofEvent<|wr a):=⟨λx c=>by rw[akq]at c;cases c;exact⟨⟨a,U,b⟩,U⟩,λB d=>by show a.1<B;rw[b];exact d,λe=>A6⟩
def Hy(Wg):mO Wg (.mark .disable):=⟨λx a=>M3,λ_ _=>trivial,λe=>A6⟩
def Ng(Wg):mO Wg (.mark .enable):=⟨λx a=>M3,λ_ _=>trivial,λe=>A6⟩
def Nh(Wg):∀a∈(fk<|smA Wg).map dW,mO Wg a:=λa b=>by simp only[fk,sW,nC,xR,Qx,jh,Fo,or_false]at b;obtain rfl|rfl|rfl|rfl:=b;exact Hy Wg;exact xj Wg (smA Wg) rfl;exact Ia Wg (smA Wg) rfl;exact Ng Wg
def Hz(Wg):∀a∈#[rd<|stA Wg,wr<|stA Wg].map dW,mO Wg a:=λa b=>by simp at b;obtain rfl|rfl:=b;exact xj Wg (stA Wg) rfl;exact Ia Wg (stA Wg) rfl
def DI{Wg e}(h:mO Wg (.ofEvent e)):∀a∈#[e].map dW,mO Wg a:=λa b=>by grind
def mO.cy{Wg}(h:mO Wg a)(O k){x}(b:a.touch?=Z x):Lu Wg O k x:=az (az ⟨(h.1 x b).1,by rw[(h.1 x b).2];simp,by rw[(h.1 x b).2];simp⟩)
def gk.lists{w' p q c}(h:gk ty Wg O w p w' c q):(p=.work/\q=.work/\∀a∈c,iR Wg (fE O w w') w'.1.size a)\/(q≠.work/\pB w'.1=pB w.1/\∀a∈c,mO Wg a):=by
 cases h with
 |own _ k=>exact aA ⟨U,U,k⟩
 |rel=>exact az ⟨ay,U,λa b=>by simp at b;rw[b];exact⟨λx i=>(by cases i),λB d=>d,λe=>A6⟩⟩
 |idle f=>exact az ⟨f,U,λa b=>by simp at b⟩
 |nY=>exact az ⟨ay,U,λa b=>by simp at b;rw[b];exact Hy Wg⟩
 |add _ _ _ g=>exact az ⟨by obtain⟨_,_,rfl⟩|⟨_,rfl⟩:=g<;>simp,ay,Hz Wg⟩
 |look=>exact az ⟨ay,U,DI<|xj Wg _ U⟩
 |zero=>exact az ⟨ay,ay,DI<|Ia Wg _ U⟩
 |post=>exact az ⟨ay,ay,Nh Wg⟩
def gk.tc{w' p q bW}(h:gk ty Wg O w p w' bW q){Ow jt}(j:Ow k=O)(f:TC Wg Ow w.1.size t)(n:jt.map (·.act)=bW)(m:∀op∈jt,op.g=k):
  TC Wg (lN Ow k<|fE O w w') w'.1.size (t++jt):=by
 let d:∀op∈jt,op.4∈bW:=λop c=>by grind
 let i:pB w.1<=pB w'.1:=by
  obtain _|⟨_,e,_⟩:=h.lists;cases h with
  |own h=>exact h.2
  |idle o=>exact aR _
  |_=>simp
  omega
 refine f.app i (λb hb=>?_) (λb hb=>?_) λop c=>⟨m op c,λx l=>?_,?_⟩;obtain hb|hb:=hb;exact aA (j▸hb);exact az hb.1;obtain hb|hb:=hb;exact cS (f.5 k b (j▸hb)) i;exact hb.2;obtain⟨_,_,a⟩|⟨_,_,a⟩:=h.lists;exact(a _<|d op c).cy k l;exact(a _<|d op c).cy _ k l;obtain⟨_,_,a⟩|⟨_,_,a⟩:=h.lists;exact(a _<|d op c).3;exact(a _<|d op c).2 _<|cS f.6 i
end
section
variable [an] [bJ] {ty:aY} {Wg:Nat} {O:Nat->Prop}
structure Ac(Wg:Nat)(a:uC):Prop where
 ss:∀x,a.touch?=Z x->ShN Wg x.1/\x.kind≠.plain
 low:∀B,Wg<B->a.low B
 rel:a≠.mark (.release (stA Wg))
def mO.Hw(h:mO Wg a):Ac Wg a:=⟨λx b=>⟨(h.1 x b).1,by rw[(h.1 x b).2];simp⟩,h.2,h.3⟩
def adi{w' es}(h:DZ Wg w w' es):∀a∈es.map dW,Ac Wg a:=λa d=>by obtain⟨e,f,rfl⟩:=rC.1 d;obtain rfl|rfl:=h.2 e f;exact⟨λx c=>M6,λB b=>b,λe=>A6⟩;exact⟨λx c=>M6,λB b=>b,λe=>A6⟩
def fN.lists{w' p q c}(h:fN ty Wg O w p w' c q):(∀a∈c,iR Wg (fE O w w') w'.1.size a)\/(pB w'.1=pB w.1/\∀a∈c,Ac Wg a):=by
 let one:∀{e:gv},mO Wg (.ofEvent e)->∀a∈#[e].map dW,Ac Wg a:=λh a b=>(DI h a b).Hw;cases h with
 |own _ _ k=>exact aA k
 |idle h=>exact az ⟨U,adi h⟩
 |nY=>exact az ⟨U,one<|Hy Wg⟩
 |add=>exact az ⟨ay,λa b=>(Hz Wg a b).Hw⟩
 |AD=>exact az ⟨U,one<|Ng Wg⟩
 |zero=>exact az ⟨U,one<|xj Wg _ U⟩
 |saw=>exact az ⟨U,one<|xj Wg _ U⟩
 |hit=>exact az ⟨ay,λa b=>(Hz Wg a b).Hw⟩
 |Nr=>exact az ⟨U,one<|xj Wg _ U⟩
 |got=>exact az ⟨U,one<|xj Wg _ U⟩
 |Mg=>exact az ⟨U,one<|Ng Wg⟩
 |acq=>exact az ⟨U,one (⟨λx f=>(by cases f),λB d=>d,λe=>A6⟩)⟩
def fN.size{w' p q bW}(h:fN ty Wg O w p w' bW q):pB w.1<=pB w'.1:=by
 cases h with
 |own _ h=>exact h.2
 |add=>simp
 |hit=>simp
 |_=>exact aR _
def YA{w' f}(hl:(∀a∈f,iR Wg (fE O w w') w'.1.size a)\/(pB w'.1=pB w.1/\∀a∈f,Ac Wg a))(i:pB w.1<=pB w'.1){Ow jt}(k:Ow 0=O)(h:TC Wg Ow w.1.size t)(m:jt.map (·.act)=f)(l:∀op∈jt,op.g=0):
  TC Wg (lN Ow 0<|fE O w w') w'.1.size (t++jt):=by
 let e:∀op∈jt,op.4∈f:=λop d=>by grind
 refine h.app i (λb hb=>?_) (λb hb=>?_) λop d=>⟨l op d,λx j=>?_,?_⟩;obtain hb|hb:=hb;exact aA (k▸hb);exact az hb.1;obtain hb|hb:=hb;exact cS (h.5 0 b (k▸hb)) i;exact hb.2;obtain c|⟨_,c⟩:=hl;exact(c _<|e op d).cy 0 j;exact az<|az ⟨((c _<|e op d).1 x j).1,((c _<|e op d).1 x j).2,λ_=>U⟩;obtain c|⟨_,c⟩:=hl;exact(c _<|e op d).3;exact(c _<|e op d).2 _<|cS h.6 i
def fN.tc{w' p q bW}(h:fN ty Wg O w p w' bW q){Ow jt}(a:Ow 0=O)(b:TC Wg Ow w.1.size t)(d:jt.map (·.act)=bW)(c:∀op∈jt,op.g=0):
  TC Wg (lN Ow 0<|fE O w w') w'.1.size (t++jt):=YA h.lists h.size a b d c
def fN.kt{w' p q bW}(h:fN ty Wg O w p w' bW q){jt}(d:KT kp Wg lw t)(f:jt.map (·.act)=bW)(e:∀op∈jt,op.g=0):KT kp Wg lw (t++jt):=by
 let c:∀op∈jt,op.4∈bW:=λop a=>by grind
 refine d.app (λop a=>aA (e op a)) λop a=>?_;obtain b|⟨_,b⟩:=h.lists;exact(b _<|c op a).4 _;exact(b _<|c op a).3
def gk.kt{w' p q bW}(h:gk ty Wg O w p w' bW q){jt}(d:KT kp Wg lw t)(f:jt.map (·.act)=bW)(e:∀op∈jt,op.g=k)(a:lw<=k):KT kp Wg lw (t++jt):=by
 let c:∀op∈jt,op.4∈bW:=λop b=>by grind
 refine d.app (λop b=>az (aA j4)) λop b=>?_;obtain⟨_,_,a⟩|⟨_,_,a⟩:=h.lists;exact(a _<|c op b).4 _;exact(a _<|c op b).3
end
def Ph.pd:Ph->Nat
 |.work|.said|.deaf=>1
 |_=>0
def Ph.lB:Ph->Nat
 |.work|.said=>0
 |_=>1
def Ph.early:Ph->Prop
 |.work|.said|.deaf|.quit=>True
 |_=>False
def Ph.last:Ph->Prop
 |.qh|.sJ|.lG=>True
 |_=>False
def Mp.pend:Mp->Nat
 |.added|.ready=>1
 |_=>0
def Mp.lB:Mp->Nat
 |.opn|.ready|.wZ|.back=>0
 |_=>1
def Mp.open_:Mp->Prop
 |.opn|.wT|.added|.ready|.waiting _|.seen _=>True
 |_=>False
def Mp.over:Mp->Prop
 |.woken|.fin|.wZ|.back=>True
 |_=>False
inductive Mode(m:Nat)(f:Nat->Ph):Mp->Int->Int->Prop
 |opn {p:Mp} (a:p.open_) (h:∀i,i<m->(f i).early) (j:∀b,p=.waiting b->fa m (λi=>(f i).pd)<=b) (e:∀b,p=.seen b->fa m (λi=>(f i).pd)<=b/\b≠0):
   Mode m f p (((fa m (λi=>(f i).pd)+p.pend:Nat):Int) *KK) 0
 |reg (h:∀i,i<m->(f i).early) (c:1<=fa m (λi=>(f i).pd)):Mode m f .reg (((fa m (λi=>(f i).pd):Nat):Int) *KK+1) 0
 |last {L:Nat} (d:L<m) (h:(f L).last) (k:∀i,i<m->i≠L->f i=.quit) {st:Int} (g:(f L=.lG/\st=0)\/(f L≠.lG/\st=1)):Mode m f .reg st 0
 |sema (h:∀i,i<m->f i=.quit):Mode m f .reg 0 1
 |over {p:Mp} (a:p.over) (h:∀i,i<m->f i=.quit):Mode m f p 0 0
structure zr[an](P:bM)(b:aY)(a:Nat)(Q:(Nat->Prop)->aq->Prop)(t:iN)(k:Nat)(w:aq)(s:oP):Prop where
 rel:tb b a s.O s.w w
 ws:s.p≠.quit->WS P b a Q s.p s.O s.g s.w/\ik t k=s.p.lB
 qu:s.p=.quit->QuitsD P s.n (ik t k) s.g/\∀c,tb b a s.O s.w c->Q s.O c
 rl:s.p≠.work->∃r,jG a t k r
def CU(b:Mp)(a:bK)(bl:Bool)(gs:aF bK):Prop:=(bl=aa/\gs[0]? =Z a)\/(bl=M/\b=.reg/\a.5=aj/\gs[0]? =Z {a with status:=.blocked})
def Px(a lw m:Nat)(t:iN):Prop:=∃s,t.act? s=Z (.mark<|.acquire<|stA a)/\t.g? s=Z 0/\t.heard s/\∀i,i<m->∃k,jG a t (lw+i) k/\k<s
structure wM where
 X:Nat->Prop
 O:Nat->Prop
 W:aq
structure wC(c:aY)(a:Nat)(s:wM)(Ow:Nat->Nat->Prop)(w:aq):Prop where
 no:∀j b,Ow j b->¬s.X b
 old:∀j b,Ow j b->s.O b\/s.W.1.size<=b
 lt:∀b,s.X b->b<s.W.1.size
 rel:tb c a s.X s.W w
 wg:¬s.X a
structure Inv[an](P:bM)(e:aY)(c:Nat)(kp:Loc->Prop)(Q:Nat->(Nat->Prop)->aq->Prop)(h lw:Nat)(k:wM)(d:Mp)(a:bK)(bl:Bool)(w0:aq)(m:Nat)(f:Nat->oP)(Ow:Nat->Nat->Prop)(q:Nat->Nat)(gs:aF bK)(w:aq)(t:iN):Prop where
 many:0<lw
 size:gs.size=lw+m
 room:h<2147483647/\m<=h
 tc:TC c Ow w.1.size t
 kt:KT kp c lw t
 mode:∃st sm,eh e c w st sm/\Mode m (λi=>(f i).p) d st sm/\(bl=M->sm≠1)
 main:CU d a bl gs
 vf:tb e c (Ow 0) w0 w
 deaf0:ik t 0=d.lB
 kV:∀i g,0<i->i<lw->gs[i]? =Z g->QuitsD P (q i) (ik t i) g
 own:∀i,i<m->(f i).O=Ow (lw+i)/\gs[lw+i]? =Z (f i).g
 work:∀i,i<m->zr P e c (Q i) t (lw+i) w (f i)
 acq:d=.back->Px c lw m t
 above:∀j,lw+m<=j->ik t j=0/\(∀b,¬Ow j b)/\∀i,t.g? i≠Z j
 bare:∀j,0<j->j<lw->∀b,¬Ow j b
 all:wC e c k Ow w
open Go.Proofs.Tryz
abbrev bN(f:aZ)(a:aF aB)(w:aq)(v:aB):Prop:=ax ai f a w λe b=>e=aG v/\aK w b
abbrev eZ(f:aZ)(a:aF aB)(w:aq)(v:aB):Prop:=ax ai f a w λe b=>e=aG v/\b=w
def ia(n a b:Int):Bool:=decide (a<=n)&&decide (n<=b)
def sN(n m:Int):Bool:=ia n 4 m&&(n %4==0)
def xK(n a b w):
  eZ 71 #[I n,I a,I b] w (ω<|ia n a b):=by
 go_enter func71,ntmps71;go_wp2
 all_goals (go_ret;exact⟨by simp[ia, *];try omega,U⟩)
def agR(n m w):
  eZ 172 #[I n,I m] w (ω<|sN n m):=by
 rcases h:ia n 4 m with _|_
 ·go_enter func172,ntmps172;go_wp2_with (go_at_call 71;apply(xK _ _ _ _).V;rintro e a ⟨rfl,rfl⟩);go_ret;exact⟨by simp[sN,h],U⟩
 let h0:4<=n:=by simp[ia]at h;exact h.1
 go_enter func172,ntmps172;go_wp2_with (go_at_call 71;apply(xK _ _ _ _).V;rintro e a ⟨rfl,rfl⟩);go_ret;exact⟨by simp[sN,h],U⟩
abbrev Gt(sz cl e b d rt a f c:Int):aB:=ν #[I sz,I cl,I e,I b,I d,I rt,I a,I f,I c]
def JT(sz a c b:Int):Bool:=sN sz 256&&(sN a 32&&(ia c a 64&&ia b (a+4) 256))
def Hm(cl b rt a c:Int):Bool:=ia cl 1 8&&(ia b 1 8&&(ia rt 1 16&&(ia a 1 32&&ia c 1 8)))
def R7(sz cl qu mx qn rt bu wk ou w):
  bN 119 #[Gt sz cl qu mx qn rt bu wk ou] w (ω<|JT sz mx qn ou):=by
 cases c:sN sz 256<;>cases a:sN mx 32<;>cases d:ia qn mx 64
 all_goals
  have hm:sN mx 32=M->4<=mx/\mx<=32:=λa=>by simp[sN,ia]at a;exact a.1
  first|(let b:=hm a;let h:=b.2)|clear hm
  go_enter func119,ntmps119;go_wp2_with (first|(go_at_call 172;refine(agR _ _ _).V ?_;rintro e f ⟨rfl,rfl⟩)|(go_at_call 71;refine(xK _ _ _ _).V ?_;rintro e f ⟨rfl,rfl⟩));go_ret;exact⟨by simp[JT,c,a,d],bq⟩
def X7(sz cl qu mx qn rt bu wk ou w):
  bN 120 #[Gt sz cl qu mx qn rt bu wk ou] w (ω<|Hm cl qu rt bu wk):=by
 let c:∀b,Hm cl qu rt bu wk=b->bN 120 #[Gt sz cl qu mx qn rt bu wk ou] w (ω b):=by
  cases d:ia cl 1 8<;>cases f:ia qu 1 8<;>cases g:ia rt 1 16<;>cases h:ia bu 1 32<;>cases i:ia wk 1 8<;>
  ·intro b a;simp[Hm,d,f,g,h,i]at a;subst a;go_enter func120,ntmps120;go_wp2_with (go_at_call 71;apply(xK _ _ _ _).V;rintro e j ⟨rfl,rfl⟩);go_ret;exact⟨U,bq⟩
 exact c _ U
def sB(sz cl e b d rt a f c:Int):Bool:=JT sz b d c&&Hm cl e rt a f
def U4(b:Bool):Int:=if b then 0 else 1
variable{w1:aq}{f:aZ}
def sw{W}(a:aK W w1):(∀b o,b<pB W.1->kD w1 (F b o)=kD W (F b o))/\(∀b o,b<pB W.1->w1.frozen? (F b o)=W.frozen? (F b o)):=⟨λb o h=>a.cell h,λb o h=>a.frozen h⟩
def U2(sz cl qu mx qn rt bu wk ou w):
  bN 81 #[Gt sz cl qu mx qn rt bu wk ou] w (I<|U4<|sB sz cl qu mx qn rt bu wk ou):=by
 unfold sB;cases h:JT sz mx qn ou<;>cases b:Hm cl qu rt bu wk
 all_goals
  go_enter func81,ntmps81;go_wp2_with (first|(go_at_call 119;refine(R7 sz cl qu mx qn rt bu wk ou _).V ?_;rw[h];rintro e g ⟨rfl,a⟩;let⟨d,f⟩:=sw a)|(go_at_call 120;refine(X7 sz cl qu mx qn rt bu wk ou _).V ?_;rw[b];rintro e i ⟨rfl,c⟩));go_ret
  first
  |exact⟨rfl,(bq.E<|a.V ay).E (c.V (by have:=a.4;simp at this;omega))⟩
  |exact⟨rfl,bq.E<|a.V ay⟩
section
variable [an] [bJ] {ty:aY} {Wg:Nat} {O:Nat->Prop} {t jt:iN} {k:Nat}
def oV(d:Nat)(a:uC):Nat:=match a with|.mark .disable=>d+1|.mark .enable=>d-1|_=>d
def GA(c:∀op∈jt,op.g=k):ik (t++jt) k=(jt.map (·.act)).1.foldl oV (ik t k):=by
 have h:=Deaf_append t k jt.1;simp only[Array.toArray_toList]at h;rw[h,mJ];let mc:∀(l:av MemOp) (d:Nat),(∀op∈l,op.g=k)->l.foldl (FK k) d=(l.map (·.act)).foldl oV d:=by
  intro l;induction l with
  |nil=>intro d _;rfl
  |cons a l n=>
   intro d e;let j:FK k d a=oV d a.4:=by
    have b:=e a ay;let⟨g,f,pos,act⟩:=a;simp only at b;subst b;cases act with
    |mark m=>cases m<;>simp[FK,oV]
    |_=>simp[FK,oV]
   grind
 exact mc _ _ λop i=>c op j4
def aak(h:a≠.mark .disable/\a≠.mark .enable)(d):oV d a=d:=by
 cases a with
 |mark m=>cases m<;>first|rfl|exact absurd rfl h.1|cases h.2 rfl
 |_=>rfl
def GL:∀(l:av uC) (d:Nat),(∀a∈l,a≠.mark .disable/\a≠.mark .enable)->l.foldl oV d=d
 |[],_,_=>rfl|a::l,d,h=>by rw[uy,aak<|h a ay,GL l d λb c=>h b (by simp[c])]
def gk.lB{w' p q bW}(h:gk ty Wg O w p w' bW q)(c:jt.map (·.act)=bW)(b:∀op∈jt,op.g=k)(hd:ik t k=p.lB):ik (t++jt) k=q.lB:=by
 rw[GA b,c,hd];cases h with
 |own _ h=>exact GL _ _ λa e=>(h a j4).2
 |add _ _ _ d=>obtain⟨_,_,rfl⟩|⟨_,rfl⟩:=d<;>simp[oV,dW,rd,wr,Ph.lB]
 |idle=>simp
 |_=>simp[oV,dW,rd,wr,fk,Ph.lB]
def fN.lB{w' p q bW}(h:fN ty Wg O w p w' bW q)(i:jt.map (·.act)=bW)(f:∀op∈jt,op.g=0)(hd:ik t 0=p.lB):ik (t++jt) 0=q.lB:=by
 rw[GA f,i,hd];cases h with
 |own _ _ h=>exact GL _ _ λa c=>(h a j4).2
 |idle h=>refine GL _ _ λa c=>?_;obtain⟨e,d,rfl⟩:=rC.1 (by simpa using c);obtain rfl|rfl:=h.2 e d<;>exact⟨by simp[dW],by simp[dW]⟩
 |nY j=>obtain rfl|⟨b,rfl,_⟩:=j<;>simp[oV,dW,mk,Mp.lB]
 |_=>simp[oV,dW,rd,wr,mk,Mp.lB]
def qR{j}(a:∀op∈jt,op.g=k)(b:j≠k):ik (t++jt) j=ik t j:=Deaf_other t (g':=k) (dB b) jt a
end
section
variable [an] [bJ] {ty:aY} {Wg:Nat} {O:Nat->Prop} {t jt:iN} {k:Nat}
def jG.other{j s}(h:jG Wg t k s)(b:∀op∈jt,op.g=j)(c:j≠k):jG Wg (t++jt) k s:=h.app (λi f d=>by obtain⟨l,_⟩|⟨_,op,a,_,e⟩:=yF d;omega;cases c ((b op a).y.E e)) λop a e=>absurd ((b op a).y.E e) c
def Z3(a:∀op∈jt,op.g=k)(d:i<=pB jt):(t++jt).deaf k (pB t+i)=((jt.map (·.act)).1.take i).foldl oV (ik t k):=by
 let e:t++jt=(t++jt.extract 0 i)++jt.extract i jt.size:=j4;let c:pB (t++jt.extract 0 i)=pB t+i:=j4;rw[e,KS Y];have:(t++jt.extract 0 i).deaf k (pB t+i)=ik (t++jt.extract 0 i) k:=by unfold ik;rw[c]
 rw[this,GA λop b=>a op (by obtain⟨j,f,rfl⟩:=EG.1 b;simp)]
 congr 1;simp[zz,List.extract]
def Ul:∀(l:av uC) (d:Nat),(∀a∈l,a≠.mark .enable)->d<=l.foldl oV d
 |[],_,_=>aR _|a::l,d,h=>by
  rw[uy];refine cM ?_ (Ul l _ λb c=>h b (by simp[c]));cases a with
  |mark m=>cases m<;>first|exact aR _|exact kJ _|cases h _ ay rfl
  |_=>exact aR _
def jG.own{s}(h:jG Wg t k s)(o:∀op∈jt,op.g=k)(hl:∀op∈jt,mO Wg op.4)(hd:1<=ik t k\/∀op∈jt,op.4.touch?=aj)(r:∀i x,(jt[i]?).bind (·.act.touch?)=Z x->∀a∈(jt.map (·.act)).1.take i,a≠.mark .enable):jG Wg (t++jt) k s:=by
 refine h.app (λi u l n=>?_) λop b _ x c=>(hl op b).1 x c;let⟨x,c,hm,hk⟩:=n;obtain⟨v,_⟩|⟨_,op,b,m,e⟩:=yF l;·omega
 have d:op.4.touch?=Z x:=by have:touchAt (t++jt) i=Z x:=c;rwa [Cz m]at this
 obtain hd|hd:=hd;obtain hk|hk:=hk;exact hk ((hl op b).1 x d).2;let⟨g,f,p⟩:=hk;rw[l]at f;obtain rfl:=ey f;obtain⟨j,rfl⟩:∃j,i=pB t+j:=⟨i-pB t,Y⟩;rw[Z3 o<|oI j4]at p;have:=Ul _ (ik t k) (r j x j4);omega;rw[hd op b]at d;cases d
def gk.afV{w' p q e}(h:gk ty Wg O w p w' e q)(v:jt.map (·.act)=e)(r:∀op∈jt,op.g=k)(hd:ik t k=p.lB)(hr:p≠.work->∃s,jG Wg t k s)(E:q≠.work):∃s,jG Wg (t++jt) k s:=by
 let m:∀op∈jt,op.4∈e:=λop c=>by grind
 let calm:(∀a∈e,a≠.mark .enable)->∀i x,(jt[i]?).bind (·.act.touch?)=Z x->∀a∈(jt.map (·.act)).1.take i,a≠.mark .enable:=λA i x _ a b=>A a j4;let d:p≠.work->(∀a∈e,mO Wg a)->(1<=ik t k\/∀op∈jt,op.4.touch?=aj)->(∀i x,(jt[i]?).bind (·.act.touch?)=Z x->∀a∈(jt.map (·.act)).1.take i,a≠.mark .enable)->∃s,jG Wg (t++jt) k s:=λo C hd D=>let⟨s,G⟩:=hr o;⟨s,G.own r (λop c=>C _ (m op c)) hd D⟩
 cases h with
 |own=>cases E U
 |rel=>
  have H:pB jt=1:=have:=cG Array.size v;DP
  obtain⟨op,rfl⟩:∃op,jt=#[op]:=by
   let⟨l⟩:=jt;match l,H with
   |[op],_=>exact⟨op,U⟩
  have b:op.4=.mark (.releaseMerge<|stA Wg):=j4;have u:=r op ay;refine⟨pB t,⟨by simp[zP,b],by simp[wm,u],⟨k,by simp[wm,u],?_⟩,λi B j=>?_⟩,λi B j=>?_⟩;rw[KS<|aR _];exact hd;exfalso;let⟨z,J,_⟩:=gJ.1 j;grind;exfalso;let⟨z,J,_⟩:=gJ.1 j;grind
 |idle o=>exact d o (λa b=>by simp at b) (az λop c=>by have:=m op c;simp at this) (calm λa b=>by simp at b)
 |nY=>exact d ay (λa b=>by simp at b;rw[b];exact Hy Wg) (az λop c=>by have:=m op c;simp at this;rw[this];rfl) (calm λa b=>by simp at b;rw[b];simp)
 |add=>exact d ay (Hz Wg) (aA T6) (calm λa b=>by simp at b;rcases b with rfl|rfl<;>simp[dW,rd,wr])
 |look=>exact d ay (DI<|xj Wg _ U) (aA T6) (calm λa b=>by simp at b;rw[b];simp[dW,rd])
 |zero=>exact d ay (DI<|Ia Wg _ U) (aA T6) (calm λa b=>by simp at b;rw[b];simp[dW,wr])
 |post=>
  refine d ay (Nh Wg) (aA T6) λi x L a b=>?_;have f:((jt.map (·.act))[i]?).bind (·.touch?)=Z x:=j4;rw[v]at f b;simp only[fk,sW,nC,xR,dW]at f b;match i with
  |0=>simp at b
  |1=>simp at b;rw[b];simp
  |2=>simp at b;rcases b with rfl|rfl<;>simp
  |3=>simp[vX]at f
  |n+4=>simp at f
end
section
variable [an] [bJ] {ty:aY} {Wg:Nat} {O:Nat->Prop} {m:Nat} {f:Nat->Ph} {mp:Mp} {st sm:Int} {w:aq}
def LW(m)(f:Nat->Ph):fa m (λi=>(f i).pd)<=m:=by
 have:=sumTo_le (f:=λi=>(f i).pd) (c:=1) (j:=m) λi _=>by cases f i<;>simp[Ph.pd]
 omega
def Mode.AD(h:Mode m f mp st sm)(j:eh ty Wg w st sm)(b:i<m)(hm:m<2147483647):wE ty Wg (f i) w:=by
 let u:=LW m f;have d:=le_sumTo (f:=λi=>(f i).pd) b;let late:∀{p:Ph},p.early->p≠.deaf->wE ty Wg p w:=λ{p} a q=>by
  cases p with
  |deaf=>cases q U
  |qh=>exact a.e
  |sJ=>exact a.e
  |lG=>exact a.e
  |_=>trivial
 cases h with
 |opn v a n s=>
  by_cases c:f i=.deaf;rw[c]at d⊢;replace d:1<=fa m (λi=>(f i).pd):=d;let x:mp.pend<=1:=by cases mp<;>simp[Mp.pend]
  refine⟨fa m (λi=>(f i).pd)+mp.pend-1,0,Y,Y,?_⟩;grind;exact late (a i b) c
 |reg a n=>by_cases c:f i=.deaf;rw[c];refine⟨fa m (λi=>(f i).pd)-1,1,Y,Y,?_⟩;grind;exact late (a i b) c
 |@last L t l o _ r=>
  by_cases k:i=L;subst k;obtain⟨e,rfl⟩|⟨e,rfl⟩:=r;rw[e];exact j;generalize f i=p at l e;cases p with
  |qh=>exact j
  |sJ=>exact j
  |lG=>cases e U
  |_=>exact l.e
  rw[o i b k];trivial
 |sema g=>rw[g i b];trivial
 |over _ g=>rw[g i b];trivial
def Mode.worker(h:Mode m f mp st sm)(o:eh ty Wg w st sm)(c:i<m){w' bW q}(hO:¬O Wg)(MZ:Wg<pB w.1)(ah:gk ty Wg O w (f i) w' bW q)(hm:m<2147483647):
  ∃B A,eh ty Wg w' B A/\Mode m (upd f i q) mp B A:=by
 have he:=h.AD o c hm;have aJ:=sumTo_upd f q Ph.pd c
 have same:eh ty Wg w' st sm->q.pd=(f i).pd->((f i).early↔q.early)->((f i).last->q.last/\(f i=.lG↔q=.lG))->(f i≠.quit)->∃B A,eh ty Wg w' B A/\Mode m (upd f i q) mp B A:=λaK P aD aE R=>by
  let x:fa m (λa=>(upd f i q a).pd)=fa m (λa=>(f a).pd):=Y;let early:(∀j,j<m->(f j).early)->∀j,j<m->(upd f i q j).early:=λh j d=>by by_cases r:j=i;subst r;rw[jN];exact aD.1<|h j d;rw[lu f q r];exact h j d
  refine⟨st,sm,aK,?_⟩;cases h with
  |opn E k u K=>rw[<-x];exact .opn E (early k) (by rw[x];exact u) (by rw[x];exact K)
  |reg k u=>rw[<-x];exact .reg (early k) (by rw[x];exact u)
  |@last L W g t _ ak=>by_cases s:i=L;subst s;let⟨z,k2⟩:=aE g;refine .last (L:=i) c (by rw[jN];exact z) (λj d n=>by rw[lu f q n];exact t j d n) ?_;rw[jN];grind;cases R (t i c s)
  |sema l=>cases R (l i c)
  |over _ l=>cases R (l i c)
 have T:(f i).last->(∀j,j<m->j≠i->f j=.quit)/\mp=.reg/\sm=0:=λg=>by
  let no:∀{p:Ph},p.last->p.early->False:=λ{p} a b=>by cases p<;>first|exact a.e|exact b.e
  cases h with
  |opn _ k=>exact(no g<|k i c).e
  |reg k=>exact(no g<|k i c).e
  |@last L W aL t _ ak=>by_cases s:i=L;subst s;exact⟨t,U,U⟩;rw[t i c s]at g;exact g.e
  |sema l=>rw[l i c]at g;exact g.e
  |over _ l=>rw[l i c]at g;exact g.e
 generalize D:f i=p at ah he same T aJ;cases ah with
 |own Q=>exact same ((Q.1 Wg MZ hO).E o) U sS (λa=>a.e) ay
 |rel=>exact same o U sS (λa=>a.e) ay
 |idle E l=>exact same o U sS (λa=>⟨a,sS⟩) l
 |nY=>exact same o U sS (λa=>a.e) ay
 |look=>exact same o U sS (λ_=>⟨trivial,ay⟩) ay
 |zero=>obtain⟨z,rfl,rfl⟩:=T trivial;exact⟨0,0,o.setSt 0,.last (L:=i) c (by rw[jN];trivial) (λj d n=>by rw[lu f _ n];exact z j d n)<|aA ⟨jN f i _,U⟩⟩
 |post=>obtain⟨z,rfl,rfl⟩:=T trivial;have e:=(o.unique<|show eh ty Wg w 0 0 from he).1;subst e;exact⟨0,1,o.setSm 1,.sema λj d=>by by_cases r:j=i;subst r;exact jN f j _;rw[lu f _ r];exact z j d r⟩
 |@add v wt X aQ hv q l=>
  have e:=o.unique X;refine⟨_,_,X.setSt _,?_⟩;let early:q.early->(∀j,j<m->(f j).early)->∀j,j<m->(upd f i q j).early:=λaH h j d=>by by_cases r:j=i;subst r;rw[jN];exact aH;rw[lu f q r];exact h j d
  cases h with
  |opn E k u K=>
   have H:=e.1;simp only[KK]at H;let ev:v+1=fa m (λi=>(f i).pd)+mp.pend/\wt=0:=Y;obtain⟨_,b,_⟩|⟨_,rfl⟩:=l;·omega
   let P:Ph.quit.pd=0:=U;let Q:Ph.deaf.pd=1:=U;let G:fa m (λa=>(upd f i .quit a).pd)+mp.pend=v:=Y;let J:((v:Int) *KK+(wt:Int))=((fa m (λa=>(upd f i .quit a).pd)+mp.pend:Nat):Int) *KK:=by rw[G,ev.2];simp
   rw[J];refine .opn E (early trivial k) (λb N=>?_) λb N=>?_;have:=u b N;omega;have:=K b N;exact⟨Y,this.2⟩
  |reg k u=>
   have H:=e.1;simp only[KK]at H;let ev:v+1=fa m (λi=>(f i).pd)/\wt=1:=Y;let Q:Ph.deaf.pd=1:=U;obtain⟨a,b,rfl⟩|⟨a,rfl⟩:=l;subst a b;let P:Ph.qh.pd=0:=U;let G:fa m (λa=>(upd f i .qh a).pd)=0:=Y;let all:∀j,j<m->j≠i->f j=.quit:=λj d n=>by
    have h5:=le_sumTo (f:=λa=>(upd f i .qh a).pd) d;simp only[lu f _ n]at h5;have C:=k j d;have V:(f j).pd=0:=Y;generalize f j=p at C V;cases p with
    |quit=>rfl
    |qh=>exact C.e
    |sJ=>exact C.e
    |lG=>exact C.e
    |_=>cases V
   exact .last (L:=i) c (by rw[jN];trivial) (λj d n=>by rw[lu f _ n];exact all j d n) (az ⟨by rw[jN];simp,ay⟩);let P:Ph.quit.pd=0:=U;let G:fa m (λa=>(upd f i .quit a).pd)=v:=Y;let J:((v:Int) *KK+(wt:Int))=((fa m (λa=>(upd f i .quit a).pd):Nat):Int) *KK+1:=by rw[G,ev.2];simp
   rw[J];exact .reg (early trivial k) Y
  |@last L W g t _ ak=>by_cases s:i=L;subst s;rw[D]at g;exact g.e;have:=t i c s;rw[D]at this;cases this
  |sema S=>have:=S i c;rw[D]at this;cases this
  |over _ S=>have:=S i c;rw[D]at this;cases this
end
section
variable [an] [bJ] {ty:aY} {Wg:Nat} {O:Nat->Prop} {m:Nat} {f:Nat->Ph} {mp:Mp} {st sm:Int} {w:aq}
def M9(e:∀i,i<m->(f i).early)(h:fa m (λi=>(f i).pd)=0):∀j,j<m->f j=.quit:=λj d=>by
 let g:=le_sumTo (f:=λa=>(f a).pd) d;have b:=e j d;have c:(f j).pd=0:=Y;generalize f j=p at b c;cases p with
 |quit=>rfl
 |qh=>exact b.e
 |sJ=>exact b.e
 |lG=>exact b.e
 |_=>cases c
def Mode.open_(h:Mode m f mp st sm)(a:mp.open_):(∀i,i<m->(f i).early)/\st=((fa m (λi=>(f i).pd)+mp.pend:Nat):Int) *KK/\sm=0/\(∀b,mp=.waiting b->fa m (λi=>(f i).pd)<=b)/\(∀b,mp=.seen b->fa m (λi=>(f i).pd)<=b/\b≠0):=by
 cases h with
 |opn _ c d e=>exact⟨c,U,U,d,e⟩
 |reg=>exact a.e
 |last=>exact a.e
 |sema=>exact a.e
 |over h=>cases mp<;>first|exact a.e|exact h.e
def Mode.yR(h:Mode m f mp st sm)(a:mp.over):(∀i,i<m->f i=.quit)/\st=0/\sm=0:=by
 cases h with
 |opn h=>cases mp<;>first|exact a.e|exact h.e
 |reg=>exact a.e
 |last=>exact a.e
 |sema=>exact a.e
 |over _ h=>exact⟨h,U,U⟩
def Mode.aat(h:Mode m f mp st sm)(a:eh ty Wg w st sm)(hm:m<2147483647):Ga ty Wg mp w:=by
 let d:=LW m f;cases mp with
 |wT=>obtain⟨_,rfl,rfl,_⟩:=h.open_ trivial;exact⟨_,by simp only[Mp.pend];omega,a⟩
 |waiting b=>obtain⟨_,rfl,rfl,c,_⟩:=h.open_ trivial;exact⟨_,by have:=c b U;simp only[Mp.pend];omega,by simp only[Mp.pend];omega,a⟩
 |seen b=>obtain⟨_,rfl,rfl,_,c⟩:=h.open_ trivial;exact⟨_,by have:=(c b U).1;simp only[Mp.pend];omega,by simp only[Mp.pend];omega,a⟩
 |woken=>obtain⟨_,rfl,rfl⟩:=h.yR trivial;exact a
 |_=>trivial
def Mode.main(h:Mode m f mp st sm)(d:eh ty Wg w st sm){w' bW q}(u:¬O Wg)(B:Wg<pB w.1)(z:fN ty Wg O w mp w' bW q)(hm:m<2147483647):
  ∃o n,eh ty Wg w' o n/\Mode m f q o n:=by
 let C:=LW m f;let k:∀{a b:Nat},((a:Int) *KK)=(b:Int) *KK->a=b:=λ{a b} e=>by simp only[KK]at e;omega
 cases z with
 |own _ x=>exact⟨st,sm,(x.1 Wg B u).E d,h⟩
 |idle=>exact⟨st,sm,d,h⟩
 |nY A=>
  obtain⟨c,rfl,rfl,_⟩:=h.open_ trivial;refine⟨_,_,d,?_⟩;obtain rfl|⟨b,rfl,l⟩:=A;exact .opn (p:=.wT) trivial c (λb e=>by cases e) λb e=>by cases e
  exact .opn (p:=.waiting b) trivial c (λr e=>by cases e;omega) λb e=>by cases e
 |@add v g hv=>
  obtain⟨c,rfl,rfl,_⟩:=h.open_ trivial;refine⟨_,_,d.setSt _,?_⟩;have e:=k (d.unique g).1;let t:((v:Int)+1) *KK=((fa m (λi=>(f i).pd)+Mp.added.pend:Nat):Int) *KK:=by simp only[Mp.pend]at e⊢;rw[<-e];simp
  rw[t];exact .opn (p:=.added) trivial c (λb e=>by cases e) λb e=>by cases e
 |AD=>obtain⟨c,rfl,rfl,_⟩:=h.open_ trivial;exact⟨_,_,d,.opn (p:=.ready) trivial c (λb e=>by cases e) λb e=>by cases e⟩
 |@zero b g=>
  obtain⟨c,rfl,rfl,_⟩:=h.open_ trivial;have e:=(d.unique g).1;let s:fa m (λi=>(f i).pd)=0:=by simp only[Mp.pend,KK]at e;omega
  exact⟨0,0,g,.over (p:=.fin) trivial<|M9 c s⟩
 |@saw b v g l h0=>obtain⟨c,rfl,rfl,_⟩:=h.open_ trivial;have e:=k (d.unique g).1;exact⟨_,_,d,.opn (p:=.seen v) trivial c (λb e=>by cases e) λr j=>by cases j;simp only[Mp.pend]at e;exact⟨Y,h0⟩⟩
 |@hit v g h0=>obtain⟨c,rfl,rfl,_⟩:=h.open_ trivial;have e:=k (d.unique g).1;simp only[Mp.pend,xU]at e;refine⟨_,_,g.setSt _,?_⟩;rw[<-e];exact .reg c Y
 |@Nr v D g l=>obtain⟨c,rfl,rfl,_⟩:=h.open_ trivial;have e:=k (d.unique g).1;exact⟨_,_,d,.opn (p:=.waiting<|v-1) trivial c (λb j=>by cases j;simp only[Mp.pend]at e;omega) λb j=>by cases j⟩
 |got=>obtain⟨c,rfl,rfl⟩:=h.yR trivial;exact⟨_,_,d,.over (p:=.fin) trivial c⟩
 |Mg=>obtain⟨c,rfl,rfl⟩:=h.yR trivial;exact⟨_,_,d,.over (p:=.wZ) trivial c⟩
 |acq=>obtain⟨c,rfl,rfl⟩:=h.yR trivial;exact⟨_,_,d,.over (p:=.back) trivial c⟩
end
abbrev xd(P:bM)(l k:av aZ)(d:aZ->av Nat)(t:Nat->aV Obj):an:=⟨λf=>l.contains f=M,λc=>eW P l M c=M,λf=>l.contains f=M\/k.contains f=M,d,t,P⟩
def Mr(P:bM)(f:aZ):Bool:=match P.2[f]? with|some a=>a.9.isSome&&(P.inits.idxOf? f).isNone|none=>aa
def Mb(P:bM)(l:av aZ)(f:aZ):Bool:=match P.2[f]? with|some a=>(match a.9 with|some c=>eW P l aa c|none=>aa)&&!(a.1== "runtime.NumGoroutine")&&(P.inits.idxOf? f).isNone|none=>aa
def NF{l}(h:Mb P l f=M):∃a c,P.2[f]? =Z a/\a.9=Z c/\eW P l aa c=M/\(a.1== "runtime.NumGoroutine")=aa/\P.inits.idxOf? f=aj:=by unfold Mb at h;grind
def acR(h:Mr P f=M):(∃a c,P.2[f]? =Z a/\a.9=Z c)/\P.inits.idxOf? f=aj:=by unfold Mr at h;split at h;rename_i a b;simp only[cQ,Cg,KF]at h;grind;cases h
def abb{l k d t}(q:PT P=M)(hm:(uY P [] "" &&uY P [] " ")=M)(hl:l.all (Mb P l)=M)(p:k.all (Mr P)=M)(hv:l.all (λf=>(d f).isEmpty)=M):@vb (xd P l k d t) P l:=by
 letI:an:=xd P l k d t;let ok:∀f,l.contains f=M->Mb P l f=M:=λf hf=>nA.1 hl f (by simpa using hf);let kn:∀f,k.contains f=M->Mr P f=M:=λf hf=>nA.1 p f (by simpa using hf);let all:∀f,il f->(∃a c,P.2[f]? =Z a/\a.9=Z c)/\P.inits.idxOf? f=aj:=λf hf=>by obtain hf|hf:=hf;let⟨a,c,e,i,_,_,o⟩:=NF (ok f hf);exact⟨⟨a,c,e,i⟩,o⟩;exact acR<|kn f hf
 rw[cQ]at hm;refine⟨⟨λg=>akG q g,λf hf=>?_,aem λb=>by cases b<;>first|exact hm.1|exact hm.2,λn=>adJ (λ_ h=>h) n,λf=>sS,λc=>sS,λf hf=>?_,λf hf=>(all f hf).2,λf hf=>(all f hf).1,λf hf=>aA hf⟩,U,λf hf=>B6.1 (nA.1 hv f (by have hf:l.contains f=M:=hf;simpa using hf))⟩;let⟨a,c,e,i,_,m,_⟩:=NF (ok f hf);exact⟨a,e,m,by rw[i];rfl⟩;let⟨a,c,e,i,j,_,_⟩:=NF (ok f hf);exact⟨a,c,e,i,j⟩
abbrev tf:Go.Conc.Lib.WgLink:={add:=97,done:=99,wait:=101,relMerge:=138,disable:=139,enable:=140,inBubble:=141,associate:=142,fatal:=143,uOr:=144,uAdd:=145,raceRead:=146,uLoad:=147,uStore:=148,disassociate:=149,semrelease:=150,acquire:=154,isAssociated:=155,uCas:=156,raceWrite:=157,semacquire:=158,orU64:=184,addU64:=185,loadU64:=186,storeU64:=187,casU64:=194,tWgP:=196,tUP:=198,tAssoc:=199,tWg:=178,tAU:=175,tU64:=173,tUint:=203,tU32:=176,tPU32:=204,tPAU:=244,tPU64:=246,tNoCopy:=170,tANoCopy:=171,tAlign64:=172}
def xJ:Go.Conc.Lib.WgLib ai tf:=⟨func97,func99,func101,func138,func139,func140,func141,func142,func143,func144,func145,func146,func147,func148,func149,func150,func154,func155,func156,func157,func158,func184,func185,func186,func187,func194,underlying196,runUnderlying196,sizeOf196,isAgg196,zeroValue196,underlying198,runUnderlying198,sizeOf198,isAgg198,zeroValue198,underlying199,runUnderlying199,sizeOf199,isAgg199,zeroValue199,underlying178,runUnderlying178,sizeOf178,isAgg178,zeroValue178,underlying175,runUnderlying175,sizeOf175,isAgg175,zeroValue175,underlying173,runUnderlying173,sizeOf173,isAgg173,zeroValue173,underlying203,runUnderlying203,sizeOf203,isAgg203,zeroValue203,underlying176,runUnderlying176,sizeOf176,isAgg176,zeroValue176,underlying204,runUnderlying204,sizeOf204,isAgg204,zeroValue204,underlying244,runUnderlying244,sizeOf244,isAgg244,zeroValue244,underlying246,runUnderlying246,sizeOf246,isAgg246,zeroValue246,underlying0,runUnderlying0,sizeOf0,isAgg0,zeroValue0,underlying3,runUnderlying3,sizeOf3,isAgg3,zeroValue3,underlying4,runUnderlying4,sizeOf4,isAgg4,zeroValue4,gc,runUnderlying9,sizeOf9,isAgg9,zeroValue9,underlying20,runUnderlying20,sizeOf20,isAgg20,zeroValue20,underlying21,runUnderlying21,sizeOf21,isAgg21,zeroValue21,aW,aW⟩
section
variable [an] [bJ] {ty:aY} {Wg:Nat} {m:Nat} {f:Nat->Ph} {st sm:Int} {w:aq}
def Mode.spawn(h:Mode m f .ready st sm):Mode (m+1) (upd f m .work) .opn st sm:=by
 obtain⟨d,rfl,rfl,_⟩:=h.open_ trivial;have e:fa (m+1) (λi=>(upd f m .work i).pd)=fa m (λi=>(f i).pd)+1:=by have:=sumTo_upd_out f Ph.work Ph.pd (aR m);simp only[fa,jN,this];rfl
 let c:((fa m (λi=>(f i).pd)+Mp.ready.pend:Nat):Int) *KK=((fa (m+1) (λi=>(upd f m .work i).pd)+Mp.opn.pend:Nat):Int) *KK:=by rw[e];rfl
 rw[c];refine .opn (p:=.opn) trivial (λi g=>?_) (λb e=>by cases e) λb e=>by cases e
 by_cases a:i=m;subst a;rw[jN];trivial;rw[lu f _ a];exact d i Y
def Mode.OF(h:Mode m f .reg st sm):sm=0\/(st=0/\sm=1/\∀i,i<m->f i=.quit):=by
 cases h with
 |opn h=>exact h.e
 |reg=>exact aA U
 |last=>exact aA U
 |sema h=>exact az ⟨U,U,h⟩
 |over h=>exact h.e
def Mode.ahw(h:Mode m f .reg st 0):∃i,i<m/\f i≠.quit:=by
 cases h with
 |opn h=>exact h.e
 |reg k l=>
  refine ny λg=>?_;let all:∀i,i<m->(f i).pd<=0:=λi d=>by have:=ny λj=>g ⟨i,d,j⟩;rw[this];exact aR _
  have:=sumTo_le (f:=λi=>(f i).pd) (c:=0) all;omega
 |@last L b a=>exact⟨L,b,λe=>by rw[e]at a;exact a⟩
 |over h=>exact h.e
def Mode.take(h:Mode m f .reg st 1)(d:eh ty Wg w st 1):∃b a,eh ty Wg (w.setCell (smA Wg)<|ι .u32 0) b a/\Mode m f .woken b a:=by obtain e|⟨rfl,_,c⟩:=h.OF;cases e;exact⟨0,0,d.setSm 0,.over (p:=.woken) trivial c⟩
end
section
variable [an] [bJ] {P:bM} {ty:aY} {Wg:Nat} {kp:Loc->Prop} {Q:Nat->(Nat->Prop)->aq->Prop} {lh lw:Nat} {O0:wM} {mp:Mp} {a:bK} {bl:Bool} {w0:aq} {m:Nat} {f:Nat->oP} {Ow:Nat->Nat->Prop} {q:Nat->Nat} {gs:aF bK} {w:aq} {t:iN} {sl:aV (Nat×Nat)}
structure iF(w w':aq):Prop where
 os:w'.os=w.os
 output:w'.output=w.output
 tape:w'.2=w.2
 size:w.1.size<=w'.1.size
def iF.refl(w):iF w w:=⟨U,U,U,aR _⟩
def iF.E{w2 w3}(h:iF w1 w2)(k:iF w2 w3):iF w1 w3:=⟨k.1.E h.1,k.2.E h.2,k.3.E h.3,cM h.4 k.4⟩
def iF.at (w d):iF w (w.at d):=⟨U,U,U,aR _⟩
def iF.set(w ad v):iF w (w.setCell ad v):=⟨T9,T9,T9,ay⟩
def uI.same{w w'}(h:uI O w w'):iF w w':=⟨h.3,h.4,h.5,h.2⟩
def gk.same{w w' p p' bW}(h:gk ty Wg O w p w' bW p'):iF w w':=by
 cases h with
 |own h=>exact h.same
 |add=>exact .set ..
 |zero=>exact .set ..
 |post=>exact .set ..
 |_=>exact .refl _
def fN.same{w w' p p' bW}(h:fN ty Wg O w p w' bW p'):iF w w':=by
 cases h with
 |own _ h=>exact h.same
 |add=>exact .set ..
 |hit=>exact .set ..
 |_=>exact .refl _
def IV(Ow:Nat->Nat->Prop)(k O):lN Ow k O k=O:=by funext b;apply propext;constructor;rintro(⟨_,h⟩|⟨h,_⟩);exact h;cases h U;exact λh=>aA ⟨U,h⟩
def ot(Ow:Nat->Nat->Prop){j}(c:j≠k)(O):lN Ow k O j=Ow j:=by funext b;apply propext;constructor;rintro(⟨h,_⟩|⟨_,h⟩);cases c h;exact h;exact λh=>az ⟨c,h⟩
def RL{w'}(h:wC ty Wg O0 Ow w)(hr:tb ty Wg O0.X w w')(e:∀b,O b->Ow k b\/pB w.1<=b):wC ty Wg O0 (lN Ow k O) w':=by
 let g:=h.4.2;refine⟨λj b c d=>?_,λj b c=>?_,h.3,h.4.E hr,h.5⟩;rotate_left
 ·obtain⟨_,c⟩|⟨_,c⟩:=c;obtain h1|h1:=e b c;exact h.2 k b h1;exact az Y;exact h.2 j b c
 obtain⟨_,c⟩|⟨_,c⟩:=c;obtain h1|h1:=e b c;exact h.1 k b h1 d;have:=h.3 b d;have:=h.4.2;omega;exact h.1 j b c d
def wC.at (h:wC ty Wg O0 Ow w)(d):wC ty Wg O0 Ow (w.at d):=⟨h.1,h.2,h.3,h.4.E<|.at ..,h.5⟩
def wC.pu(h:wC ty Wg O0 Ow w):∀b,O0.X b->b<pB w.1:=λb c=>cS (h.3 b c) h.4.2
def YE{g1 bW}(u:gs[i]? =Z g)(x:∀(j:Nat) h,gs[j]? =Z h->h.3=.blocked->h.5=aj)(h:jl P (i==0) g w g1 w1 bW):
  ∃c d,runT P (crowd gs w sl) i=(.next<|crowd (mP (gs.map c) i g1) w1 sl,d)/\(c=woken P g g1 w1\/(c=id/\∀l n k,bi P (i==0) g w≠.go l n k))/\d.map (·.act)=bW/\∀op∈d,op.g=i:=by
 let⟨c,d,o,p,r,s⟩:=YD (sl:=sl) u x h
 cases h with
 |go h=>refine⟨_,_,FQ u h,aA U,?_,xT _ _ _ _⟩;rw[KX];simp[zx,ES]
 |shut h v=>exact⟨c,d,o,p.imp id λe=>⟨e,λl n k b=>by rw[h]at b;cases b⟩,r,s⟩
 |sG h v=>exact⟨c,d,o,p.imp id λe=>⟨e,λl n k b=>by rw[h]at b;cases b⟩,r,s⟩
 |sH h=>exact⟨c,d,o,p.imp id λe=>⟨e,λl n k b=>by rw[h]at b;cases b⟩,r,s⟩
def zn{li g1 x}{X:Prop}(hF:li=woken P g g1 w1\/(li=id/\X))(b:x.3=.running\/x.3=.finished):li x=x:=by obtain rfl|⟨rfl,_⟩:=hF;unfold woken;split;exact again_running _ b;rfl;rfl
def PM(h:CU mp a bl gs)(l:a.3=.running){li g1}{X:Prop}(hF:li=woken P g g1 w1\/(li=id/\X))(o:k≠0):
  ∃j,CU mp a j (mP (gs.map li) k g1)/\(j=M->bl=M/\¬(li=woken P g g1 w1/\FN P g=M/\(g1.3=.running\/g1.3=.finished))):=by
 have c:(mP (gs.map li) k g1)[0]? =(gs[0]?).map li:=j4
 obtain⟨rfl,h0⟩|⟨rfl,hm,i,h0⟩:=h;refine⟨aa,aA ⟨rfl,?_⟩,λe=>by cases e⟩;rw[c,h0];simp[zn hF<|aA l];obtain rfl|⟨rfl,_⟩:=hF
 by_cases b:(FN P g&&g1.3 !=.blocked&&g1.3 !=.waiting)=M
 refine⟨aa,aA ⟨U,?_⟩,λe=>by cases e⟩;rw[c,h0];simp only[eO,woken,aO b];apply cG Z
 have:({a with status:=.blocked}:bK).again w1={({a with status:=.blocked}:bK)with status:=.running}:=by unfold ZO;simp[i]
 rw[this];cases a
 simp_all
 refine⟨M,az ⟨U,hm,i,?_⟩,λ_=>⟨U,λ⟨_,d,h2⟩=>b ?_⟩⟩;rw[c,h0];simp only[eO,woken,aI b];obtain h2|h2:=h2<;>simp[d,h2];refine⟨M,az ⟨rfl,hm,i,by rw[c,h0];rfl⟩,λ_=>⟨U,λ⟨d,h2,n⟩=>?_⟩⟩;have:=tA d ({a with status:=.blocked}:bK);have b:(FN P g&&g1.3 !=.blocked&&g1.3 !=.waiting)=M:=j4
 simp only[id,woken,aO b]at this;unfold ZO at this
 grind
def WS.running{Q p w}(h:WS P ty Wg Q p O g w)(c:p≠.quit):g.3=.running:=by
 cases h with
 |quit=>cases c U
 |step _ b=>exact b
def zr.status{Q s}(h:zr P ty Wg Q t k w s):s.g.3=.running\/s.g.3=.finished:=by by_cases b:s.p=.quit;exact(h.3 b).1.status;exact aA<|(h.2 b).1.running b
def zr.other{Q j s w' jt}(h:zr P ty Wg Q t k w s)(e:∀op∈jt,op.g=j)(d:j≠k)(hr:tb ty Wg s.O w w'):zr P ty Wg Q (t++jt) k w' s:=by let c:ik (t++jt) k=ik t k:=qR e (dB d);refine⟨h.1.E hr,λb=>⟨(h.2 b).1,c▸(h.2 b).2⟩,λb=>⟨c▸(h.3 b).1,(h.3 b).2⟩,λb=>?_⟩;let⟨r,hr⟩:=h.4 b;exact⟨r,hr.other e d⟩
def Inv.status(h:Inv P ty Wg kp Q lh lw O0 mp a bl w0 m f Ow q gs w t){j}(d:0<j)(b:gs[j]? =Z g):g.3=.running\/g.3=.finished:=by
 by_cases e:j<lw;exact(h.kV j g d e b).status;obtain⟨i,rfl⟩:∃i,j=lw+i:=⟨j-lw,Y⟩;let c:i<m:=by have:=(bf.1 b).1;have:=h.2;omega
 have:=(h.11 i c).2;rw[b]at this;obtain rfl:=ey this;exact(h.12 i c).status
def Inv.Wy(h:Inv P ty Wg kp Q lh lw O0 mp a bl w0 m f Ow q gs w t)(d:a.3=.running):∀(j:Nat) x,gs[j]? =Z x->x.3=.blocked->x.5=aj:=by intro j x b c;obtain rfl|hj:=qF j;obtain⟨_,h0⟩|⟨_,_,g,h0⟩:=h.7;rw[h0]at b;obtain rfl:=ey b;rw[d]at c;cases c;rw[h0]at b;obtain rfl:=ey b;exact g;obtain e|e:=h.status hj b<;>rw[e]at c<;>cases c
def Inv.Sb(h:Inv P ty Wg kp Q lh lw O0 mp a bl w0 m f Ow q gs w t)(c:a.3=.running):∀g∈gs,Go.Conc.awake g:=by intro g d;obtain⟨i,j,rfl⟩:=EG.1 d;have b:=gi j;obtain rfl|hj:=qF i;obtain⟨_,h0⟩|⟨_,_,k,h0⟩:=h.7;rw[h0]at b;rw[<-ey b];exact awake_of<|aA c;rw[h0]at b;rw[<-ey b];exact awake_of<|az<|aA rfl;exact awake_of<|(h.status hj b).e aA λe=>az (az e)
def Inv.at (h:Inv P ty Wg kp Q lh lw O0 mp a bl w0 m f Ow q gs w t)(d):Inv P ty Wg kp Q lh lw O0 mp a bl w0 m f Ow q gs (w.at d) t:=⟨h.1,h.2,h.3,h.4,h.5,h.6,h.7,h.8.E<|.at ..,h.9,h.kV,h.11,λi b=>⟨(h.12 i b).1.E<|.at ..,(h.12 i b).2,(h.12 i b).3,(h.12 i b).4⟩,h.13,h.14,h.15,h.16.at d⟩
def AH{jt j}(l:∀op∈jt,op.g=k)(e:j≠k)(h:∀i,t.g? i≠Z j):∀i,(t++jt).g? i≠Z j:=λi d=>by obtain⟨_,b⟩|⟨_,op,n,_,c⟩:=yF d;exact h i b;exact e<|c.y.E<|l op n
def gk.sem{w w' p p' bW}(h:gk ty Wg O w p w' bW p'){st sm st' sm'}(b:eh ty Wg w st sm)(c:eh ty Wg w' st' sm')(d:¬O Wg)(e:Wg<pB w.1):sm'=sm\/(p=.lG/\p'=.quit):=by
 cases h with
 |own h=>exact aA (c.unique<|(h.1 Wg e d).E b).2
 |add=>exact aA (c.unique<|b.setSt _).2
 |zero=>exact aA (c.unique<|b.setSt _).2
 |post=>exact az ⟨U,U⟩
 |_=>exact aA (c.unique b).2
def YK(f i)(s:oP):(λj=>(upd f i s j).p)=upd (λj=>(f j).p) i s.p:=by funext j;by_cases h:j=i;subst h;rw[jN,jN];rw[lu _ _ h,lu _ _ h]
def Inv.worker(h:Inv P ty Wg kp Q lh lw O0 mp a bl w0 m f Ow q gs w t)(ha:a.3=.running)(A:i<m)(D:(f i).p≠.quit):
  ∃H s' Rx aK d W,runT P (crowd gs w sl) (lw+i)=(.next<|crowd aK d sl,W)/\Inv P ty Wg kp Q lh lw O0 mp a H w0 m (upd f i s') Rx q aK d (t++W)/\su P ty Wg s' (f i)/\iF w d/\(H=M->bl=M)/\Rx 0=Ow 0:=by
 let⟨st,sm,aH,an,Ds⟩:=h.6
 have L:=h.12 i A
 let⟨v,S⟩:=h.11 i A
 let⟨Na,R⟩:=L.2 D
 let hm:m<2147483647:=by have:=h.3;omega
 have u:=an.AD aH A hm;let C:lw+i≠0:=by have:=h.1;omega
 let aS:(lw+i==0)=aa:=by simp;have:=h.1;omega
 have hrel:=L.1;have aD:=L.4;generalize hs:f i=s at D L v S Na R u hrel aD
 let⟨p,O,g,wz,n⟩:=s
 simp only at D v S Na R u hrel aD;cases Na with
 |quit=>cases D U
 |step _ hg X bu bw hk=>
  let⟨z,d,bW,ht,k⟩:=bu w hrel u;have V:=hk w z d bW hrel u ht;let⟨G,aC⟩:∃G,X w=.quit->QuitsD P G 1 z/\∀aW,tb ty Wg (fE O w d) d aW->Q i (fE O w d) aW:=by
   by_cases r:X w=.quit;rw[r]at V;generalize bp:Ph.quit=p2 at V;cases V with
   |@quit _ _ _ G J h2=>exact⟨G,λ_=>⟨J,h2⟩⟩
   |step T=>cases T bp.y
   exact⟨0,λe=>absurd e r⟩
  let⟨aJ,W,hr,hF,N,o⟩:=YE (sl:=sl) S (h.Wy ha) (aS▸ht);let⟨H,Dw,UN⟩:=PM h.7 ha hF C;let K:=v▸h.4.4 (lw+i);let Vd:∀j,j≠lw+i->tb ty Wg (Ow j) w d:=λj c=>k.IC u (λb l ak=>c (h.4.3 _ _ b l (v▸ak))) (λb l=>h.4.5 _ b l) K (h.4.4 j) h.4.6;let cm:∀(j:Nat) x,0<j->j≠lw+i->(mP (gs.map aJ) (lw+i) z)[j]? =Z x->gs[j]? =Z x:=λj x c T E=>by rw[gn<|dB T,jL]at E;obtain⟨bO,hy,rfl⟩:=gJ.1 E;rwa [zn hF<|h.status c hy]
  let aX:∀(j:Nat) x,0<j->j≠lw+i->gs[j]? =Z x->(mP (gs.map aJ) (lw+i) z)[j]? =Z x:=λj x c T E=>by grind
  let bH:=h.1;refine⟨H,⟨X w,fE O w d,z,d,G⟩,lN Ow (lw+i)<|fE O w d,_,d,W,hr,⟨h.1,NE,h.3,k.tc v.y h.4 N o,k.kt h.5 N o Y,?_,Dw,?_,?_,λj x c MT E=>?_,λj c=>?_,λj c=>?_,λl=>?_,λj c=>⟨?_,?_,AH o Y (h.14 j c).2.2⟩,λj c MT=>?_,RL h.16 (k.IC u (λb l ak=>h.16.1 (lw+i) b (v▸ak) l) h.16.pu K h.16.5 h.4.6) λb l=>l.e (λh=>aA (v▸h)) λh=>az h.1⟩,aA ⟨D,w,bW,hrel,u,ht,k,U⟩,k.same,λe=>(UN e).1,ot Ow (dB C) _⟩;let bq:(f i).p=p:=by rw[hs]
  let bn:gk ty Wg O w (f i).p d bW (X w):=by rw[bq];exact k
  let⟨bD,bC,J,h2⟩:=an.worker aH A K h.4.6 bn hm;refine⟨bD,bC,J,by rw[YK];exact h2,λe he=>?_⟩;let⟨oY,lD⟩:=UN e;obtain h3|⟨h3,h4⟩:=k.sem aH J K h.4.6;exact Ds oY (h3▸he);let⟨k1,g2,w2,es,k2⟩:=bw w hrel u h3 h4;obtain hF|⟨_,hF⟩:=hF;exact lD ⟨hF,k1,(aC h4).1.status⟩;rw[aS]at hF;exact hF _ _ _ k2;rw[ot Ow<|dB C];exact h.8.E<|Vd 0<|dB C;rw[qR o<|dB C];exact h.9;rw[qR o Y];exact h.kV j x c MT<|cm j x c Y E;by_cases B:j=i;subst B;rw[jN,IV];exact⟨U,by simp[(bf.1 S).1]⟩;rw[lu f _ B,ot Ow Y];exact⟨(h.11 j c).1,aX _ _ Y Y (h.11 j c).2⟩;by_cases B:j=i;subst B;rw[jN];let hd:=k.lB N o R;refine⟨.refl ..,λ_=>⟨V,hd⟩,λr=>⟨?_,(aC r).2⟩,λr=>k.afV N o R aD r⟩;simp only at r⊢;rw[hd,r];exact(aC r).1;rw[lu f _ B];exact(h.12 j c).other o Y ((h.11 j c).1▸Vd (lw+j) Y);subst l;have:=(an.yR trivial).1 i A;grind;rw[qR o Y];exact(h.14 j c).1;rw[ot Ow Y];exact(h.14 j c).2.1;rw[ot Ow Y];exact h.15 j c MT
end
section
variable [an] [bJ] {P:bM} {ty:aY} {Wg:Nat} {kp:Loc->Prop} {Q:Nat->(Nat->Prop)->aq->Prop} {lh lw:Nat} {O0:wM} {mp:Mp} {a:bK} {bl:Bool} {w0:aq} {m:Nat} {f:Nat->oP} {Ow:Nat->Nat->Prop} {q:Nat->Nat} {gs:aF bK} {w:aq} {t:iN} {sl:aV (Nat×Nat)}
def Wj{fn pos es}(hm:∀e∈es,e.mute=M):∀op∈sZ k fn pos es,op.4.touch?=aj:=λop c=>by obtain⟨e,b,rfl⟩:=Qj c;exact touch_mute<|hm e b
def Wf{fn pos es}(hm:∀e∈es,e.mute=M)(B):∀op∈sZ k fn pos es,op.4.low B:=λop c=>by obtain⟨e,b,rfl⟩:=Qj c;exact low_mute (hm e b) B
def Wh{fn pos es}(hm:∀e∈es,e.mute=M)(ad):∀op∈sZ k fn pos es,op.4≠.mark (.release ad):=λop c g=>by
 obtain⟨⟨d,wr,h⟩,b,rfl⟩:=Qj c;have:=hm _ b;cases d with
 |mark x=>cases x<;>simp_all[Event.mute,dW]
 |_=>simp_all[Event.mute]
def jG.Nv{r}(h:jG Wg t k r){jt}(j:∀op∈jt,op.4.touch?=aj):jG Wg (t++jt) k r:=by
 refine h.app (λi l g e=>?_) λop b _ x c=>by grind
 let⟨x,c,_⟩:=e;obtain⟨n,_⟩|⟨_,op,b,d,_⟩:=yF g;omega;have:touchAt (t++jt) i=Z x:=c;rw[Cz d,j op b]at this;cases this
def g?_old{jt s g}(h:t.g? s=Z g):(t++jt).g? s=Z g:=by let⟨z,b,c⟩:=gJ.1 h;unfold wm;grind
def Px.app{jt}(h:Px Wg lw m t)(hr:∀i k,i<m->jG Wg t (lw+i) k->jG Wg (t++jt) (lw+i) k):Px Wg lw m (t++jt):=by
 let⟨s,b,d,j,l⟩:=h
 exact⟨s,(by
      let⟨z,c,p⟩:=gJ.1 b;unfold zP;rw[getElem?_append_old<|I5 c,c];exact cG Z p),g?_old d,(by
      let⟨g,b,d⟩:=j;refine⟨g,g?_old b,?_⟩;let⟨z,c,_⟩:=gJ.1 b;rwa [KS<|oI<|I5 c]),λi e=>let⟨k,n,o⟩:=l i e;⟨k,hr i k e n,o⟩⟩
def Inv.leaves(h:Inv P ty Wg kp Q lh lw O0 mp a bl w0 m f Ow q gs w t)(W:a.3=.running)(J:i<m)(D:(f i).p=.quit)(z:(f i).g.3=.running):
  ∃s N E L,runT P (crowd gs w sl) (lw+i)=(.next<|crowd E w sl,L)/\Inv P ty Wg kp Q lh lw O0 mp a s w0 m (upd f i N) Ow q E w (t++L)/\su P ty Wg N (f i)/\(s=M->bl=M):=by
 let⟨st,sm,aD,aC,Ds⟩:=h.6
 let A:=h.12 i J
 let⟨T,H⟩:=h.11 i J
 let K:lw+i≠0:=by have:=h.1;omega
 let ak:(lw+i==0)=aa:=j4
 let⟨v,V⟩:=A.3 D
 cases B:(f i).n with
 |zero=>rw[B]at v;rw[v.1]at z;cases z
 |succ n=>
  rw[B]at v;obtain⟨hf,_⟩|⟨_,c,R,hm,MX,Dy⟩:=v;·rw[hf]at z;cases z
  let hr:=FQ (P:=P) (sl:=sl) (i:=lw+i) H (by rw[ak];exact MX w);let l:=xT (lw+i) (f i).g.1.1 (f i).g.1.place R;let C:=Wj (k:=lw+i) (fn:=(f i).g.1.1) (pos:=(f i).g.1.place) hm;let hF:woken P (f i).g c w=woken P (f i).g c w\/(woken P (f i).g c w=id/\False):=aA U;let⟨s,Dw,G⟩:=PM h.7 W hF K;let cm:∀(j:Nat) x,0<j->j≠lw+i->(mP (gs.map<|woken P (f i).g c w) (lw+i) c)[j]? =Z x->gs[j]? =Z x:=λj x b u o=>by rw[gn<|dB u,jL]at o;obtain⟨aK,hy,rfl⟩:=gJ.1 o;rwa [zn hF<|h.status b hy]
  let S:∀(j:Nat) x,0<j->j≠lw+i->gs[j]? =Z x->(mP (gs.map<|woken P (f i).g c w) (lw+i) c)[j]? =Z x:=λj x b u o=>by grind
  let aH:=h.1;refine⟨s,⟨.quit,(f i).O,c,(f i).w,n⟩,_,_,hr,⟨h.1,NE,h.3,h.4.mute C (Wf hm _) ⟨_,l⟩,h.5.app (λop ho=>az (aA j4))<|Wh hm _,?_,Dw,h.8,?_,λj x b MT o=>?_,λj b=>?_,λj b=>?_,λX=>?_,λj b=>⟨?_,(h.14 j b).2.1,?_⟩,h.15,h.16⟩,?_,λe=>(G e).1⟩;refine⟨st,sm,aD,?_,λe=>Ds (G e).1⟩;have:(λj=>(upd f i ⟨.quit,(f i).O,c,(f i).w,n⟩ j).p)=λj=>(f j).p:=by funext j;by_cases d:j=i;subst d;rw[jN];exact D.y;rw[lu f _ d]
  rw[this];exact aC;rw[qR l<|dB K];exact h.9;rw[qR l Y];exact h.kV j x b MT<|cm j x b Y o;by_cases d:j=i;subst d;rw[jN];exact⟨T,by simp[(bf.1 H).1]⟩;rw[lu f _ d];exact⟨(h.11 j b).1,S _ _ Y Y (h.11 j b).2⟩;by_cases d:j=i;subst d;rw[jN];refine⟨A.1,λu=>absurd U u,λ_=>⟨?_,V⟩,λ_=>?_⟩;rw[Deaf_own];exact Dy;let⟨r,hr⟩:=A.4 j4;exact⟨r,hr.Nv C⟩;rw[lu f _ d];exact(h.12 j b).other l Y<|.refl ..;exact(h.13 X).app λj k _ hk=>hk.Nv C;rw[qR l Y];exact(h.14 j b).1;exact AH l Y (h.14 j b).2.2;exact az ⟨D,U,by simp[B]⟩
def Inv.gone(h:Inv P ty Wg kp Q lh lw O0 mp a bl w0 m f Ow q gs w t)(K:a.3=.running)(v:0<k)(T:k<lw)(u:gs[k]? =Z g)(s:g.3=.running):
  ∃o n A G,runT P (crowd gs w sl) k=(.next<|crowd A w sl,G)/\Inv P ty Wg kp Q lh lw O0 mp a o w0 m f Ow (upd q k n) A w (t++G)/\n<q k/\(o=M->bl=M):=by
 let⟨st,sm,af,W,N⟩:=h.6
 let C:k≠0:=Y;let S:(k==0)=aa:=bV;have r:=h.kV k g v T u;cases D:q k with
 |zero=>rw[D]at r;rw[r.1]at s;cases s
 |succ n=>
  rw[D]at r;obtain⟨O,_⟩|⟨_,c,H,hm,MX,Dy⟩:=r;·rw[O]at s;cases s
  let hr:=FQ (P:=P) (sl:=sl) (i:=k) u (by rw[S];exact MX w);let l:=xT k g.1.1 g.1.place H;let z:=Wj (k:=k) (fn:=g.1.1) (pos:=g.1.place) hm;let hF:woken P g c w=woken P g c w\/(woken P g c w=id/\False):=aA U;let⟨o,V,B⟩:=PM h.7 K hF C;let cm:∀(j:Nat) x,0<j->j≠k->(mP (gs.map<|woken P g c w) k c)[j]? =Z x->gs[j]? =Z x:=λj x b E d=>by rw[gn<|dB E,jL]at d;obtain⟨an,hy,rfl⟩:=gJ.1 d;rwa [zn hF<|h.status b hy]
  refine⟨o,n,_,_,hr,⟨h.1,NE,h.3,h.4.mute z (Wf hm _) ⟨_,l⟩,h.5.app (λop X=>az (az<|z op X))<|Wh hm _,⟨st,sm,af,W,λe=>N (B e).1⟩,V,h.8,?_,λj x b R d=>?_,λj b=>⟨(h.11 j b).1,(λj x b E d=>by grind) _ _ Y Y (h.11 j b).2⟩,λj b=>((h.12 j b).other l Y<|.refl ..),λL=>((h.13 L).app λj k _ v=>v.Nv z),λj b=>⟨?_,(h.14 j b).2.1,AH l Y (h.14 j b).2.2⟩,h.15,h.16⟩,Y,λe=>(B e).1⟩;rw[qR l<|dB C];exact h.9;by_cases p:j=k;subst p;rw[EF j4]at d;obtain rfl:=ey d;rwa [jN,Deaf_own];rw[qR l p,lu q n p];exact h.kV j x b R<|cm j x b p d;rw[qR l Y];exact(h.14 j b).1
end
section
variable [an] [bJ] {P:bM} {ty:aY} {Wg:Nat} {kp:Loc->Prop} {Q:Nat->(Nat->Prop)->aq->Prop} {lh lw:Nat} {O0:wM} {mp:Mp} {a:bK} {w0:aq} {m:Nat} {f:Nat->oP} {Ow:Nat->Nat->Prop} {q:Nat->Nat} {gs:aF bK} {w:aq} {t:iN} {sl:aV (Nat×Nat)}
def CU.running(h:CU mp a aa gs):gs[0]? =Z a:=by obtain⟨_,h⟩|⟨e,_⟩:=h;exact h;cases e
def Inv.VT(h:Inv P ty Wg kp Q lh lw O0 mp a aa w0 m f Ow q gs w t)(C:a.3=.running){g' w' bW p'}(H:jl P M a w g' w' bW)(J:∀d:iN,d.map (·.act)=bW->(∀op∈d,op.g=0)->TC Wg (lN Ow 0<|fE (Ow 0) w w') w'.1.size (t++d)/\KT kp Wg lw (t++d)/\ik (t++d) 0=p'.lB/\(p'=.back->Px Wg lw m (t++d)))(G:∃st sm,eh ty Wg w' st sm/\Mode m (λi=>(f i).p) p' st sm)(A:∀o:Nat->Prop,(∀b,o b->¬Ow 0 b)->(∀b,o b->b<pB w.1)->¬o Wg->tb ty Wg o w w'):
  ∃v z d,runT P (crowd gs w sl) 0=(.next<|crowd z w' sl,d)/\Inv P ty Wg kp Q lh lw O0 p' g' aa w' m f v q z w' (t++d)/\v 0=fE (Ow 0) w w':=by
 let h0:=h.7.running
 let⟨u,d,hr,hF,D,l⟩:=YE (sl:=sl) (i:=0) h0 (h.Wy C) H
 let⟨L,N,O,R⟩:=J d D l
 let S:=h.1
 let cm:∀(j:Nat) x,0<j->(mP (gs.map u) 0 g')[j]? =Z x->gs[j]? =Z x:=λj x c n=>by rw[gn Y,jL]at n;obtain⟨T,K,rfl⟩:=gJ.1 n;rwa [zn hF<|h.status c K]
 let⟨st,sm,m1,m2⟩:=G
 refine⟨lN Ow 0<|fE (Ow 0) w w',_,d,hr,⟨h.1,NE,h.3,L,N,⟨st,sm,m1,m2,λe=>by cases e⟩,aA ⟨U,by simp[(bf.1 h0).1]⟩,.refl ..,O,λj x c s n=>?_,λj c=>?_,λj c=>?_,R,λj c=>⟨?_,?_,AH l Y (h.14 j c).2.2⟩,λj c s=>?_,RL h.16 (A O0.X (λb k r=>h.16.1 0 b r k) h.16.pu h.16.5) λb k=>k.imp id λh=>h.1⟩,IV ..⟩;rw[qR l Y];exact h.kV j x c s<|cm j x c n;rw[ot Ow Y];exact⟨(h.11 j c).1,(λj x c n=>by grind) _ _ Y (h.11 j c).2⟩;refine(h.12 j c).other l Y ((h.11 j c).1▸A (Ow<|lw+j) (λb k r=>?_) (λb k=>h.4.5 _ b k) (h.4.4 _));have:=h.4.3 _ _ b k r;omega;rw[qR l Y];exact(h.14 j c).1;rw[ot Ow Y];exact(h.14 j c).2.1;rw[ot Ow Y];exact h.15 j c s
def fN.back{w w' p bW}(h:fN ty Wg O w p w' bW .back):p=.back\/(p=.wZ/\bW=#[QD<|.acquire<|stA Wg]):=by
 generalize b:Mp.back=e at h;cases h with
 |acq=>exact az ⟨U,by simp[mk,dW]⟩
 |own d=>subst b;exact aA U
 |idle=>subst b;exact aA U
 |nY c=>obtain rfl|⟨_,rfl,_⟩:=c<;>cases b
 |_=>cases b
def Inv.ady(h:Inv P ty Wg kp Q lh lw O0 mp a aa w0 m f Ow q gs w t)(B:a.3=.running){g' w' bW p'}(G:jl P M a w g' w' bW)(b:fN ty Wg (Ow 0) w mp w' bW p'):
  ∃n o d,runT P (crowd gs w sl) 0=(.next<|crowd o w' sl,d)/\Inv P ty Wg kp Q lh lw O0 p' g' aa w' m f n q o w' (t++d)/\n 0=fE (Ow 0) w w':=by
 let⟨st,sm,H,u,_⟩:=h.6
 let hm:m<2147483647:=by have:=h.3;omega
 let K:=h.1;refine h.VT B G (λd g c=>⟨b.tc U h.4 g c,b.kt h.5 g c,b.lB g c h.9,λD=>?_⟩) (u.main H (h.4.4 0) h.4.6 b hm) λJ x z A=>b.IC x z (h.4.4 0) A h.4.6;subst D;obtain e|⟨e,v⟩:=b.back;exact(h.13 e).app λi k _ j=>j.other c Y;subst e v;have E:pB d=1:=by have:=cG Array.size g;simpa using this
 obtain⟨op,rfl⟩:∃op,d=#[op]:=by
  let⟨l⟩:=d;match l,E with
  |[op],_=>exact⟨op,U⟩
 have C:op.4=.mark (.acquire<|stA Wg):=j4
 have j:=c op ay;refine⟨pB t,by simp[zP,C],by simp[wm,j],⟨0,by simp[wm,j],?_⟩,λi s=>?_⟩;rw[KS<|aR _];exact h.9
 let⟨r,hr⟩:=(h.12 i s).4 (by rw[((u.yR trivial).1) i s];simp)
 refine⟨r,hr.other c Y,?_⟩;have:=hr.1.1;unfold zP at this
 grind
def Inv.take(h:Inv P ty Wg kp Q lh lw O0 .reg a aa w0 m f Ow q gs w t)(i:a.3=.running){st}(k:eh ty Wg w st 1){g'}(v:bi P M a w=.go g' (w.setCell (smA Wg)<|ι .u32 0) (fk<|smA Wg)):
  ∃c d b,runT P (crowd gs w sl) 0=(.next<|crowd d (w.setCell (smA Wg)<|ι .u32 0) sl,b)/\Inv P ty Wg kp Q lh lw O0 .woken g' aa (w.setCell (smA Wg)<|ι .u32 0) m f c q d (w.setCell (smA Wg)<|ι .u32 0) (t++b)/\c 0=Ow 0:=by
 let⟨C,B,x,u,_⟩:=h.6
 let⟨rfl,rfl⟩:=k.unique x;let p:∀act∈(fk<|smA Wg).map dW,Ac Wg act:=λact i=>(Nh Wg act i).Hw;have:=h.VT (sl:=sl) (p':=.woken) i (.go v) (λb o j=>⟨YA (az ⟨ay,p⟩) ay U h.4 o j,h.5.app (λop r=>aA (j op r)) λop r=>(p _ j4).3,?_,λe=>by cases e⟩) (u.take k) λz l n g=>rj U g ⟨_,_,k.setSm _⟩
 let⟨c,d,b,l,n,g⟩:=this
 exact⟨c,d,b,l,n,g.E (GZ ay)⟩;rw[GA j,o,h.9];simp[oV,dW,fk,Mp.lB]
def Inv.block(h:Inv P ty Wg kp Q lh lw O0 .reg a aa w0 m f Ow q gs w t)(s:a.5=aj){st}(v:eh ty Wg w st 0)(u:bi P M a w=.go {a with status:=.blocked} w #[]):
  ∃c l,runT P (crowd gs w sl) 0=(.next<|crowd c w sl,l)/\Inv P ty Wg kp Q lh lw O0 .reg a M w0 m f Ow q c w (t++l):=by
 let⟨C,B,d,r,_⟩:=h.6
 let⟨rfl,rfl⟩:=v.unique d;let h0:=h.7.running;let A:=h.1;let hF:woken P a {a with status:=.blocked} w=woken P a {a with status:=.blocked} w\/(woken P a {a with status:=.blocked} w=id/\False):=aA U;let n:t++sZ 0 a.1.1 a.1.place #[]=t:=by rw[KX];simp
 refine⟨_,_,(FQ (P:=P) (sl:=sl) (i:=0) h0<|show bi P (0==0) a w=_ from u),?_⟩;rw[n];refine⟨h.1,NE,h.3,h.4,h.5,⟨_,_,d,r,λ_ e=>by cases e⟩,az ⟨U,U,s,by simp[(bf.1 h0).1]⟩,h.8,h.9,λj x b o g=>?_,λj b=>⟨(h.11 j b).1,?_⟩,h.12,h.13,h.14,h.15,h.16⟩;rw[gn Y,jL]at g;obtain⟨z,k,rfl⟩:=gJ.1 g;rw[zn hF<|h.status b k];exact h.kV j z b o k;rw[gn Y,jL,(h.11 j b).2];simp[zn hF<|h.status Y (h.11 j b).2]
def Z2{x lm j}(b:x.4=.go c)(hy:lm.4=.start):ik (t++#[x,lm]) j=ik t j:=by rw[show(#[x,lm]:aF MemOp)=[x,lm].toArray from U,(Deaf_append t j [x,lm])];simp[FK,b,hy]
def Inv.fork(h:Inv P ty Wg kp Q lh lw O0 .ready a aa w0 m f Ow q gs w t)(N:m<lh){R}(B:∀b,A b->Ow 0 b)(hR:∀b,R b->Ow 0 b)(L:∀b,A b->¬R b)(ak:∀b,Ow 0 b->A b\/R b){g' l}(V:bi P M a w=.spawn g' l w #[])(X:WS P ty Wg (Q m) .work A l w):
  ∃K E G jt,runT P (crowd gs w sl) 0=(.next<|crowd G w sl,jt)/\Inv P ty Wg kp Q lh lw O0 .opn g' aa w (m+1) K E q G w (t++jt)/\E 0=R:=by
 let⟨st,sm,W,T,_⟩:=h.6
 let h0:=h.7.running;have hr:=runT_crowd_spawn (P:=P) (sl:=sl) (i:=0) h0 (show bi P (0==0) a w=_ from V);let aC:=h.1;let H:=h.2
 let O:((sZ 0 a.1.1 a.1.place #[]).push {g:=0,fn:=a.1.1,pos:=a.1.place,act:=.go gs.size}).push {g:=pB gs,fn:=l.1.1,pos:=a.1.place,act:=.start}=#[{g:=0,fn:=a.1.1,pos:=a.1.place,act:=.go gs.size},{g:=pB gs,fn:=l.1.1,pos:=a.1.place,act:=.start}]:=by rw[KX];simp
 rw[O]at hr;generalize p:({g:=0,fn:=a.1.1,pos:=a.1.place,act:=.go gs.size}:MemOp)=x at hr;generalize hy:({g:=pB gs,fn:=l.1.1,pos:=a.1.place,act:=.start}:MemOp)=r at hr;let u:x.g=0/\x.4=.go (lw+m):=by rw[<-p,<-H];exact⟨U,U⟩
 let v:r.g=lw+m/\r.4=.start:=by rw[<-hy,<-H];exact⟨U,U⟩
 let s:∀j,ik (t++#[x,r]) j=ik t j:=λj=>Z2 u.2 v.2;let split:t++#[x,r]=(t++#[x])++#[r]:=by apply Bx;simp
 let ah:∀(j:Nat) z,j≠0->gs[j]? =Z z->((mP gs 0 g').push l)[j]? =Z z:=λj z n D=>by grind
 refine⟨upd f m ⟨.work,A,l,w,0⟩,lN (lN Ow 0 R) (lw+m) A,_,_,hr,⟨h.1,by simp[h.2];omega,⟨h.3.1,N⟩,h.4.fork Y B hR L (h.14 _<|aR _).2.1 u v h.9 (h.14 _<|aR _).1,h.5.app (λop d=>?_)<|λop d=>?_,⟨st,sm,W,by rw[YK];exact T.spawn,(λe=>by cases e)⟩,aA ⟨U,?_⟩,.refl ..,?_,λj z n C D=>?_,λj n=>?_,λj n=>?_,(λe=>by cases e),λj n=>⟨?_,?_,?_⟩,λj n C=>?_,⟨λj b c p=>?_,λj b c=>?_,h.16.3,h.16.4,h.16.5⟩⟩,?_⟩;simp at d
 grind
 simp at d
 grind
 rw[oF,aI bV];simp[(bf.1 h0).1];rw[s];exact h.9
 ·rw[s];exact h.kV j z n C<|(λj z n an D=>by grind) j z Y Y D
 by_cases o:j=m
 subst o;rw[jN,IV]
 grind
 rw[lu f _ o,ot _ Y,ot _ Y];exact⟨(h.11 j Y).1,ah _ _ Y (h.11 j Y).2⟩
 by_cases o:j=m
 subst o;rw[jN];refine⟨.refl ..,λ_=>⟨X,?_⟩,(λe=>by cases e),λe=>absurd U e⟩;rw[s];exact(h.14 _<|aR _).1;rw[lu f _ o,split];exact((h.12 j Y).other (j:=0) (jt:=#[x]) (λop d=>by simp at d;rw[d];exact u.1) Y<|.refl ..).other (j:=lw+m) (λop d=>by simp at d;rw[d];exact v.1) Y (.refl ..);rw[s];exact(h.14 j Y).1;rw[ot _ Y,ot _ Y];exact(h.14 j Y).2.1;rw[split];exact AH (k:=lw+m) (λop d=>by simp at d;rw[d];exact v.1) Y (AH (k:=0) (λop d=>by simp at d;rw[d];exact u.1) Y (h.14 j Y).2.2);rw[ot _ Y,ot _ Y];exact h.15 j n C;obtain⟨_,c⟩|⟨_,⟨_,c⟩|⟨_,c⟩⟩:=c;exact h.16.1 0 b (B b c) p;exact h.16.1 0 b (hR b c) p;exact h.16.1 j b c p;obtain⟨_,c⟩|⟨_,⟨_,c⟩|⟨_,c⟩⟩:=c;exact h.16.2 0 b<|B b c;exact h.16.2 0 b<|hR b c;exact h.16.2 j b c;rw[ot _ Y,IV]
end
section
variable [an] [bJ] {P:bM} {ty:aY} {Wg:Nat} {kp:Loc->Prop} {kw:Nat->(Nat->Prop)->bK->aq->Prop} {Q:Nat->(Nat->Prop)->aq->Prop} {lh lw:Nat} {O0:wM} {mp:Mp} {a:bK} {w0:aq} {m:Nat}
def wF(P:bM)(ty:aY)(Wg:Nat)(kp:Loc->Prop)(kw:Nat->(Nat->Prop)->bK->aq->Prop)(Q:Nat->(Nat->Prop)->aq->Prop)(lh lw:Nat)(O0:wM)(gs:aF bK)(w:aq)(sl:aV (Nat×Nat))(t:iN):Prop:=∃N a w0 m f Ow q c b e d,runNT P N (crowd gs w sl) t=(.next<|crowd c b e,d)/\Inv P ty Wg kp Q lh lw O0 .back a aa w0 m f Ow q c b d/\kw m (Ow 0) a b/\iF w b
def wF.step{gs ng sl Jc jt}(i:stepT P (crowd gs w sl)=(.next<|crowd ng w1 Jc,jt))(j:iF w w1)(h:wF P ty Wg kp kw Q lh lw O0 ng w1 Jc (t++jt)):wF P ty Wg kp kw Q lh lw O0 gs w sl t:=let⟨N,a,w0,m,f,Ow,q,b,n,k,l,c,d,e,g⟩:=h;⟨N+1,a,w0,m,f,Ow,q,b,n,k,l,by simp only[runNT,i];exact c,d,e,j.E g⟩
def Inv.go(B:a.3=.running)
  (Dw:∀f Ow q b w sl t,Ow 0=O->Inv P ty Wg kp Q lh lw O0 mp a aa w0 m f Ow q b w t->∃u r c,runT P (crowd b w sl) 0=(.next<|crowd u r sl,c)/\iF w r/\(wF P ty Wg kp kw Q lh lw O0 u r sl (t++c)\/Inv P ty Wg kp Q lh lw O0 mp a M w0 m f Ow q u r (t++c))):
  ∀f,Acc (Ax (su P ty Wg) (CY ty Wg) m) f->∀S bl Ow q b w sl t,fa lw q<S->Ow 0=O->Inv P ty Wg kp Q lh lw O0 mp a bl w0 m f Ow q b w t->wF P ty Wg kp kw Q lh lw O0 b w sl t:=by
 intro f an;induction an with
 |intro f _ V=>
  intro S;induction S with
  |zero=>exact λbl Ow q b w sl t h=>absurd h Y
  |succ S aE=>
   let down:∀{i:Nat} {G:oP},i<m->su P ty Wg G (f i)->Ax (su P ty Wg) (CY ty Wg) m (upd f i G) f:=λ{i G} s hd=>⟨i,s,by rw[jN];exact hd,λj _ aD=>by rw[lu f _ aD];exact⟨U,U,U,U,.refl ..⟩⟩
   let other:∀bl Ow q b w sl t,fa lw q<S+1->Ow 0=O->Inv P ty Wg kp Q lh lw O0 mp a bl w0 m f Ow q b w t->∀(k:Nat) g,0<k->b[k]? =Z g->g.3=.running->
     ∃u r c,runT P (crowd b w sl) k=(.next<|crowd u r sl,c)/\iF w r/\wF P ty Wg kp kw Q lh lw O0 u r sl (t++c):=by
    intro bl Ow q b w sl t hS x h k g C A T
    by_cases R:k<lw
    let⟨D,n,z,c,l,o,v,_⟩:=h.gone (sl:=sl) B C R A T
    have:fa lw (upd q k n)+q k=fa lw q+n:=sumTo_upd q n id R;exact⟨z,w,c,l,.refl _,aE D Ow _ z w sl _ Y x o⟩;obtain⟨i,rfl⟩:∃i,k=lw+i:=⟨k-lw,Y⟩
    let s:i<m:=by have:=(bf.1 A).1;have:=h.2;omega
    have N:=(h.11 i s).2;rw[A]at N;obtain rfl:=ey N
    by_cases E:(f i).p=.quit
    let⟨D,G,z,c,l,o,v,_⟩:=h.leaves (sl:=sl) B s E T
    exact⟨z,w,c,l,.refl _,V _ (down s v) _ D Ow q z w sl _ (FA _) x o⟩
    let⟨D,G,X,z,W,c,l,o,v,h4,_,h5⟩:=h.worker (sl:=sl) B s E
    exact⟨z,W,c,l,h4,V _ (down s v) _ D X q z W sl _ (FA _) (h5.E x) o⟩
   let hT:∀Ow q b w sl t,fa lw q<S+1->Ow 0=O->Inv P ty Wg kp Q lh lw O0 mp a M w0 m f Ow q b w t->wF P ty Wg kp kw Q lh lw O0 b w sl t:=by
    intro Ow q b w sl t hS x h;let L:mp=.reg/\b[0]? =Z {a with status:=.blocked}:=by obtain⟨e,_⟩|⟨_,e,_,h0⟩:=h.7;cases e;exact⟨e,h0⟩
    let⟨st,sm,aH,K,Ds⟩:=h.6;let⟨i,s,E⟩:∃i,i<m/\(f i).p≠.quit:=by rw[L.1]at K;obtain e|⟨_,e,_⟩:=K.OF;subst e;exact K.ahw;cases Ds rfl e
    let⟨k,g,d,J,C,A,H⟩:=crowd_pick (P:=P) (w:=w) (sl:=sl) (h.Sb B) ⟨lw+i,_,(h.11 i s).2,((h.12 i s).2 E).1.running E⟩;obtain rfl|hpos:=qF k;rw[L.2]at C;grind;let⟨u,r,c,l,o,v⟩:=other M Ow q b (w.at d) J t hS x (h.at d) k g hpos C A;exact .step (H.E l) ((iF.at w d).E o) v
   intro bl Ow q b w sl t hS x h;cases bl with
   |true=>exact hT Ow q b w sl t hS x h
   |false=>let⟨k,g,d,J,C,A,H⟩:=crowd_pick (P:=P) (w:=w) (sl:=sl) (h.Sb B) ⟨0,a,h.7.running,B⟩;obtain rfl|hpos:=qF k;let⟨u,r,c,l,o,v⟩:=Dw f Ow q b (w.at d) J t x (h.at d);refine .step (H.E l) ((iF.at w d).E o) ?_;grind;let⟨u,r,c,l,o,v⟩:=other aa Ow q b (w.at d) J t hS x (h.at d) k g hpos C A;exact .step (H.E l) ((iF.at w d).E o) v
def Inv.acc{f bl Ow q gs}(h:Inv P ty Wg kp Q lh lw O0 mp a bl w0 m f Ow q gs w t):Acc (Ax (su P ty Wg) (CY ty Wg) m) f:=akn m f λi c=>by by_cases b:(f i).p=.quit;exact aA b;exact az ((h.12 i c).2 b).1
def LP{r p}(N:MS P ty Wg kw Q lh r p O g w0):∀f Ow q d w sl t,Ow 0=O->Inv P ty Wg kp Q lh lw O0 p g aa w0 r f Ow q d w t->wF P ty Wg kp kw Q lh lw O0 d w sl t:=by
 induction N with
 |done h=>intro f Ow q d w sl t b hI;subst b;exact⟨0,_,_,_,f,Ow,q,d,w,sl,t,U,hI,h w hI.8,.refl _⟩
 |@step r p O g w0 j W h k z=>refine λf Ow q d w sl t b hI=>Inv.go j (λf Ow q d w sl t b hI=>?_) f hI.acc (fa lw q+1) aa Ow q d w sl t Y b hI;let⟨st,sm,l,B,_⟩:=hI.6;let G:=B.aat l (by have:=hI.3;omega);have hrel:=hI.8;rw[b]at hrel;let⟨u,C,H,i,E⟩:=h w hrel G;obtain⟨x,e,s,n,o,v⟩:=hI.ady (sl:=sl) j i (by rw[b];exact E);rw[b]at v;exact⟨e,C,s,n,E.same,aA<|z w u C H hrel G i f x q e C sl _ v o⟩
 |@sem r O g w0 j S L h k z=>refine λf Ow q d w sl t b hI=>Inv.go j (λf Ow q d w sl t b hI=>?_) f hI.acc (fa lw q+1) aa Ow q d w sl t Y b hI;let⟨st,sm,l,B,_⟩:=hI.6;have hrel:=hI.8;rw[b]at hrel;obtain rfl|⟨rfl,rfl,_⟩:=B.OF;let⟨e,s,n,o⟩:=hI.block (sl:=sl) S l (L w hrel ⟨_,l⟩);exact⟨e,w,s,n,.refl _,az o⟩;let⟨u,i⟩:=h w hrel l;let⟨x,e,s,n,o,v⟩:=hI.take (sl:=sl) j l i;exact⟨e,_,s,n,.set ..,aA<|z w u hrel l i f x q e _ sl _ (v.E b) o⟩
 |@spawn r O A R g w0 hr j T hR K V h c k z=>refine λf Ow q d w sl t b hI=>Inv.go j (λf Ow q d w sl t b hI=>?_) f hI.acc (fa lw q+1) aa Ow q d w sl t Y b hI;have hrel:=hI.8;rw[b]at hrel;let⟨u,D,i,_⟩:=h w hrel;let⟨J,x,e,s,n,o,v⟩:=hI.fork (sl:=sl) hr j4 j4 K j4 i (c w u D hrel i);exact⟨e,w,s,n,.refl _,aA<|z w u D hrel i J x q e w sl _ v o⟩
end
section
variable [an] [bJ] {P:bM} {ty:aY} {Wg:Nat} {kp:Loc->Prop} {Q:Nat->(Nat->Prop)->aq->Prop} {lh lw:Nat} {O0:wM} {a:bK} {w0:aq} {m:Nat} {f:Nat->oP} {Ow:Nat->Nat->Prop} {q:Nat->Nat} {gs:aF bK} {w:aq} {t:iN}
def Inv.over(h:Inv P ty Wg kp Q lh lw O0 .back a aa w0 m f Ow q gs w t):
  gs[0]? =Z a/\(∃G,uv P t gs G)/\NT (λl=>kp l\/ShN Wg l) w.1.size t/\eh ty Wg w 0 0/\(∀i,i<m->Q i (Ow<|lw+i) w)/\(∀i j,t.g? i=Z j->j<pB gs)/\tb ty Wg O0.X O0.W w/\(∀k b,Ow k b->b<pB w.1)/\∀k,¬Ow k Wg:=by
 let⟨st,sm,E,D,_⟩:=h.6
 obtain⟨u,rfl,rfl⟩:=D.yR trivial
 let⟨s,x,z,A,B⟩:=h.13 U
 let v:∀i j,t.g? i=Z j->j<lw+m:=λi j e=>Nat.lt_of_not_le λC=>(h.14 j C).2.2 i e;refine⟨h.7.running,⟨λi=>if i<lw then q i else(f<|i-lw).n,λi g c d=>?_,λj e=>(h.14 j (by rw[<-h.2];exact e)).1⟩,aeU h.4 h.5 x z A (λi g d H=>?_) h.9,E,λi c=>?_,by rw[h.2];exact v,h.16.4,h.4.5,h.4.4⟩
 by_cases p:i<lw
 rw[aO p];exact h.kV i g c p d;rw[aI p];obtain⟨k,rfl⟩:∃k,i=lw+k:=⟨i-lw,Y⟩
 let o:k<m:=by have:=(bf.1 d).1;have:=h.2;omega
 have r:=(h.11 k o).2;rw[d]at r;obtain rfl:=ey r;rw[Cd];exact((h.12 k o).3<|u k o).1;obtain⟨k,rfl⟩:∃k,g=lw+k:=⟨g-lw,Y⟩;exact B k j4;have:=((h.12 i c).3<|u i c).2 w (h.12 i c).1
 rwa [(h.11 i c).1]at this
def Inv.start{X W}(D:∀b,O b->¬X b)(G:∀b,X b->b<pB W.1)(H:tb ty Wg X W w)(E:¬X Wg)(A:lh<2147483647)(h0:gs[0]? =Z a)(r:uv P t gs q)(h:NT kp Wg t)(z:∀i j,t.g? i=Z j->j<pB gs)(o:eh ty Wg w 0 0)(B:∀b,O b->b<pB w.1)(C:¬O Wg)(hc:∀b,O b->∀l,mh b l->¬kp l):
  Inv P ty Wg kp Q lh gs.size ⟨X,O,W⟩ .opn a aa w 0 (λ_=>⟨.quit,λ_=>False,a,w,0⟩) (λk b=>k=0/\O b) q gs w t:=by
 let K:=(bf.1 h0).1
 let v:Wg<pB w.1:=by unfold JU at o;exact(bf.1 o).1
 let s:=h.V (oI v);refine⟨K,U,⟨A,cO _⟩,TC.start s hc B C v<|λop n x N L=>?_,KT.start s<|λi c=>?_,⟨0,0,o,?_,(λe=>by cases e)⟩,aA ⟨U,h0⟩,.refl ..,h.4,λi g c _ J=>r.1 i g c J,λi c=>absurd c (rR _),λi c=>absurd c (rR _),(λe=>by cases e),λj u=>⟨r.2 j u,λb d=>?_,λi c=>?_⟩,λj u _ b d=>?_,⟨λj b d=>D b d.2,λj b d=>aA d.2,G,H,E⟩⟩;have:=YF (h.5 op n) N;obtain⟨R,e,rfl⟩:=L;rw[e]at this;exact uD _ this;unfold zP at c
 let⟨op,n,e⟩:=gJ.1 c
 have:=h.5 op (vF n);rw[e]at this;exact uD _ this;have e:(0:Int)=((fa 0 (λi=>((λ_=>(⟨.quit,λ_=>False,a,w,0⟩:oP)) i).p.pd)+Mp.opn.pend:Nat):Int) *KK:=by simp[fa,Mp.pend]
 have:=Mode.opn (m:=0) (f:=λi=>((λ_=>(⟨.quit,λ_=>False,a,w,0⟩:oP)) i).p) (p:=.opn) trivial (λi c=>absurd c (rR _)) (λb e=>by cases e) (λb e=>by cases e)
 rwa [<-e]at this
 let⟨rfl,_⟩:=d;omega;have:=z i j c;omega;let⟨rfl,_⟩:=d;omega
end
section
variable [an] [bJ] {P:bM} {km:Bool} {ty:aY} {Wg:Nat} {ky:(Nat->Prop)->bK->aq->Prop} {O:Nat->Prop} {g g':bK} {w:aq} {b:aP} {a:eQ} {k:av gB} {cs:av aP}
def uI.refl(O w):uI O w w:=⟨λ_ _ _=>U,aR _,U,U,U⟩
def iR.more{O' B' x}(h:iR Wg O B x)(f:∀c,O c->O' c)(j:B<=B'):iR Wg O' B' x:=⟨λm l=>(h.1 m l).imp (λ⟨i,e,d⟩=>⟨i,e,f _ d⟩) λh=>h.imp (λ⟨r,e,d⟩=>⟨r,e,f _ d⟩) id,h.2,E1 j h.3,h.4,h.5⟩
def CJ.quiet(m:g.3=.running)(h:∀d,tb ty Wg O w d->∃f,bi P km g d=.go g' d f/\∀e∈f,iR Wg O d.1.size<|.ofEvent e)(c:CJ P km ty Wg ky O g' w):CJ P km ty Wg ky O g w:=.one m λd r=>by let⟨f,i,j⟩:=h d r;refine⟨g',d,_,.go i,.refl O d,λx n=>?_,by rw[MF];exact c.rely r⟩;obtain⟨e,l,rfl⟩:=rC.1 n;rw[MF];exact j e l
def CJ.ctl(e:g.3=.running)(h:∀d,tb ty Wg O w d->bi P km g d=.go g' d)(c:CJ P km ty Wg ky O g' w):CJ P km ty Wg ky O g w:=.quiet e (λd r=>⟨#[],h d r,ay⟩) c
def CJ.seq{x lm}(c:CJ P km ty Wg ky O (G (b.at a (.code x::.code lm::k)) cs) w):CJ P km ty Wg ky O (G (b.at a (.code (.seq x lm)::k)) cs) w:=.ctl U (λ_ _=>bZ) c
def CJ.skip(c:CJ P km ty Wg ky O (G (b.at a k) cs) w):CJ P km ty Wg ky O (G (b.at a (.code .skip::k)) cs) w:=.ctl U (λ_ _=>nH) c
def CJ.cond{x lm z v}(hc:a.eval x=ω v)(c:CJ P km ty Wg ky O (G (b.at a (.code (if v then lm else z)::k)) cs) w):CJ P km ty Wg ky O (G (b.at a (.code (.cond x lm z)::k)) cs) w:=.ctl U (λ_ _=>stepG_cond hc) c
def CJ.block{id x}(c:CJ P km ty Wg ky O (G (b.at a (.code x::.inBlock id::k)) cs) w):CJ P km ty Wg ky O (G (b.at a (.code (.block id x)::k)) cs) w:=.ctl U (λ_ _=>Cy) c
def CJ.inBlock{id}(c:CJ P km ty Wg ky O (G (b.at a k) cs) w):CJ P km ty Wg ky O (G (b.at a (.inBlock id::k)) cs) w:=.ctl U (λ_ _=>QX) c
def CJ.loop{x}(c:CJ P km ty Wg ky O (G (b.at a (.code x::.inLoop x::k)) cs) w):CJ P km ty Wg ky O (G (b.at a (.code (.loop x)::k)) cs) w:=.ctl U (λ_ _=>Wq) c
def CJ.inLoop{x}(c:CJ P km ty Wg ky O (G (b.at a (.code x::.inLoop x::k)) cs) w):CJ P km ty Wg ky O (G (b.at a (.inLoop x::k)) cs) w:=.ctl U (λ_ _=>QY) c
def CJ.exit{id k'}(d:fp id k=Z k')(c:CJ P km ty Wg ky O (G (b.at a k') cs) w):CJ P km ty Wg ky O (G (b.at a (.code (.exit id)::k)) cs) w:=.ctl U (λ_ _=>stepG_exit d) c
def CJ.region{id jt}(c:CJ P km ty Wg ky O (G (b.at a (.inRegion jt (dA jt.size)::k)) cs) w):CJ P km ty Wg ky O (G (b.at a (.code (.region id jt aa)::k)) cs) w:=.ctl U (λ_ _=>La) c
def CJ.regionEnd{jt}(c:CJ P km ty Wg ky O (G (b.at a k) cs) w):CJ P km ty Wg ky O (G (b.at a (.inRegion jt []::k)) cs) w:=.ctl U (λ_ _=>cH) c
def CJ.ret(c:CJ P km ty Wg ky O (G {b.at a (.code .ret::k)with mode:=.returning} cs) w):CJ P km ty Wg ky O (G (b.at a (.code .ret::k)) cs) w:=.ctl U (λ_ _=>oN) c
def CJ.end_(c:CJ P km ty Wg ky O (G {b.at a []with mode:=.returning} cs) w):CJ P km ty Wg ky O (G (b.at a []) cs) w:=.ctl U (λ_ _=>stepG_end) c
def CJ.unwanted{jt kj o}(d:jt[i]? =Z o)(e:cY o (co jt a.1)=aa)(c:CJ P km ty Wg ky O (G (b.at (a.put o.1 y) (.inRegion jt kj::k)) cs) w):CJ P km ty Wg ky O (G (b.at a (.inRegion jt (i::kj)::k)) cs) w:=.ctl U (λ_ _=>stepG_unwanted d e) c
def xk{fn o e}(h:e∈listed P fn a o w):e∈(a7 a.eval o).events P w #[]:=FP h
def CJ.op{jt kj o}(v)(j:jt[i]? =Z o)(l:cY o (co jt a.1)=M)(f:b.6≠.early)(hr:∀d,tb ty Wg O w d->(a7 a.eval o).run P d=.ok (.value v) d)(he:∀d,tb ty Wg O w d->∀e∈(a7 a.eval o).events P d #[],iR Wg O d.1.size<|.ofEvent e)(c:CJ P km ty Wg ky O (G (b.at (a.put o.1 v) (.inRegion jt kj::k)) cs) w):CJ P km ty Wg ky O (G (b.at a (.inRegion jt (i::kj)::k)) cs) w:=.quiet U (λd r=>⟨_,FV j l f<|hr d r,λe h=>he d r e (xk h)⟩) c
def CJ.make{jt kj o}(v:Nat->aB)(x)(n:jt[i]? =Z o)(p:cY o (co jt a.1)=M)(m:b.6≠.early)(hr:∀d,tb ty Wg O w d->(a7 a.eval o).run P d=.ok (.value<|v d.1.size) {d with heap:=d.1.push x}) (he:∀d,tb ty Wg O w d->∀e∈(a7 a.eval o).events P d #[],iR Wg (λc=>O c\/c=pB d.1) (pB d.1+1)<|.ofEvent e) (c:∀d,tb ty Wg O w d->CJ P km ty Wg ky (λc=>O c\/c=pB d.1) (G (b.at (a.put o.1<|v d.1.size) (.inRegion jt kj::k)) cs) {d with heap:=d.1.push x}):CJ P km ty Wg ky O (G (b.at a (.inRegion jt (i::kj)::k)) cs) w:=
 .one U λd r=>by
  let j:fE O d {d with heap:=d.1.push x}=λc=>O c\/c=pB d.1:=by funext f;apply propext;show(O f\/(pB d.1<=f/\f<pB (d.1.push x)))↔_;grind
  refine⟨_,_,_,.go<|FV n p m<|hr d r,⟨λf l _=>?_,ay,U,U,U⟩,λf l=>?_,by rw[j];exact c d r⟩;show(d.1.push x)[f]? =_;rw[oF,aI Y];obtain⟨e,h,rfl⟩:=rC.1 l;rw[j];have:=he d r e (xk h);exact DP
def CJ.enter{jt kj o args}(l:jt[i]? =Z o)(m:cY o (co jt a.1)=M)(j:b.6≠.early)(hr:∀d,tb ty Wg O w d->(a7 a.eval o).run P d=.ok (.enter f args) d)(he:∀d,tb ty Wg O w d->∀e∈(a7 a.eval o).events P d #[],iR Wg O d.1.size<|.ofEvent e)(c:CJ P km ty Wg ky O (G (ba P f args .normal) (b.at a (.inRegion jt (i::kj)::k)::cs)) w):CJ P km ty Wg ky O (G (b.at a (.inRegion jt (i::kj)::k)) cs) w:=.quiet U (λd r=>⟨_,stepG_enter l m j<|hr d r,λe h=>he d r e (xk h)⟩) c
def CJ.call{jt kj o fn args ats}(n:jt[i]? =Z o)(p:cY o (co jt a.1)=M)(m:b.6≠.early)(l:o.2=.call {callee:=.value<|.func f,args,argTypes:=ats}) (hf:P.2[f]? =Z fn) (j:(fn.1== "runtime.NumGoroutine")=aa) (d:fn.9.isNone=aa) (c:CJ P km ty Wg ky O (G (ba P f (args.map a.eval) .normal) (b.at a (.inRegion jt (i::kj)::k)::cs)) w):CJ P km ty Wg ky O (G (b.at a (.inRegion jt (i::kj)::k)) cs) w:=.enter n p m (λ_ _=>QW l hf j d) (λ_ _ e h=>by rw[QT l hf j d]at h;simp at h) c
def CJ.leave{fr c fn}(hm:fr.5=.returning)(hd:fr.4=[])(h:fr.6=.normal)(hf:P.2[fr.1]? =Z fn)(hr:fn.8=#[])(k:CJ P km ty Wg ky O (G (c.finish<|θ #[]) cs) w):CJ P km ty Wg ky O (G fr (c::cs)) w:=
 .ctl U (λd _=>(by
    let e:(bo fn fr.2).run P d=.ok (θ #[]) d:=L4;simp[G,bi,CB,lZ,hm,hd,h,hf,e,KU hr _ _,seen,iw])) k
def CJ.frame{X:Nat->Prop}{w0:aq}(h:CJ P km ty Wg ky O g w):(∀b,X b->b<pB w.1/\¬O b/\w.1[b]? =w0.1[b]?)->¬O Wg->WgLive ty Wg w->
  CJ P km ty Wg (λz g w=>∃m,ky m g w/\z=(λb=>m b\/X b)/\(∀b,X b->w.1[b]? =w0.1[b]?)/\¬m Wg/\WgLive ty Wg w) (λb=>O b\/X b) g w:=by
 let p:∀{O:Nat->Prop} {w d:aq},tb ty Wg (λb=>O b\/X b) w d->tb ty Wg O w d:=λr=>⟨λb e=>r.1 b (aA e),r.2,r.3,r.4⟩;induction h with
 |@stop O g w h=>exact λn i o=>.stop λd r=>⟨O,h d<|p r,U,λb e=>(r.1 b<|az e).E (n b e).2.2,i,r.3 o⟩
 |@step O g w D h k J=>
  refine λn i o=>.one D λd r=>?_;let⟨g',l,q,s,f,A⟩:=h d (p r);have v:=r.3 o;let E:Wg<pB d.1:=by let⟨st,sm,j⟩:=v;unfold JU at j;exact(bf.1 j).1
  let t:fE (λb=>O b\/X b) d l=λb=>fE O d l b\/X b:=by funext b;apply propext;constructor;rintro((h|h)|h);exact aA<|aA h;exact az h;exact aA<|az h;rintro((h|h)|h);exact aA<|aA h;exact az h;exact aA<|az h
  refine⟨g',l,q,s,⟨λb e G=>f.1 b e λH=>G (aA H),f.2,f.3,f.4,f.5⟩,λa B=>?_,?_⟩;rw[t];exact(A a B).more (λc C=>aA C)<|aR _;rw[t];refine J d g' l q (p r) s (λb e=>?_) ?_ ?_;let⟨K,x,L⟩:=n b e;let u:=cS K r.2;refine⟨cS u f.2,?_,(f.1 b u x).E<|(r.1 b<|az e).E L⟩;rintro(h|h);exact x h;omega;rintro(h|h);exact i h;omega;let⟨st,sm,j⟩:=v;exact⟨st,sm,(f.1 Wg E i).E j⟩
end
def Bu(k:av gB)(s:String):gB:=match k[s.length]? with|some (.code c)=>.code c|some (.inLoop c)=>.inLoop c|_=>.code .skip
def ajZ(k)(s:String):(∃c,Bu k s=.code c)\/∃c,Bu k s=.inLoop c:=by unfold Bu;split;exact aA ⟨_,U⟩;exact az ⟨_,U⟩;exact aA ⟨_,U⟩
abbrev eL(k:av gB):bJ:=⟨Bu k,ajZ k⟩
section
variable [an] {P:bM} {kw Mid:aP->av aP->aq->Prop} {fr:aP} {cs:av aP} {u:aq}
def xc{ρ σ}(g:ρ.le σ)(h:∀f∈cs,XF ρ f/\f.5=.run):∀f∈cs,XF σ f/\f.5=.run:=λf a=>⟨(h f a).1.V g,(h f a).2⟩
def tJ(ρ:ut)(kp:Loc->Prop)(w:aq):Prop:=∀b o,an.tY b=Z o->(∀x,¬ρ x b)/\w.1[b]? =Z o/\∀a:iL,a.1=b->¬kp (.cell a)
def uG(kp b:Loc->Prop)(w:aq):Prop:=∀a:iL,b (.cell a)->kp (.cell a)\/pB w.1<=a.1
def uG.refl(kp:Loc->Prop)(w):uG kp kp w:=λ_ h=>aA h
def uG.E{A B C}(h:uG A B w)(c:pB w.1<=pB w1.1)(k:uG B C w1):uG A C w:=λa b=>(k a b).e (h a) λe=>az (cM c e)
def tJ.went{ρ σ RB}(h:tJ ρ kp w)(k:jm ρ σ w w1)(c:uG kp RB w):tJ σ RB w1:=λb o j=>by let⟨d,f,g⟩:=h b o j;let l:=(bf.1 f).1;refine⟨λx n=>?_,(k.3 b l d).E f,λa i m=>?_⟩;obtain e|e:=k.4 x b n;exact d x e;omega;obtain e|e:=c a m;exact g a i e;omega
def tJ.at {ρ}(h:tJ ρ kp w)(d):tJ ρ kp (w.at d):=h
structure fV(P:bM)(kp:Loc->Prop)(S:Nat->Prop)(fr:aP)(cs:av aP)(u:aq)(ρ:ut)(gs:aF bK)(w:aq)(t:iN)(q:Nat->Nat):Prop where
 Ao:gs[0]? =Z (G fr cs)
 top:XF ρ fr
 low:∀f∈cs,XF ρ f/\f.mode=.run
 prog:P=ae
 world:Wl S ρ u w
 kV:uv P t gs q
 past:NT kp w.1.size t
 clear:zd kp S ρ w
 same:∀a b,ρ a b->a=b
 size:u.1.size=w.1.size
 dO:∀i j,t.g? i=Z j->j<gs.size
 full:Bd ρ u
def ti(P:bM)(kw:aP->av aP->aq->Prop)(fr:aP)(cs:av aP)(u:aq):Prop:=
 ∀(a:Loc->Prop) (S:Nat->Prop) (c:ut) (g:aF bK) (w:aq) (n:aV (Nat×Nat)) (t:iN) (q:Nat->Nat),fV P a S fr cs u c g w t q->tJ c a w->
  ∃N d l k f e j h b o i m,runNT P N (crowd g w n) t=(.next<|crowd h b o,i)/\kw f e j/\fV P d l f e j k h b i m/\jm c k w b/\uG a d w
def ti.here(h:kw fr cs u):ti P kw fr cs u:=haveI:bJ:=eL [];λa S b c w e t q d _=>⟨0,a,S,b,fr,cs,u,c,w,e,t,q,U,h,d,.refl b w,.refl a w⟩
def ti.bind(h:ti P Mid fr cs u)(k:∀fr cs u,Mid fr cs u->ti P kw fr cs u):ti P kw fr cs u:=λf S R m w G t q p b=>by haveI:bJ:=eL [];let⟨N,g,d,T,X,W,u1,n,O,H,t1,A,C,D,E,a,c⟩:=h f S R m w G t q p b;let⟨K,i,e,V,l,j,L,o,Q,J,t2,B,r,s,v,x,z⟩:=k _ _ _ D g d T n O H t1 A E (b.went a c);exact⟨N+K,i,e,V,l,j,L,o,Q,J,t2,B,(Bf C).E r,s,v,a.E x,c.E a.2 z⟩
def ti.V(h:ti P Mid fr cs u)(k:∀fr cs u,Mid fr cs u->kw fr cs u):ti P kw fr cs u:=h.bind λfr cs u hm=>.here (k fr cs u hm)
def fV.at {S ρ gs q}(h:fV P kp S fr cs u ρ gs w t q)(d:Nat):fV P kp S fr cs u ρ gs (w.at d) t q:=haveI:bJ:=eL [];⟨h.1,h.2,h.3,h.4,h.5.at d,h.6,h.7,h.8,h.9,h.10,h.dO,h.12⟩
def fV.xe{S ρ gs q}(h:fV P kp S fr cs u ρ gs w t q):pB P.globals<=pB u.1:=h.4▸h.5.7
def fV.tp{S ρ gs q}(a:Nat->Question->Nat)(h:fV P kp S fr cs u ρ gs w t q):fV P kp S fr cs (u.tp a) ρ gs w t q:=⟨h.1,h.2,h.3,h.4,cX.to h.5 U U U U,h.6,h.7,h.8,h.9,h.10,h.dO,h.12⟩
def ti.tp{τ}(h:ti P kw fr cs u):ti P kw fr cs (u.tp τ):=λa S f b w e t q c d=>h a S f b w e t q (c.tp u.2) d
abbrev kM(kp:Loc->Prop)(B:Nat)(e:gv):Prop:=Lp kp B (.ofEvent e)
def TU{S σ e}(a:zd kp S σ w1)(hl:∀c b,σ c b->b<pB w1.1)(h:Eo S σ e):kM kp w1.1.size e:=haveI:bJ:=eL [];TT a hl (aA ⟨e,U,h⟩)
def Fr{K:aP->av aP->aq->Prop}(B:aq->Nat){gs q}(sl:aV (Nat×Nat))(h0:gs[0]? =Z (G fr cs))(o:uv P t gs q)(r:NT kp w.1.size t)(p:∀i j,t.g? i=Z j->j<pB gs)(h:∀d,∃c b a g,bi P M (G fr cs) (w.at d)=.go (G c b) a g/\pB w.1<=B a/\(∀e∈g,kM kp (B a) e)/\K c b a):
   ∃N c b a f m t1 l,K c b a/\runNT P N (crowd gs w sl) t=(.next<|crowd f a m,t1)/\f[0]? =Z (G c b)/\uv P t1 f l/\NT kp (B a) t1/\(∀i j,t1.g? i=Z j->j<pB f):=by
 haveI:bJ:=eL []
 obtain⟨N,n,a,f,m,t1,l,⟨c,b,rfl,k⟩,A,E,C⟩:=LO (K:=λn a=>∃c b,n=G c b/\K c b a) B U (fa gs.size q+1) gs w sl t q Y h0 o r p λd gs sl s _=>by let⟨c,b,a,g,x,z,D,k⟩:=h d;refine⟨_,a,_,_,FQ s<|show bi P (0==0) (G fr cs) (w.at d)=_ from x,aA U,xT _ _ _ _,z,λop v=>?_,c,b,U,k⟩;rw[KX]at v;grind
 exact⟨N,c,b,a,f,m,t1,l,k,A,C⟩
structure Lt(kp:Loc->Prop)(S:Nat->Prop)(ρ c:ut)(u1 w w1:aq)(g:aP)(d:av aP)(es:aF gv):Prop where
 went:jm ρ c w w1
 world:Wl S c u1 w1
 same:∀a b,c a b->a=b
 size:u1.1.size=w1.1.size
 fine:∀e∈es,kM kp w1.1.size e
 top:XF c g
 low:∀f∈d,XF c f/\f.mode=.run
 full:Bd c u1
def ti.one(h:∀kp S l o w t q,fV P kp S fr cs u l o w t q->tJ l kp w->∃f c i m j g,bi P M (G fr cs) w=.go (G f c) j g/\Lt kp S l m i w j f c g/\ti P kw f c i):ti P kw fr cs u:=λkp S l o w sl t q k p=>by
 haveI:bJ:=eL [];let⟨N,f,c,j,B,Jc,t1,R,⟨i,m,d,⟨g,b⟩,hr⟩,T,V,W,X,r5⟩:=Fr (K:=λf c j=>∃i m d,(∃g,Lt kp S l m i (w.at d) j f c g)/\ti P kw f c i) (kp:=kp) (·.heap.size) sl k.1 k.6 k.7 k.dO λd=>by let⟨f,c,i,m,j,g,D,b,hr⟩:=h kp S l o (w.at d) t q (k.at d) (p.at d);exact⟨f,c,j,g,D,b.1.2,b.5,i,m,d,⟨g,b⟩,hr⟩
 let n:=((jm.refl l w).at d).E b.1;let⟨r,v,s,aE,z,x,u',A,w',ak,t',Q,E,H,J,L,O⟩:=hr kp S m B j Jc t1 R ⟨V,b.6,b.7,k.4,b.2,W,X,k.8.went n,b.3,b.4,r5,b.8⟩ (p.went n<|.refl kp _);exact⟨N+r,v,s,aE,z,x,u',A,w',ak,t',Q,(Bf T).E E,H,J,n.E L,λa C=>(O a C).imp id λe=>cM n.2 e⟩
def ti.ctl{og}(h:∀w,bi P M (G fr cs) w=.go (G og cs) w)(c:∀b,XF b fr->XF b og)(k:ti P kw og cs u):ti P kw fr cs u:=haveI:bJ:=eL [];.one λd S b e w t q a _=>⟨og,cs,u,b,w,#[],h w,⟨.refl b w,a.5,a.9,a.10,ay,c b a.2,a.3,a.12⟩,k⟩
end
section
variable [an] {ρ:ut} {A:Nat->Prop} {w:aq}
def wd(A:Nat->Prop)[DecidablePred A](w:aq):aq:={w with heap:=Array.ofFn λi:Fin w.1.size=>if A i.1 then w.1[i.1]else cC}
def AQ[DecidablePred A]:pB (wd A w).1=pB w.1:=by simp[wd]
def xp[DecidablePred A](h:A b):(wd A w).1[b]? =w.1[b]? :=by unfold wd;by_cases a:b<pB w.1;simp[a,h];simp[a]
def Nq[DecidablePred A](h:¬A b)(a:b<pB w.1):(wd A w).1[b]? =Z cC:=by unfold wd;simp[a,h]
def yi(A:Nat->Prop)(w:aq):Prop:=∀b,A b->∃o,w.1[b]? =Z o/\OR (gu A) o o
def YY{S Own}[DecidablePred Own](j:∀b,A b↔Own b\/S b)(k:∀b,Own b->¬S b/\∃o,w.1[b]? =Z o/\OR (gu A) o o)(hS:∀b,S b->b<pB w.1/\CT w.1[b]?)(d:pB ae.globals<=pB w.1):Wl S (gu A) (wd Own w) w:=by let e:((wd Own w).tp<|wl (wd Own w) w).1=(wd Own w).1:=U;refine⟨λa b B h m=>h.1.y.E m.1,λa z b h m=>h.1.E m.1.y,?_,?_,λb h=>⟨b,U,(j b).2 (az h)⟩,?_,by rw[e,AQ];exact d,λg f=>@cW.mk _ g ⟨_⟩ _ _ ?_ ?_ (λi u=>absurd u (Nat.not_lt.2<|Nat.le_add_right _ _)) (Ht _ w) U⟩;intro a b ⟨rfl,h⟩;have:=((j a).1 h).e (λh=>by let⟨_,o,c,_⟩:=k a h;exact(bf.1 c).1) λh=>(hS a h).1;rw[e,AQ];exact⟨this,this⟩;intro a b ⟨rfl,_⟩ h;exact h;intro a b ⟨rfl,h⟩ n;let h:=((j a).1 h).resolve_right n;let⟨_,o,c,p⟩:=k a h;exact⟨o,by rw[e,xp h];exact c,p.1⟩;intro b d n;let⟨q,h⟩:=f.2 b d;let h:=((j b).1 h).resolve_right (f.s▸n);let⟨_,o,c,p⟩:=k b h;let⟨v,x⟩:=p.2 g f.1;exact⟨o,c,by rw[q,e,xp h,<-v];exact c,x⟩;intro b d l;let l:=f.s▸l;let⟨r,t⟩:=hS b l;exact⟨by rw[(f.2 b d).1,e];exact Nq (λh=>(k b h).1 l) r,t⟩
def akl[DecidablePred A](hc:yi A w)(a:pB ae.globals<=pB w.1):Wl (λ_=>False) (gu A) (wd A w) w:=YY (λb=>by simp) (λb a=>⟨id,hc b a⟩) (λb h=>h.e) a
def Wl.Ie{u}[DecidablePred A](h:Wl (λ_=>False) ρ u w)(c:∀a b,ρ a b->A b):Wl (λ_=>False) ρ u (wd A w):=cX.be h U (by rw[AQ];exact aR _) (λa b d _=>xp (c a b d)) (λb e=>e.e) (Ht _ _) (have:=h.os;this)
def cX.obj{S u}(h:cX S ρ u w){a}(d:ρ a b)(i:¬S b):∃o e,u.1[a]? =Z o/\w.1[b]? =Z e/\OR ρ o e:=by
 let⟨o,j,l⟩:=h.6 a b d i;let mc:=λ(g:Sg) (c:fW S ρ u.1.size g)=>by have:=@cW.own _ g ⟨_⟩ _ _ (h.8 g c) b W5 (by rw[c.s];exact i);rwa [c.1 a b d,j]at this
 let⟨g,c⟩:=nk S h.jU;let⟨e,f,_⟩:=mc g c;exact⟨o,e,j,f,.of S h.jU l λg c=>by let⟨p,k,m,n⟩:=mc g c;rw[f]at k;cases k;exact⟨ey m,n⟩⟩
def Wl.jU{S u}(h:Wl S ρ u w):qO ρ u.1.size:=have:=cX.jU h;this
def Wl.closed{u}(h:Wl (λ_=>False) ρ u w):yi ρ.im w:=by intro b ⟨a,c⟩;let⟨o,f,_,d,e⟩:=cX.obj h c id;exact⟨f,d,e.right<|cX.jU h⟩
def Fs.one[bJ]{l S N fr fr' cs'}(h:Fs l S ρ N fr cs fr' cs')(hr:qO ρ N):∃g:Sg,@cV _ g _ l fr fr'/\dx (@cV _ g _ l) cs cs':=(nk S hr).imp h
end
def rf(l:Nat)(b:aP)(a:eQ)(todo:av gB):aP:={b.at a todo with roundOf:=Z l}
variable{a:eQ}{b:aP}{l:Nat}{k:av gB}{jt:Array ep}{kj:List Nat}{o:ep}{v:aB}{w':aq}{args:Array aB}{r:Loop}
def IG(jt i kj v):(rf l b a (.inRegion jt (i::kj)::k)).finish v=rf l b (a.put ((jt[i]?).bind (·.dst)) v) (.inRegion jt kj::k):=by cases h:(jt[i]?).bind (·.dst)<;>simp[du.finish,rf,du.at,dv,h]
def II{km:Bool}(d:jt[i]? =Z o)(f:cY o (co jt a.1)=M)(hd:∀c,o.2≠.defer c):
  bi P km (G (rf l b a (.inRegion jt (i::kj)::k)) cs) w=ce P M (rf l b a (.inRegion jt (i::kj)::k)) cs aj (a7 a.eval o) w:=by
 let h:(rf l b a (.inRegion jt (i::kj)::k)).eval=a.eval:=by rw[<-(du.eval_at' b a (.inRegion jt (i::kj)::k))];funext x;cases x<;>rfl
 let j:(rf l b a (.inRegion jt (i::kj)::k)).oper?=Z o:=by simp[du.oper?,rf,du.at,d]
 let e:bi P km (G (rf l b a (.inRegion jt (i::kj)::k)) cs) w=zg P M (rf l b a (.inRegion jt (i::kj)::k)) cs aj w:=by simp[G,bi,fy,rf,du.at,d,f]
 rw[e];unfold zg
 grind
def Xy{km:Bool}(d:jt[i]? =Z o)(h:cY o (co jt a.1)=M)(hd:∀c,o.2≠.defer c)(j:b.6≠.early)(hr:(a7 a.eval o).run P w=.ok (.value v) w'):
  bi P km (G (rf l b a (.inRegion jt (i::kj)::k)) cs) w=.go (G (rf l b (a.put o.1 v) (.inRegion jt kj::k)) cs) w' (listed P b.1 a o w):=by
 let e:(rf l b a (.inRegion jt (i::kj)::k)).finish v=rf l b (a.put o.1 v) (.inRegion jt kj::k):=by rw[IG,d];rfl
 let f:(b.6==xP)=aa:=j4
 rw[II d h hd,<-e];simp[ce,hr,G,rf,du.at,f,iw,listed]
def agq{km:Bool}(d:jt[i]? =Z o)(h:cY o (co jt a.1)=M)(hd:∀c,o.2≠.defer c)(j:b.6≠.early)(hr:(a7 a.eval o).run P w=.ok .skip w'):
  bi P km (G (rf l b a (.inRegion jt (i::kj)::k)) cs) w=.go (G (rf l b (a.put o.1 y) (.inRegion jt kj::k)) cs) w' (listed P b.1 a o w):=by
 let e:(rf l b a (.inRegion jt (i::kj)::k)).finish y=rf l b (a.put o.1 y) (.inRegion jt kj::k):=by rw[IG,d];rfl
 let f:(b.6==xP)=aa:=j4
 rw[II d h hd,<-e];simp[ce,hr,G,rf,du.at,f,iw,listed]
def agp{km:Bool}(e:jt[i]? =Z o)(h:cY o (co jt a.1)=M)(hd:∀c,o.2≠.defer c)(j:b.6≠.early)(hr:(a7 a.eval o).run P w=.ok (.enter f args) w'):
  bi P km (G (rf l b a (.inRegion jt (i::kj)::k)) cs) w=.go (G (ba P f args .normal) (rf l b a (.inRegion jt (i::kj)::k)::cs)) w' (listed P b.1 a o w):=by
 let d:(b.6==xP)=aa:=j4
 rw[II e h hd];simp[ce,hr,G,rf,du.at,d,iw,listed]
def agr{km:Bool}{d f c}(e:jt[i]? =Z o)(n:cY o (co jt a.1)=M)(m:∀c,o.2≠.defer c)(p:b.6≠.early)(hr:(a7 a.eval o).run P w=.ok (.spawn d) w')(hd:d.1=.fn f c):
  bi P km (G (rf l b a (.inRegion jt (i::kj)::k)) cs) w=.spawn (G (rf l b (a.put o.1 y) (.inRegion jt kj::k)) cs) (born P d) w' (listed P b.1 a o w):=by
 let h:(rf l b a (.inRegion jt (i::kj)::k)).finish y=rf l b (a.put o.1 y) (.inRegion jt kj::k):=by rw[IG,e];rfl
 let j:(b.6==xP)=aa:=j4
 rw[II e n m,<-h];simp[ce,hr,G,rf,du.at,j,iw,listed,born,hd]
def gA(w:aq)(l:Nat)(r:Loop):aq:={w with heap:=mP w.1 l<|.loop r}
def kQ(l:Nat):aF gv:=#[⟨.obj l,aa,aa⟩,⟨.obj l,M,aa⟩]
def OE(f)(hf:((P.2[f]?).any (·.norace))=aa):seen P f (kQ l)=kQ l:=by rcases h:P.2[f]? with _|fn;simp[seen,kQ,h];rw[h]at hf;have:fn.10=aa:=j4;simp[seen,kQ,h,this]
def agn{km:Bool}(j:b.6≠.early)(hf:((P.2[b.1]?).any (·.norace))=aa)(hl:w.1[l]? =Z (.loop r))(hr:r.1=.ready):
  bi P km (G (rf l b a (.beginRound::k)) cs) w=.go (G (rf l b a k) cs) (gA w l {r with state:=.busy}) (kQ l):=by
 have i:(b.6==xP)=aa:=j4
 let c:(do ET l;pure Next.skip:Sem Next).runT P w #[]=(.ok .skip<|gA w l {r with state:=.busy},kQ l):=by simp only[ET,zE,getObj,setObj,bind,fK,pure,eA,hl,hr];rfl
 let d:bi P km (G (rf l b a (.beginRound::k)) cs) w=ce P M (rf l b a (.beginRound::k)) cs aj (do ET l;pure Next.skip) w:=C0
 rw[d];unfold ce;simp only[dN];rw[c];let e:((rf l b a (.beginRound::k)).6==xP)=aa:=i;let f:(rf l b a (.beginRound::k)).finish y=rf l b a k:=U;simp only[e,f,ff,dM];let h:seen P (rf l b a (.beginRound::k)).1 (kQ l)=kQ l:=OE _ hf;rw[h];simp[iw,G]
def ago{km:Bool}{c}(f:b.6=.normal)(hf:((P.2[b.1]?).any (·.norace))=aa)(hl:w.1[l]? =Z (.loop r)):
  bi P km (G (rf l b a []) (c::cs)) w=.go (G (c.finish<|ω M) cs) (gA w l {r with state:=.ready,pending:=aj}) (kQ l):=by
 let d:(zD l aj).runT P w #[]=(.ok (ω M)<|gA w l {r with state:=.ready,pending:=aj},kQ l):=by simp only[zD,zE,getObj,setObj,bind,fK,pure,eA,hl];rfl
 simp only[G,bi,fy,rf,du.at,d];simp[lZ,f,OE _ hf,iw]
def aiH{km:Bool}(hf:((P.2[b.1]?).any (·.norace))=aa)(hl:w.1[l]? =Z (.loop r))(hr:r.1=.ready)(e:r.2=aj):
  bi P km (G (b.at a (.endRangeFunc l::k)) cs) w=.go (G (b.at a k) cs) (gA w l {r with state:=.exhausted}) (kQ l):=by
 let c:(JW l).runT P w #[]=(.ok aj<|gA w l {r with state:=.exhausted},kQ l):=by let f:(LoopState.ready==LoopState.busy)=aa:=aM;simp only[JW,zE,getObj,setObj,bind,fK,pure,eA,hl,hr,e,f,ff,dM];rfl
 simp only[G,bi,fy,du.at,c];simp[OE _ hf,iw]
def nu(b:aP)(a:eQ)(ps:aF Tmp)(nR bd:fu)(D:Nat)(st:Kv):Loop:={state:=st,pending:=aj,fn:=b.1,tmps:=a.1,params:=ps,assign:=nR,body:=bd,defers:=D}
def qP(w:aq)(r:Loop):aq:={w with heap:=(w.1.push<|.deferred<|Z []).push<|.loop r}
def aiI{km:Bool}{tmps}(d:jt[i]? =Z o)(e:cY o (co jt a.1)=M)(h:b.6≠.early)(hr:(a7 a.eval o).run P w=.ok (.round l f tmps nR bd) w'):
  bi P km (G (b.at a (.inRegion jt (i::kj)::k)) cs) w=.go (G (rf l {(default:aP)with fn:=f,kind:=.normal} ⟨tmps,[]⟩ [.code nR,.beginRound,.code bd]) (b.at a (.inRegion jt (i::kj)::k)::cs)) w' (listed P b.1 a o w):=by
 let c:(b.6==xP)=aa:=j4
 rw[stepG_oper d e];simp[ce,hr,G,du.at,c,iw,listed,rf,du.round]
section
variable [an] [bJ] {P:bM} {km:Bool} {ty:aY} {Wg:Nat} {ky:(Nat->Prop)->bK->aq->Prop} {O:Nat->Prop} {w:aq} {b:aP} {a:eQ} {k:av gB} {cs:av aP} {l:Nat} {g:bK}
def LB(h:O l)(d:l<n)(wr):iR Wg O n (.ofEvent ⟨.obj l,wr,aa⟩):=by refine⟨λx c=>?_,by cases wr<;>simp[dW],by cases wr<;>exact d,λ_=>by cases wr<;>simp[dW],λ_=>by cases wr<;>simp[dW]⟩;cases wr<;>simp[dW,vX]at c<;>(subst c;exact az (aA ⟨l,U,h⟩))
def K7(h:O l)(d:l<n):∀e∈kQ l,iR Wg O n (.ofEvent e):=λe c=>by simp only[kQ,Qx,jh,Fo,or_false]at c;obtain rfl|rfl:=c;exact LB h d aa;exact LB h d M
def qY(h:i≠l):(gA w l r).1[i]? =w.1[i]? :=gn (dB h)
def afu(h:l<pB w.1):(gA w l r).1[l]? =Z (.loop r):=by show(mP w.1 l<|.loop r)[l]? =_;simp[h]
def yS:pB (gA w l r).1=pB w.1:=by simp[gA]
def CJ.gA{g'}(n:g.3=.running)(j:O l)(o:l<pB w.1)(h:∀d,tb ty Wg O w d->bi P km g d=.go g' (Go.Proofs.YtpobhljcainmdaaGreat.gA d l r) (kQ l))(c:∀d,tb ty Wg O w d->CJ P km ty Wg ky O g' (Go.Proofs.YtpobhljcainmdaaGreat.gA d l r)):CJ P km ty Wg ky O g w:=.one n λd f=>by let i:fE O d (Go.Proofs.YtpobhljcainmdaaGreat.gA d l r)=O:=GZ yS;refine⟨g',_,_,.go<|h d f,⟨λb s p=>qY λe=>p (e▸j),by rw[yS];exact aR _,U,U,U⟩,λx q=>?_,by rw[i];exact c d f⟩;obtain⟨e,m,rfl⟩:=rC.1 q;rw[i,yS];exact K7 j (cS o f.2) e m
def CJ.leave1{c fn t todo}(d:b.6=.normal)(hd:a.2=[])(hf:P.2[b.1]? =Z fn)(hr:fn.8=#[.tmp t])(k:CJ P km ty Wg ky O (G (c.finish<|a.1.getD t y) cs) w):CJ P km ty Wg ky O (G {b.at a todo with mode:=.returning} (c::cs)) w:=.ctl U (λe _=>QZ d hd hf L4 (events_results_tmp hr _ _)) k
def Aq(h:i<pB w.1):(qP w r).1[i]? =w.1[i]? :=by show((w.1.push _).push _)[i]? =_;rw[oF,aI bV,oF,aI Y]
def Q3:(qP w r).1[pB w.1+1]? =Z (.loop r):=by show((w.1.push _).push _)[pB w.1+1]? =_;rw[oF,aO ay]
def Gp:pB (qP w r).1=pB w.1+2:=by simp[qP]
def CJ.ado{x ps fn caps}(E:b.6≠.early)(A:a.eval x=.func (.func f) #[] caps)(z:P.2[f]? =Z fn)(H:(fn.1== "runtime.NumGoroutine")=aa)(n:fn.9.isNone=aa)(c:∀e,tb ty Wg O w e->CJ P km ty Wg ky (λc=>O c\/c=pB e.1\/c=pB e.1+1) (G (ba P f (#[.func (.yield<|pB e.1+1) #[] #[]]++caps) .normal) (b.at ⟨a.1,{target:=.collected e.1.size,args:=#[]}::a.2⟩ (.inRangeFunc (pB e.1+1)::k)::cs)) (qP e<|nu b a ps nR bd e.1.size .ready)):
  CJ P km ty Wg ky O (G (b.at a (.code (.rangeFunc x ps nR bd)::k)) cs) w:=
 .one U λe r=>by
  let t:fE O e (qP e<|nu b a ps nR bd e.1.size .ready)=λc=>O c\/c=pB e.1\/c=pB e.1+1:=by funext i;apply propext;show(O i\/(pB e.1<=i/\i<pB (qP e _).1))↔_;rw[Gp];grind
  refine⟨_,_,_,.go (by
     let q:(BI b.1 a.1 ps nR bd aj).runT P e #[]=(.ok (pB e.1+1,[{target:=.collected e.1.size,args:=#[]}])<|qP e<|nu b a ps nR bd e.1.size .ready,#[]):=by simp only[BI,newObj,Bind.bind,fK,pure,eA,Array.size_push];rfl
     let C:¬fn.1= "runtime.NumGoroutine" :=j4;let⟨cd,v⟩:∃cd,fn.body=Z cd:=by rcases h:fn.9 with _|cd;rw[h]at n;cases n;exact⟨cd,rfl⟩
     let s:∀(W:aq) (i:aB),(do let d <-resolve a.eval {callee:=.value x,args:=#[.const i],argTypes:=#[]} 0;invoke d.1 d.2:Sem Next).runT P W #[]=(.ok (.enter f<|#[i]++caps) W,#[]):=λW i=>by let u:a.eval (.const i)=i:=U;simp[resolve,uu,A,u,invoke,callFunc,z,C,v]
     have o:∀p m,({b.at a (.code (.rangeFunc x ps nR bd)::k)with todo:=p,defers:=m}:aP).eval=a.eval:=λp m=>by funext D;cases D<;>rfl
     let B:(b.6==xP)=aa:=j4;simp only[G,bi,fy,du.at]at o⊢;simp only[q,FR];unfold ce;simp only[dN,o,s,B,ff,dM,FR,iw];rfl),⟨λi j _=>Aq j,by rw[Gp];omega,U,U,U⟩,λi j=>by simp at j,by rw[t];exact c e r⟩
def CJ.round{tmps}(m:jt[i]? =Z o)(n:cY o (co jt a.1)=M)(j:b.6≠.early)(hr:∀d,tb ty Wg O w d->(a7 a.eval o).run P d=.ok (.round l f tmps nR bd) d)(he:∀d,tb ty Wg O w d->∀e∈(a7 a.eval o).events P d #[],iR Wg O d.1.size<|.ofEvent e)(c:CJ P km ty Wg ky O (G (rf l {(default:aP)with fn:=f,kind:=.normal} ⟨tmps,[]⟩ [.code nR,.beginRound,.code bd]) (b.at a (.inRegion jt (i::kj)::k)::cs)) w):CJ P km ty Wg ky O (G (b.at a (.inRegion jt (i::kj)::k)) cs) w:=.quiet U (λd r=>⟨_,aiI m n j<|hr d r,λe h=>he d r e (xk h)⟩) c
def CJ.agz{x lm}(c:CJ P km ty Wg ky O (G (rf l b a (.code x::.code lm::k)) cs) w):CJ P km ty Wg ky O (G (rf l b a (.code (.seq x lm)::k)) cs) w:=.ctl U (λ_ _=>C0) c
def CJ.afH{id x}(c:CJ P km ty Wg ky O (G (rf l b a (.code x::.inBlock id::k)) cs) w):CJ P km ty Wg ky O (G (rf l b a (.code (.block id x)::k)) cs) w:=.ctl U (λ_ _=>C0) c
def CJ.ags{id}(c:CJ P km ty Wg ky O (G (rf l b a k) cs) w):CJ P km ty Wg ky O (G (rf l b a (.inBlock id::k)) cs) w:=.ctl U (λ_ _=>C0) c
def CJ.Ot{id}(c:CJ P km ty Wg ky O (G (rf l b a (.inRegion jt (dA jt.size)::k)) cs) w):CJ P km ty Wg ky O (G (rf l b a (.code (.region id jt aa)::k)) cs) w:=.ctl U (λ_ _=>C0) c
def CJ.Ou(c:CJ P km ty Wg ky O (G (rf l b a k) cs) w):CJ P km ty Wg ky O (G (rf l b a (.inRegion jt []::k)) cs) w:=.ctl U (λ_ _=>C0) c
def CJ.rop(v)(j:jt[i]? =Z o)(m:cY o (co jt a.1)=M)(hd:∀c,o.2≠.defer c)(f:b.6≠.early)(hr:∀d,tb ty Wg O w d->(a7 a.eval o).run P d=.ok (.value v) d)(he:∀d,tb ty Wg O w d->∀e∈(a7 a.eval o).events P d #[],iR Wg O d.1.size<|.ofEvent e)(c:CJ P km ty Wg ky O (G (rf l b (a.put o.1 v) (.inRegion jt kj::k)) cs) w):CJ P km ty Wg ky O (G (rf l b a (.inRegion jt (i::kj)::k)) cs) w:=.quiet U (λd r=>⟨_,Xy j m hd f<|hr d r,λe h=>he d r e (xk h)⟩) c
def UF{x}:fE O w₁ {w₁ with heap:=w₁.1.push x}=λc=>O c\/c=pB w₁.1:=by funext lm;apply propext;show(O lm\/(pB w₁.1<=lm/\lm<pB (w₁.1.push x)))↔_;grind
def CJ.agu(v:Nat->aB)(x)(n:jt[i]? =Z o)(p:cY o (co jt a.1)=M)(hd:∀c,o.2≠.defer c)(m:b.6≠.early)(hr:∀d,tb ty Wg O w d->(a7 a.eval o).run P d=.ok (.value<|v d.1.size) {d with heap:=d.1.push x}) (he:∀d,tb ty Wg O w d->∀e∈(a7 a.eval o).events P d #[],iR Wg (λc=>O c\/c=pB d.1) (pB d.1+1)<|.ofEvent e) (c:∀d,tb ty Wg O w d->CJ P km ty Wg ky (λc=>O c\/c=pB d.1) (G (rf l b (a.put o.1<|v d.1.size) (.inRegion jt kj::k)) cs) {d with heap:=d.1.push x}):CJ P km ty Wg ky O (G (rf l b a (.inRegion jt (i::kj)::k)) cs) w:=.one U λd r=>by refine⟨_,_,_,.go<|Xy n p hd m<|hr d r,⟨λj f _=>?_,ay,U,U,U⟩,λj f=>?_,by rw[UF];exact c d r⟩;show(d.1.push x)[j]? =_;rw[oF,aI Y];obtain⟨e,h,rfl⟩:=rC.1 f;rw[UF];have:=he d r e (xk h);exact DP
def CJ.agA{ad}(n:O ad.1)(s:jt[i]? =Z o)(t:cY o (co jt a.1)=M)(hd:∀c,o.2≠.defer c)(p:b.6≠.early)(hr:∀d,tb ty Wg O w d->(a7 a.eval o).run P d=.ok .skip (d.setCell ad v))(he:∀d,tb ty Wg O w d->∀e∈(a7 a.eval o).events P d #[],iR Wg O d.1.size<|.ofEvent e)(c:∀d,tb ty Wg O w d->CJ P km ty Wg ky O (G (rf l b (a.put o.1 y) (.inRegion jt kj::k)) cs) (d.setCell ad v)):CJ P km ty Wg ky O (G (rf l b a (.inRegion jt (i::kj)::k)) cs) w:=.one U λd r=>by let f:fE O d (d.setCell ad v)=O:=GZ ay;refine⟨_,_,_,.go<|agq s t hd p<|hr d r,⟨λm j q=>(zU d ad v).5 m λe=>q (e▸n),ay,T9,T9,T9⟩,λm j=>?_,by rw[f];exact c d r⟩;obtain⟨e,h,rfl⟩:=rC.1 j;rw[f];have:=he d r e (xk h);exact DP
def CJ.afI{fn args ats}(p:jt[i]? =Z o)(q:cY o (co jt a.1)=M)(hd:∀c,o.2≠.defer c)(n:b.6≠.early)(j:o.2=.call {callee:=.value<|.func f,args,argTypes:=ats}) (hf:P.2[f]? =Z fn) (h:(fn.1== "runtime.NumGoroutine")=aa) (d:fn.9.isNone=aa) (c:CJ P km ty Wg ky O (G (ba P f (args.map a.eval) .normal) (rf l b a (.inRegion jt (i::kj)::k)::cs)) w):CJ P km ty Wg ky O (G (rf l b a (.inRegion jt (i::kj)::k)) cs) w:=.quiet U (λs r=>⟨_,agp p q hd n<|QW j hf h d,λe m=>by have:=xk m;rw[QT j hf h d]at this;simp at this⟩) c
end
def sQ:Nat->String
 |0=> ""|n+1=> "x" ++sQ n
def Zb:∀n,(sQ n).length=n
 |0=>rfl|n+1=>by show("x" ++sQ n).length=n+1;rw[String.length_append,Zb n];show 1+n=n+1;omega
def VV:∀n,Np (sQ n)=M
 |0=>rfl|n+1=>by unfold Np;show(match("x" ++sQ n).toList with|[]=>M|c::_=>c.toNat==120)=M;rw[String.toList_append];rfl
def ld:Nat->av gB->av gB
 |_,[]=>[]|i,.inBlock id::k=>.inBlock id::ld (i+1) k|i,_::k=>.code (.refuse<|sQ i)::ld (i+1) k
def pO:av gB->Prop
 |[]=>True|.code _::k=>pO k|.inLoop _::k=>pO k|.inBlock _::k=>pO k|_::_=>False
section
variable [an] {g:Sg} {l:av aZ}
def Jv(ko k x)(h:(∃c,x=.code c)\/∃c,x=.inLoop c):Bu (ko++x::k) (sQ (pA ko))=x:=by unfold Bu;rw[Zb,vO<|aR _];obtain⟨c,rfl⟩|⟨c,rfl⟩:=h<;>simp
def YT:∀(k ko:av gB),pO k->@dx _ _ (@IR _ g (eL<|ko++k) l aa) (ld (pA ko) k) k
 |[],ko,_=>.nil|x::k,ko,h=>by
  let a:∀b:pO k,@dx _ _ (@IR _ g (eL (ko++x::k)) l aa) (ld (pA ko+1) k) k:=λb=>by let e:ko++[x]++k=ko++x::k:=ay;have d:=YT k (ko++[x]) b;rwa [e,fQ]at d
  cases x with
  |inBlock id=>exact .cons (@IR.inBlock _ _ (eL _) _ _ id)<|a h
  |code c=>let e:=Jv ko k (.code c) (aA ⟨c,U⟩);refine .cons ?_<|a h;have:=@IR.stop _ g (eL (ko++.code c::k)) l aa (sQ (pA ko));rwa [show @bJ.wall (eL (ko++.code c::k)) (sQ (pA ko))=.code c from e]at this
  |inLoop c=>refine .cons ?_<|a h;have:=@IR.stop _ g (eL (ko++.inLoop c::k)) l aa (sQ (pA ko));rwa [show @bJ.wall (eL (ko++.inLoop c::k)) (sQ (pA ko))=.inLoop c from (Jv ko k (.inLoop c) (az ⟨c,U⟩))]at this
  |_=>exact h.e
def PN:∀(k ko:av gB) {lm:av gB},pO k->@dx _ _ (@IR _ g (eL<|ko++k) l aa) (ld (pA ko) k) lm->lm=k
 |[],ko,lm,_,h=>by cases h;rfl
 |x::k,ko,lm,d,h=>by
  let i:∀{lm:av gB},pO k->@dx _ _ (@IR _ g (eL (ko++x::k)) l aa) (ld (pA ko+1) k) lm->lm=k:=λ{lm} j h=>by let e:ko++[x]++k=ko++x::k:=ay;refine PN k (ko++[x]) j ?_;rwa [e,fQ]
  cases x with
  |inBlock id=>
   cases h with
   |cons a b=>cases a;rw[i d b]
  |code c=>
   cases h with
   |cons a b=>
    cases a with
    |code f=>simp[eW,VV]at f
    |stop _=>rw[i d b];congr 1;exact Jv ko k (.code c)<|aA ⟨c,U⟩
  |inLoop c=>
   cases h with
   |cons a b=>
    cases a with
    |code f=>simp[eW,VV]at f
    |stop _=>rw[i d b];congr 1;exact Jv ko k (.inLoop c)<|az ⟨c,U⟩
  |_=>exact d.e
def Tz(id):∀(k:av gB) (i:Nat) {k':av gB},pO k->fp id k=Z k'->∃ko,k=ko++k'/\fp id (ld i k)=Z (ld (i+pA ko) k')
 |[],i,k',_,h=>by cases h
 |x::k,i,k',a,h=>by
  let step:pO k->fp id k=Z k'->∃ko,x::k=ko++k'/\fp id (ld (i+1) k)=Z (ld (i+pA ko) k'):=λj h=>by let⟨ko,d,f⟩:=Tz id k (i+1) j h;grind
  cases x with
  |inBlock b=>unfold fp at h;by_cases e:(b==id)=M;rw[aO e]at h;cases h;exact⟨[.inBlock b],U,by show fp id (.inBlock b::ld (i+1) k)=_;unfold fp;rw[aO e];rfl⟩;rw[aI e]at h;let⟨ko,d,f⟩:=step a h;exact⟨ko,d,by show fp id (.inBlock b::ld (i+1) k)=_;unfold fp;rw[aI e];exact f⟩
  |code c=>exact step a h
  |inLoop c=>exact step a h
  |_=>exact a.e
end
def J9(Q:xl->eQ->aq->Prop):Prop:=∀e a u b,Q e a u->Q e a (aq.tp u b)
def UZ(b:aP)(k:av gB)(cs:av aP):xl->eQ->aP->av aP->Prop
 |.normal,a,d,c=>d=b.at a k/\c=cs|.exit id,a,d,c=>(∃f,fp id k=Z f/\d=b.at a f)/\c=cs|.ret,a,d,c=>(∃e,d={b.at a e with mode:=.returning})/\c=cs|.panic g,a,d,c=>(∃e,d={b.at a e with mode:=.panicking g})/\c=cs|_,_,_,_=>False
def wK(Q:xl->eQ->aq->Prop)(k:av gB):Prop:=∀id,(∃a u,Q (.exit id) a u)->∃b,fp id k=Z b
def Ln(Q:xl->eQ->aq->Prop)(b:aP)(k:av gB)(cs:av aP)(fr:aP)(c:av aP)(u:aq):Prop:=∃e a,Q e a u/\UZ b k cs e a fr c
def Rp(b:aP)(k:av gB):xl->eQ->aP->Prop
 |.normal,a,c=>c=b.at a (ld 0 k)|.exit id,a,c=>∃ko d,k=ko++d/\fp id k=Z d/\c=b.at a (ld (pA ko) d)|.ret,a,c=>∃e,c={b.at a e with mode:=.returning}|.panic f,a,c=>∃e,c={b.at a e with mode:=.panicking f}|_,_,_=>False
section
variable [an] {P:bM} {Q:xl->eQ->aq->Prop} {a:eQ} {u:aq}
def GX(C:aZ->Prop)(P:bM)(c:fu)(Q:xl->eQ->aq->Prop)(a:eQ)(u:aq):Prop:=∀(b:aP) (k:av gB) (cs:av aP),C b.1->pO k->wK Q k->ti P (Ln Q b k cs) (b.at a (.code c::k)) cs u
def GO(C:aZ->Prop)(P:bM)(jt:aF ep)(Q:xl->eQ->aq->Prop)(is:av Nat)(a:eQ)(u:aq):Prop:=∀(b:aP) (k:av gB) (cs:av aP),C b.1->pO k->wK Q k->ti P (Ln Q b k cs) (b.at a (.inRegion jt is::k)) cs u
abbrev WX(P:bM):=GX (λf=>an.dU f=[]) P
abbrev OX(P:bM):=GO (λf=>an.dU f=[]) P
def dX(P:bM)(f:aZ)(args:aF aB)(u:aq)(R:jA->aq->Prop):Prop:=∀(cs:av aP),ti P (λb d c=>d=cs/\b.1=f/\∃e,e≠.outgrown/\R e c/\b.leaving P c e) (ba P f args .normal) cs u
def GI:∀{ko k:av gB},pO (ko++k)->pO k
 |[],_,h=>h|x::ko,k,h=>by
  cases x with
  |code c=>exact GI (ko:=ko) h
  |inLoop c=>exact GI (ko:=ko) h
  |inBlock c=>exact GI (ko:=ko) h
  |_=>exact h.e
end
section
variable [an] {P:bM} {l:av aZ} {Q:xl->eQ->aq->Prop} {a:eQ} {u:aq}
def YS(k i):∀c j kj b,ld i k≠.inRegion c (j::kj)::b:=by intro c j kj b e;obtain _|⟨x,k⟩:=k;cases e;cases x<;>cases e
def RV(fr)(cs:av aP)(u)(h:cs=[]/\∃e d,Q e d u/\Rp b k e d fr):¬nN fr:=by
 rintro⟨hm,n,j,kj,m,f⟩;let⟨_,e,d,_,h⟩:=h;cases e with
 |normal=>obtain rfl:fr=b.at d (ld 0 k):=h;exact YS k 0 _ _ _ _ f
 |exit id=>obtain⟨ko,g,_,_,rfl⟩:=h;exact YS g _ _ _ _ _ f
 |ret=>obtain⟨i,rfl⟩:=h;cases hm
 |panic c=>obtain⟨i,rfl⟩:=h;cases hm
 |goto x=>exact h.e
 |outgrown=>exact h.e
def fV.YV[bJ](C:vb P l){kw}(A:∀fr cs u,kw fr cs u->¬nN fr){S fr fL ρ gs q}(sl:aV (Nat×Nat))(b:fV P kp S fr cs u ρ gs w t q)(o:Fs l S ρ u.1.size fL [] fr [])(L:rY l fL [] u->pS P kw fL [] u)(B:∀fr cs u,kw fr cs u->cs=[]/\fr.6=.normal):
  ∃N k c d j h e n i m,runNT P N (crowd gs w sl) t=(.next<|crowd h e n,i)/\kw c [] j/\d={c with todo:=d.3}/\(∃g:Sg,dx (@IR _ g _ l c.7.isSome) c.3 d.3)/\fV P kp S d cs j k h e i m/\jm ρ k w e:=by
 let r:te cs:=λf E=>aA (b.3 f E).2;let⟨N,k,c,an,j,h,e,n,i,m,r1,r2,x,r4,z⟩:=akh C A r (L<|rY.tp (u:=u.tp<|wl u w) ⟨S,ρ,cs,_,[],w,r,o,b.5⟩ u.2) ρ gs w sl t q ⟨⟨_,[],b.1,o⟩,b.5,b.6,b.7,b.8,b.9,b.10,b.dO,b.12⟩;let⟨⟨d,aC,H,p⟩,s,T,V,W,v,X,k9,R⟩:=r4;obtain⟨rfl,J⟩:=B _ _ _ x;let hr:=cX.jU s;let⟨g,G,D⟩:=p.one hr;cases D;let⟨K,O⟩:=p.same v hr;exact⟨N,k,c,d,j,h,e,n,i,m,r1,x,K,⟨g,G.4⟩,⟨H,O J,xc z.1 b.3,b.4,s,T,V,W,v,X,k9,R⟩,z⟩
def WX.lift(G:vb P l){c}(hc:eW P l aa c=M)(hQ:J9 Q)(an:∀x a u,¬Q (.goto x) a u)(aD:∀a u,¬Q .outgrown a u)(h:∀C,c.wp P Q a<|u.tp C):WX P c Q a u:=λb k cs hv z ho J S ρ gs w sl t q o hV=>by
 letI:bJ:=eL k;let ak:Fs l S ρ u.1.size (b.at a (.code c::ld 0 k)) [] (b.at a (.code c::k)) []:=λg O=>⟨@cV.mk _ g _ l _ _ U o.2.4 (o.2.all hv g O.1) (.cons (@IR.code _ g _ _ _ _ (G.2▸hc))<|YT k [] z) (o.2.2 g O.1) (@mu.run _ g) U (aA o.2.3) U,.nil⟩;let v:=o.2.3;let⟨N,aX,V,E,i,W,w',aQ,t',q',r1,⟨_,e,d,hq,p⟩,A,⟨g,T⟩,r4,r5⟩:=o.YV G (kw:=λs L i=>L=[]/\∃e d,Q e d i/\Rp b k e d s) RV sl ak (λhL=>by
  refine PO G RV (λs L i C _ ⟨f,e,d,m,X⟩=>⟨f,e,d,hQ _ _ _ _ m,X⟩) hL λC _=>?_;let⟨e,d,i,f,m⟩:=h C b (ld 0 k)<|[]++[vd P];cases e with
  |normal=>let⟨n,j⟩:=m;exact⟨n,_,[],i,j,U,.normal,d,f,U⟩
  |exit id=>let⟨B,R⟩:=ho id ⟨d,i,f⟩;let⟨ko,p1,H⟩:=Tz id k 0 z R;let⟨n,j⟩:=m _ H;exact⟨n,_,[],i,j,U,.exit id,d,f,ko,B,p1,R,by rw[jM]⟩
  |goto x=>cases an _ _ _ f
  |ret=>let⟨r,n,j⟩:=m;exact⟨n,_,[],i,j,U,.ret,d,f,r,U⟩
  |panic K=>let⟨r,n,j⟩:=m;exact⟨n,_,[],i,j,U,.panic K,d,f,r,U⟩
  |outgrown=>cases aD _ _ f) λs cs u ⟨f,e,d,_,h⟩=>⟨f,by
   cases e with
   |normal=>obtain rfl:s=_:=h;exact v
   |exit id=>obtain⟨_,_,_,_,rfl⟩:=h;exact v
   |ret=>obtain⟨_,rfl⟩:=h;exact v
   |panic c=>obtain⟨_,rfl⟩:=h;exact v
   |_=>exact h.e⟩
 refine⟨N,J,S,aX,E,cs,i,W,w',aQ,t',q',r1,⟨e,d,hq,?_⟩,r4,r5,.refl J w⟩;cases e with
 |normal=>obtain rfl:V=b.at d (ld 0 k):=p;let D:=PN k [] z T;exact⟨by rw[A,D];rfl,U⟩
 |exit id=>obtain⟨ko,B,p1,H,rfl⟩:=p;let D:=PN (g:=g) (l:=l) B ko (GI (ko:=ko) (p1▸z)) (by rw[<-p1];exact T);exact⟨⟨B,H,by rw[A,D];rfl⟩,U⟩
 |ret=>obtain⟨r,rfl⟩:=p;exact⟨⟨E.3,A⟩,U⟩
 |panic K=>obtain⟨r,rfl⟩:=p;exact⟨⟨E.3,A⟩,U⟩
 |_=>exact p.e
def ti.left(r:vb P l){fr}{R:jA->aq->Prop}(hv:an.dU fr.1=[])(aW:∀g:Sg,@dx gB gB (@IR _ g (eL []) l aa) fr.3 fr.3)(aT:fr.7=aj)(hR:∀e u d,R e u->R e (aq.tp u d))(C:∀e u,R e u->∃v,e=aG v)(h:∀d,∃e b c,R e b/\Comes P (lone fr [vd P]<|u.tp d) (lone c [vd P] b) e/\c.1=fr.1/\c.leaving P b e):
  ti P (λc z b=>z=cs/\c.1=fr.1/\∃e,e≠.outgrown/\R e b/\c.leaving P b e) fr cs u:=λx S ρ gs w sl t q i hV=>by
 letI:bJ:=eL []
 let E:∀{e u fr},R e u->du.leaving P fr u e->∃v,e=aG v/\fr.6=.normal:=λ{e u fr} h k=>by obtain⟨v,rfl⟩:=C e u h;exact⟨v,U,k.2.2.1⟩
 let⟨N,aL,c,H,b,J,w',aH,t',q',r1,⟨_,L,e,he,A,B⟩,D,_,r4,r5⟩:=i.YV r (kw:=H4 P fr.1 R) Hv sl (λg s=>⟨@cV.mk _ g _ l _ _ U i.2.4 (i.2.all hv g s.1) j4 (i.2.2 g s.1) (i.2.5 g s.1) U (aA i.2.3) j4,.nil⟩) (λK=>by refine PO r Hv (λc z b d O ⟨f,m,e,o,j,p⟩=>⟨f,m,e,o,hR e b d j,VJ r O d p⟩) K λd _=>?_;let⟨e,b,c,f,m,o,j⟩:=h d;obtain⟨v,rfl⟩:=C e b f;let⟨n,T⟩:=m;exact⟨n,c,[],b,T,U,o,_,ay,f,j⟩) λfr cs u ⟨f,_,e,_,j,p⟩=>⟨f,(E j p).e λ_ h=>h.2⟩
 obtain⟨v,rfl,_⟩:=E A B;let⟨l1,V,W,G,X,l5⟩:=B;refine⟨N,x,S,aL,H,cs,b,J,w',aH,t',q',r1,⟨U,by rw[D];exact L,aG v,ay,A,?_⟩,r4,r5,.refl x w⟩;rw[D];exact⟨l1,V,W,G,X,l5⟩
end
section
variable [an] {C:aZ->Prop} {P:bM} {l:av aZ} {Q:xl->eQ->aq->Prop} {a:eQ} {u:aq} {kw:aP->av aP->aq->Prop} {b:aP} {k:av gB} {cs:av aP}
def dX.lift(d:vb P l)(i:an.ok f){R}(hR:∀e u c,R e u->R e (aq.tp u c))(j:∀e u,R e u->∃v,e=aG v)(h:∀c,ax P f args (u.tp c) R):dX P f args u R:=λcs=>by letI:bJ:=eL [];obtain rfl:=d.2;exact ti.left d (fr:=ba ae f args .normal) (d.3 f i) (λg=>(@GD _ g _ l d.1 f i args .normal<|aA U).4) U hR j λc=>h c [vd ae]
def Zi{ρ k k'}(h:XF ρ (b.at a k)):XF ρ (b.at a k'):=⟨h.1,h.2,h.3,h.4,h.5⟩
def ti.at_{k'}(h:∀w,bi P M (G (b.at a k) cs) w=.go (G (b.at a k') cs) w)(c:ti P kw (b.at a k') cs u):ti P kw (b.at a k) cs u:=.ctl h (λ_=>Zi) c
def WM{x}(g:x.plain=M)(d:wK Q k):wK Q (x::k):=λid c=>let⟨e,f⟩:=d id c;⟨e,by cases x<;>simp_all[fp,Item.plain]⟩
def Am{x cs' e fr}(j:x.plain=M)(f:e≠.normal)(h:UZ b (x::k) cs e a fr cs'):UZ b k cs e a fr cs':=by
 cases e with
 |normal=>cases f U
 |exit id=>let⟨⟨g,i,c⟩,d⟩:=h;exact⟨⟨g,by cases x<;>simp_all[fp,Item.plain],c⟩,d⟩
 |_=>exact h
def GX.V{c Q'}(h:GX C P c Q a u)(d:∀e a u,Q e a u->Q' e a u):GX C P c Q' a u:=λb k cs j m n=>(h b k cs j m λid ⟨a,u,o⟩=>n id ⟨a,u,d _ _ _ o⟩).V λq p r ⟨e,f,g,i⟩=>⟨e,f,d _ _ _ g,i⟩
def dX.V{args R R'}(h:dX P f args u R)(hr:∀e u,R e u->R' e u):dX P f args u R':=λcs=>(h cs).V λo n m ⟨c,d,e,g,i,j⟩=>⟨c,d,e,g,hr e m i,j⟩
def GX.seq{x lm}(h:GX C P x (Exit.then (GX C P lm Q) Q) a u):GX C P (.seq x lm) Q a u:=λb k cs g i j=>by
 refine .at_ (λ_=>bZ) ?_;refine(h b (.code lm::k) cs g i (λid n=>WM U j id n)).bind ?_;intro r m p ⟨e,d,f,c⟩;cases e with
 |normal=>obtain⟨rfl,rfl⟩:=c;exact(show GX C P lm Q d p from f) b k m g i j
 |exit id=>exact .here ⟨_,d,f,Am U ay c⟩
 |goto x=>exact c.e
 |ret=>exact .here ⟨_,d,f,Am U ay c⟩
 |panic q=>exact .here ⟨_,d,f,Am U ay c⟩
 |outgrown=>exact c.e
def GX.cond{c x lm v}(hc:a.eval c=ω v)(h:GX C P (if v then x else lm) Q a u):GX C P (.cond c x lm) Q a u:=λb k cs d e f=>.at_ (λ_=>stepG_cond hc) (h b k cs d e f)
def GX.skip(h:Q .normal a u):GX C P .skip Q a u:=λb k cs _ _ _=>.at_ (λ_=>nH) (.here ⟨.normal,a,h,U,U⟩)
def GX.exit{id}(h:Q (.exit id) a u):GX C P (.exit id) Q a u:=λb k cs _ _ d=>by let⟨e,c⟩:=d id ⟨a,_,h⟩;exact .at_ (λ_=>stepG_exit c)<|.here ⟨.exit id,a,h,⟨e,c,U⟩,U⟩
def GX.ret(h:Q .ret a u):GX C P .ret Q a u:=λb k cs _ _ _=>.ctl (λ_=>oN) (λd c=>⟨c.1,c.2,c.3,c.4,λg _=>@mu.returning _ g⟩) (.here ⟨.ret,a,h,⟨_,U⟩,U⟩)
def GX.block{id c}(h:GX C P c (ER id Q) a u):GX C P (.block id c) Q a u:=λb k cs p q t=>by
 refine .at_ (λ_=>Cy) ?_;let v:wK (ER id Q) (.inBlock id::k):=λg ⟨d,o,n⟩=>by by_cases e:g=id;exact⟨k,by simp[fp,e]⟩;simp only[ER,e,dM]at n;let⟨j,r⟩:=t g ⟨d,o,n⟩;have:(id==g)=aa:=j4;exact⟨j,by simp[fp,this,r]⟩
 refine(h b (.inBlock id::k) cs p q v).bind ?_;intro A z o ⟨e,d,f,i⟩;cases e with
 |normal=>obtain⟨rfl,rfl⟩:=i;exact .at_ (λ_=>QX)<|.here ⟨.normal,d,f,U,U⟩
 |exit g=>
  obtain⟨⟨j,m,rfl⟩,rfl⟩:=i;by_cases e:g=id;simp only[ER,e,dN]at f;have:j=k:=by simpa[fp,e]using m.y
  subst this;exact .here ⟨.normal,d,f,U,U⟩;simp only[ER,e,dM]at f;let s:(id==g)=aa:=j4;exact .here ⟨.exit g,d,f,⟨j,by simpa[fp,s]using m,U⟩,U⟩
 |goto x=>exact i.e
 |ret=>exact .here ⟨_,d,f,i⟩
 |panic w=>exact .here ⟨_,d,f,i⟩
 |outgrown=>exact i.e
def GX.loop{c}(i:eQ->aq->Prop)(h:eQ->aq->Nat)(w:i a u)(round:∀a u,i a u->GX C P c (Exit.then (λd f=>i d f/\h d f<h a u) Q) a u):GX C P (.loop c) Q a u:=λb k cs p q t=>by
 let mc:∀n a u,h a u=n->i a u->ti P (Ln Q b k cs) (b.at a (.code c::.inLoop c::k)) cs u:=by
  intro n;induction n using Ky with
  |ind n z=>
   intro a u s hI;refine(round a u hI b (.inLoop c::k) cs p q (λid r=>WM U t id r)).bind ?_;intro D B f ⟨e,d,j,g⟩;cases e with
   |normal=>obtain⟨rfl,rfl⟩:=g;let⟨m,o⟩:=j;exact .at_ (λ_=>QY)<|z (h d f) (s▸o) d f U m
   |exit id=>exact .here ⟨_,d,j,Am U ay g⟩
   |goto x=>exact g.e
   |ret=>exact .here ⟨_,d,j,Am U ay g⟩
   |panic A=>exact .here ⟨_,d,j,Am U ay g⟩
   |outgrown=>exact g.e
 exact .at_ (λ_=>Wq)<|mc _ a u U w
end
section
variable [an] {C:aZ->Prop} {P:bM} {l:av aZ} {Q:xl->eQ->aq->Prop} {a:eQ} {u u1:aq} {b fr:aP} {k:av gB} {cs:av aP} {jt:aF ep} {i:Nat} {kj:av Nat} {o:ep}
def RI{ρ}(d:ye l)(h:mV ρ a.1 a.1)(g:Sg)(e:Ag ρ g):@xo _ g l a.eval a.eval:=by
 letI:bJ:=eL [];letI:Tp:=⟨0⟩;intro x c;cases x with
 |tmp t=>show a.1.getD t y=@rv _ g (a.1.getD t y);rw[<-GS,<-h g e]
 |const v=>exact WV c
 |global g=>cases c
 |func f=>show Value.func (.func f) #[] #[]=@rv _ g (.func (.func f) #[] #[]);simp only[rv,kG,(g.hf f).2 ((d.5 f).2 c),dN,vD]
def JB{ρ:ut}{k k':av gB}(h:XF ρ (b.at a k)){d:aV Tmp}(hv:∀x,d=Z x->x∉an.dU b.1->VR ρ v v):XF ρ (b.at (a.put d v) k'):=by
 cases d with
 |none=>exact⟨h.1,h.2,h.3,h.4,h.5⟩
 |some d=>refine⟨λi x c f=>?_,h.2,h.3,h.4,h.5⟩;change(mP a.1 d v)[i]? =Z x at c;by_cases e:d=i;subst e;by_cases g:d<pB a.1;rw[EF g]at c;cases c;exact hv d U f;have:=(bf.1 c).1;grind;rw[gn e]at c;exact h.1 i x c f
def YQ{ρ}(c:ye l)(h:mV ρ a.1 a.1){args:aF Operand}(d:args.all (dY l)=M):mV ρ (args.map a.eval) (args.map a.eval):=λg e=>letI:Tp:=⟨0⟩;(RI c h g e).args d
def GC{fn body}{L:av Nat}{ρ:ut}(d:P.2[f]? =Z fn)(c:fn.9=Z body)(h:∀(j:Nat) v,args[j]? =Z v->j∉L->VR ρ v v)(j:Nat)(v:aB)(hv:(ba P f args .normal).2[j]? =Z v)(e:j∉L):VR ρ v v:=by rw[ya args d c]at hv;change(args++oG (fn.7-pB args) y)[j]? =Z v at hv;rw[Array.getElem?_append]at hv;split at hv;exact h j v hv e;rw[Array.getElem?_replicate]at hv;split at hv;cases hv;exact EA ρ;cases hv
def Zj{ρ fn c}(hf:P.2[f]? =Z fn)(d:fn.9=Z c)(e:il f)(h:∀(j:Nat) v,(ba P f args .normal).2[j]? =Z v->j∉an.dU f->VR ρ v v):XF ρ (ba P f args .normal):=by rw[ya args hf d]at h⊢;exact⟨h,λ_ _=>.nil,U,e,λg _=>@mu.run _ g⟩
def dU(L:av Nat)(x:aF aB):aF aB:=x.mapIdx λi v=>if i∈L then y else v
def sP(L:av Nat)(a:eQ):Act:=⟨dU L a.1,a.2⟩
def PI(x:aF aB):dU [] x=x:=by unfold dU;apply Array.ext<;>simp
def PK{ρ L x}(h:∀(i:Nat) v,x[i]? =Z v->i∉L->VR ρ v v):mV ρ (dU L x) (dU L x):=PL λv hv=>by
 let⟨i,c⟩:=JE.1 hv;simp only[dU,Zo]at c;cases e:x[i]? with
 |none=>rw[e]at c;cases c
 |some f=>rw[e]at c;simp only[eO,we]at c;by_cases d:i∈L;rw[aO d]at c;subst c;exact EA ρ;rw[aI d]at c;grind
def aeJ{S ρ}{A B:Type}{Q:Sg->A->B->Prop}{s s'}(j:cX S ρ u w)(J:∀g:Sg,Ag ρ g->∀t:Tp,@SX A B _ g t (λ_=>False) (Q g) s s'){v}(h:s.run ae u=.ok v u1):
  ∃f d x,s'.runT ae w #[]=(.ok f d,x)/\(∀g:Sg,fW S (fc ρ u w u1) u1.1.size g->Q g v f)/\cX S (fc ρ u w u1) u1 d/\tH S ρ u u1 w d/\∀e∈x,Eo S (fc ρ u w u1) e:=by
 haveI:bJ:=eL []
 let mc:∀(g:Sg) (t:Tp),Ag ρ g->@cW _ g t u w->pB u1.1<=t.top->∃f d x,s'.runT ae w #[]=(.ok f d,x)/\Q g v f/\@Mv _ g t u u1 w d/\∀e∈x,@Ev _ g t e:=λg t c hS K=>by
  rcases J g c t u w #[] hS (λ_ h=>h.e) (by rw[h];exact K)with⟨x,X,e,_⟩|⟨W,x,L,r,z,O,_⟩;rw[h]at e;cases e;rw[h]at r z;cases r with
  |ok _ f _ d H=>exact⟨f,d,x,by simpa using L,H,z,O⟩
 let n:pB u.1<=pB u1.1:=by obtain G|hge:=lq u1.1.size u.1.size;let⟨g,c⟩:=nk S j.jU;let⟨_,_,_,_,_,hm,_⟩:=mc g ⟨pB u.1⟩ c.1 (j.8 g c) (oI G);exact @Mv.size _ g ⟨pB u.1⟩ _ _ _ _ hm;exact hge
 let run:=λ(g:Sg) (c:fW S (fc ρ u w u1) u1.1.size g)=>mc g ⟨pB u1.1⟩ (c.less n).1 (j.ahead c n) (aR _);let⟨R,T,V⟩:=j.NJ (u1:=u1);let⟨g0,q⟩:=nk (N:=pB u1.1) S ⟨R,T,λa b p=>p.e (λh=>cS (j.3 a b h).1 n) λh=>h.2.1,V⟩;let⟨f,d,x,e,_,m,ev⟩:=run g0 q
 let all:∀g:Sg,fW S (fc ρ u w u1) u1.1.size g->Q g v f/\@Mv _ g ⟨pB u1.1⟩ u u1 w d:=λg c=>by grind
 refine⟨f,d,x,e,λg c=>(all g c).1,j.after n (@Mv.xx _ g0 ⟨pB u1.1⟩ _ _ _ _ m) (λa b p D=>p.e (λh=>@Mv.np _ g0 ⟨pB u1.1⟩ _ _ _ _ m a (j.6 a b h D)) λh=>@Mv.fresh _ g0 ⟨pB u1.1⟩ _ _ _ _ m a h.1 h.2.1) λg c=>@Mv.kZ _ g ⟨pB u1.1⟩ _ _ _ _ (all g c).2,VG (q.less n) m,λe E=>Eo.of q (ev e E)⟩
def YZ{S ρ}(A:P=ae)(G:Wl S ρ u w)(hI:∀a b,ρ a b->a=b)(J:pB u.1=pB w.1)(B:Bd ρ u){m n:Type}{Q:Sg->m->n->Prop}{s s'}(E:∀g:Sg,Ag ρ g->∀t:Tp,@SX m n _ g t (λ_=>False) (Q g) s s'){v}(h:s.run P (u.tp<|wl u w)=.ok v u1):
  ∃d f c x,s'.runT P w #[]=(.ok f c,x)/\(∀g:Sg,fW S d u1.1.size g->Q g v f)/\jm ρ d w c/\Wl S d u1 c/\(∀a b,d a b->a=b)/\pB u1.1=pB c.1/\(∀e∈x,Eo S d e)/\Bd d u1:=by
 subst A
 haveI:bJ:=eL []
 let⟨f,c,x,p,q,r,j,z⟩:=aeJ G E h;let K:=j.2;let H:pB (u.tp<|wl u w).1=pB u.1:=U;exact⟨_,f,c,x,p,q,j.went,r.drop,λa b D=>D.e (hI a b) λh=>by omega,Y,z,j.full B⟩
def fV.ok{S ρ gs q}(f:fV P kp S fr cs u ρ gs w t q){m n:Type}{Q:Sg->m->n->Prop}{s s'}(E:∀g:Sg,Ag ρ g->∀t:Tp,@SX m n _ g t (λ_=>False) (Q g) s s'){v}(h:∀p,s.run P (u.tp p)=.ok v (u1.tp p)):
  ∃c j d x,s'.runT P w #[]=(.ok j d,x)/\(∀g:Sg,fW S c u1.1.size g->Q g v j)/\jm ρ c w d/\Wl S c u1 d/\(∀a b,c a b->a=b)/\pB u1.1=pB d.1/\(∀e∈x,Eo S c e)/\Bd c u1:=by
 let⟨c,j,d,x,r,z,A,B,D⟩:=YZ f.4 f.5 f.9 f.10 f.12 E (h<|wl u w);exact⟨c,j,d,x,r,z,A,cX.to B U U U U,D⟩
def agl{ρ}(fn){x}(h:mV ρ x x)(g:Sg)(c:Ag ρ g)(t:Tp):@SX _ _ _ g t (λ_=>False) (λa b=>a=@rv _ g b) (bo fn x) (bo fn x):=by have:=@OV _ (λ_=>False) g t fn x;rwa [<-h g c]at this
def aey{S σ N n}(hr:qO σ N)(h:∀g:Sg,fW S σ N g->@NX _ g (.value v) n):∃c,n=.value c/\VR σ v c:=by
 let mc:∀g:Sg,@NX _ g (.value v) n->∃c,n=.value c/\v=@rv _ g c:=λg h=>by generalize e:Next.value v=m at h;cases h<;>cases e;exact⟨_,U,U⟩
 let⟨g,d⟩:=nk S hr;obtain⟨c,rfl,_⟩:=mc g (h g d);exact⟨c,U,.of S hr λg d=>by let⟨_,e,k⟩:=mc g (h g d);cases e;exact k⟩
def aex{S σ N n}(hr:qO σ N)(h:∀g:Sg,fW S σ N g->@NX _ g .skip n):n=.skip:=by let⟨g,c⟩:=nk S hr;cases h g c;rfl
def aiG{fr c fn x}(hm:fr.5=.returning)(hd:fr.4=[])(f:fr.6=.normal)(hf:P.2[fr.1]? =Z fn)(hr:(bo fn fr.2).runT P w #[]=(.ok v w1,x)):
  bi P M (G fr (c::cs)) w=.go (G (c.finish v) cs) w1 (seen P fr.1 x):=by
 let d:(Go.results fn fr.2).run P w=.ok v w1:=by rw[<-iM P _ w #[],hr]
 let e:(Go.results fn fr.2).events P w #[]=x:=by unfold FH;rw[hr]
 simp[G,bi,CB,lZ,hm,hd,f,hf,d,e,iw]
def aaG{ρ}(c:vb P l)(h:mV ρ a.1 a.1)(j:yn P l o.2=M)(g:Sg)(e:Ag ρ g)(t:Tp):@SX _ _ _ g t (λ_=>False) (@NX _ g) (a7 a.eval o) (a7 a.eval o):=by obtain⟨c,rfl,_⟩:=c;exact Yv (c.1 g) c.2 c.3 c.4 (λf d=>(c.5 f).2 d) (RI c h g e) (λ_=>U) j
def GO.nil(h:Q .normal a u):GO C P jt Q [] a u:=λ_ _ _ _ _ _=>.at_ (λ_=>cH) (.here ⟨.normal,a,h,U,U⟩)
def GO.unwanted(f:jt[i]? =Z o)(h:cY o (co jt a.1)=aa)(c:GO C P jt Q kj (a.put o.1 y) u):GO C P jt Q (i::kj) a u:=λb k cs d e g=>.ctl (λ_=>stepG_unwanted f h) (λm j=>JB j λ_ _ _=>EA m) (c b k cs d e g)
def fV.early{S ρ gs q}(h:fV P kp S (b.at a k) cs u ρ gs w t q):b.6≠.early:=by have:b.6=.normal:=h.2.3;rw[this];simp
def GO.own{J:Next->aq->Prop}(W:vb P l)(E:jt[i]? =Z o)(L:cY o (co jt a.1)=M)(aC:yn P l o.2=M)(X:∀f,C f->a7 a.eval o=a7 (sP (an.dU f) a).eval o)(hr:∀τ,∃n u1,(a7 a.eval o).run P (u.tp τ)=.ok n u1/\J n u1)(c:∀n u1,J n u1->∃v,(n=.value v\/n=.skip/\v=y)/\GO C P jt Q kj (a.put o.1 v) u1):GO C P jt Q (i::kj) a u:=λb k cs p D G=>.one λs S ρ gs w t q d _=>by
 haveI:bJ:=eL [];let⟨n,u1,hr,V⟩:=hr (wl u w);rw[X _ p]at hr;let⟨h,N,g,x,h1,z,j,m,A,O,R,T⟩:=YZ d.4 d.5 d.9 d.10 d.12 (aaG W (PK d.2.1) aC) hr;let⟨v,hn,B⟩:=c n u1 V;let H:(a7 a.eval o).runT P w #[]=(.ok N g,x):=j4;let K:(a7 a.eval o).run P w=.ok N g:=by rw[<-iM P _ w #[],H]
 let ah:∀e∈seen P b.1 ((a7 a.eval o).events P w #[]),kM s g.1.size e:=λe he=>by have r:=FP he;unfold FH at r;rw[H]at r;exact TU (d.8.went j) (λaH b aE=>(m.3 aH b aE).2)<|R e r
 let fin:VR h v v->Lt s S ρ h u1 w g (b.at (a.put o.1 v) (.inRegion jt kj::k)) cs (seen P b.1<|(a7 a.eval o).events P w #[]):=λhv=>⟨j,m,A,O,ah,JB (d.2.V j.1) λ_ _ _=>hv,xc j.1 d.3,T⟩;obtain rfl|⟨rfl,rfl⟩:=hn;obtain⟨v',rfl,hv⟩:=aey (cX.jU m) z;obtain rfl:=hv.eq A;exact⟨_,cs,u1,h,g,_,FV E L d.early K,fin hv,B b k cs p D G⟩;obtain rfl:=aex (cX.jU m) z;exact⟨_,cs,u1,h,g,_,stepG_none E L d.early K,fin<|EA h,B b k cs p D G⟩
def OX.value(p:vb P l)(j:jt[i]? =Z o)(s:cY o (co jt a.1)=M)(r:yn P l o.2=M)(hr:∀d,(a7 a.eval o).run P (u.tp d)=.ok (.value v) (u1.tp d))(c:OX P jt Q kj (a.put o.1 v) u1):OX P jt Q (i::kj) a u:=GO.own (J:=λn m=>n=.value v/\∃d,m=u1.tp d) p j s r (λf g=>by rw[g];unfold sP;rw[PI]) (λd=>⟨_,_,hr d,U,d,U⟩) λn m ⟨h,d,e⟩=>⟨v,aA h,by subst e;exact λb k cs q g j=>(c b k cs q g j).tp⟩
def GO.call(K:jt[i]? =Z o)(hw:cY o (co jt a.1)=M){fn body args ats}(L:o.2=.call {callee:=.value<|.func f,args,argTypes:=ats}) (p:P.2[f]? =Z fn) (J:(fn.1== "runtime.NumGoroutine")=aa) (aD:fn.9=Z body) (aK:il f) (N:∀x:aF aB,bo fn x=bo fn (dU (an.dU f) x)) (hx:∀(b:aP) (ρ:ut) (k:av gB),C b.1->XF ρ (b.at a k)->∀(j:Nat) v,(ba P f (args.map a.eval) .normal).2[j]? =Z v->j∉an.dU f->VR ρ v v) (c:dX P f (args.map a.eval) u λe h=>∃v,e=aG v/\GO C P jt Q kj (a.put o.1 v) h):GO C P jt Q (i::kj) a u:=λb k cs B hf aL=>by
 haveI:bJ:=eL [];let D:fn.9.isNone=aa:=j4;let G:∀v,(b.at a (.inRegion jt (i::kj)::k)).finish v=b.at (a.put o.1 v) (.inRegion jt kj::k):=by intro v;rw[BF,K];rfl
 refine .one λW S ρ X w t q d _=>⟨ba P f (args.map a.eval) .normal,b.at a (.inRegion jt (i::kj)::k)::cs,u,ρ,w,_,stepG_enter K hw d.early<|QW L p J D,⟨.refl ρ w,d.5,d.9,d.10,λe z=>?_,Zj p aD aK<|hx b ρ _ B d.2,λg hg=>?_,d.12⟩,(c (b.at a (.inRegion jt (i::kj)::k)::cs)).bind ?_⟩;have E:=FP z;rw[QT L p J D]at E;simp at E;obtain rfl|hg:=jh.1 hg;exact⟨d.2,rfl⟩;exact d.3 g hg;rintro fr bn h ⟨rfl,H,e,_,⟨v,rfl,aN⟩,l1,l2,l3,bp,R,V⟩;have T:=R;rw[H,p]at T;cases T;refine .one λW S ρ X w t q d _=>?_;let O:=PK λi v hv hi=>d.2.1 i v hv (by rw[H];exact hi);rw[N]at V;let aQ:∀r,(bo fn<|dU (an.dU f) fr.2).run P (h.tp r)=.ok v (h.tp r):=λr=>by obtain rfl:=d.4;exact Xv (u:=h) (cX.tp d.5 h.2) (λg hg=>O g hg.1) V r
 let⟨σ,v',w1,x,h1,m,n,s,A,h7,h8,h9⟩:=d.ok (u1:=h) (Q:=λg a b=>a=@rv _ g b) (agl fn O) aQ;replace m:=VR.of S (cX.jU s) m;obtain rfl:=VR.eq A m;refine⟨_,cs,h,σ,w1,_,aiG l1 l2 l3 R (by rw[N];exact h1),⟨n,s,A,h7,λe z=>TU (d.8.went n) (λbk b aW=>(s.3 bk b aW).2) (h8 e<|FP z),?_,λg hg=>xc n.1 d.3 g (gC _ hg),h9⟩,?_⟩;rw[G];exact JB ((d.3 (b.at a (.inRegion jt (i::kj)::k)) (fJ ..)).1.V n.1) λ_ _ _=>m;rw[G];exact aN b k cs B hf aL
def OX.call(h:vb P l)(s:jt[i]? =Z o)(w:cY o (co jt a.1)=M){fn body args ats}(t:o.2=.call {callee:=.value<|.func f,args,argTypes:=ats}) (g:P.2[f]? =Z fn) (r:(fn.1== "runtime.NumGoroutine")=aa) (d:fn.9=Z body) (q:il f) (hv:an.dU f=[]) (m:args.all (dY l)=M) (c:dX P f (args.map a.eval) u λe A=>∃v,e=aG v/\OX P jt Q kj (a.put o.1 v) A):OX P jt Q (i::kj) a u:=GO.call s w t g r d q (λx=>by rw[hv,PI]) (λb B k n z j v=>GC g d (λj v p _=>(YQ h.1 (z.all n) m).at j v p) j v) c
def GX.region{id}(h:GO C P jt Q (dA jt.size) a u):GX C P (.region id jt aa) Q a u:=λb k cs c d e=>.at_ (λ_=>La) (h b k cs c d e)
def GX.afU{id}(h:∀x,GO C P jt Q (Region.schedule (P.follows .mixedOrders) jt x) a {u with drawn:=u.3+1}):GX C P (.region id jt M) Q a u:=λb k cs d e f=>haveI:bJ:=eL [];.one λj S g m w t q c _=>⟨_,cs,{u with drawn:=u.3+1},g,{w with drawn:=w.3+1},#[],stepG_region_draw,⟨⟨ut.le_refl _,aR _,λ_ _ _=>U,λ_ _ h=>aA h,U,U,U⟩,cX.to c.5 U U U U,c.9,c.10,ay,Zi c.2,c.3,c.12⟩,h _ b k cs d e f⟩
def dX.aeA{fn c R}(n:C f)(hf:P.2[f]? =Z fn)(p:fn.9=Z c)(h:GX C P c (λe a u=>(e=.normal\/e=.ret)/\a.2=[]/\∃v,(bo fn a.1).run P u=.ok v u/\R (aG v) u) {tmps:=args++oG (fn.7-pB args) y,defers:=[]} u):dX P f args u R:=λcs=>by rw[ya args hf p];refine(h (base f) [] cs n trivial λid ⟨a,u,hq,_⟩=>by obtain hq|hq:=hq<;>cases hq).bind ?_;intro fr s w ⟨e,r,⟨q,m,v,hr,hv⟩,j⟩;obtain rfl|rfl:=q;obtain⟨rfl,rfl⟩:=j;exact .ctl (λ_=>stepG_end) (λx d=>⟨d.1,d.2,d.3,d.4,λg _=>@mu.returning _ g⟩)<|.here ⟨U,U,aG v,ay,hv,U,m,U,fn,hf,hr⟩;obtain⟨⟨t,rfl⟩,rfl⟩:=j;exact .here ⟨U,U,aG v,ay,hv,U,m,U,fn,hf,hr⟩
end
section
variable [an] {P:bM} {l:av aZ} {kw:aP->av aP->aq->Prop} {fr:aP} {cs:av aP} {u w:aq} {gs:aF bK} {t:iN} {q:Nat->Nat}
def Gc(P:bM)(kw:aP->av aP->aq->Prop)(ρ:ut)(kp:Loc->Prop)(w0:aq)(gs:aF bK)(w:aq)(sl:aV (Nat×Nat))(t:iN):Prop:=∃N b i h d c g e a k f j,runNT P N (crowd gs w sl) t=(.next<|crowd e a k,f)/\kw d c g/\fV P b i d c g h e a f j/\jm ρ h w0 a/\uG kp b w0
def ti.aeE(h:∀b S g gs w t q,fV P b S fr cs u g gs w t q->tJ g b w->∃e c f,bi P M (G fr cs) w=.go (G e c) f/\∀a n t1 m,a[0]? =Z (G e c)->uv P t1 a m->NT b w.1.size t1->(∀i j,t1.g? i=Z j->j<pB a)->Gc P kw g b w a f n t1):ti P kw fr cs u:=λb S g gs w n t q k z=>by
 haveI:bJ:=eL [];let⟨N,e,c,f,a,W,t1,m,⟨d,hr⟩,L,O,Q,R,T⟩:=Fr (K:=λe c f=>∃d,∀a n t1 m,a[0]? =Z (G e c)->uv P t1 a m->NT b w.1.size t1->(∀i j,t1.g? i=Z j->j<pB a)->Gc P kw g b (w.at d) a f n t1) (λ_=>pB w.1) n k.1 k.6 k.7 k.dO λd=>let⟨e,c,f,A,hr⟩:=h b S g gs (w.at d) t q (k.at d) (z.at d);⟨e,c,f,#[],A,aR _,ay,d,hr⟩
 let⟨o,r,p,ak,v,s,u',x,w',V,X,J,B,C,D,E,H⟩:=hr a W t1 m O Q R T;exact⟨N+o,r,p,ak,v,s,u',x,w',V,X,J,(Bf L).E B,C,D,((jm.refl g w).at d).E E,H⟩
def Wk{S Own}[DecidablePred Own](g:P=ae)(h0:gs[0]? =Z (G fr cs))(r:uv P t gs q)(v:NT kp w.1.size t)(k:∀i j,t.g? i=Z j->j<pB gs)(s:∀b,Own b->¬S b/\∃o,w.1[b]? =Z o/\OR (gu λb=>Own b\/S b) o o)(hS:∀b,S b->b<pB w.1/\CT w.1[b]?)(B:pB P.globals<=pB w.1)(d:XF (gu λb=>Own b\/S b) fr)(A:∀f∈cs,XF (gu λb=>Own b\/S b) f/\f.5=.run)(z:∀l,kp l->∃a:iL,l=.cell a/\a.1<pB w.1/\¬Own a.1):
  fV P kp S fr cs (wd Own w) (gu λb=>Own b\/S b) gs w t q:=by
 refine⟨h0,d,A,g,YY (λb=>sS) s hS (g▸B),r,v,?_,λa b h=>h.1,AQ,k,λa o c E=>?_⟩;intro l C;let⟨a,m,n,p⟩:=z l C;exact⟨a,m,n,λx d=>d.2.resolve_left p⟩
 by_cases e:Own a
 exact⟨a,U,aA e⟩
 let D:a<pB w.1:=by have:=(bf.1 c).1;rwa [AQ]at this
 rw[Nq e D]at c;cases E (ey c).y
end
section
open Classical
open Go.ConcN (ShN WgLive sumTo upd)
open Go.ConcR (WgAt)
section
variable [an] [bJ] {P:bM} {kw:aP->av aP->aq->Prop} {fr:aP} {cs:av aP} {u w w1:aq} {gs ng:aF bK} {t:iN} {q:Nat->Nat} {kp:Loc->Prop} {S:Nat->Prop} {ρ:ut} {ty:aY} {Rz:Nat->(Nat->Prop)->bK->aq->Prop} {Q:Nat->(Nat->Prop)->aq->Prop} {lh:Nat} {sl:aV (Nat×Nat)} {x:Obj}
def S8{st sm}(h:eh ty Wg w st sm):CT w.1[Wg]? :=by unfold JU at h;rw[h];exact⟨_,_,_,U,ay,aR _⟩
def abS{t0 q0}(g:fV P kp S fr cs u ρ gs w t0 q0)(bP:w1.1=w.1.push x)(R:iF w w1)(bt:eh ty w.1.size w1 0 0){a}(ha:ng[0]? =Z a)(hL:uv P t ng q)(hP:NT kp w.1.size t)(dO:∀i j,t.g? i=Z j->j<pB ng)(hM:lh<2147483647)(bh:MS P ty w.1.size Rz Q lh 0 .opn (λb=>ρ b b/\¬S b) a w1)(bg:∀m J B n (r:Nat->Nat->Prop),Rz m J B n->(∀i,i<m->Q i (r i) n)->(∀b,J b->∀i,i<m->¬r i b)->(∀b i j,i<m->j<m->r i b->r j b->i=j)->(∀b,J b\/(∃i,i<m/\r i b)->b≠pB w.1/\b<pB n.1/\¬S b/\((ρ b b/\¬S b)\/pB w.1<b))->eh ty w.1.size n 0 0->iF w1 n->
   ∃z v Own,B=G z v/\kw z v (wd Own n)/\(∀b,Own b->b≠pB w.1/\(b<pB w.1->ρ b b/\¬S b)/\∃o,n.1[b]? =Z o/\OR (gu λb=>Own b\/S b\/b=pB w.1) o o)/\XF (gu λb=>Own b\/S b\/b=pB w.1) z/\(∀b,ρ b b->Own b\/S b\/b=pB w.1)/\∀f∈v,XF (gu λb=>Own b\/S b\/b=pB w.1) f/\f.5=.run):
  Gc P kw ρ kp w ng w1 sl t:=by
 let bN:pB w1.1=pB w.1+1:=j4
 let W:∀b,b<pB w.1->w1.1[b]? =w.1[b]? :=λb hb=>by grind
 let V:∀b,S b->b<pB w.1:=λb hb=>by obtain⟨c,E⟩:=g.5.5 b hb;exact(g.5.3 c b E).2
 let Vo:∀b,ρ b b->b<pB w.1:=λb hb=>(g.5.3 b b hb).2;let aT:(λb=>ρ b b/\¬S b)=(λk b=>k=0/\(ρ b b/\¬S b):Nat->Nat->Prop) 0:=j4
 let hI:Inv P ty w.1.size kp Q lh ng.size ⟨λb=>b<pB w1.1/\¬(ρ b b/\¬S b)/\b≠pB w.1,λb=>ρ b b/\¬S b,w1⟩ .opn a aa w1 0 (λ_=>⟨.quit,λ_=>False,a,w1,0⟩) (λk b=>k=0/\(ρ b b/\¬S b)) q ng w1 t:=.start (λb hb hx=>hx.2.1 hb) (λb hb=>hb.1) (.refl ..) (λh=>h.2.2 U) hM ha hL hP dO bt (λb hb=>by have:=Vo b hb.1;omega) (λh=>uD _ (Vo _ h.1)) λb hb l d bq=>by obtain⟨s,rfl,_,K⟩:=g.8 l bq;obtain⟨aD,e,rfl⟩|e:=d;cases e;exact hb.2<|K _ hb.1;cases e
 let⟨N,B,bR,m,f,Ow,q1,aE,n,bH,t',bn,p,bl,A⟩:=LP bh _ _ q ng w1 sl t aT.y hI;obtain⟨o1,⟨q',o2⟩,o3,o4,o5,o6,o7,o8,o9⟩:=p.over;let X:=p.4;let UY:=p.1;let af:∀b,(ρ b b/\¬S b)\/pB w1.1<=b->¬S b:=λb hb hs=>hb.e (λh=>h.2 hs) λh=>by grind
 obtain⟨z,v,Own,rfl,h1,C,K,aK,h4⟩:=bg m (Ow 0) B n (λi=>Ow (pB ng+i)) bl o5 (λb hb i hi h=>by have:=X.3 _ _ b hb h;omega) (λb i j _ _ h h'=>by have:=X.3 _ _ b h h';omega) (λb hb=>by obtain hb|⟨i,_,hb⟩:=hb;exact⟨λe=>o9 0 (e▸hb),o8 0 b hb,af b<|p.16.2 0 b hb,(p.16.2 0 b hb).imp id λh=>by(have h:pB w1.1<=b:=h;omega)⟩;exact⟨λe=>o9 _ (e▸hb),o8 _ b hb,af b<|p.16.2 _ b hb,(p.16.2 _ b hb).imp id λh=>by(have h:pB w1.1<=b:=h;omega)⟩) o4 A
 let bO:=A.4;refine⟨N,λl=>kp l\/ShN w.1.size l,λb=>S b\/b=pB w.1,_,z,v,wd Own n,aE,n,bH,t',q',bn,h1,Wk g.4 o1 o2 o3 o6 (λb hb=>?_) (λb hb=>?_) ?_ K h4 λl d=>?_,?_,λs d=>?_⟩;obtain⟨k1,H,k3⟩:=C b hb;refine⟨?_,k3⟩;rintro(h|h);exact(H<|V b h).2 h;exact k1 h;obtain hb|rfl:=hb;let L:=V b hb;refine⟨Y,?_⟩;have e:n.1[b]? =w1.1[b]? :=o7.1 b ⟨Y,λh=>h.2 hb,Y⟩;rw[e,W b L];exact cX.calm g.5 hb;exact⟨Y,S8 o4⟩;have:=g.xe;have:=g.10;omega;obtain d|⟨s,rfl,d⟩:=d;let⟨s,e,T,h6⟩:=g.8 l d;refine⟨s,e,Y,λO=>?_⟩;let⟨_,H,_⟩:=C _ O;exact(H T).2 (h6 _ (H T).1);exact⟨s,U,by rw[d];omega,λO=>(C _ O).1 d⟩;refine⟨λa b D=>?_,Y,λb hb hn=>?_,λa b D=>?_,A.1.E R.1,A.2.E R.2,A.3.E R.3⟩;obtain rfl:=g.9 _ _ D;exact⟨U,aK a D⟩;exact(o7.1 b ⟨Y,λh=>hn b h.1,Y⟩).E<|W b hb;let⟨rfl,hb⟩:=D
 by_cases L:pB w.1<=a
 exact az L;obtain hb|hb|hb:=hb;exact aA ((C a hb).2.1 Y).1;let⟨c,E⟩:=g.5.5 a hb;have e:=g.9 _ _ E;subst e;exact aA E;omega;obtain d|⟨aD,e,d⟩:=d;exact aA d;cases e;exact az Y
end
end
section
variable [an] {P:bM} {ρ:ut} {fr:aP} {cs:av aP} {u w:aq} {gs:aF bK} {t:iN} {q:Nat->Nat} {kp:Loc->Prop} {S:Nat->Prop}
def Eb{ad}(h:kD u ad=Z v):∃o,u.1[ad.1]? =Z o/\o≠cC:=by unfold gp at h;split at h;rename_i e;exact⟨_,e,by intro e;cases e⟩;cases h
def fV.heap(d:fV P kp S fr cs u ρ gs w t q){b o}(j:u.1[b]? =Z o)(l:o≠cC):ρ b b/\¬S b/\w.1[b]? =Z o/\OR (gu λb=>ρ b b) o o:=by
 haveI:bJ:=eL [];let⟨r,f⟩:=d.12 b o j l;obtain rfl:=d.9 _ _ f;let hS:¬S b:=λp=>by let⟨g,i⟩:=nk S (cX.jU d.5);have:=(@cW.qX _ g ⟨_⟩ _ _ (d.5.8 g i) b (by rw[i.1 b b f];exact(d.5.3 b b f).1) (by rw[i.s];exact p)).1;rw[i.1 b b f,show((u.tp<|wl u w).1)[b]? =Z o from j]at this;exact l<|ey this
 let⟨z,v,h0,n,k⟩:=cX.obj d.5 f hS;rw[show((u.tp<|wl u w).1)[b]? =Z o from j]at h0;obtain rfl:=ey h0;have e:=k.eq d.9;subst e;exact⟨f,hS,n,(k.right<|cX.jU d.5).V λa c ⟨h,x,m⟩=>⟨h,by have e:=d.9 _ _ m;subst e;exact m⟩⟩
def fV.cell(e:fV P kp S fr cs u ρ gs w t q){ad}(h:kD u ad=Z v):ρ ad.1 ad.1/\¬S ad.1/\kD w ad=Z v:=by let⟨o,a,f⟩:=Eb h;let⟨b,c,d,_⟩:=e.heap a f;refine⟨b,c,?_⟩;unfold gp at h⊢;rw[a]at h;rwa [d]
def fV.Ie(a:fV P kp S fr cs u ρ gs w t q){b}(h:ρ b b)(hS:¬S b):∃o,u.1[b]? =Z o/\o≠cC:=a.5.6 b b h hS
end
section
variable [an] [bJ] {P:bM}
def ajB{t:aY}{d:TypeDesc}(h:nf P t=Z d)(w es):(underlying t).runT P w es=(.ok d w,es):=by simp[underlying,program,bind,fK,eA,pure,h,Sem.run,FH]
def aaD{t b:aY}(h:nf P t=Z (.pointer b))(a w es):(Op.equal t (π a)<|π aj).runT P w es=(.ok a.isNone w,es):=by unfold Op.equal;rw[show Op.maxDepth=9999+1 from U];unfold Op.equalIn;show(fK _ _).runT P w es=_;rw[kX,ajB h];cases a<;>rfl
def Wn{t b:aY}(h:nf P t=Z (.pointer b))(a w es):(ju .neq t (π a)<|π aj).runT P w es=(.ok (ω a.isSome) w,es):=by unfold ju;show(fK _ _).runT P w es=_;rw[kX,aaD h];cases a<;>rfl
def Wo{t b:aY}(h:nf P t=Z (.pointer b))(a w es):(ju .neq t (π a)<|π aj).events P w es=es:=by unfold FH;rw[Wn h]
def Wp{t b:aY}(h:nf P t=Z (.pointer b))(a w):(ju .neq t (π a)<|π aj).run P w=.ok (ω a.isSome) w:=by rw[<-iM P _ w #[],Wn h]
end
section
variable [an]
end
def agm{H:Type}{enc:aY×aB->H}{a C os fn}{s:OpenSpec}{k}(z:s.4=Z k){li conds apart fresh handsOn again}(own:ownKnob C.2.godebug=aj)(O:os.Started)(r:C.2.2[f]? =Z fn)(P:∃(w:aq) (tape:Tape) (i:Input),w.4=os/\(w.forCall tape i).Shaped C.2/\i.3=[]/\Input.okWide C.2 (w.forCall tape i) .any w.1.size f i/\
   s.pre6 enc C.2 fn conds apart (w.forCall tape i).memory i.2/\a.holds C.2 (lone (ba C.2 f i.2 .normal) []<|w.forCall tape i)) (N:∀(W:aq) (base:Nat) (args:aF aB) (b gs:av (DataW H)) (g:av MemPlace),World.ShapedOpen C.2 W->
   (∀(j:Nat) t v,fn.4[j]? =Z t->args[j]? =Z v->Value.okWide C.2 W .any base t v)->
   DataW.Whole enc C.2 fn.4.1 s.2 apart W args.1 b gs g->
   conds.all (PathCond.test C.2 ⟨fn.4.1,b,s.bare.plain.varTypes C.2,gs⟩)=M->k H (b++gs)=M->
   a.holds C.2 (lone (ba C.2 f args .normal) [] W)->
   ∃c last o w' d,runNT C.2 (c+1) (solo (G (ba C.2 f args .normal) []) W) #[]=(.ended o w',d)/\runN C.2 c (solo (G (ba C.2 f args .normal) []) W)=.next last/\
    step C.2 last=.ended o w'/\Conc.Good C.2 (λv h=>(s.at li).post enc C.2 fn apart fresh handsOn again W args v h) last o w' d):
  ReturnsInLeavingWide a C os f .any (s.pre6 enc C.2 fn conds apart) ((s.at li).post enc C.2 fn apart fresh handsOn again):=by
 refine returnsInLeavingWide_of_good own O P λw tape i R J S B E x=>?_;let⟨_,_,_,Q,u,_,_,_,_,K⟩:=B;have e:=ey (u.y.E r);subst e;let⟨b,gs,g,L,q,A⟩:=(OpenSpec.pre_some z conds apart _ _).1 E.1;let⟨c,last,o,w',d,l,m,n,p⟩:=N (w.forCall tape i) w.1.size i.2 b gs g J K (DataW.Whole.of_heap (w':=w.forCall tape i) n7 L) q A x;exact⟨c,last,o,w',d,l,m,n,p.V λv D=>ChangeSpec.post_blind D⟩
section
variable [an] {P:bM} {l:av aZ} {Q:xl->eQ->aq->Prop} {a:eQ} {u u1:aq} {jt:aF ep} {i:Nat} {kj:av Nat} {o:ep} {Lf:aZ->av Nat} {f0:aZ}
abbrev FX(Lf:aZ->av Nat)(f0:aZ)(P:bM):=GX (λf=>f=f0/\Lf=an.dU) P
abbrev FO(Lf:aZ->av Nat)(f0:aZ)(P:bM):=GO (λf=>f=f0/\Lf=an.dU) P
def zm{L:av Nat}{i:Nat}(h:i∉L):(sP L a).eval (.tmp i)=a.eval (.tmp i):=by simp only[cn,sP,dU,ue,Zo,h,dM];cases a.1[i]? <;>rfl
def FO.aeQ{d:Nat}{J:aB->aq->Prop}(h:vb P l)(k:jt[i]? =Z o)(p:cY o (co jt a.1)=M)(hd:o.1=Z d)(m:yn P l o.2=M)(j:a7 a.eval o=a7 (sP (Lf f0) a).eval o)(hr:∀g,∃v u1,(a7 a.eval o).run P (u.tp g)=.ok (.value v) u1/\J v u1)(c:∀v u1,J v u1->FO Lf f0 P jt Q kj (a.put (Z d) v) u1):FO Lf f0 P jt Q (i::kj) a u:=GO.own (J:=λn u1=>∃v,n=.value v/\J v u1) h k p m (λf ⟨b,e⟩=>by rw[b,<-e];exact j) (λg=>by let⟨v,u1,b,e⟩:=hr g;exact⟨_,u1,b,v,U,e⟩) λn u1 ⟨v,b,e⟩=>⟨v,aA b,by rw[hd];exact c v u1 e⟩
def FO.own{d:Nat}(n:vb P l)(f:jt[i]? =Z o)(t:cY o (co jt a.1)=M)(hd:o.1=Z d)(s:yn P l o.2=M)(p:a7 a.eval o=a7 (sP (Lf f0) a).eval o)(hr:∀e,(a7 a.eval o).run P (u.tp e)=.ok (.value v) (u1.tp e))(c:FO Lf f0 P jt Q kj (a.put (Z d) v) u1):FO Lf f0 P jt Q (i::kj) a u:=FO.aeQ (J:=λh g=>h=v/\∃e,g=u1.tp e) n f t hd s p (λe=>⟨v,_,hr e,U,e,U⟩) λh g ⟨j,e,m⟩=>by subst j m;exact λb k cs q r f=>(c b k cs q r f).tp
def FO.void(m:vb P l)(h:jt[i]? =Z o)(t:cY o (co jt a.1)=M)(hd:o.1=aj)(s:yn P l o.2=M)(p:a7 a.eval o=a7 (sP (Lf f0) a).eval o)(hr:∀d,(a7 a.eval o).run P (u.tp d)=.ok .skip (u1.tp d))(c:FO Lf f0 P jt Q kj a u1):FO Lf f0 P jt Q (i::kj) a u:=GO.own (J:=λn j=>n=.skip/\∃d,j=u1.tp d) m h t s (λf ⟨e,g⟩=>by rw[e,<-g];exact p) (λd=>⟨_,_,hr d,U,d,U⟩) λn j ⟨e,d,g⟩=>⟨y,az ⟨e,U⟩,by rw[hd];subst g;exact λb k cs q r h=>(c b k cs q r h).tp⟩
def FO.unwanted{d:Nat}(b:jt[i]? =Z o)(e:cY o (co jt a.1)=aa)(hd:o.1=Z d)(c:FO Lf f0 P jt Q kj (a.put (Z d) y) u):FO Lf f0 P jt Q (i::kj) a u:=GO.unwanted b e j4
def FO.look{d:Nat}(A:jt[i]? =Z o)(C:cY o (co jt a.1)=M)(hd:o.1=Z d)(hr:∀j f w,tJ f j w->(a7 a.eval o).run P w=.ok (.value v) w/\∀e∈(a7 a.eval o).events P w #[],kM j w.1.size e)(hv:d∈Lf f0\/∀f,VR f v v)(c:FO Lf f0 P jt Q kj (a.put (Z d) v) u):FO Lf f0 P jt Q (i::kj) a u:=λb k cs m s B=>.one λj S f E w t q g r=>by haveI:bJ:=eL [];let⟨n,p⟩:=hr j f w r;refine⟨_,cs,u,f,w,_,FV A C g.early n,⟨.refl f w,g.5,g.9,g.10,λe D=>p e (FP D),?_,g.3,g.12⟩,?_⟩;exact JB g.2 λx e z=>hv.e (λh=>absurd (by rw[hd]at e;cases e;rw[m.1,<-m.2];exact h) z) λh=>h f;rw[hd];exact c b k cs m s B
def FO.blind{d:Nat}(f:jt[i]? =Z o)(g:cY o (co jt a.1)=M)(hd:o.1=Z d)(hr:∀w,(a7 a.eval o).run P w=.ok (.value v) w)(he:∀w,(a7 a.eval o).events P w #[]=#[])(hv:d∈Lf f0\/∀h,VR h v v)(c:FO Lf f0 P jt Q kj (a.put (Z d) v) u):FO Lf f0 P jt Q (i::kj) a u:=FO.look f g hd (λ_ _ w _=>⟨hr w,λe b=>by rw[he]at b;simp at b⟩) hv c
def FO.Ec{d f:Nat}{g:Obj}(s:an.tY f=Z g)(q:jt[i]? =Z o)(r:cY o (co jt a.1)=M)(hd:o.1=Z d)(hr:∀w,w.1[f]? =Z g->(a7 a.eval o).run P w=.ok (.value v) w)(he:∀w,w.1[f]? =Z g->∀e∈(a7 a.eval o).events P w #[],∃b:iL,e.1=.cell b/\b.1=f)(hv:∀k,VR k v v)(c:FO Lf f0 P jt Q kj (a.put (Z d) v) u):FO Lf f0 P jt Q (i::kj) a u:=FO.look q r hd (λz k w p=>by let⟨C,j,D⟩:=p f g s;refine⟨hr w j,λe h=>?_⟩;let⟨b,m,n⟩:=he w j e h;let⟨t,wr,B⟩:=e;obtain rfl:t=.cell b:=m;refine⟨λx h A=>?_,⟨by simp[dW],by simp[dW]⟩,?_⟩;simp[dW,vX]at h;grind;show b.1<pB w.1;rw[n];exact(bf.1 j).1) (az hv) c
def iT(Lf:aZ->av Nat)(P:bM)(f:aZ)(args:aF aB)(u:aq)(R:jA->aq->Prop):Prop:=Lf=an.dU->dX P f args u R
def iT.V{args R R'}(h:iT Lf P f args u R)(hr:∀e u,R e u->R' e u):iT Lf P f args u R':=λe=>(h e).V hr
def iT.aez{fn c R}(hf:P.2[f]? =Z fn)(g:fn.9=Z c)(h:FX Lf f P c (λe a u=>e=.ret/\a.2=[]/\∃v,(bo fn a.1).run P u=.ok v u/\R (aG v) u) {tmps:=args++oG (fn.7-pB args) y,defers:=[]} u):iT Lf P f args u R:=λe=>.aeA ⟨U,e⟩ hf g (GX.V h λ_ _ _ ⟨b,d⟩=>⟨az b,d⟩)
end
abbrev pt(b:Nat):aB:=aQ b
def wX(a B:Nat):Deferred:={target:=.fn (.func 98) #[pt a,pt B],args:=#[]}
def ry(P:bM):aP:={(default:aP)with fn:=pB P.2,defers:=[],mode:=.panicking [Cs]}
def SK(fn:gG):fu:=fn.9.getD .skip
def ael:(f98.1== "runtime.NumGoroutine")=aa:=aW
def Q8(Wg B w):bi ai aa (born ai<|wX Wg B) w=.go (G ((Wx 98).at ⟨#[pt Wg,pt B,y,y],[]⟩ [.code<|SK f98]) [ry ai]) w:=by
 let a:f98.9=Z (SK f98):=U;have e:=enter_atD #[pt Wg,pt B] func98 a;let b:(#[pt Wg,pt B]++oG (f98.7 - #[pt Wg,pt B].size) y)=#[pt Wg,pt B,y,y]:=U;rw[b]at e;rw[<-e];simp[born,wX,ry,G,bi,CB,callDeferred,invoke,callFunc,func98,(by simpa using ael),a,iw,FR]
section
open Classical
open Go.ConcN (ShN WgLive Has)
open Go.ConcR (Payload)
section
variable [an] [bJ] {l:av aZ} {C:Nat->Prop} {R:jA->aq->Prop} {Wg B c:Nat} {w:aq}
def Qr(C:Nat->Prop)(R:jA->aq->Prop)(O:Nat->Prop)(w:aq):Prop:=∃u d v,R (aG v) u/\(gu C).le d/\Wl (λ_=>False) d u w/\∀a b,d a b->O b
def Qr.rel{k:aY}(h:Qr C R O w)(r:tb k Wg O w w₁):Qr C R O w₁:=by let⟨u,m,v,e,f,g,d⟩:=h;exact⟨u,m,v,e,f,g.rel (λb j=>j.e) (λa b i _=>d a b i) r,d⟩
def Rs(C:Nat->Prop)(R:jA->aq->Prop)(Wg B:Nat)(O:Nat->Prop)(g:bK)(w:aq):Prop:=(∃k,k.5=.returning/\(∃a,QuitsD ai a 0<|G k [ry ai])/\g=G ((Wx tf.2).at ⟨#[pt Wg,y,y,y],[]⟩ [.code<|body_done tf]) [k,ry ai])/\O B/\¬O Wg/\WgLive tf.30 Wg w/\(∃v,Has B 0 v w)/\Qr C R O w
def aku[oM](h:∀a,tb tf.30 Wg O w a->Rs C R Wg B O g a):WS ai tf.30 Wg (Qr C R) .work O g w:=by obtain⟨⟨k,d,⟨o,e⟩,rfl⟩,f,i,b,⟨v,j⟩,m⟩:=h w (.refl ..);exact(aky (n:=0) f i (λa r=>m.rel r) _ _ _ _ (.refl ..) (aah xJ w b)<|doneN (k:=1) (Low:=0) (val:=v) xJ d e w ⟨b,j⟩)
def tb.cell{a:aY}(r:tb a Wg O w w₁){ad}(h:O ad.1):kD w₁ ad=kD w ad:=by unfold gp;rw[r.1 _ h]
def yy{ad}(h:O ad.1)(a:ad.1<n)(wr):iR Wg O n (.ofEvent ⟨.cell ad,wr,aa⟩):=by refine⟨λx b=>?_,by simp[dW],a,λ_=>by simp[dW],λ_=>by simp[dW]⟩;simp[dW,vX]at b;grind
def afC(k)(hm:k.5=.returning)(hd:k.4=[])(d:k.6=.deferred)(hf:k.1=98):QuitsD ai 2 0 (G k [ry ai]):=by refine az ⟨U,G (ry ai) [],#[],ay,λw=>?_,az ⟨U,{frame:=ry ai,callers:=[],status:=.finished,dying:=aj},#[],ay,λw=>?_,⟨U,U⟩⟩⟩;let hr:f98.8=#[]:=U;let a:(bo f98 k.2).run ai w=.ok (θ #[]) w:=L4;simp[G,bi,CB,lZ,hm,hd,d,hf,func98,a,KU hr _ _,seen,iw,ry,Cs];simp[G,bi,CB,ry,Cs,du.catches,ay];rfl
def akA[oM](k:vb ai l)(bh:an.ok 100)(z:pB ai.globals<=pB w.1)(H:yi C w)(L:C c)(W:¬C B)(aC:¬C Wg)(af:B≠Wg)(aT:WgLive tf.30 Wg w)(i:kD w (F B 0)=Z (pt c))
  (hR:∀e u D,R e u->R e (aq.tp u D)) (Q:∀e u,R e u->∃v,e=aG v) (aE:∀D,ax ai 100 #[pt c] ((wd C w).tp D) R):
  WS ai tf.30 Wg (Qr C R) .work (λb=>C b\/b=B) (born ai<|wX Wg B) w:=by
 refine akz (ky:=Rs C R Wg B) ?_ λO g w h=>aku h
 let E:B<pB w.1:=by unfold gp at i;split at i;rename_i h;exact(bf.1 h).1;cases i
 refine .ctl U (λd _=>Q8 Wg B d) ?_;simp;refine .seq<|.region ?_;simp;refine .ctl U (λd _=>stepG_defer U U (by simp[Wx]) U) (.regionEnd<|.region ?_);simp;refine .op (pt c) U U (by simp[Wx]) (λd r=>?_) (λd r e t=>?_) ?_
 ·let s:=(r.cell (ad:=F B 0)<|az U).E i;unfold a7;simp[go_sem,s,dv,cn]
 ·unfold a7 at t;simp[go_sem,(r.cell (ad:=F B 0)<|az U).E i,dv,cn]at t;subst t;exact yy (az U) (cS E r.2) aa
 refine .call U U (by simp[Wx]) U func100 aW U ?_
 walk_nrm
 generalize P:(Wx 98).at _ _=kf;let aN:kf.5=.run:=by rw[<-P];rfl
 let aD:te [kf,ry ai]:=λb m=>by simp at m;obtain rfl|rfl:=m;exact aA aN;exact az rfl
 let T:=akl H (k.2▸z);let N:Fs l (λ_=>False) (gu C) (wd C w).1.size (ba ai 100 #[pt c] .normal) [] (ba ai 100 #[pt c] .normal) []:=aay k bh λg z=>by simp[pt,rv,ra,z.1 c c ⟨U,L⟩]
 let MY:=aki k (rY.tp (u:=(wd C w).tp<|wl (wd C w) w) ⟨λ_=>False,gu C,[],_,[],w,aiK,N,T⟩ (wd C w).2) hR (λu hu=>by let⟨v,e⟩:=Q _ _ hu;cases e) aE
 let aH:CJ ai aa tf.30 Wg (λO g w=>Qr C R O w/\∃f:aP,f.5=.returning/\f.4=[]/\f.6=.normal/\f.1=100/\g=G f [kf,ry ai]) C (G (ba ai 100 #[pt c] .normal) [kf,ry ai]) w:=by refine U5 k Hv (S:=λ_=>False) (ρ0:=gu C) aD MY ?_ (gu C) C _ [] w (ut.le_refl _) N T (λb h=>h.e)<|λa b j _=>j.2;rintro f cs u A O p bB V ⟨rfl,aK,e,_,J,aX⟩ aS aL K _ q;obtain⟨v,rfl⟩:=Q e u J;let⟨g,n,aJ⟩:=aL.one K.jU;cases aJ;let⟨l1,l2,l3,fn,l4,_⟩:=aX;refine .stop λd r=>⟨Qr.rel ⟨u,A,v,J,aS,K,λa b j=>q a b j id⟩ r,p,?_,?_,n.7.E l3,n.1.E aK,U⟩;have:=n.6;rw[l1]at this;generalize p.5=md at this;cases this;rfl;have:=n.5;rw[l2]at this;generalize p.4=ds at this;cases this;rfl
 let bE:c<pB w.1:=by obtain⟨o,ho,_⟩:=H c L;exact(bf.1 ho).1
 let q:(λb=>C b\/b=B)=λb=>C b\/(λx=>x=B) b:=U;rw[q];refine(aH.frame (X:=λx=>x=B) (w0:=w) (λb m=>by subst m;exact⟨E,W,U⟩) aC aT).bind ?_;intro O g V h;obtain⟨O1,⟨hq,f,f1,f2,f3,f4,rfl⟩,rfl,hx,ak,aQ⟩:=h V (.refl ..);subst P;refine .leave f1 f2 f3 (by rw[f4];exact func100) U ?_;rw[BF]
 walk_nrm
 refine .regionEnd<|.end_<|.ctl U (λd _=>stepG_unwind_enter U xJ.2 aW U)<|.stop λd r=>⟨⟨_,U,⟨2,afC _ U U U U⟩,U⟩,az U,?_,r.3 aQ,⟨pt c,?_⟩,?_⟩;rintro(h|h);exact ak h;exact af h.y;show kD d (F B 0)=_;rw[r.cell (ad:=F B 0)<|az U];unfold gp at i⊢
 rwa [hx B U]
 let⟨u,A,v,q1,q2,q3,q5⟩:=hq;exact Qr.rel ⟨u,A,v,q1,q2,q3,λa b j=>aA (q5 a b j)⟩ r
end
end
def eD:aP:={(default:aP)with fn:=61,kind:=.normal}
def Bc(fn:gG):fu:=match fn.9 with|some (.seq _<|.seq _ x)=>x|_=>.skip
def Bt(fn:gG):fu:=match fn.9 with|some (.seq _<|.seq _<|.seq _ x)=>x|_=>.skip
def oQ(fn:gG):fu:=match fn.9 with|some (.seq _<|.seq _<|.seq (.seq _<|.block _<|.rangeFunc _ _ x _) _)=>x|_=>.skip
def mB(fn:gG):fu:=match fn.9 with|some (.seq _<|.seq _<|.seq (.seq _<|.block _<|.rangeFunc _ _ _ x) _)=>x|_=>.skip
def tQ(fn:gG):fu:=match fn.9 with|some (.seq _<|.block _<|.loop x)=>x|_=>.skip
section
variable [an] [bJ] {ky:(Nat->Prop)->bK->aq->Prop} {O:Nat->Prop} {w:aq} {xb sb B1 Wg n:Nat} {cl:av (aV Nat)} {cs0:av aP}
def lM(xb B1 Wg B2:Nat):aF aB:=#[pt xb,pt B1,pt Wg,y,y,pt xb,.func (.func 96) #[] #[pt B2],y,y,y,y,y,y,y,y,y,y,y,y,y,y,y,y]
def PH(L B2 xb sb n i:Nat)(v:Nat->aB):aF aB:=#[.func (.yield L) #[] #[],pt B2,y,y,v 4,pt xb,pt xb,π<|Z<|F xb 9,ζ (Z<|F sb 0) n n,I n,I i,v 11,v 12,v 13,v 14,v 15,v 16,v 17,v 18,v 19,v 20,v 21,v 22]
def xG(fn:gG)(xb B1 Wg B2 D L:Nat):aP:=eD.at ⟨lM xb B1 Wg B2,[{target:=.collected D,args:=#[]}]⟩ (.inRangeFunc L::.inBlock 0::.code (Bt fn)::[])
def qd(fZ a:gG)(xb sb B1 Wg B2 D L n i:Nat)(v:Nat->aB)(cs0:av aP):bK:=G ((base 96).at ⟨PH L B2 xb sb n i v,[]⟩ [.code<|tQ a,.inLoop<|tQ a,.inBlock 0]) (xG fZ xb B1 Wg B2 D L::cs0)
def vp(v:aV Nat):aB:=π (v.map λc=>⟨c,0,aj⟩)
structure fU(fZ:gG)(xb sb B1 Wg B2 D L n:Nat)(cl:av (aV Nat))(st:Kv)(O:Nat->Prop)(w:aq):Prop where
 ox:O xb
 os:O sb
 o1:O B1
 o2:O B2
 oD:O D
 oL:O L
 nW:¬O Wg
 lv:WgLive tf.30 Wg w
 b1:kD w (F B1 0)=Z (pt xb)
 b2:kD w (F B2 0)=Z (pt xb)
 sl:kD w (F xb 9)=Z (ζ (Z (F sb 0)) n n)
 at_:∀(j:Nat) v,cl[j]? =Z v->kD w (F sb j)=Z (vp v)
 len:cl.length=n
 df:w.1[D]? =Z (.deferred (Z []))
 lp:w.1[L]? =Z (.loop (nu eD ⟨lM xb B1 Wg B2,[]⟩ #[7] (oQ fZ) (mB fZ) D st))
 bx:w.1[B2]? =Z (au #[pt xb] 36)
def As{ad}(h:kD w ad=Z v):ad.1<pB w.1:=by unfold gp at h;grind
def tn{ad}(h:w'.1[ad.1]? =w.1[ad.1]?):kD w' ad=kD w ad:=by unfold gp;rw[h]
variable {fZ:gG} {B2 D L:Nat} {st:Kv}
def fU.kept{O'}(h:fU fZ xb sb B1 Wg B2 D L n cl st O w)(c:∀b,O b->O' b)(d:¬O' Wg)(a:∀b,O b->w'.1[b]? =w.1[b]?)(hl:WgLive tf.30 Wg w'):fU fZ xb sb B1 Wg B2 D L n cl st O' w':=
 ⟨c _ h.1,c _ h.2,c _ h.3,c _ h.4,c _ h.5,c _ h.6,d,hl,(tn (ad:=F B1 0)<|a _ h.3).E h.9,(tn (ad:=F B2 0)<|a _ h.4).E h.b2,(tn (ad:=F xb 9)<|a _ h.1).E h.sl,
  λj v e=>(tn (ad:=F sb j)<|a _ h.2).E (h.12 j v e),h.13,(a _ h.5).E h.df,(a _ h.6).E h.lp,(a _ h.4).E h.bx⟩
def fU.rel(h:fU fZ xb sb B1 Wg B2 D L n cl st O w)(r:tb tf.30 Wg O w w₁):fU fZ xb sb B1 Wg B2 D L n cl st O w₁:=h.kept (λ_ x=>x) h.7 r.1 (r.3 h.8)
def Dc{ad}(h:kD w ad=Z v)(k:w.1[l]? =Z (.loop r)):ad.1≠l:=λe=>by unfold gp at h;rw[e,k]at h;cases h
def DK(h:WgLive tf.30 Wg w)(e:w'.1[Wg]? =w.1[Wg]?):WgLive tf.30 Wg w':=let⟨st,sm,a⟩:=h;⟨st,sm,e.E a⟩
def fU.gA(h:fU fZ xb sb B1 Wg B2 D L n cl st O w)(b:Kv):fU fZ xb sb B1 Wg B2 D L n cl b O (gA w L<|nu eD ⟨lM xb B1 Wg B2,[]⟩ #[7] (oQ fZ) (mB fZ) D b):=by
 let c:D≠L:=λe=>by have:=h.df;rw[e,h.lp]at this;cases this
 exact⟨h.1,h.2,h.3,h.4,h.5,h.6,h.7,DK h.8<|qY (λe=>h.7 (e▸h.6)),(tn (ad:=F B1 0)<|qY<|Dc h.9 h.lp).E h.9,(tn (ad:=F B2 0)<|qY<|Dc h.b2 h.lp).E h.b2,(tn (ad:=F xb 9)<|qY<|Dc h.sl h.lp).E h.sl,
  λj v a=>(tn (ad:=F sb j)<|qY<|Dc (h.12 j v a) h.lp).E (h.12 j v a),h.13,(qY c).E h.df,afu (bf.1 h.lp).1,(qY<|Dc h.b2 h.lp).E h.bx⟩
def DJ(h:WgLive tf.30 Wg w):Wg<pB w.1:=by let⟨st,sm,a⟩:=h;unfold JU at a;exact(bf.1 a).1
def It{x}(h:i<pB w.1):({w with heap:=w.1.push x}:aq).1[i]? =w.1[i]? :=by grind
def agU(o:O B1)(A:O xb)(z:O sb)(R:¬O Wg)(s:∀b,O b->b<pB w.1)(hl:WgLive tf.30 Wg w)(q:kD w (F B1 0)=Z (pt xb))(Q:kD w (F xb 9)=Z (ζ (Z<|F sb 0) n n))(H:∀(j:Nat) v,cl[j]? =Z v->kD w (F sb j)=Z (vp v))(K:pA cl=n)
  (N:∀B2 D L m l v,(∀b,O b->m b)->(∀b,m b->O b\/pB w.1<=b)->(∀b,O b->l.1[b]? =w.1[b]?)->(∀b,m b->b<pB l.1)->pB w.1<=pB l.1->l.4=w.4->pB w.1<=B2->pB w.1<=D->pB w.1<=L->fU fe xb sb B1 Wg B2 D L n cl .ready m l->CJ ai M tf.30 Wg ky m (qd fe f96 xb sb B1 Wg B2 D L n 0 v cs0) l):
  CJ ai M tf.30 Wg ky O (G (eD.at ⟨#[pt xb,pt B1,pt Wg,y,y,y,y,y,y,y,y,y,y,y,y,y,y,y,y,y,y,y,y],[]⟩ [.code<|Bc fe]) cs0) w:=by
 simp;refine .seq<|.seq<|.region ?_;simp;refine .op (pt xb) U U D8 (λk r=>?_) (λk r e h=>?_) ?_
 ·let g:kD k (F B1 0)=Z (pt xb):=(r.cell (ad:=F B1 0) o).E q;unfold a7;simp[go_sem,g,dv,cn]
 ·let g:kD k (F B1 0)=Z (pt xb):=(r.cell (ad:=F B1 0) o).E q;unfold a7 at h;simp[go_sem,g,dv,cn]at h;subst h;exact yy o (cS (As q) r.2) aa
 walk_nrm
 refine .call U U D8 U func59 aW U ?_;rw[ya _ func59 U]
 walk_nrm
 simp;refine .seq<|.region ?_;simp;refine .make (λn=>pt n) (au #[pt xb] 36) U U j7 iZ jc λd t=>?_
 walk_nrm
 refine .op .nilFunc U U j7 iZ jc ?_
 walk_nrm
 refine .regionEnd<|.seq<|.region ?_;simp only[nE,gH,nB,rS,jM,dA,zI];refine .op (.func (.func 96) #[] #[pt d.1.size]) U U j7 iZ jc ?_
 walk_nrm
 refine .op (.func (.func 96) #[] #[pt d.1.size]) U U j7 iZ jc ?_
 walk_nrm
 refine .regionEnd<|.ret<|.leave1 U U func59 U ?_;rw[BF]
 walk_nrm
 refine .regionEnd<|.block<|.ado (caps:=#[pt d.1.size]) D8 U func96 aW U λa p=>?_;rw[ya _ func96 U]
 walk_nrm
 let C:=t.2;let S:pB d.1+1<=pB a.1:=by have:=p.2;exact DP
 let u:∀b,O b->a.1[b]? =w.1[b]? :=λb hb=>by rw[p.1 b<|aA hb,It<|cS (s b hb) C];exact t.1 b hb
 let x:a.1[pB d.1]? =Z (au #[pt xb] 36):=by rw[p.1 _<|az U];grind
 let B:WgLive tf.30 Wg a:=p.3 (DK (t.3 hl)<|It<|cS (DJ hl) C);generalize hr:nu eD _ _ _ _ a.1.size .ready=rec
 let f:fU fe xb sb B1 Wg d.1.size a.1.size (pB a.1+1) n cl .ready (λc=>(O c\/c=pB d.1)\/c=pB a.1\/c=pB a.1+1) (qP a rec):=by
  let lw:∀b,O b->(qP a rec).1[b]? =w.1[b]? :=λb hb=>by rw[Aq (by have:=s b hb;omega)];exact u b hb
  refine⟨aA<|aA A,aA<|aA z,aA<|aA o,aA<|az U,az<|aA U,az<|az U,?_,DK B<|Aq<|DJ B,(tn (ad:=F B1 0)<|lw _ o).E q,?_,(tn (ad:=F xb 9)<|lw _ A).E Q,λj v J=>(tn (ad:=F sb j)<|lw _ z).E (H j v J),K,(by show((a.1.push _).push _)[pB a.1]? =_;rw[oF,aI ay,oF,aO U]),?_,(Aq Y).E x⟩;have:=DJ hl;grind;have:(qP a rec).1[pB d.1]? =Z (au #[pt xb] 36):=(Aq Y).E x;simp[gp,this];rw[Q3,<-hr];rfl
 simp;refine .seq<|.region ?_;simp;refine .op (pt xb) U U j7 (λk r=>?_) (λk r e h=>?_) ?_
 ·let g:kD k (F d.1.size 0)=Z (pt xb):=(r.cell (ad:=F d.1.size 0) f.4).E f.b2;unfold a7;simp[go_sem,g,dv,cn]
 ·let g:kD k (F d.1.size 0)=Z (pt xb):=(r.cell (ad:=F d.1.size 0) f.4).E f.b2;unfold a7 at h;simp[go_sem,g,dv,cn]at h;subst h;exact yy f.4 (cS (As f.b2) r.2) aa
 walk_nrm
 refine .op (pt xb) U U j7 iZ jc ?_
 walk_nrm
 refine .op (π<|Z<|F xb 9) U U j7 iZ jc ?_
 walk_nrm
 refine .op (ζ (Z<|F sb 0) n n) U U j7 (λk r=>?_) (λk r e h=>?_) ?_
 ·let g:kD k (F xb 9)=Z (ζ (Z<|F sb 0) n n):=(r.cell (ad:=F xb 9) f.1).E f.sl;unfold a7;simp[go_sem,g,dv,cn]
 ·unfold a7 at h;simp[go_sem,(r.cell (ad:=F xb 9) f.1).E f.sl,dv,cn]at h;subst h;exact yy f.1 (cS (As f.sl) r.2) aa
 walk_nrm
 refine .op (I n) U U j7 iZ jc ?_
 walk_nrm
 refine .op (I 0) U U j7 iZ jc ?_
 walk_nrm
 exact .regionEnd<|.block<|.loop (N d.1.size a.1.size (pB a.1+1) (λc=>(O c\/c=pB d.1)\/c=pB a.1\/c=pB a.1+1) (qP a rec) (λi=>y) (λb hb=>aA (aA hb)) (λb hb=>by obtain(hb|hb)|hb|hb:=hb;exact aA hb;all_goals exact az Y) (λb hb=>by rw[Aq (by have:=s b hb;omega)];exact u b hb) (λb hb=>by rw[Gp];obtain(hb|hb)|hb|hb:=hb;have:=s b hb;omega;all_goals omega) (by rw[Gp];omega) (p.4.E t.4) Y Y Y f)
end
section
variable [an] [bJ] {ky:(Nat->Prop)->bK->aq->Prop} {O:Nat->Prop} {w:aq} {xb sb B1 Wg n B2 D L i:Nat} {cl:av (aV Nat)} {cs0:av aP} {v:Nat->aB}
def Zf(h:i<n)(a:n<4294967296):IntKind.i64.wrap ((i:Int)+1)=((i+1:Nat):Int):=by rw[IntKind.wrap_i64];omega
def agY(c:fU fe xb sb B1 Wg B2 D L n cl .ready O w)(l:i<n)(m:n<4294967296)(g:cl[i]? =Z aj)
  (o:∀v,CJ ai M tf.30 Wg ky O (qd fe f96 xb sb B1 Wg B2 D L n (i+1) v cs0) w):
  CJ ai M tf.30 Wg ky O (qd fe f96 xb sb B1 Wg B2 D L n i v cs0) w:=by
 let d:(i:Int)<(n:Int):=Y;let h:(0:Int)<=(i:Int):=Y;let j:=Zf l m;simp only[qd,tQ,f96,PH];refine .seq<|.region ?_;simp;refine .op (ω M) U U j7 (λb r=>by unfold a7;simp[go_sem,dv,cn,d]) (λb r e a=>by unfold a7 at a;simp[go_sem,dv,cn,d]at a) ?_
 walk_nrm
 refine .regionEnd<|.seq<|.cond U ?_;simp;refine .skip<|.seq<|.block<|.seq<|.region ?_;simp;refine .op (π<|Z<|F sb i) U U j7 (λb r=>by unfold a7;simp[go_sem,dv,cn,d,h]) (λb r e a=>by unfold a7 at a;simp[go_sem,dv,cn,d,h]at a) ?_
 walk_nrm
 refine .op (vp aj) U U j7 (λb r=>?_) (λb r e a=>?_) ?_
 ·let f:=(r.cell c.2).E (c.12 i aj g);unfold a7;simp[go_sem,f,dv,cn]
 ·unfold a7 at a;simp[go_sem,(r.cell c.2).E (c.12 i aj g),dv,cn]at a;subst a;exact yy c.2 (cS (As<|c.12 i aj g) r.2) aa
 walk_nrm
 refine .op (vp aj) U U j7 iZ jc ?_
 walk_nrm
 refine .regionEnd<|.seq<|.region ?_;simp;refine .op (vp aj) U U j7 iZ jc ?_
 walk_nrm
 refine .op (ω aa) U U j7 (λb r=>by unfold a7;simp[go_sem,dv,cn,vp,Wp underlying119]) (λb r e a=>by unfold a7 at a;simp[go_sem,dv,cn,vp,Wo underlying119]at a) ?_
 walk_nrm
 refine .op (ω aa) U U j7 iZ jc ?_
 walk_nrm
 refine .unwanted U U ?_
 walk_nrm
 refine .unwanted U U ?_
 walk_nrm
 refine .unwanted U U ?_
 walk_nrm
 refine .unwanted U U ?_
 walk_nrm
 refine .op (ω aa) U U j7 iZ jc ?_
 walk_nrm
 refine .regionEnd<|.cond U ?_;simp;refine .skip<|.inBlock<|.region ?_;simp;refine .op (I ((i+1:Nat):Int)) U U j7 (λb r=>by unfold a7;simp[go_sem,dv,cn,j]) (λb r e a=>by unfold a7 at a;simp[go_sem,dv,cn,j]at a) ?_
 walk_nrm
 refine .op (I ((i+1:Nat):Int)) U U j7 iZ jc ?_
 walk_nrm
 exact .regionEnd<|.inLoop<|o<|λk=>(#[y,y,y,y,vp aj,y,y,y,y,y,y,ω M,π<|Z<|F sb i,vp aj,vp aj,ω aa,ω aa,y,y,y,y,ω aa,I ((i+1:Nat):Int)]:aF aB).getD k y
end
section
variable [an] [bJ] {P:bM} {w:aq}
def GV(h:w.1[l]? =Z (.loop r))(a:pB args=pB r.5)(es):(Qo l args).runT P w es=(.ok (.round l r.3 ((r.5.zip args).foldl (λb x=>mP b x.1 x.2) r.4) r.6 r.7) w,es.push ⟨.obj l,aa,aa⟩):=by simp only[Qo,zE,getObj,bind,fK,pure,eA,h,a,ne_eq,not_true_eq_false,dM];rfl
def akD{f x ats}(b:o.2=.call {callee:=.value f,args:=#[x],argTypes:=ats}) (hf:a.eval f=.func (.yield l) #[] #[]) (d:a.eval x=v) (h:w.1[l]? =Z (.loop r)) (j:1=pB r.5) (es):
  (a7 a.eval o).runT P w es=(.ok (.round l r.3 ((r.5.zip #[v]).foldl (λg x=>mP g x.1 x.2) r.4) r.6 r.7) w,es.push ⟨.obj l,aa,aa⟩):=by
 let e:a7 a.eval o=Qo l #[v]:=by unfold a7;simp[b,resolve,uu,hf,d,invoke,bind,fK,pure]
 rw[e];exact GV h Y es
end
section
variable [an] [bJ] {O:Nat->Prop} {w:aq} {xb sb B1 Wg n B2 D L i c:Nat} {cl:av (aV Nat)} {cs0:av aP} {v:Nat->aB}
def SR(xb B1 Wg B2 B c:Nat)(t8:aB):aF aB:=#[pt xb,pt B1,pt Wg,pt B,y,pt xb,.func (.func 96) #[] #[pt B2],pt c,t8,y,y,y,y,y,y,y,y,y,y,y,y,y,y]
def Gj(fn:gG):aF ep:=match mB fn with|.block _ (.seq (.region _ x _) _)=>x|_=>#[]
def zt(fn:gG):fu:=match mB fn with|.block _ (.seq _ x)=>x|_=>.skip
def Su(fn:gG):aF ep:=match tQ fn with|.seq _ (.seq _<|.seq (.block _<|.seq _<|.seq (.region _ x _) _) _)=>x|_=>#[]
def SN(fn:gG):fu:=match tQ fn with|.seq _ (.seq _<|.seq (.block _<|.seq _<|.seq _ x) _)=>x|_=>.skip
def Vs(fn:gG):fu:=match tQ fn with|.seq _ (.seq _<|.seq _ x)=>x|_=>.skip
def Ww(L B2 xb sb n i c:Nat)(v:Nat->aB):aF aB:=#[.func (.yield L) #[] #[],pt B2,y,y,pt c,pt xb,pt xb,π<|Z<|F xb 9,ζ (Z<|F sb 0) n n,I n,I i,ω M,π<|Z<|F sb i,pt c,pt c,ω M,ω M,.func (.yield L) #[] #[],pt c,v 19,v 20,v 21,v 22]
def IJ(a:gG)(xb sb B2 L n i c:Nat)(v:Nat->aB):aP:=(base 96).at ⟨Ww L B2 xb sb n i c v,[]⟩ (.inRegion (Su a) [5,6,7]::.code (SN a)::.inBlock 1::.code (Vs a)::.inLoop (tQ a)::.inBlock 0::[])
def Ix(a:gG)(xb B1 Wg B2 L B c:Nat)(is:av Nat)(t8:aB):aP:=rf L eD ⟨SR xb B1 Wg B2 B c t8,[]⟩ (.inRegion (Gj a) is::.code (zt a)::.inBlock 1::[])
def Rr(d e:gG)(P:bM)(xb sb B1 Wg B2 D L n i c:Nat)(cl:av (aV Nat))(cs0:av aP)(O:Nat->Prop)(w:aq)(a:Nat->Prop)(g':bK)(w':aq):Prop:=
 ∃B v,g'=G (ba P 97 #[pt Wg,I 1] .normal) (Ix d xb B1 Wg B2 L B c [0] y::IJ e xb sb B2 L n i c v::xG d xb B1 Wg B2 D L::cs0)/\fU d xb sb B1 Wg B2 D L n cl .busy a w'/\a B/\¬O B/\kD w' (F B 0)=Z (pt c)/\
  (∀b,O b->a b)/\(∀b,a b->O b\/(pB w.1<=b/\b<pB w'.1))/\(∀b,O b->b≠L->w'.1[b]? =w.1[b]?)/\pB w.1<=pB w'.1/\w'.4=w.4
def agV(k:fU fe xb sb B1 Wg B2 D L n cl .ready O w)(R:∀b,O b->b<pB w.1)(hi:i<n)(hn:n<4294967296)(H:cl[i]? =Z (Z c)):
  CJ ai M tf.30 Wg (Rr fe f96 ai xb sb B1 Wg B2 D L n i c cl cs0 O w) O (qd fe f96 xb sb B1 Wg B2 D L n i v cs0) w:=by
 let A:(i:Int)<(n:Int):=Y;let Q:(0:Int)<=(i:Int):=Y;generalize hS:Rr fe f96 ai xb sb B1 Wg B2 D L n i c cl cs0 O w=aD;simp only[qd,tQ,f96,PH];refine .seq<|.region ?_;simp only[nE,gH,nB,rS,jM,dA,zI];refine .op (ω M) U U j7 (λd r=>by unfold a7;simp[go_sem,dv,cn,A]) (λd r e j=>by unfold a7 at j;simp[go_sem,dv,cn,A]at j) ?_
 walk_nrm
 refine .regionEnd<|.seq<|.cond U ?_;simp only[dN,ff,dM];refine .skip<|.seq<|.block<|.seq<|.region ?_;simp only[nE,gH,nB,rS,jM,dA,zI];refine .op (π<|Z<|F sb i) U U j7 (λd r=>by unfold a7;simp[go_sem,dv,cn,A,Q]) (λd r e j=>by unfold a7 at j;simp[go_sem,dv,cn,A,Q]at j) ?_
 walk_nrm
 refine .op (vp<|Z c) U U j7 (λd r=>?_) (λd r e j=>?_) ?_
 ·let p:=(r.cell k.2).E (k.12 i (Z c) H);unfold a7;simp[go_sem,p,dv,cn]
 ·let p:=(r.cell k.2).E (k.12 i (Z c) H);unfold a7 at j;simp[go_sem,p,dv,cn]at j;subst j;exact yy k.2 (cS (As<|k.12 i (Z c) H) r.2) aa
 walk_nrm
 refine .op (vp<|Z c) U U j7 iZ jc ?_
 walk_nrm
 refine .regionEnd<|.seq ?_;refine .region ?_;simp only[nE,gH,nB,rS,jM,dA,zI];refine .op (vp<|Z c) U U j7 iZ jc ?_
 walk_nrm
 refine .op (ω M) U U j7 (λd r=>by unfold a7;simp[go_sem,dv,cn,vp,Wp underlying119]) (λd r e j=>by unfold a7 at j;simp[go_sem,dv,cn,vp,Wo underlying119]at j) ?_
 walk_nrm
 refine .op (ω M) U U j7 iZ jc ?_
 walk_nrm
 refine .op (.func (.yield L) #[] #[]) U U j7 iZ jc ?_
 walk_nrm
 refine .op (vp<|Z c) U U j7 iZ jc ?_
 walk_nrm
 let hrd:∀d,tb tf.30 Wg O w d->∀(a:eQ) (o:ep),o.2=.call {callee:=.value<|.tmp 17,args:=#[.tmp 18],argTypes:=#[119]}->a.eval (.tmp 17)=.func (.yield L) #[] #[]->a.eval (.tmp 18)=vp (Z c)->(a7 a.eval o).runT ai d #[]=(.ok (.round L 61 #[pt xb,pt B1,pt Wg,y,y,pt xb,.func (.func 96) #[] #[pt B2],pt c,y,y,y,y,y,y,y,y,y,y,y,y,y,y,y] (oQ fe)<|mB fe) d,#[⟨.obj L,aa,aa⟩]):=λd r a o V W X=>by rw[akD V W X (k.rel r).lp U #[]];simp[nu,lM,eD,vp]
 refine .round (l:=L) (f:=61) (tmps:=#[pt xb,pt B1,pt Wg,y,y,pt xb,.func (.func 96) #[] #[pt B2],pt c,y,y,y,y,y,y,y,y,y,y,y,y,y,y,y]) (nR:=oQ fe) (bd:=mB fe) U U j7 (λd r=>?_) (λd r e j=>?_) ?_;rw[<-iM _ _ d #[],hrd d r _ _ U U U]
 ·unfold FH at j;rw[hrd d r _ _ U U U]at j;simp at j;subst j;exact LB k.6 (bf.1<|(k.rel r).lp).1 aa
 simp only[oQ,mB,fe];show CJ _ _ _ _ _ _ (G (rf L eD _ _) _) _;refine .Ot ?_;simp only[nE,gH,nB,rS,jM,dA,zI];refine .agu (λn=>pt n) (au #[π aj] 119) U U ay D8 iZ jc λg B=>?_
 walk_nrm
 let S:=B.2;let u:¬O g.1.size:=λh=>by have:=R _ h;omega
 let E:∀d:aq,tb tf.30 Wg (λc=>O c\/c=pB g.1) {g with heap:=g.1.push<|au #[π aj] 119} d->d.1[pB g.1]? =Z (au #[π aj] 119):=λd r=>by rw[r.1 _<|az U];show(g.1.push _)[pB g.1]? =_;simp
 refine .agA (ad:=F g.1.size 0) (v:=pt c) (az U) U U ay D8 (λd r=>?_) (λd r e j=>?_) λm s=>?_
 ·have hb:=E d r;let p:kD d (F g.1.size 0)=Z (π aj):=by simp[gp,hb]
  let z:d.frozen? (F g.1.size 0)=aa:=by simp[qG,hb]
  unfold a7;simp[go_sem,p,z,dv,cn]
 ·have hb:=E d r;let p:kD d (F g.1.size 0)=Z (π aj):=by simp[gp,hb]
  let z:d.frozen? (F g.1.size 0)=aa:=by simp[qG,hb]
  unfold a7 at j;simp[go_sem,p,z,dv,cn]at j;rw[events_store _ _ _ _ _ _ U]at j;simp[go_sem,p,z]at j;subst j;exact yy (az U) (bf.1 hb).1 M
 walk_nrm
 let s2:pB g.1+1<=pB m.1:=by have:=s.2;exact DP
 let K:∀b,O b->m.1[b]? =w.1[b]? :=λb hb=>by rw[s.1 b<|aA hb,It<|cS (R b hb) S];exact B.1 b hb
 let N:Wg≠pB g.1:=by have:=DJ k.8;omega
 let C:∀b,b≠pB g.1->(kB m (F g.1.size 0)<|pt c).1[b]? =m.1[b]? :=λb hb=>(zU m ⟨pB g.1,0,aj⟩<|pt c).5 b hb
 let x:fU fe xb sb B1 Wg B2 D L n cl .ready (λc=>O c\/c=pB g.1) (kB m (F g.1.size 0)<|pt c):=k.kept (λb hb=>aA hb) (λh=>h.e k.7 N) (λb hb=>(C b λe=>u (e▸hb)).E (K b hb)) (DK (s.3 (DK (B.3 k.8)<|It<|cS (DJ k.8) S))<|C Wg N)
 let c2:kD (kB m (F g.1.size 0)<|pt c) (F g.1.size 0)=Z (pt c):=by have hb:=E m s;simp[gp,iQ,Bz,hb]
 let af:L≠pB g.1:=λe=>u (e▸k.6);refine .Ou<|.gA (l:=L) (r:=nu eD ⟨lM xb B1 Wg B2,[]⟩ #[7] (oQ fe) (mB fe) D .busy) U x.6 ((bf.1 x.lp).1) (λd r=>agn D8 aW (x.rel r).lp U) λJ t=>.afH<|.agz<|.Ot ?_;simp only[nE,gH,nB,rS,jM,dA,zI];refine .afI U U ay D8 U func97 aW U ?_
 walk_nrm
 subst hS;let s3:pB m.1<=pB J.1:=by have:=t.2;exact DP
 refine .stop λT q=>⟨pB g.1,v,U,((x.rel t).gA .busy).rel q,az U,u,?_,λb hb=>aA hb,λb hb=>?_,λb hb ak=>?_,?_,q.4.E (t.4.E ((by simp[iQ]:(kB m (F g.heap.size 0)<|pt c).os=m.os).E<|s.4.E B.4))⟩
 rwa [q.cell (ad:=F g.1.size 0)<|az U,tn (ad:=F g.1.size 0)<|qY<|dB af,t.cell (ad:=F g.1.size 0)<|az U]
 let s4:pB J.1<=pB T.1:=by have:=q.2;rwa [yS]at this
 obtain hb|hb:=hb;exact aA hb;exact az Y;rw[q.1 b<|aA hb,qY ak,t.1 b<|aA hb,C b λe=>u (e▸hb)];exact K b hb;let s4:pB J.1<=pB T.1:=by have:=q.2;rwa [yS]at this
 omega
end
section
variable [an] [bJ] {O:Nat->Prop} {w:aq} {xb sb B1 Wg n B2 D L B i c:Nat} {cl:av (aV Nat)} {cs0:av aP} {v:Nat->aB}
def Ux(fn:gG):aF ep:=match zt fn with|.region _ x _=>x|_=>#[]
def WB(xb B1 Wg B2 B c:Nat):aF aB:=#[pt xb,pt B1,pt Wg,pt B,y,pt xb,.func (.func 96) #[] #[pt B2],pt c,θ #[],.func (.func 98) #[] #[pt Wg,pt B],y,y,y,y,y,y,y,y,y,y,y,y,y]
def wG(a:gG)(xb B1 Wg B2 L B c:Nat)(is:av Nat):aP:=rf L eD ⟨WB xb B1 Wg B2 B c,[]⟩ (.inRegion (Ux a) is::.inBlock 1::[])
def L5(fZ):(Ix fZ xb B1 Wg B2 L B c [0] y).finish (θ #[])=rf L eD ((⟨SR xb B1 Wg B2 B c y,[]⟩:eQ).put (((Gj fZ)[0]?).bind (·.dst))<|θ #[]) (.inRegion (Gj fZ) []::.code (zt fZ)::.inBlock 1::[]):=IG ..
def agX:CJ ai M tf.30 Wg (λa b d=>a=O/\b=G (wG fe xb B1 Wg B2 L B c [1]) (IJ f96 xb sb B2 L n i c v::xG fe xb B1 Wg B2 D L::cs0)/\tb tf.30 Wg O w d) O (G ((Ix fe xb B1 Wg B2 L B c [0] y).finish<|θ #[]) (IJ f96 xb sb B2 L n i c v::xG fe xb B1 Wg B2 D L::cs0)) w:=by rw[L5];generalize hS:(λ(a:Nat->Prop) (b:bK) (d:aq)=>a=O/\b=G (wG fe xb B1 Wg B2 L B c [1]) _/\tb tf.30 Wg O w d)=e;generalize f:IJ _ _ _ _ _ _ _ _ _=f1 at hS⊢;generalize g:xG _ _ _ _ _ _ _=f2 at hS⊢;simp only[Gj,zt,mB,fe,SR];walk_nrm;refine .Ou<|.Ot ?_;simp;refine .rop (.func (.func 98) #[] #[pt Wg,pt B]) U U ay D8 iZ jc ?_;walk_nrm;subst hS;exact .stop λh r=>⟨U,U,r⟩
def Pc(f1 f2 w):bi ai M (G (wG fe xb B1 Wg B2 L B c [1]) (f1::f2::cs0)) w=.spawn (G (wG fe xb B1 Wg B2 L B c []) (f1::f2::cs0)) (born ai<|wX Wg B) w #[]:=by
 let hr:∀(a:eQ) (o:ep),o.2=.go {callee:=.value<|.tmp 9,args:=#[],argTypes:=#[]}->a.eval (.tmp 9)=.func (.func 98) #[] #[pt Wg,pt B]->(a7 a.eval o).run ai w=.ok (.spawn<|wX Wg B) w/\(a7 a.eval o).events ai w #[]=#[]:=λa o g j=>by
  let e:a7 a.eval o=pure (.spawn<|wX Wg B):=by unfold a7;simp[g,resolve,uu,j,wX,bind,fK,pure]
  rw[e];exact⟨U,U⟩
 unfold wG;rw[(agr (P:=ai) (km:=M) (w:=w) (b:=eD) (a:=⟨WB xb B1 Wg B2 B c,[]⟩) (k:=[.inBlock 1]) (cs:=f1::f2::cs0) (l:=L) (jt:=Ux fe) (i:=1) (kj:=[]) (d:=wX Wg B) U U (λc (h:Op.go {callee:=.value<|.tmp 9,args:=#[],argTypes:=#[]}=Op.defer c)=>by cases h) D8 (hr _ _ U U).1 U)];let m:∀(f:aZ) (a:eQ) (o:ep),(a7 a.eval o).events ai w #[]=#[]->listed ai f a o w=#[]:=λf a o h=>by unfold listed;rw[h,FR]
 rw[m _ _ _ (hr _ _ U U).2];rfl
def agW(d:fU fe xb sb B1 Wg B2 D L n cl .busy O w)(C:i<n)(E:n<4294967296):
  CJ ai M tf.30 Wg (λj m a=>j=O/\(∃v,m=qd fe f96 xb sb B1 Wg B2 D L n (i+1) v cs0)/\fU fe xb sb B1 Wg B2 D L n cl .ready O a/\(∀b,O b->b≠L->a.1[b]? =w.1[b]?)/\pB w.1<=pB a.1/\a.4=w.4) O
   (G (wG fe xb B1 Wg B2 L B c []) (IJ f96 xb sb B2 L n i c v::xG fe xb B1 Wg B2 D L::cs0)) w:=by
 let u:=Zf C E;generalize hS:(λ(j:Nat->Prop) (m:bK) (a:aq)=>j=O/\(∃v,m=qd _ _ xb sb B1 Wg B2 D L n (i+1) v cs0)/\fU _ xb sb B1 Wg B2 D L n cl .ready O a/\(∀b,O b->b≠L->a.1[b]? =w.1[b]?)/\pB w.1<=pB a.1/\a.4=w.4)=H;refine .Ou<|.ags<|.gA (l:=L) (r:=nu eD ⟨lM xb B1 Wg B2,[]⟩ #[7] (oQ fe) (mB fe) D .ready) U d.6 (bf.1 d.lp).1 (λp r=>ago U aW (d.rel r).lp) λh g=>?_;have s:=(d.rel g).gA .ready;have q:∀b,O b->b≠L->(gA h L<|nu eD ⟨lM xb B1 Wg B2,[]⟩ #[7] (oQ fe) (mB fe) D .ready).1[b]? =w.1[b]? :=λb f o=>(qY o).E (g.1 b f);have z:pB w.1<=pB (gA h L<|nu eD ⟨lM xb B1 Wg B2,[]⟩ #[7] (oQ fe) (mB fe) D .ready).1:=by rw[yS];exact g.2
 have x:(gA h L<|nu eD ⟨lM xb B1 Wg B2,[]⟩ #[7] (oQ fe) (mB fe) D .ready).4=w.4:=g.4;generalize gA h L _=N at s q z x⊢;generalize A:xG _ _ _ _ _ _ _=f2;unfold IJ;rw[BF];simp only[Su,SN,Vs,tQ,f96,Ww]
 walk_nrm
 refine .op (ω aa) U U j7 iZ jc ?_
 walk_nrm
 refine .op (ω aa) U U j7 iZ jc ?_
 walk_nrm
 refine .regionEnd<|.cond (v:=aa) U ?_;simp;refine .skip<|.inBlock<|.region ?_;simp;refine .op (I ((i+1:Nat):Int)) U U j7 (λp r=>by unfold a7;simp[go_sem,dv,cn,u]) (λp r e t=>by unfold a7 at t;simp[go_sem,dv,cn,u]at t) ?_
 walk_nrm
 refine .op (I ((i+1:Nat):Int)) U U j7 iZ jc ?_
 walk_nrm
 refine .regionEnd<|.inLoop ?_;subst hS A;exact .stop λp r=>⟨U,⟨(λk=>(#[y,y,y,y,pt c,y,y,y,y,y,y,ω M,π<|Z<|F sb i,pt c,pt c,ω M,ω M,.func (.yield L) #[] #[],pt c,ω M,ω aa,ω aa,I ((i+1:Nat):Int)]:aF aB).getD k y),U⟩,s.rel r,λb f o=>(r.1 b f).E (q b f o),cM z r.2,r.4.E x⟩
def afJ(fZ x):(xG fZ xb B1 Wg B2 D L).finish x=eD.at ⟨lM xb B1 Wg B2,[{target:=.collected D,args:=#[]}]⟩ (.endRangeFunc L::.inBlock 0::.code (Bt fZ)::[]):=U
def ajV(fn:gG):aF ep:=match Bt fn with|.seq (.region _ x _) _=>x|_=>#[]
def xH(fn:gG):fu:=match Bt fn with|.seq _ x=>x|_=>.skip
def Ii(a:gG)(xb B1 Wg B2 D:Nat)(is:av Nat)(t10:aB):aP:=eD.at ⟨mP (lM xb B1 Wg B2) 10 t10,[{target:=.collected D,args:=#[]}]⟩ (.inRegion (ajV a) is::.code (xH a)::[])
def agZ(d:fU fe xb sb B1 Wg B2 D L n cl .ready O w):
  CJ ai M tf.30 Wg (λh j a=>h=O/\j=G (ba ai 101 #[pt Wg] .normal) (Ii fe xb B1 Wg B2 D [0] y::cs0)/\fU fe xb sb B1 Wg B2 D L n cl .exhausted O a/\(∀b,O b->b≠L->a.1[b]? =w.1[b]?)/\pB w.1<=pB a.1/\a.4=w.4) O
   (qd fe f96 xb sb B1 Wg B2 D L n n v cs0) w:=by
 generalize hS:(λ(h:Nat->Prop) (j:bK) (a:aq)=>h=O/\j=G (ba ai 101 #[pt Wg] .normal) _/\fU _ xb sb B1 Wg B2 D L n cl .exhausted O a/\(∀b,O b->b≠L->a.1[b]? =w.1[b]?)/\pB w.1<=pB a.1/\a.4=w.4)=t;simp only[qd,tQ,f96,PH];refine .seq<|.region ?_;simp;refine .op (ω aa) U U j7 iZ jc ?_
 walk_nrm
 refine .regionEnd<|.seq<|.cond (v:=aa) U ?_;simp;refine .exit U<|.end_<|.leave U U U func96 U ?_;rw[afJ];refine .gA (l:=L) (r:=nu eD ⟨lM xb B1 Wg B2,[]⟩ #[7] (oQ fe) (mB fe) D .exhausted) U d.6 (bf.1 d.lp).1 (λs r=>aiH aW (d.rel r).lp U U) λg f=>?_;have o:=(d.rel f).gA .exhausted;have m:∀b,O b->b≠L->(gA g L<|nu eD ⟨lM xb B1 Wg B2,[]⟩ #[7] (oQ fe) (mB fe) D .exhausted).1[b]? =w.1[b]? :=λb e k=>(qY k).E (f.1 b e);have q:pB w.1<=pB (gA g L<|nu eD ⟨lM xb B1 Wg B2,[]⟩ #[7] (oQ fe) (mB fe) D .exhausted).1:=by rw[yS];exact f.2
 have p:(gA g L<|nu eD ⟨lM xb B1 Wg B2,[]⟩ #[7] (oQ fe) (mB fe) D .exhausted).4=w.4:=f.4;generalize gA g L _=u at o m q p⊢;simp only[Bt,fe];refine .inBlock<|.seq<|.region ?_;simp only[nE,gH,nB,rS,jM,dA,zI];refine .call U U D8 U func101 aW U ?_
 walk_nrm
 subst hS;exact .stop λs r=>⟨U,U,o.rel r,λb e k=>(r.1 b e).E (m b e k),cM q r.2,r.4.E p⟩
end
section
open Classical
open Go.ConcN (ShN WgLive Has)
open Go.ConcR (Payload stA smA WgAt)
section
variable [an] [bJ]
def WS.V{a:aY}{Q Q' p}(h:WS P a Wg Q p O g w)(d:∀O w,Q O w->Q' O w):WS P a Wg Q' p O g w:=by
 induction h with
 |quit h k=>exact .quit h λj r=>d _ _ (k j r)
 |step c b q h f _ e=>exact .step c b q h f e
structure DH(l:av aZ)(C:Nat->Nat->Prop)(R:Nat->jA->aq->Prop)(K:Nat->Prop)(w0:aq)(cl:av (aV Nat))(xb sb B1 Wg n:Nat):Prop where
 fit:vb ai l
 okR:an.ok 100
 xe:ai.globals.size<=w0.1.size
 len:cl.length=n
 pu:n<2147483647
 closed:∀(j:Nat) c,cl[j]? =Z (Z c)->yi (C c) w0/\C c c
 Md:∀(j f:Nat) c d,cl[j]? =Z (Z c)->cl[f]? =Z (Z d)->j≠f->∀b,C c b->¬C d b
 cm:∀(j:Nat) c,cl[j]? =Z (Z c)->∀b,C c b->¬K b/\b≠Wg/\b<w0.1.size
 kx:K xb/\K sb/\K B1
 klt:∀b,K b->b<w0.1.size
 Ox:∀c e u a,R c e u->R c e (aq.tp u a)
 Ov:∀c e u,R c e u->∃v,e=aG v
 calls:∀(j:Nat) c,cl[j]? =Z (Z c)->∀w,(∀b,C c b->w.1[b]? =w0.1[b]?)->w0.1.size<=w.1.size->w.os=w0.os->∀a,ax ai 100 #[pt c] ((wd (C c) w).tp a) (R c)
structure kg(C:Nat->Nat->Prop)(K:Nat->Prop)(w0:aq)(cl:av (aV Nat))(i:Nat)(O:Nat->Prop)(w:aq):Prop where
 size:w0.1.size<=w.1.size
 os:w.os=w0.os
 lt:∀b,O b->b<w.1.size
 rest:∀(j:Nat) c,i<=j->cl[j]? =Z (Z c)->∀b,C c b->O b/\w.1[b]? =w0.1[b]?
 kept:∀b,K b->O b/\w.1[b]? =w0.1[b]?
variable {C:Nat->Nat->Prop} {R:Nat->jA->aq->Prop} {K:Nat->Prop} {w0:aq} {cl:av (aV Nat)} {xb sb B1 Wg n B2 D L:Nat} {O:Nat->Prop} {w:aq} {i:Nat}
def kg.rel(h:kg C K w0 cl i O w)(r:tb tf.30 Wg O w w₁):kg C K w0 cl i O w₁:=⟨cM h.1 r.2,r.4.E h.2,λb a=>cS (h.3 b a) r.2,λj c e d b a=>⟨(h.4 j c e d b a).1,(r.1 b (h.4 j c e d b a).1).E (h.4 j c e d b a).2⟩,λb a=>⟨(h.5 b a).1,(r.1 b (h.5 b a).1).E (h.5 b a).2⟩⟩
def kg.next(h:kg C K w0 cl i O w){i'}(b:i<=i'):kg C K w0 cl i' O w:=⟨h.1,h.2,h.3,λj c d a=>h.4 j c Y a,h.5⟩
def OI{fZ st ad}(a:ad.1=Wg)(h:fU fZ xb sb B1 Wg B2 D L n cl st O w)(hl:WgLive tf.30 Wg (w.setCell ad v)):fU fZ xb sb B1 Wg B2 D L n cl st O (w.setCell ad v):=h.kept (λ_ x=>x) h.7 (λb c=>(zU w ad v).5 b λe=>h.7 (a▸e▸c)) hl
def OH{ad}(k:ad.1=Wg)(g:¬O Wg)(h:kg C K w0 cl i O w):kg C K w0 cl i O (w.setCell ad v):=⟨by simpa using h.1,(by simp[iQ]:(w.setCell ad v).os=w.os).E h.2,λb a=>by simpa using h.3 b a,λj c f d b a=>⟨(h.4 j c f d b a).1,((zU w ad v).5 b λe=>g (k▸e▸(h.4 j c f d b a).1)).E (h.4 j c f d b a).2⟩,λb a=>⟨(h.5 b a).1,((zU w ad v).5 b λe=>g (k▸e▸(h.5 b a).1)).E (h.5 b a).2⟩⟩
def xi(cl:av (aV Nat)):av Nat:=cl.filterMap id
def Qs(C:Nat->Nat->Prop)(R:Nat->jA->aq->Prop)(cl:av (aV Nat))(m:Nat)(O:Nat->Prop)(w:aq):Prop:=∃c,(xi cl)[m]? =Z c/\Qr (C c) (R c) O w
def Gf(a:gG)(C:Nat->Nat->Prop)(K:Nat->Prop)(w0:aq)(cl:av (aV Nat))(xb sb B1 Wg n:Nat)(cs0:av aP)(m:Nat)(O:Nat->Prop)(g:bK)(w:aq):Prop:=m=pA (xi cl)/\∃B2 D L,g=G (Ii a xb B1 Wg B2 D []<|θ #[]) cs0/\fU a xb sb B1 Wg B2 D L n cl .exhausted O w/\kg C K w0 cl n O w/\pB w0.1<=B2/\pB w0.1<=D
def agK(h:cl[i]? =Z (Z c)):(xi cl)[pA (xi<|cl.take i)]? =Z c/\pA (xi<|cl.take<|i+1)=pA (xi<|cl.take i)+1:=by
 let e:xi cl=xi (cl.take i)++(c::xi (cl.drop<|i+1)):=by
  let a:=bY.1 h;let b:cl=cl.take i++(Z c::cl.drop (i+1)):=by rw[<-a.2,<-BQ ((bY.1 h).1),pL]
  rw[(cG xi b)];simp[xi]
 constructor;rw[e,vO<|aR _];simp;rw[rQ,h];simp[xi]
def agJ(h:cl[i]? =Z aj):pA (xi<|cl.take<|i+1)=pA (xi<|cl.take i):=by rw[rQ,h];simp[xi]
def agI:∀cl:av (aV Nat),pA (xi cl)<=pA cl:=λcl=>List.length_filterMap_le _ _
end
end
section
variable [an] [bJ] {l:av aZ} {C:Nat->Nat->Prop} {R:Nat->jA->aq->Prop} {K:Nat->Prop} {w0:aq} {cl:av (aV Nat)} {xb sb B1 Wg n L:Nat} {O:Nat->Prop} {w:aq} {i:Nat}
def kg.DN(S:DH l C R K w0 cl xb sb B1 Wg n)(h:kg C K w0 cl i O w)(q:pB w0.1<=L){O'}(f:∀b,O b->O' b)(m:∀b,O' b->b<pB w'.1)(he:∀b,O b->b≠L->w'.1[b]? =w.1[b]?)(p:pB w.1<=pB w'.1)(o:w'.4=w.4):kg C K w0 cl i O' w':=by refine⟨cM h.1 p,o.E h.2,m,λj c k g b d=>?_,λb d=>?_⟩;let⟨a,e⟩:=h.4 j c k g b d;have:=(S.8 j c g b d).2.2;exact⟨f b a,(he b a Y).E e⟩;let⟨a,e⟩:=h.5 b d;have:=S.10 b d;exact⟨f b a,(he b a Y).E e⟩
def M1(Wg):ba ai 97 #[pt Wg,I 1] .normal=(base tf.1).at ⟨#[pt Wg,I 1,y,y,y,y,y,y,y,y,y,y,y,y,y,y,y,y,y,y,y,y,y,y,y,y,y,y,y,y,y,y,y,y,y,y,y,y,y,y,y,y,y,y,y,y,y,y,y,y,y,y,y,y,y,y,y,y,y,y,y,y,y,y,y,y,y,y,y,y,y,y,y,y,y,y,y,y,y,y,y,y,y,y,y,y,y,y,y,y,y,y,y,y,y,y,y,y,y,y,y,y,y,y,y,y,y,y,y,y,y,y,y,y,y,y,y],[]⟩ [.code<|body_add tf]:=by rw[ya _ xJ.1 U];walk_nrmf addFn;rfl
def ajX(Wg):ba ai 101 #[pt Wg] .normal=(base tf.3).at ⟨#[pt Wg,y,y,y,y,y,y,y,y,y,y,y,y,y,y,y,y,y,y,y,y,y,y,y,y,y,y,y,y,y,y,y,y,y,y,y,y,y,y,y,y,y,y,y,y,y,y,y,y,y,y,y,y,y,y,y,y,y,y,y,y,y,y,y,y,y,y,y,y,y,y,y,y,y,y,y,y,y,y,y,y,y,y,y],[]⟩ [.code<|KR tf]:=by rw[ya _ xJ.3 U];walk_nrmf waitFn;rfl
end
section
variable [an] [bJ] {l:av aZ} {C:Nat->Nat->Prop} {R:Nat->jA->aq->Prop} {K:Nat->Prop} {w0:aq} {cl:av (aV Nat)} {xb sb B1 Wg n B2 D L:Nat} {O:Nat->Prop} {w:aq} {cs0:av aP}
def adW{lh}(S:DH l C R K w0 cl xb sb B1 Wg n)(hm:m=pA (xi cl))(f:pB w0.1<=B2)(i:pB w0.1<=D)(c:fU fe xb sb B1 Wg B2 D L n cl .exhausted O w)(hF:kg C K w0 cl n O w):
  MS ai tf.30 Wg (Gf fe C K w0 cl xb sb B1 Wg n cs0) (Qs C R cl) lh m .opn O (G (ba ai 101 #[pt Wg] .normal) (Ii fe xb B1 Wg B2 D [0] y::cs0)) w:=by
 rw[ajX]
 refine adY (J:=λw=>fU fe xb sb B1 Wg B2 D L n cl .exhausted O w/\kg C K w0 cl n O w) (λw j r h=>⟨h.1.rel r,h.2.rel r⟩) (λw v a h=>⟨OI U h.1 a,OH U h.1.7 h.2⟩) (λw v a h=>⟨OI U h.1 a,OH U h.1.7 h.2⟩) (b:=2147483646) (aR _)
  (Fin:=λg w=>g=G (Ii fe xb B1 Wg B2 D []<|θ #[]) cs0) (λg w d h=>?_) (ajY xJ<|λw _=>U) ⟨c,hF⟩ (ajW xJ w c.8)
 have e:=h w (.refl ..);subst e;exact .done λj r=>⟨hm,B2,D,L,U,d.1.rel r,d.2.rel r,f,i⟩
def adV{kw Q lh f1 f2 fZ}(J:aq->Prop)(d:∀w b,tb tf.30 Wg O w b->J w->J b)(f:∀w v,WgLive tf.30 Wg (w.setCell (stA Wg) v)->J w->J (w.setCell (stA Wg) v))(hF:∀w,J w->MS ai tf.30 Wg kw Q lh m .ready O (G ((Ix fZ xb B1 Wg B2 L B c [0] y).finish<|θ #[]) (f1::f2::cs0)) w)(a:J w)(hl:WgLive tf.30 Wg w):
  MS ai tf.30 Wg kw Q lh m .opn O (G (ba ai 97 #[pt Wg,I 1] .normal) (Ix fZ xb B1 Wg B2 L B c [0] y::f1::f2::cs0)) w:=by
 rw[M1];refine adU (J:=J) d f (Fin:=λg w=>g=G ((Ix fZ xb B1 Wg B2 L B c [0] y).finish<|θ #[]) (f1::f2::cs0)) (λg w a h=>?_) a<|M0 xJ (λw _=>U) w hl;have e:=h w (.refl ..);subst e;exact hF w a
end
section
variable [an] [bJ] {l:av aZ} {C:Nat->Nat->Prop} {R:Nat->jA->aq->Prop} {K:Nat->Prop} {w0:aq} {cl:av (aV Nat)} {xb sb B1 Wg n B2 D L:Nat} {cs0:av aP}
def fU.split{fZ st}(h:fU fZ xb sb B1 Wg B2 D L n cl st O w)(g:¬A xb)(f:¬A sb)(a:¬A B1)(c:¬A B2)(d:¬A D)(e:¬A L):fU fZ xb sb B1 Wg B2 D L n cl st (λb=>O b/\¬A b) w:=⟨⟨h.1,g⟩,⟨h.2,f⟩,⟨h.3,a⟩,⟨h.4,c⟩,⟨h.5,d⟩,⟨h.6,e⟩,λk=>h.7 k.1,h.8,h.9,h.b2,h.sl,h.12,h.13,h.df,h.lp,h.bx⟩
def Nt[oM](S:DH l C R K w0 cl xb sb B1 Wg n)(G:pB w0.1<=B2)(H:pB w0.1<=D)(u:pB w0.1<=L):∀(k i:Nat) (v:Nat->aB) (O:Nat->Prop) (w:aq),i+k=n->fU fe xb sb B1 Wg B2 D L n cl .ready O w->kg C K w0 cl i O w->
  MS ai tf.30 Wg (Gf fe C K w0 cl xb sb B1 Wg n cs0) (Qs C R cl) n (pA (xi<|cl.take i)) .opn O (qd fe f96 xb sb B1 Wg B2 D L n i v cs0) w
 |0,i,v,O,w,hk,f,hF=>by obtain rfl:i=n:=Y;refine yO (aA U) (agZ f) λE V s h=>?_;obtain⟨rfl,rfl,bq,he,g,ho⟩:=h s (.refl ..);refine adW S ?_ G H bq<|hF.DN S u (λ_ x=>x) (λb a=>cS (hF.3 b a) g) he g ho;rw[qE<|xV S.4]
 |k+1,i,v,O,w,hk,f,hF=>by
  let N:i<n:=Y;let hn:n<4294967296:=by have:=S.5;omega
  let aN:i<pA cl:=by rw[S.4];exact N
  rcases hx:cl[i]with _|c
  ·let d:cl[i]? =Z aj:=by rw[dj aN,hx]
   refine yO (aA U) (ky:=λE V s=>E=O/\(∃v,V=qd fe f96 xb sb B1 Wg B2 D L n (i+1) v cs0)/\tb tf.30 Wg O w s) (agY f N hn d λv=>.stop λbT r=>⟨U,⟨v,U⟩,r⟩) λE V s h=>?_;obtain⟨rfl,⟨v',rfl⟩,r⟩:=h s (.refl ..);have:=Nt S G H u k (i+1) v' E s Y (f.rel r) ((hF.rel r).next<|kJ i);rwa [agJ d]at this
  let d:cl[i]? =Z (Z c):=by rw[dj aN,hx]
  let⟨aQ,bP⟩:=agK d;refine yO (aA U) (agV f hF.3 N hn d) λP g1 w1 h=>?_;obtain⟨B,v1,rfl,MI,m,aH,AK,bz,aJ,bD,aS,bL⟩:=h w1 (.refl ..);let bn:=hF.DN S u bz (λb a=>(aJ b a).e (λh=>cS (hF.3 b h) aS) λh=>h.2) bD aS bL;let b8:=(aJ B m).e (λh=>absurd h aH) λh=>h.1;refine adV (λw=>fU fe xb sb B1 Wg B2 D L n cl .busy P w/\kg C K w0 cl i P w/\kD w (F B 0)=Z (pt c)) (λw bT r h=>⟨h.1.rel r,h.2.1.rel r,(r.cell (ad:=F B 0) m).E h.2.2⟩)
   (λw v hl h=>⟨OI U h.1 hl,OH U h.1.7 h.2.1,(tn (ad:=F B 0)<|(zU w (stA Wg) v).5 B λe=>h.1.7 ((show B=Wg from e)▸m)).E h.2.2⟩) (λw2 hJ=>?_) ⟨MI,bn,AK⟩ MI.8
  let⟨bt,bp,bA⟩:=hJ;refine yO (az U) agX λQ g3 w3 h=>?_;obtain⟨rfl,rfl,r3⟩:=h w3 (.refl ..);let af:=bt.rel r3;let X:=bp.rel r3;let bl:∀b,C c b->b≠B:=λb a e=>by have:=(S.8 i c d b a).2.2;have:=hF.1;omega
  let aK:∀b,O b->¬C c b->¬(C c b\/b=B):=λb a hc h=>h.e hc λe=>aH (e▸a);let J:∀b,K b->¬(C c b\/b=B):=λb a=>aK b (hF.5 b a).1 λh=>(S.8 i c d b h).1 a;let ah:∀b,O b->pB w0.1<=b->¬(C c b\/b=B):=λb a b9=>aK b a λh=>by have:=(S.8 i c d b h).2.2;omega
  refine .spawn (A:=λb=>C c b\/b=B) (R:=λb=>Q b/\¬(C c b\/b=B)) ?_ U (λb a=>a.e (λh=>(X.4 i c (aR _) d b h).1) λh=>h▸m) (λb a=>a.1) (λb a h=>h.2 a) (λb a=>(Classical.em<|C c b\/b=B).imp id λh=>⟨a,h⟩) (λz q=>⟨_,_,Pc _ _ z,U⟩) (λz g4 ch q g=>?_) λz g4 ch q g=>?_;have W:=agI cl;let h2:=(bY.1 aQ).1;rw[S.4]at W;omega;rw[Pc]at g;cases g;let p:=X.rel q;let aL:∀b,C c b->z.1[b]? =w0.1[b]? :=λb a=>(p.4 i c (aR _) d b a).2;refine(akA S.1 S.2 (cM S.3 p.1) (λb a=>?_) (S.6 i c d).2 (λh=>bl B h U) (λh=>(S.8 i c d Wg h).2.1 U) (λe=>af.7 (e▸m)) (q.3 af.8) ((q.cell (ad:=F B 0) m).E<|(r3.cell (ad:=F B 0) m).E bA) (S.Ox c) (S.Ov c) (S.13 i c d z aL p.1 p.2)).V λE s hq=>⟨c,aQ,hq⟩;let⟨o,ho,Dx⟩:=(S.6 i c d).1 b a;exact⟨o,(aL b a).E ho,Dx⟩;rw[Pc]at g;cases g;let p:kg C K w0 cl (i+1) (λb=>Q b/\¬(C c b\/b=B)) z:=by let t:=X.rel q;refine⟨t.1,t.2,λb a=>t.3 b a.1,λj T hj ak b a=>?_,λb a=>⟨⟨(t.5 b a).1,J b a⟩,(t.5 b a).2⟩⟩;let⟨W,h2⟩:=t.4 j T Y ak b a;refine⟨⟨W,λh=>h.e (S.7 j i T c ak d Y b a) λe=>?_⟩,h2⟩;have:=(S.8 j T ak b a).2.2;have:=hF.1;omega
  refine yO (aA U) (agW ((af.rel q).split (A:=λb=>C c b\/b=B) (J _ S.9.1) (J _ S.9.2.1) (J _ S.9.2.2) (ah _ f.4 G) (ah _ f.5 H)<|ah _ f.6 u) N hn) λO5 g5 w5 h=>?_;obtain⟨rfl,⟨v5,rfl⟩,bu,bE,aT,bN⟩:=h w5 (.refl ..);have:=Nt S G H u k (i+1) v5 _ w5 Y bu (p.DN S u (λ_ x=>x) (λb a=>cS (p.3 b a) aT) bE aT bN);rwa [bP]at this
end
section
open Classical
open Go.ConcN (ShN WgLive Has)
open Go.ConcR (Payload stA smA WgAt)
section
variable [an]
structure vy(l:av aZ)(C:Nat->Nat->Prop)(R:Nat->jA->aq->Prop)(u:aq)(cl:av (aV Nat))(xb sb n:Nat):Prop where
 fit:vb ai l
 okR:an.ok 100
 okS:an.ok 96
 kn:il 61
 vr:an.dU 61=[]
 len:cl.length=n
 pu:n<2147483647
 sl:kD u (F xb 9)=Z (ζ (Z (F sb 0)) n n)
 at_:∀(j:Nat) v,cl[j]? =Z v->kD u (F sb j)=Z (vp v)
 dL:∃o,u.1[sb]? =Z o/\o≠cC
 closed:∀(j:Nat) c,cl[j]? =Z (Z c)->yi (C c) u/\C c c
 Md:∀(j f:Nat) c d,cl[j]? =Z (Z c)->cl[f]? =Z (Z d)->j≠f->∀b,C c b->¬C d b
 cm:∀(j:Nat) c,cl[j]? =Z (Z c)->¬C c xb/\¬C c sb
 Ox:∀c e u a,R c e u->R c e (aq.tp u a)
 Ov:∀c e u,R c e u->∃v,e=aG v
 calls:∀(j:Nat) c,cl[j]? =Z (Z c)->∀w,(∀b,C c b->w.1[b]? =u.1[b]?)->u.1.size<=w.1.size->w.os=u.os->∀a,ax ai 100 #[pt c] ((wd (C c) w).tp a) (R c)
structure DM(C:Nat->Nat->Prop)(R:Nat->jA->aq->Prop)(cl:av (aV Nat))(u u':aq)(xb e k f D:Nat):Prop where
 size:u.1.size<=u'.1.size
 os:u'.os=u.os
 news:u.1.size<=e/\u.1.size<=k/\u.1.size<=f/\u.1.size<=D
 kept:∀b,b<u.1.size->(∀(j:Nat) c,cl[j]? =Z (Z c)->¬C c b)->u'.1[b]? =u.1[b]?
 b1:u'.1[e]? =Z (au #[pt xb] 36)
 b2:u'.1[f]? =Z (au #[pt xb] 36)
 df:u'.1[D]? =Z (.deferred (Z []))
 reads:∃d:Nat->Nat->Prop,(∀c g b,c∈xi cl->g∈xi cl->c≠g->d c b->¬d g b)/\(∀c b,c∈xi cl->d c b->b≠e/\b≠f/\b≠D/\(b<u.1.size->C c b))/\
  ∀c,c∈xi cl->∃i h v,R c (aG v) i/\(gu (C c)).le h/\Wl (λ_=>False) h i u'/\∀a b,h a b->d c b
def Ig{cl}:c∈xi cl↔∃j:Nat,cl[j]? =Z (Z c):=by unfold xi;rw[sX];constructor;rintro⟨x,b,e⟩;obtain rfl:x=Z c:=e;exact pJ.1 b;rintro⟨j,a⟩;exact⟨Z c,pJ.2 ⟨j,a⟩,U⟩
def Ju{X b}(h:X b):VR (gu X) (pt b) (pt b):=λg a=>by simp[pt,rv,ra,a b b ⟨U,h⟩]
variable [bJ] {l:av aZ} {C:Nat->Nat->Prop} {R:Nat->jA->aq->Prop} {cl:av (aV Nat)} {xb sb n:Nat} {u u1 w w1:aq} {cs:av aP} {fr:aP} {gs:aF bK} {t:iN} {q:Nat->Nat} {kp:Loc->Prop} {S:Nat->Prop} {ρ:ut} {x:Obj}
def Kb(C:Nat->Nat->Prop)(cl:av (aV Nat))(S:Nat->Prop)(ρ:ut)(b:Nat):Prop:=(ρ b b/\¬S b)/\∀(j:Nat) c,cl[j]? =Z (Z c)->¬C c b
def vy.own(E:vy l C R u cl xb sb n)(p:∀b,b<pB u.1->u1.1[b]? =u.1[b]?)(i:fV ai kp S fr cs u1 ρ gs w t q){j:Nat}(m:cl[j]? =Z (Z c)){b}(k:C c b):b<pB u.1/\ρ b b/\¬S b/\w.1[b]? =u.1[b]? /\∃o,w.1[b]? =Z o/\OR (gu<|C c) o o:=let⟨o,a,f⟩:=(E.11 j c m).1 b k;let e:=(bf.1 a).1;let⟨g,h,d,_⟩:=i.heap ((p b e).E a) (f.1);⟨e,g,h,d.E a.y,o,d,f⟩
def vy.setup(E:vy l C R u cl xb sb n)(m:∀b,b<pB u.1->u1.1[b]? =u.1[b]?)(Q:pB u1.1=pB u.1+1)(D:kD u1 (F u.1.size 0)=Z (pt xb))(J:u1.4=u.4)(f:fV ai kp S fr cs u1 ρ gs w t q)(T:w1.1=w.1.push x)(K:w1.4=w.4):
  DH l C R (Kb C cl S ρ) w1 cl xb sb u.1.size w.1.size n:=by
 let P:=f.10;let O:pB w1.1=pB w.1+1:=j4
 let s:∀b,b<pB w.1->w1.1[b]? =w.1[b]? :=λb d=>by grind
 let k:=λ{j c:Nat} (a:cl[j]? =Z (Z c)) {b:Nat} (d:C c b)=>E.own m f a d
 let p:∀b,(∃o,u1.1[b]? =Z o/\o≠cC)->(∀(j:Nat) c,cl[j]? =Z (Z c)->¬C c b)->Kb C cl S ρ b:=λb ⟨o,e,i⟩ G=>by let⟨g,r,_,_⟩:=f.heap e i;exact⟨⟨g,r⟩,G⟩
 refine⟨E.1,E.2,?_,E.6,E.7,λj c a=>⟨λb d=>?_,(E.11 j c a).2⟩,E.Md,λj c a b d=>?_,⟨p _ ?_ λj c a=>(E.cm j c a).1,p _ ?_ λj c a=>(E.cm j c a).2,p _ (Eb D) λj c a h=>?_⟩,λb d=>?_,E.Ox,E.Ov,λj c a L g r z=>?_⟩;have:=f.xe;omega;let⟨g,_,_,_,o,A,B⟩:=k a d;exact⟨o,(s b Y).E A,B⟩;let⟨g,_⟩:=k a d;exact⟨λH=>H.2 j c a d,Y,Y⟩;let⟨o,e,i⟩:=Eb E.8;exact⟨o,(m _ (bf.1 e).1).E e,i⟩;let⟨o,e,i⟩:=E.dL;exact⟨o,(m _ (bf.1 e).1).E e,i⟩;have:=(k a h).1;exact uD _ this;have:=(f.5.3 b b d.1.1).2;omega;refine E.16 j c a L (λb d=>?_) Y ?_;let⟨N,_,_,v,_⟩:=k a d;exact(g b d).E<|(s b Y).E v;rw[z,K,f.5.os,J]
end
section
variable [an] [bJ] {l:av aZ} {C:Nat->Nat->Prop} {R:Nat->jA->aq->Prop} {cl:av (aV Nat)} {xb sb n:Nat} {u u1 w w1 w':aq} {cs:av aP} {fr:aP} {gs:aF bK} {t:iN} {q:Nat->Nat} {kp:Loc->Prop} {S:Nat->Prop} {ρ:ut} {x:Obj} {Oq:Nat->Nat->Prop} {O':Nat->Prop} {m B2 D L:Nat}
def Rv(C:Nat->Nat->Prop)(R:Nat->jA->aq->Prop)(cl:av (aV Nat))(m:Nat)(Oq:Nat->Nat->Prop)(w':aq)(i c:Nat)(e:aq)(d:ut)(v:aB):Prop:=i<m/\(xi cl)[i]? =Z c/\R c (aG v) e/\(gu<|C c).le d/\Wl (λ_=>False) d e w'/\∀a b,d a b->Oq i b
def Ob(C:Nat->Nat->Prop)(R:Nat->jA->aq->Prop)(cl:av (aV Nat))(S:Nat->Prop)(ρ:ut)(m:Nat)(Oq:Nat->Nat->Prop)(w':aq)(B2 D:Nat)(b:Nat):Prop:=Kb C cl S ρ b\/b=B2\/b=D\/∃i c e d v,Rv C R cl m Oq w' i c e d v/\∃a,d a b
def vy.over(E:vy l C R u cl xb sb n)(X:∀b,b<pB u.1->u1.1[b]? =u.1[b]?)(bL:pB u1.1=pB u.1+1)(yI:u1.1[pB u.1]? =Z (au #[pt xb] 36))(bw:u1.4=u.4)(K:fV ai kp S fr cs u1 ρ gs w t q)(aS:w1.1=w.1.push x)(bz:w1.4=w.4)
  (hm:m=pA (xi cl)) (Q:fU fe xb sb u.1.size w.1.size B2 D L n cl .exhausted O' w') (hF:kg C (Kb C cl S ρ) w1 cl n O' w') (MH:pB w1.1<=B2) (hD:pB w1.1<=D)
  (hQ:∀i,i<m->Qs C R cl i (Oq i) w') (hd:∀b,O' b->∀i,i<m->¬Oq i b) (aL:∀b i j,i<m->j<m->Oq i b->Oq j b->i=j) (Hh:∀b,O' b\/(∃i,i<m/\Oq i b)->b≠pB w.1/\b<pB w'.1/\¬S b/\((ρ b b/\¬S b)\/pB w.1<b)) (aQ:iF w1 w'):
  (∀b,ρ b b->Ob C R cl S ρ m Oq w' B2 D b\/S b\/b=pB w.1)/\
  (∀b,Ob C R cl S ρ m Oq w' B2 D b->b≠pB w.1/\(b<pB w.1->ρ b b/\¬S b)/\∃o,w'.1[b]? =Z o/\OR (gu λb=>Ob C R cl S ρ m Oq w' B2 D b\/S b\/b=pB w.1) o o)/\
  DM C R cl u (wd (Ob C R cl S ρ m Oq w' B2 D) w') xb u.1.size w.1.size B2 D:=by
 let bJ:=K.10;let bH:pB w1.1=pB w.1+1:=by rw[aS];simp
 let bG:=aQ.4;let bu:∀b,b<pB w.1->w1.1[b]? =w.1[b]? :=λb d=>by rw[aS,oF,aI Y]
 let Vo:∀b,ρ b b->b<pB w.1:=λb d=>(K.5.3 b b d).2
 let aC:∀c,c∈xi cl->∃i B G v,Rv C R cl m Oq w' i c B G v:=λc J=>by
  let⟨i,W⟩:=pJ.1 J;let T:i<m:=by rw[hm];exact(bY.1 W).1
  let⟨p,k,B,G,v,s,f,H,h6⟩:=hQ i T;rw[W]at k;cases k;exact⟨i,B,G,v,T,W,s,f,H,h6⟩
 let bC:∀i c,i<m->(xi cl)[i]? =Z c->∀b,Oq i b->b<pB w.1->C c b:=λi c T W b d af=>by let bt:=(Hh b<|az ⟨i,T,d⟩).2.2.2.resolve_right Y;refine ny λaH=>?_;by_cases A:Kb C cl S ρ b;exact hd b (hF.5 b A).1 i T d;let⟨j,z⟩:∃j p,cl[j]? =Z (Z p)/\C p b:=ny λh=>A ⟨bt,λj p z J=>h ⟨j,p,z,J⟩⟩;let⟨p,z,V⟩:=z;let⟨i',B,G,v,g1,g2,_,g4,_,g7⟩:=aC p (Ig.2 ⟨j,z⟩);have:=aL b i i' T g1 d (g7 b b<|g4 b b ⟨U,V⟩);subst this;rw[W]at g2;cases g2;exact aH V
 let aT:∀b,ρ b b->Ob C R cl S ρ m Oq w' B2 D b\/S b\/b=pB w.1:=λb d=>by
  by_cases hS:S b;·exact az<|aA hS
  by_cases A:Kb C cl S ρ b;exact aA<|aA A;let⟨j,p,z,V⟩:∃j p,cl[j]? =Z (Z p)/\C p b:=ny λh=>A ⟨⟨d,hS⟩,λj p z J=>h ⟨j,p,z,J⟩⟩;let⟨i,B,G,v,r⟩:=aC p (Ig.2 ⟨j,z⟩);exact aA<|az<|az<|az ⟨i,p,B,G,v,r,b,r.2.2.2.1 b b ⟨U,V⟩⟩
 let bk:Kb C cl S ρ xb:=by let⟨o,O,P⟩:=Eb E.8;let⟨k,s,_,_⟩:=K.heap ((X _ (bf.1 O).1).E O) P;exact⟨⟨k,s⟩,λj c z=>(E.cm j c z).1⟩
 let aK:Kb C cl S ρ u.1.size:=by let⟨k,s,_,_⟩:=K.heap yI p9;exact⟨⟨k,s⟩,λj c z h=>uD _ (E.own X K z h).1⟩
 let aE:∀b,Kb C cl S ρ b->∃o,u1.1[b]? =Z o/\o≠cC/\w'.1[b]? =Z o/\OR (gu λb=>ρ b b) o o:=λb A=>by let⟨o,O,P⟩:=K.Ie A.1.1 A.1.2;let⟨_,_,f,H⟩:=K.heap O P;exact⟨o,O,P,(hF.5 b A).2.E ((bu b<|Vo b A.1.1).E f),H⟩
 let aN:∀b,Ob C R cl S ρ m Oq w' B2 D b->(b<pB w.1->(ρ b b/\¬S b)):=λb d af=>by obtain d|rfl|rfl|⟨i,c,B,G,v,r,a,N⟩:=d;exact d.1;omega;omega;exact(Hh b<|az ⟨i,r.1,r.2.2.2.2.2 a b N⟩).2.2.2.resolve_right Y
 refine⟨aT,λb d=>⟨?_,aN b d,?_⟩,?_⟩;obtain d|rfl|rfl|⟨i,c,B,G,v,r,a,N⟩:=d;have:=Vo b d.1.1;omega;omega;omega;exact(Hh b<|az ⟨i,r.1,r.2.2.2.2.2 a b N⟩).1;obtain d|rfl|rfl|⟨i,c,B,G,v,r,a,N⟩:=d;let⟨o,_,_,f,H⟩:=aE b d;exact⟨o,f,H.V<|Vq aT⟩;exact⟨_,Q.bx,(DX (λv hv=>by simp at hv;subst hv;exact Ju (aA<|aA bk)) _ _)⟩;exact⟨_,Q.df,p9,λg _=>⟨by simp only[ro],U⟩⟩;let⟨o,O,Dx⟩:=Wl.closed r.2.2.2.2.1 b ⟨a,N⟩;exact⟨o,O,Dx.V<|Vq λb' bn=>aA (az<|az<|az ⟨i,c,B,G,v,r,bn⟩)⟩;refine⟨by rw[AQ];omega,?_,⟨aR _,Y,Y,Y⟩,λb d J=>?_,?_,?_,?_,λc b=>∃i,i<m/\(xi cl)[i]? =Z c/\Oq i b,?_,?_,?_⟩;show w'.4=u.4;rw[aQ.1,bz,K.5.os,bw];let af:b<pB w.1:=Y;let aD:=gi d
 by_cases P:u.1[b]=cC
 let aH:¬Ob C R cl S ρ m Oq w' B2 D b:=λO=>by let⟨k,s⟩:=aN b O af;let⟨o,f,H⟩:=K.Ie k s;rw[X b d,aD]at f;exact H<|(ey f).y.E P
 rw[Nq aH Y,aD,P];let⟨k,s,_,_⟩:=K.heap ((X b d).E aD) P;let A:Kb C cl S ρ b:=⟨⟨k,s⟩,J⟩;let⟨o,f,_,H,_⟩:=aE b A;rw[xp<|aA A,H,<-f,X b d];let⟨o,f,_,H,_⟩:=aE _ aK;rw[xp<|aA aK,H,<-f,yI];rw[xp<|az<|aA U,Q.bx];rw[xp<|az<|az<|aA U,Q.df];intro c p b J V bq ⟨i,k,s,f⟩ ⟨i',k1,k2,k3⟩;have:=aL b i i' k k1 f k3;subst this;rw[s]at k2;cases k2;exact bq U;intro c b J ⟨i,k,s,f⟩;exact⟨λe=>hd _ Q.3 i k (e▸f),λe=>hd _ Q.4 i k (e▸f),λe=>hd _ Q.5 i k (e▸f),λaf=>bC i c k s b f Y⟩;intro c J;let⟨i,B,G,v,r⟩:=aC c J;let bp:=r;let⟨g1,g2,g3,g4,g5,g7⟩:=r;exact⟨B,G,v,g3,g4,g5.Ie λa b N=>az (az<|az ⟨i,c,B,G,v,bp,a,N⟩),λa b N=>⟨i,g1,g2,g7 a b N⟩⟩
end
end
section
variable [an] {l:av aZ} {C:Nat->Nat->Prop} {R:Nat->jA->aq->Prop} {cl:av (aV Nat)} {xb sb n:Nat} {u u1 w w1:aq} {cs:av aP} {fr:aP} {gs ng:aF bK} {t:iN} {q:Nat->Nat} {kp:Loc->Prop} {S:Nat->Prop} {ρ:ut} {x:Obj} {sl:aV (Nat×Nat)}
def Rt(e:gG)(C:Nat->Nat->Prop)(R:Nat->jA->aq->Prop)(cl:av (aV Nat))(u:aq)(xb:Nat)(cs:av aP)(f:aP)(d:av aP)(u':aq):Prop:=d=cs/\∃a c b D,f=Ii e xb a c b D [] (θ #[])/\DM C R cl u u' xb a c b D
def akC{X fZ B1 B2 D}(hS:an.ok 96)(j:il 61)(k:X xb)(c:X B1)(f:X Wg)(d:X B2)(e:X D):XF (gu X) (Ii fZ xb B1 Wg B2 D []<|θ #[]):=by
 let b:VR (gu X) y y:=EA _
 refine⟨λi v hv _=>?_,λg a=>.cons ⟨by simp[gX,rt,a D D ⟨U,e⟩],az<|az ⟨_,U⟩⟩ .nil,U,j,λg _=>@mu.run _ g⟩;replace hv:=vF hv;change v∈(lM xb B1 Wg B2).setIfInBounds 10 (θ #[])at hv;simp only[lM,Fq,Fu,Fv,Qx,jh,Fo,or_false]at hv;obtain rfl|rfl|rfl|rfl|rfl|rfl|rfl|rfl|rfl|rfl|rfl|rfl|rfl|rfl|rfl|rfl|rfl|rfl|rfl|rfl|rfl|rfl|rfl:=hv;all_goals first|exact b|exact Ju k|exact Ju c|exact Ju f|exact λg a=>by simp[pt,rv,ra,kG,(g.hf _).2 hS,a B2 B2 ⟨U,d⟩]
def WF(c:gG)(xb a b:Nat):aP:=eD.at ⟨#[pt xb,pt a,pt b,y,y,y,y,y,y,y,y,y,y,y,y,y,y,y,y,y,y,y,y],[]⟩ [.code<|Bc c]
def vy.ms[bJ][oM](E:vy l C R u cl xb sb n)(s:∀b,b<pB u.1->u1.1[b]? =u.1[b]?)(an:pB u1.1=pB u.1+1)(yI:u1.1[pB u.1]? =Z (au #[pt xb] 36))(aC:u1.4=u.4)(o:fV ai kp S fr cs u1 ρ gs w t q)(aD:w1.1=w.1.push x)(aH:w1.4=w.4)(aE:eh tf.30 w.1.size w1 0 0):
  MS ai tf.30 w.1.size (Gf fe C (Kb C cl S ρ) w1 cl xb sb u.1.size w.1.size n cs) (Qs C R cl) n 0 .opn (λb=>ρ b b/\¬S b) (G (WF fe xb u.1.size w.1.size) cs) w1:=by
 let aL:pB w1.1=pB w.1+1:=j4
 let N:∀b,ρ b b->b<pB w.1:=λb d=>(o.5.3 b b d).2
 let k:∀{a:iL} {v:aB},kD u1 a=Z v->(ρ a.1 a.1/\¬S a.1)/\kD w1 a=Z v:=λ{a v} h=>by let⟨m,O,p⟩:=o.cell h;exact⟨⟨m,O⟩,(tn<|(λb d=>by grind) _<|N _ m).E p⟩
 let z:∀{a:iL} {v:aB},kD u a=Z v->kD u1 a=Z v:=λ{a v} h=>(tn<|s _<|As h).E h;let J:kD u1 (F u.1.size 0)=Z (pt xb):=by simp[gp,yI]
 let⟨aN,P,ak⟩:=E.dL;let⟨s1,s2,_,_⟩:=o.heap ((s _ (bf.1 P).1).E P) ak
 refine yO (aA U) (ky:=λi g e=>∃f D L v,g=qd fe f96 xb sb u.1.size w.1.size f D L n 0 v cs/\fU fe xb sb u.1.size w.1.size f D L n cl .ready i e/\kg C (Kb C cl S ρ) w1 cl 0 i e/\pB w1.1<=f/\pB w1.1<=D/\pB w1.1<=L)
  (agU (cl:=cl) (n:=n) (k J).1 (k<|z E.8).1 ⟨s1,s2⟩ (λh=>uD _ (N _ h.1)) (λb d=>by have:=N b d.1;omega) ⟨_,_,aE⟩ (k J).2 (k<|z E.8).2 (λj v K=>(k<|z<|E.9 j v K).2) E.6 λf D L i e v m O p V W X A g2 B H=>.stop λaQ r=>⟨f,D,L,v,U,H.rel r,?_,A,g2,B⟩) λi g e h=>?_
 refine kg.rel (w:=e) ⟨W,X,V,λj c _ K b d=>?_,λb d=>⟨m b d.1,p b d.1⟩⟩ r;let⟨_,Q,T,_⟩:=E.own s o K d;exact⟨m b ⟨Q,T⟩,p b ⟨Q,T⟩⟩;obtain⟨f,D,L,v,rfl,H,hF,A,g2,B⟩:=h e (.refl ..);have:=Nt (cs0:=cs) (E.setup s an J aC o aD aH) A g2 B n 0 v i e Y H hF;simpa[xi]using this
def vy.tO[bJ][oM]{t0 q0}(E:vy l C R u cl xb sb n)(v:∀b,b<pB u.1->u1.1[b]? =u.1[b]?)(ak:pB u1.1=pB u.1+1)(s:u1.1[pB u.1]? =Z (au #[pt xb] 36))(an:u1.4=u.4)(c:fV ai kp S fr cs u1 ρ gs w t0 q0)(z:w1.1=w.1.push x)(A:iF w w1)(aC:eh tf.30 w.1.size w1 0 0){a}(Q:ng[0]? =Z a)(N:uv ai t ng q)(O:NT kp w.1.size t)(B:∀i j,t.g? i=Z j->j<pB ng)(X:MS ai tf.30 w.1.size (Gf fe C (Kb C cl S ρ) w1 cl xb sb u.1.size w.1.size n cs) (Qs C R cl) n 0 .opn (λb=>ρ b b/\¬S b) a w1):
  Gc ai (Rt fe C R cl u xb cs) ρ kp w ng w1 sl t:=by
 refine abS c z A aC Q N O B E.7 X λm O' a' p g af P T V Hh aH ah=>?_;obtain⟨hm,d,D,L,rfl,K,hF,G,g2⟩:=af;let⟨h,H,J⟩:=E.over v ak s an c z A.1 hm K hF G g2 P T V Hh ah
 let W:ρ.le (gu λb=>Ob C R cl S ρ m g p d D b\/S b\/b=pB w.1):=λa b r=>by obtain rfl:=c.9 _ _ r;exact⟨U,h a r⟩
 let own:∀{b:Nat} {o:Obj},u1.1[b]? =Z o->o≠cC->Ob C R cl S ρ m g p d D b\/S b\/b=pB w.1:=λf k=>h _ (c.heap f k).1;refine⟨_,cs,Ob C R cl S ρ m g p d D,U,⟨U,_,_,d,D,U,J⟩,H,akC E.3 E.4 ?_ (own s p9) (az<|az U) (aA<|az<|aA U)<|aA<|az<|az<|aA U,h,xc W c.3⟩;let⟨o,f,k⟩:=Eb E.8;exact own ((v _ (bf.1 f).1).E f) k
end
def qW(fn:gG):aF ep:=match fn.9 with|some (.seq (.region _ x _) _)=>x|_=>#[]
def qj(fn:gG):aF ep:=match fn.9 with|some (.seq _<|.seq (.region _ x _) _)=>x|_=>#[]
section
variable [an] {l:av aZ} {C:Nat->Nat->Prop} {R:Nat->jA->aq->Prop} {cl:av (aV Nat)} {xb sb n:Nat} {u:aq} {cs:av aP}
def aer{Q}(h:∀id a u,¬Q (.exit id) a u):wK Q k:=λid ⟨a,u,b⟩=>absurd b (h id a u)
def kW(xb:Nat)(x a:aB):Act:=⟨#[pt xb,x,a,y,y,y,y,y,y,y,y,y,y,y,y,y,y,y,y,y,y,y,y],[]⟩
def aaz(xb):ba ai 61 #[pt xb] .normal=eD.at (kW xb y y) [.code<|.seq (.region 0 (qW fe) aa)<|.seq (.region 1 (qj fe) aa)<|Bc fe]:=by rw[ya (c:=.seq (.region 0 (qW fe) aa)<|.seq (.region 1 (qj fe) aa)<|Bc fe) _ func61 U];generalize (Code.seq _ _)=c;let a:fe.7=23:=U;rw[a];walk_nrm;rfl
def R4(w):(a7 (kW xb y y).eval<|(qW fe).getD 0 default).run ai w=.ok (.value<|pt w.1.size) {w with heap:=w.1.push<|au #[pt xb] 36}:=by simp only[qW,fe];unfold a7;simp[go_sem,kW,cn]
def adA(x w):(a7 (kW xb x y).eval<|(qj fe).getD 0 default).run ai w=.ok (.value<|pt w.1.size) {w with heap:=w.1.push<|BG tf.30 0 0}:=by simp;unfold a7;simp[go_sem,kW,cn];rfl
def adz(x w):listed ai eD.1 (kW xb x y) ((qj fe).getD 0 default) w=#[]:=by
 have:(a7 (kW xb x y).eval<|(qj fe).getD 0 default).events ai w #[]=#[]:=by simp only[qj,fe];unfold a7;simp[go_sem,kW,cn]
 unfold listed;rw[this];exact FR _ _
def afO[oM](E:vy l C R u cl xb sb n):ti ai (Rt fe C R cl u xb cs) (ba ai 61 #[pt xb] .normal) cs u:=by
 haveI:bJ:=eL [];have a1:(qW fe)[0]? =Z ((qW fe).getD 0 default):=U;have A:cY ((qW fe).getD 0 default) (co (qW fe) (kW xb y y).1)=M:=U;have a3:yn ai l ((qW fe).getD 0 default).2=M:=U;have B:dA (qW fe).size=[0]:=U;have D:∀v,(kW xb y y).put ((qW fe).getD 0 default).1 v=kW xb v y:=λv=>U;have b1:(qj fe)[0]? =Z ((qj fe).getD 0 default):=U;have H:∀v,cY ((qj fe).getD 0 default) (co (qj fe) (kW xb v y).1)=M:=λv=>U;have J:dA (qj fe).size=[0]:=U;have K:∀v c,(kW xb v y).put ((qj fe).getD 0 default).1 c=kW xb v c:=λv c=>U;have T:=λw=>R4 (xb:=xb) w;have W:=λx w=>adA (xb:=xb) x w;have V:=λx w=>adz (xb:=xb) x w;have N:∀(f:Nat),eD.at (kW xb (pt u.1.size)<|pt f) [.code<|Bc fe]=WF fe xb u.1.size f:=λf=>U;rw[aaz];generalize qW fe=aE at*;generalize qj fe=s at*;generalize aD:Bc fe=kj at*;refine .at_ (λ_=>bZ)<|.at_ (λ_=>La) ?_;rw[B];refine ti.bind ((OX.value (Q:=λe j u'=>e=.normal/\j=kW xb (pt u.1.size) y/\u'={u with heap:=u.1.push<|au #[pt xb] 36}) (u1:={u with heap:=u.1.push<|au #[pt xb] 36}) (v:=pt u.1.size) E.1 a1 A a3 (λτ=>T (u.tp τ))<|GO.nil ⟨U,D _,U⟩) eD _ cs E.5 trivial (aer λ_ _ _ h=>by cases h.1)) ?_;rintro og a u1 ⟨e,j,⟨rfl,rfl,rfl⟩,rfl,rfl⟩;refine .at_ (λ_=>bZ)<|.at_ (λ_=>La) ?_;rw[J];refine ti.aeE λak S z gs w t q k _=>?_;have X:bi ai M (G (eD.at (kW xb (pt u.1.size) y) [.inRegion s [0],.code kj]) a) w=.go (G (eD.at (kW xb (pt u.1.size)<|pt w.1.size) [.inRegion s [],.code kj]) a) {w with heap:=w.1.push<|BG tf.30 0 0}:=by rw[FV (v:=pt w.1.size) b1 (H _) D8<|W _ w,V,K]
 refine⟨_,_,_,X,λng sl t1 q1 h0 O P L=>?_⟩;have o:∀b,b<pB u.1->(u.1.push<|au #[pt xb] 36)[b]? =u.1[b]? :=λb hb=>by rw[oF,aI Y]
 have p:eh tf.30 w.1.size {w with heap:=w.1.push<|BG tf.30 0 0} 0 0:=by show(w.1.push _)[pB w.1]? =_;simp
 have m:=E.ms (u1:={u with heap:=u.1.push<|au #[pt xb] 36}) (w1:={w with heap:=w.1.push<|BG tf.30 0 0}) o ay ay U k U U p;refine E.tO (u1:={u with heap:=u.1.push<|au #[pt xb] 36}) (w1:={w with heap:=w.1.push<|BG tf.30 0 0}) o ay ay U k U ⟨U,U,U,ay⟩ p h0 O P L ?_;rw[<-N]at m;refine yO (aA U) (ky:=λi g d=>i=(λb=>z b b/\¬S b)/\g=G (eD.at (kW xb (pt u.1.size)<|pt w.1.size) [.code kj]) a/\tb tf.30 w.1.size (λb=>z b b/\¬S b) {w with heap:=w.1.push<|BG tf.30 0 0} d) (.regionEnd<|.stop λaK r=>⟨U,U,r⟩) λi g d h=>?_;obtain⟨rfl,rfl,r⟩:=h d (.refl ..);exact m.rely r
end
section
variable [an] {l:av aZ} {C:Nat->Nat->Prop} {R:Nat->jA->aq->Prop} {cl:av (aV Nat)} {xb sb n:Nat} {u:aq} {cs:av aP}
def tlF(d:gG)(xb a c b D:Nat):aP:=eD.at ⟨mP (lM xb a c b) 10<|θ #[],[{target:=.collected D,args:=#[]}]⟩ [.code<|xH d]
def S7[oM](E:vy l C R u cl xb sb n){R'}(m:eW ai l aa (xH fe)=M)(hR:∀e u j,R' e u->R' e (aq.tp u j))(o:∀e u,R' e u->∃v,e=aG v)
  (h:∀d a c b D,DM C R cl u d xb a c b D->∀j,∃e i f,R' e i/\Comes ai (lone (tlF fe xb a c b D) [vd ai]<|d.tp j) (lone f [vd ai] i) e/\f.1=61/\f.leaving ai i e):
  dX ai 61 #[pt xb] u R':=λcs=>by
 letI:bJ:=eL []
 refine(afO (cs:=cs) E).bind ?_;rintro q p d ⟨rfl,a,c,b,D,rfl,k⟩;exact .at_ (k':=[.code<|xH fe]) (λ_=>cH)<|ti.left (l:=l) E.1 E.5 (λg=>.cons (.code (by rw[<-E.1.2];exact m)) .nil) U hR o (h d a c b D k)
end
def Xc(a:eQ)(d:aV Tmp)(v):pB (a.put d v).1=pB a.1:=by cases d<;>simp[dv]
def yv(a:eQ)(d:aV Tmp)(v):(a.put d v).2=a.2:=by cases d<;>rfl
def Ty{d}(v)(h:d<pB a.1):(a.put (Z d) v).eval (.tmp d)=v:=by simp[dv,cn,Array.getD,h]
def Tx{d:Nat}(v)(h:i≠d):(a.put (Z d) v).eval (.tmp i)=a.eval (.tmp i):=by simp only[dv,cn,ue];rw[gn<|dB h]
def ev{k:Nat}(h:a.eval (.tmp k)=v):a.1[k]?.getD y=v:=by simpa[cn,ue]using h
def ct:fu->fu|.cond _ x _=>x|_=>.skip
def cf:fu->fu|.cond _ _ a=>a|_=>.skip
def cz(w:aq)(n o):(w.drewN n).alloc o=(lL w o).drewN n:=U
def cE(w:aq)(n a v):(w.drewN n).setCell a v=(w.setCell a v).drewN n:=U
def Xw{k a b}(h:a=b):JN (ι k a)=aG (ι k b):=by rw[h]
abbrev iV(sz cl e b d rt a f c:Int):aF aB:=#[I sz,I cl,I e,I b,I d,I rt,I a,I f,I c]
abbrev kE(b:Int)(a:ByteArray)(kd fl ck of ln:Int)(dt:ByteArray)(er:Int):aF aB:=#[I b,ξ a,I kd,I fl,I ck,I of,I ln,ξ dt,I er]
abbrev gy(m:bh):aF aB:=kE m.1 m.nm m.kd m.fl m.ck m.of m.ln m.dt m.er
abbrev mF:aF aB:=kE 0 ⟨#[]⟩ 0 0 0 0 0 ⟨#[]⟩ 0
abbrev xu(s:ByteArray):aF aB:=kE 3 ⟨#[]⟩ (bt s 1) (bt s 2) (two s 3) (two s 5) (two s 7) ⟨#[]⟩ 0
def NI(b:UInt8)(w):
  bN 237 #[ι .u8 (b.toNat:Int)] w (ξ ⟨#[b]⟩):=by
 let c:∀(j:Nat) (a:j<[b].length),kD (lL w<|au #[ι .u8 (b.toNat:Int)] 5) ((⟨pB w.1,0,aj⟩:iL).add j)=Z (ι .u8 (([b]:av UInt8)[j].toNat:Int)):=by
  intro j a;match j,a with
  |0,_=>simp;simp[Addr.add,go_sem]
 let kd:(convert 158 9<|ζ (Z<|F w.1.size 0) 1 1).run ai (lL w<|au #[ι .u8 (b.toNat:Int)] 5)=.ok (ξ ⟨#[b]⟩) (lL w<|au #[ι .u8 (b.toNat:Int)] 5):=(yd (lL w<|au #[ι .u8 (b.toNat:Int)] 5) 158 9 5 ⟨pB w.1,0,aj⟩ 1 [b] dp kc gc) c;go_enter func237,ntmps237;go_wp2;go_ret;exact⟨U,bq⟩
def ajx(s w)(c:pC s<=cP)(a:1<pC s):
  ax ai 273 #[ξ s] w λe d=>e=aG (I<|two s 0)/\∃n,d=w.drewN n:=by
 unfold cP at c;let f:=pV s 0 Y;let g:=pV s 1 a;let h:=nU s 0;let i:=nU s 1;go_enter func273,ntmps273;go_wp2
 go_quiet (fail)
 go_wp2;go_ret;refine⟨Xw ?_,_,U⟩;simp only[two]
 go_light
 rw[jM];omega
def AF(m:bh):Bool:=if m.3=1\/m.3=3\/m.3=4 then decide (m.4<=1)else decide (m.4=0)
def AZ(m:bh):Bool:=if m.3=2\/m.3=5 then decide (m.6=0/\m.7=0)else decide (m.7≠0/\m.6 %4=0/\m.7 %4=0)
def abd(m w):
  bN 274 #[ν<|gy m] w (ω<|AF m):=by
 let⟨f,e,kd,d,a,of,ln,b,c⟩:=m
 go_enter func274,ntmps274;go_wp2
 all_goals (go_ret;refine⟨?_,bq⟩;go_light;simp_all[AF];try rfl)
def afD(m w)(h0:0<=m.6)(a:0<=m.7):
  bN 275 #[ν<|gy m] w (ω<|AZ m):=by
 let⟨g,f,kd,e,b,of,ln,c,d⟩:=m
 dsimp only at h0 a;go_enter func275,ntmps275;go_wp2
 all_goals (go_ret;refine⟨?_,bq⟩;go_light;simp_all[AZ];try(first|omega|(rw[sR];simp_all)))
def infoByte:(ai.info? 5).map (λi=>(i.8,i.3,i.4))=Z (Z<|ι .u8 0,1,1):=aW
def adj(s w)(G:pC s<=281474976710656):
  bN 171 #[ξ s] w (ξ s):=by
 by_cases h0:pC s=0
 ·obtain rfl:s=⟨#[]⟩:=rG (zv h0);go_enter func171,ntmps171;go_wp2;go_ret;exact⟨U,ca.refl _ _⟩
 let⟨m,i,A,l,B⟩:=info_parts infoByte
 let⟨a,c⟩:∃a,a=madeCells (Value.int .u8 0).cells (((pC s:Nat):Int).toNat*m.3):=⟨_,U⟩;have C:pB a=pC s:=by rw[c,size_madeCells,l];simp
 have H:∀W:aq,(Instr.makeSlice 158 (I (pC s:Int))<|I (pC s:Int)).run ai W=.ok (ζ (Z<|F W.1.size 0) s.size s.size) (lL W<|au a 5):=λW=>by have h:=run_make (P:=ai) W 158 5 m (ι .u8 0) dp i A .i64 .i64 (pC s:Int) (pC s:Int) Y Y (by rw[B];omega) Y;rw[<-c]at h;simpa using h
 clear c;have t:=Lib.run_copy_row_string (P:=ai) (lL w<|au a 5) 158 9 3 5 w.1.size 0 s.size s.size s a 5 dp j4 (ao w _) (aR _) Y;let⟨b,d⟩:∃b,b=(a.1.take 0++lR s.1.1++a.1.drop (0+pC s)).toArray:=⟨_,U⟩;rw[<-d]at t
 have f:b.1=lR s.1.1:=by rw[d,List.toList_toArray,List.take_zero,jZ,BR (by rw[lQ];omega),lf]
 have D:pB b=pC s:=by rw[<-lQ,f,Lib.byteCells_length,<-BO]
 have g:((lL w<|au a 5).setRow w.1.size b).1[pB w.1]? =Z (au b 5 (0,0)):=setRow_heap _ _ a _ 5 (0,0) (ao w _)
 have n:=Lib.run_unsafeString_row (P:=ai) ((lL w<|au a 5).setRow w.1.size b) 262 3 9 5 underlying262 (by simp[Program.cellsOf,i,l]) w.1.size b.size (by unfold World.shape?;rw[g]) s.1.1 (λe=>h0 (by rw[BO,e];rfl)) (by rw[<-BO];omega) (by rw[<-BO];omega)
  (λj x z=>Lib.cells_of_row g b.size j _ (by rw[qE (by rw[lQ];exact aR _),f];simp[lR,z]))
 rw[<-BO]at n;clear d;go_enter func171,ntmps171;go_wp2;go_ret;have q:ca w.1.size (lL w<|au a 5) ((lL w<|au a 5).setRow w.1.size b):=⟨U,U,U,ay,λk E=>setRow_other _ _ _ _ Y⟩;exact⟨U,Lib.below_freeze (bq.E q) (p:=F w.1.size 0) (aR _) _⟩
def SE(s w)(b:pC s<=281474976710656):
  bN 117 #[ξ s] w (ξ s):=by
 go_enter func117,ntmps117;go_wp2_with (go_at_call 171;apply(adj s _ b).V;rintro e c ⟨rfl,a⟩);go_ret;exact⟨U,a⟩
abbrev TG:ByteArray:=⟨#[70,69,82,82,89]⟩
def aco(k)(h:k<pC TG):(TG[k].toNat:Int)=qg k:=by
 match k,h with
 |0,_=>rfl
 |1,_=>rfl
 |2,_=>rfl
 |3,_=>rfl
 |4,_=>rfl
def acp(k):0<=qg k/\qg k<=255:=by unfold qg;repeat' split;all_goals omega
def Gs{b W}(h:ca B w W)(a:B<=b)(v0 v1 v2 v3 v4 v5 v6 v7 v8):
  ca B w (kB (kB (kB (kB (kB (kB (kB (kB (kB W (F b 0) v0) (F b 1) v1) (F b 2) v2) (F b 3) v3) (F b 4) v4) (F b 5) v5) (F b 6) v6) (F b 7) v7) (F b 8) v8):=
 ((((((((h.setCell (p:=F b 0) a v0).setCell (p:=F b 1) a v1).setCell (p:=F b 2) a v2).setCell (p:=F b 3) a v3).setCell (p:=F b 4) a v4).setCell (p:=F b 5) a v5).setCell (p:=F b 6) a v6).setCell (p:=F b 7) a v7).setCell (p:=F b 8) a v8
abbrev bh.val(m:bh):aB:=ν (gy m)
def uT(m:bh)(sz:Int):Int:=if 5<m.3\/AF m=aa\/AZ m=aa then 22 else if m.6+m.7<=sz then 0 else if m.3=1\/m.3=4 then 28 else 22
def aaN(m sz)(a:0<=m.3)(hf:0<=m.4)(f:0<=sz):uT m sz=tt sz m.3 m.4 m.6 m.7:=by let⟨h,g,kd,e,b,of,ln,c,d⟩:=m;dsimp only at a hf;unfold uT tt AF AZ;grind
def UT{p:Prop}(h:p):bc p:=h
def aaO(m sz w)(h0:0<=m.6)(q:m.6<=65535)(n:0<=m.7)(r:m.7<=65535):
  bN 261 #[m.val,I sz] w (I<|uT m sz):=by
 let⟨g,f,kd,d,a,of,ln,b,c⟩:=m;dsimp only at h0 q n r;have i:=λW=>abd ⟨g,f,kd,d,a,of,ln,b,c⟩ W;have j:=λW=>afD ⟨g,f,kd,d,a,of,ln,b,c⟩ W h0 n
 have hF:bc (uT ⟨g,f,kd,d,a,of,ln,b,c⟩ sz=bif decide (5<kd)||(!AF ⟨g,f,kd,d,a,of,ln,b,c⟩||!AZ ⟨g,f,kd,d,a,of,ln,b,c⟩)then 22 else(if of+ln<=sz then 0 else if kd=1\/kd=4 then 28 else 22)):=by simp only[cond_eq_ite,vJ,tB,uk];rfl
 generalize AF ⟨g,f,kd,d,a,of,ln,b,c⟩=f1 at*;generalize AZ ⟨g,f,kd,d,a,of,ln,b,c⟩=f2 at*;generalize uT ⟨g,f,kd,d,a,of,ln,b,c⟩ sz=N at*
 try dsimp only at i j
 replace i:=UT i
 replace j:=UT j
 have t:∀k:aq,pB (lL w<|au (kE g f kd d a of ln b c) 132).1<=pB k.1->pB w.1+1<=pB k.1:=λk h=>by simpa using h
 cases s:decide (5<kd)<;>cases f1<;>cases f2
 all_goals
  rw[s]at hF;go_enter func261,ntmps261;go_wp2_with (first|(go_at_call 274;refine(i.H _).V ?_;rintro e k ⟨rfl,l⟩;let⟨z,B⟩:=sw l;have b1:=bq.E<|l.V ay)|(go_at_call 275;refine(j.H _).V ?_;rintro e v ⟨rfl,p⟩;have A:∀o,kD v (F w.1.size o)=kD k (F w.1.size o):=λo=>p.cell (t _ l.4);replace b1:=b1.E<|p.V b1.4))
  all_goals
   go_ret;refine⟨Eq.E (Xw ?_)<|cG (λx=>JN (I x)) hF.H.y,?_⟩
   ·clear hF i j;simp;try(go_light;(repeat' split)<;>simp_all<;>omega)
   first|exact b1|exact bq
abbrev sA(n:Int):aB:=.iface 294 (ν #[I n])
def Fk(r:bh×Int)(e:jA):Prop:=(r.1=.closing/\e=.panicked [{v:=sA r.2,recovered:=aa}])\/(r.1.1≠4/\e=aG (θ #[r.1.val,I r.2]))
def TA(s:ByteArray)(i)(h:i<pC s):s.extract i (i+1)=⟨#[s[i]]⟩:=by apply rG;apply Array.ext;simp[rE];omega;intro j a b;have:j=0:=j4;subst this;simp[rE];rfl
def aeL(s w)(l:pC s<=cP):
  ax ai 229 #[ξ s] w λe m=>Fk (CK s) e/\aK w m:=by
 unfold cP at l
 by_cases h0:pC s=0
 ·obtain rfl:s=⟨#[]⟩:=rG (zv h0);go_enter func229,ntmps229;go_wp2;exact iB (v:=θ #[ka.val,I 0]) (by simp[bo,results229,go_sem,ka]) U ⟨az ⟨by rw[show CK ⟨#[]⟩=(ka,0) from U];decide,U⟩,bq⟩
 have o:s.toList.isEmpty=aa:=by rw[EH,ByteArray.toList_eq];intro e;have:=B6.1 e;exact h0 (by rw[BO,this];rfl)
 have g:0<pC s:=Y;have i:=pV s 0 g
 by_cases a:bt s 0<97\/122<bt s 0
 ·have b:bc (CK s=(.closing,1)):=by unfold CK;rw[aI h0,aO a];rfl
  have c:=aX a;by_cases k:bt s 0<97;·clear c;go_enter func229,ntmps229;go_wp2;exact⟨U,aA (by rw[b];exact⟨U,U⟩),bq⟩
  have j:122<bt s 0:=by have:=c.H;omega
  clear c;go_enter func229,ntmps229;go_wp2;exact⟨U,aA (by rw[b];exact⟨U,U⟩),bq⟩
 have b:bc (CK s=(⟨2,s.extract 0 1,0,0,0,0,0,⟨#[]⟩,0⟩,1)):=by unfold CK;rw[aI h0,aI a];rfl
 have k:¬bt s 0<97:=Y;have j:¬122<bt s 0:=Y;clear a
 have f:∀W,bN 237 #[ι .u8<|bt s 0] W (ξ<|s.extract 0 1):=λW=>by have:=NI s[0] W;rw[i]at this;rwa [TA s 0 g]
 have h:=aX f;go_enter func229,ntmps229;go_wp2_with (go_at_call 237;apply(h _).V;rintro e t ⟨rfl,d⟩;let⟨n,p⟩:=sw d);exact iB (v:=θ #[bh.val ⟨2,s.extract 0 1,0,0,0,0,0,⟨#[]⟩,0⟩,I 1]) (by simp[bo,results229,go_sem, *]) U ⟨az (by rw[b];exact⟨show(2:Int)≠4 by decide,U⟩),Gs (bq.E<|d.V ay) (aR _) _ _ _ _ _ _ _ _ _⟩
def ach(s w)(u:pC s<=cP):
  ax ai 228 #[ξ s] w λe x=>Fk (qb s) e/\aK w x:=by
 unfold cP at u;obtain⟨N,q⟩:∃N:Nat,N=min s.size 5:=⟨_,U⟩
 let L:∀W,(Builtin.min_ #[3,3] 3 #[I (pC s:Int),I 5]).run ai W=.ok (I (N:Int)) W:=λW=>by
  rw[run_min_int2]
  congr 2;split<;>omega
 have g:=aX q;go_enter func228,ntmps228;go_wp2
 go_loopw [8] (λi wr=>∃k:Nat,k<=N/\i=I k/\bc (qb s=cL s (5-k) k)/\∃d,wr=(lL w<|au (mF) 132).drewN d) (λi _=>N-(intOf i).toNat)
 case atStart=>exact⟨0,cO _,U,U,0,U⟩
 case round=>
  obtain⟨k,H,rfl,b,d,rfl⟩:=hrel;by_cases K:k<N
  ·let f:k<5:=Y;let z:=pV s k Y;let A:=aco k f;let Q:=nU s k;by_cases c:bt s k=qg k
   ·let a:bc (qb s=cL s (5-(k+1)) (k+1)):=by have:=b;rwa [show 5-k=(5-(k+1))+1 by omega,cL,aI Y,aO c]at this
    let r:(bt s k !=qg k)=aa:=by simpa using c
    go_wp2;go_quiet (fail);go_wp2;go_roundw;case rel=>exact⟨k+1,Y,by go_num,a,_,U⟩
    case measure=>simp[intOf];omega
   let a:bc (qb s=(.closing,(k:Int)+1)):=by have:=b;rwa [show 5-k=(5-(k+1))+1 by omega,cL,aI Y,aI c]at this
   have r:(bt s k !=qg k)=M:=by simpa using c
   go_wp2;go_quiet (fail);go_wp2;exact⟨U,aA (by rw[a];exact⟨U,U⟩),jj (bq) _⟩
  obtain rfl:k=N:=Y;by_cases B:pC s<=5
  ·have a:bc (qb s=(.zero,0)):=by
    have h:=b;have J:k=pC s:=by have:=g;omega
    by_cases p:k=5;rwa [p,show 5-5=0 from U,cL,aO Y]at h;rwa [show 5-k=(4-k)+1 by omega,cL,aO Y]at h
   go_wp2;exact iB (v:=θ #[ka.val,I 0]) (by simp[bo,results228,go_sem,ka]) U ⟨az (by rw[a];exact⟨aM,U⟩),Gs (jj (bq) _) (aR _) _ _ _ _ _ _ _ _ _⟩
  have f:k=5:=by have:=g;omega
  have a:bc (qb s=(⟨1,s.extract 5 6,0,0,0,0,0,⟨#[]⟩,0⟩,6)):=by have h:=b;rwa [f,show 5-5=0 from U,cL,aI Y]at h
  have m:5<pC s:=Y;have o:=pV s 5 m;have l:∀W,bN 237 #[ι .u8<|bt s 5] W (ξ<|s.extract 5 6):=λW=>by have:=NI s[5] W;rw[o]at this;rwa [TA s 5 m]
  have n:=aX l;clear l;go_wp2_with (go_at_call 237;apply(n _).V;rintro e T ⟨rfl,j⟩;let⟨E,G⟩:=sw j);exact iB (v:=θ #[bh.val ⟨1,s.extract 5 6,0,0,0,0,0,⟨#[]⟩,0⟩,I 6]) (by simp[bo,results228,go_sem, *]) U ⟨az (by rw[a];exact⟨show(1:Int)≠4 by decide,U⟩),Gs ((jj (bq) _).E<|j.V ay) (aR _) _ _ _ _ _ _ _ _ _⟩
def sy(m:bh):Int:=if m.3=0 then 4+m.7 else 4
def cw(m:bh):Int:=if m.3=2 then 4 else m.7
def Ar(x)(h0:0<=x)(a:x<256):((ji x.toNat).toNat:Int)=x:=by simp[zQ];omega
attribute [local go_sem ↓] Go.wp_at_zero Go.wp_at_succ
attribute [local go_sem] cz cE
abbrev clL(no wt sz cl e b d rt a f c:Int)(rb:Nat)(s:ByteArray)(out:aB)(tok de:Int)(ch:Nat):aF aB:=#[I no,I wt,I sz,I cl,I e,I b,I d,I rt,I a,I f,I c,aQ rb,ξ s,ζ aj 0 0,I 0,I 0,out,I tok,I de,I 0,.chan (Z ch)]
def AM(c ch w)(h:kD w (F c 20)=Z (.chan<|Z ch))(hc:w.1[ch]? =Z (.chan 0 #[] aa 0 0 aa)):
  eZ 116 #[aQ c] w (ω aa):=by
 refine Vp λcs=>?_
 let e:ba ai 116 #[aQ c] .normal=(base 116).at ⟨#[aQ c,y,y,y,y,y,y,y,y,y],[]⟩ [.code<|f116.9.getD .skip]:=J6
 rw[e];apply Ku (n:=13);simp only[f116,oK]
 s_c bZ
 s_reg
 s_op
 s_c cH
 s_c bZ
 s_reg
 s_op
 s_op
 s_op
 s_op
 s_c cH
 s_c bZ
 s_reg
 s_stop
 apply D6 (step_lone_select_default (c:=ch) (z:=ν #[]) (cap:=0) (s:=0) (r:=0) (tm:=aa) (stepG_comm (cases:=#[rcase ch<|ν #[]]) (blocking:=aa) (shape:=.select) (w':=w) U U aM (by simp[go_sem,a7,rcase,cn])) hc);rw[BF]
 walk_nrm
 apply Ku (n:=11)
 s_op
 s_op
 s_c cH
 s_c Cy
 s_cond aa
 s_c bZ
 s_reg
 s_op
 s_c cH
 s_c oN
 s_stop
 exact LoneTo.done ⟨aG<|ω aa,_,U,⟨U,U⟩,U,U,U,U,_,func116,by simp[bo,f116,du.at]⟩
def DC(c ch w)(h:kD w (F c 20)=Z (.chan<|Z ch))(hc:w.1[ch]? =Z (.chan 0 #[] M 0 0 aa)):
  eZ 116 #[aQ c] w (ω M):=by
 refine Vp λcs=>?_
 let e:ba ai 116 #[aQ c] .normal=(base 116).at ⟨#[aQ c,y,y,y,y,y,y,y,y,y],[]⟩ [.code<|f116.9.getD .skip]:=J6
 rw[e];apply Ku (n:=13);simp only[f116,oK]
 s_c bZ
 s_reg
 s_op
 s_c cH
 s_c bZ
 s_reg
 s_op
 s_op
 s_op
 s_op
 s_c cH
 s_c bZ
 s_reg
 s_stop
 apply D6 (step_lone_select_recv_shut (c:=ch) (z:=ν #[]) (cap:=0) (s:=0) (r:=0) (tm:=aa) (stepG_comm (cases:=#[rcase ch<|ν #[]]) (blocking:=aa) (shape:=.select) (w':=w) U U aM (by simp[go_sem,a7,rcase,cn])) hc);rw[BF]
 walk_nrm
 apply Ku (n:=11)
 s_op
 s_op
 s_c cH
 s_c Cy
 s_cond M
 s_c bZ
 s_reg
 s_op
 s_c cH
 s_c oN
 s_stop
 exact LoneTo.done ⟨aG<|ω M,_,U,⟨U,U⟩,U,U,U,U,_,func116,by simp[bo,f116,du.at]⟩
def jo{a}(h:kD w a=Z v):a.1<pB w.1:=by unfold gp at h;grind
def bH(b:aK w w'){a}(h:kD w a=Z v):kD w' a=Z v:=by rwa [World.cell?_of_block<|b.5 a.1<|jo h]
abbrev afZ:aB:=ν #[I 0,ξ ⟨#[]⟩,I 0,I 0,I 0,I 0,I 0,ξ ⟨#[]⟩,I 0,I 0]
def zp(x)(h0:0<=x)(a:x<256):((ji x.toNat).toNat:Int)=x:=by simp[zQ];omega
def Nn(n w)(h0:0<=n)(e:n<=65535):
  bN 238 #[I n] w (ξ ⟨(cu n).toArray⟩):=by
 let d:=yd (lL w<|au #[ι .u8<|n %256,ι .u8<|n / 256] 5) 158 9 5 ⟨pB w.1,0,aj⟩ 2 (cu n) dp kc gc
 let c:∀(j:Nat) (a:j<pA (cu n)),kD (lL w<|au #[ι .u8<|n %256,ι .u8<|n / 256] 5) ((⟨pB w.1,0,aj⟩:iL).add j)=Z (ι .u8 ((cu n)[j].toNat:Int)):=by
  intro j a;match j,a with
  |0,_=>simp only[cu,uz,zp (n %256) Y Y];simp[Addr.add,go_sem]
  |1,_=>simp only[cu,BT,uz,zp (n / 256) Y Y];simp[Addr.add,go_sem]
 let kd:(convert 158 9<|ζ (Z<|F w.1.size 0) 2 2).run ai (lL w<|au #[ι .u8<|n %256,ι .u8<|n / 256] 5)=.ok (ξ ⟨(cu n).toArray⟩) (lL w<|au #[ι .u8<|n %256,ι .u8<|n / 256] 5):=d c;go_enter func238,ntmps238;go_wp2;go_ret;exact⟨U,bq⟩
def O4(s w v)(hv:bc (v=if(s.toList==[97])=M then⟨#[89]⟩else⟨#[78]⟩)):
  eZ 232 #[ξ s] w (ξ v):=by
 cases h:(s.toList==[97])with
 |true=>go_enter func232,ntmps232;go_wp2;go_ret;exact⟨by rw[hv,aO h];rfl,U⟩
 |false=>go_enter func232,ntmps232;go_wp2;go_ret;exact⟨by rw[hv,h];rfl,U⟩
def O6(sz cl qu mx qn rt bu wk ou s w v)(h0:0<=sz/\sz<=65535)(f:0<=mx/\mx<=65535)(n:pC s<=65535)(hv:bc (v=if(s.toList==[105])=M then⟨#[73]⟩++⟨(cu sz).toArray⟩++⟨(cu mx).toArray⟩else if(s.toList==[103])=M then⟨#[71]⟩else⟨#[85]⟩++s)):
  bN 233 #[ν<|iV sz cl qu mx qn rt bu wk ou,ξ s] w (ξ v):=by
 let k:pA (cu sz)=2:=U;let l:pA (cu mx)=2:=U;cases h:(s.toList==[105])with
 |true=>go_enter func233,ntmps233;go_upto_region 3 with fail;let c:bc (aK w (lL w<|au (iV sz cl qu mx qn rt bu wk ou) 35).drew):=bq.drew;refine ga (S:=λW=>kD W (F w.1.size 0)=Z (I sz)/\kD W (F w.1.size 3)=Z (I mx)) ⟨by simp[go_sem],by simp[go_sem]⟩ λj=>?_;apply tl [0,1,4,5];refine rH 2 λK a=>?_;go_simp;(refine(Nn sz _ h0.1 h0.2).V ?_;rintro e o ⟨rfl,b⟩);go_wp2_with fail;refine a _ _ (⟨bH b j.1,bH b j.2⟩)<|λi=>?_;apply tl [3];refine rH 6 λK a=>?_;go_simp;(refine(Nn mx _ f.1 f.2).V ?_;rintro e p ⟨rfl,d⟩);go_wp2_with fail;refine a _ _ (⟨bH d i.1,bH d i.2⟩)<|λm=>?_;apply tl [7,8];refine dJ ?_;(go_wp2_with fail;go_ret;exact⟨by rw[hv,aO h];rfl,c.E<|(b.V c.4).E<|d.V<|cM c.4 b.4⟩)
 |false=>
  cases g:(s.toList==[103])with
  |true=>go_enter func233,ntmps233;go_wp2;go_ret;exact⟨by rw[hv,h,g];rfl,bq⟩
  |false=>go_enter func233,ntmps233;go_wp2;go_ret;exact⟨by rw[hv,h,g];rfl,bq⟩
def O7(sz cl qu a qn rt bu wk ou m w)(h0:0<=sz/\sz<=65535)(j:0<=a/\a<=65535)(i:pC m.2<=65535)(hm:m.1=1\/m.1=2\/m.1=4):
  bN 192 #[ν<|iV sz cl qu a qn rt bu wk ou,ν<|gy m] w (ξ<|vt sz a m):=by
 let⟨n,b,kd,h,d,of,ln,f,g⟩:=m
 dsimp only at hm i;obtain rfl|rfl|rfl:=hm
 ·have hv:bc (vt sz a ⟨1,b,kd,h,d,of,ln,f,g⟩=if(b.toList==[97])=M then⟨#[89]⟩else⟨#[78]⟩):=U;let⟨v,c⟩:∃v,v=vt sz a ⟨1,b,kd,h,d,of,ln,f,g⟩:=⟨_,U⟩;rw[<-c]at hv⊢;clear c;go_enter func192,ntmps192;go_wp2_with (go_at_call 232;apply(O4 b _ v hv).V;rintro e l ⟨rfl,rfl⟩);go_ret;exact⟨U,bq.alloc ay _⟩
 ·have hv:bc (vt sz a ⟨2,b,kd,h,d,of,ln,f,g⟩=if(b.toList==[105])=M then⟨#[73]⟩++⟨(cu sz).toArray⟩++⟨(cu a).toArray⟩else if(b.toList==[103])=M then⟨#[71]⟩else⟨#[85]⟩++b):=U;let⟨v,c⟩:∃v,v=vt sz a ⟨2,b,kd,h,d,of,ln,f,g⟩:=⟨_,U⟩;rw[<-c]at hv⊢;clear c;go_enter func192,ntmps192;go_wp2_with (go_at_call 233;apply(O6 sz cl qu a qn rt bu wk ou b _ v h0 j i hv).V;rintro e l ⟨rfl,k⟩);go_ret;exact⟨U,(bq.alloc ay _).E<|k.V bV⟩
 have hv:bc (vt sz a ⟨4,b,kd,h,d,of,ln,f,g⟩=⟨#[]⟩):=U;let⟨v,c⟩:∃v,v=vt sz a ⟨4,b,kd,h,d,of,ln,f,g⟩:=⟨_,U⟩;rw[<-c]at hv⊢;go_enter func192,ntmps192;go_wp2;go_ret;exact⟨by rw[hv];rfl,bq.alloc ay _⟩
def qQ{b o}(h:kD w (F b o)=Z v):b<pB w.1:=by by_cases a:b<pB w.1;exact a;simp[gp,vC<|xW a]at h
def bh.cells(m:bh):av aB:=[I m.1,ξ m.2,I m.3,I m.4,I m.5,I m.6,I m.7,ξ m.8,I m.9]
end Go.Proofs.YtpobhljcainmdaaGreat
