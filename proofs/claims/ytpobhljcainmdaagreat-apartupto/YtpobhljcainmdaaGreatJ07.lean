/- Parts of the proof. -/
import Derived.Test.YtpobhljcainmdaaGreatJ06
set_option maxRecDepth 100000
set_option maxHeartbeats 8000000
set_option linter.all false
namespace Go.Proofs.YtpobhljcainmdaaGreat
open Go.Frame renaming enter->ba
open Ck renaming fresh->fw,read->et
open an renaming known->il
open GO renaming nil->cc
open Go renaming Calls->ax,binOp->ju
open Go.Proofs.Tryz renaming prog->ai
open Go.RowKit renaming Hid->bc
open Go.World renaming setCell->kB,cell?->kD,alloc->lL,ownsRow->mT
open _root_.ByteArray renaming extract->mS,size->pC
open Go.IntKind renaming wrap->nt
open Go.Value renaming slice->ζ,string->ξ,pointer->π,bool->ω,tuple->θ,agg->ν
open Go.IntKind renaming i64->cJ
open Go renaming World->aq,Value->aB,heap_alloc_new->asr,undef->y,results->asu,FuncId->aZ,maxLen->cP,Ending->jA,TypeId->aY,info_parts->nG
open Go.World renaming cell?_of_block->iO,ownsRow_lit->ast,news_of_block->wu,cell?->gp
open Go.RowKit renaming intOf->dw
open _root_.Option renaming map->gI
open _root_.Array renaming getElem?_setIfInBounds->asv
open Go.Value renaming string->asw,cells->zR,slice->fM,oneCell'->zS,int->BX
open _root_.List renaming perm_append_comm_assoc->asx,length->BU,range->dA,perm_append_comm->C4,length_pos_iff->B8,length_range->asH,nodup_range->C3,map_take->asL,length->pA
open Go.RowKit.Below renaming refl->asy
open _root_.List.Pairwise renaming nil->y9,imp_of_mem->asz
open _root_.Nat renaming mod_eq_of_lt->asA,mul_le_mul_left->E8,add_assoc->jv,mul_add->asJ
open Go.DataW renaming trod->asB,trod_lt->asN
open Go.Builtin renaming append_->rD
open _root_.Classical renaming choose_spec->asC,choose->asI
open _root_.Int renaming mul_le_mul->asD,mul_assoc->asF,toNat->pD
open Go.ConcR renaming Payload->oM
open Go.ByteArray renaming toList_eq->asE
open Go.Calls renaming quiet_of_same->ur
open Go.Lib renaming repeatL_length->asG,repeatL->BN
open _root_.Bool renaming and_false->asK,and_comm->asM
open Go.Sem renaming run_bind->Cn
open Go.Ending renaming returned->aG
open Go.Obj renaming cells->au
open _root_.Bool renaming false->aa,true->M
open _root_.Option renaming none->aj,some->Z
open _root_.Or renaming inl->aA,inr->az
open Go.ConcR (Payload)
attribute [local go_sem ↓] Go.wp_at_zero Go.wp_at_succ
attribute [local go_sem] cz cE
open Go.Conc Go.RowKit
open Go.Proofs.Tryz
open FE FX Fx Tk
variable{w w' W w0 W2 w3 wr':aq}{v lv:aB}{k q m i n sb gb kh j p ab N sx lh D:Nat}{g:Cf}{rs lF:av Rq}{ft:Ft}{f f':Fx}{vs:av aB}{lo:av En}{L:cZ}{un wq wf:av Nat}{ts:av Tk}{now d':Int}{c':Cw}{H:Type}{spare:Nat->Bool}{held:Bool}{enc:aY×aB->H}
variable{k':Ck}{d:Int}{t:Nat}{l:av ByteArray}{r:Wi}
variable{X:Nat->Nat->av ByteArray}{c:Cw}{s:ByteArray}
variable{v:Nat->aB}{n:Nat->Nat}{W W':av Wi}{X:Nat->Nat->Nat->av ByteArray}
variable{n:Nat}{e:En}
variable{k:Ck}{t:av UInt8}{X:Nat->Nat->av ByteArray}
variable{s:Nat}{A:Nat->Prop}
variable{b:Jb}{t:Nat}
def P6(b l):(td (fP b l)).Perm (b.2++td l):=by unfold fP jw td;rw[rL,pH];refine(asx ..).E ?_;rw[<-rL,pL]
def r7{x}:∀{l:av Jb},x∈gO l s↔∃b∈l,b.s=s/\x∈b.2
 |[]=>⟨λh=>(by cases h),λ⟨b,h,_⟩=>(by cases h)⟩
 |c::l=>by show x∈(if c.s=s then c.2 else[])++gO l s↔_;rw[jg,r7 (l:=l)];constructor;rintro(h|⟨b,h1,a⟩);split at h;rename_i e;exact⟨c,fJ,e,h⟩;cases h;exact⟨b,gC _ h1,a⟩;rintro⟨b,h1,a,d⟩;obtain rfl|h1:=jh.1 h1;rw[aO a];exact .inl d;exact .inr ⟨b,h1,a,d⟩
def N2(a b:Rq):a.ss b=b.ss a:=by unfold Rq.ss;rw[asM (decide (a.m.3=0)),asM (decide (a.m.6<b.m.6+b.m.7))]
def aqA(h:∀r∈rs,r.Gd g)(a:i<=j):oo (rs.take i)<=oo (rs.take j):=by have e:=Nj ((rs.take j).take i) ((rs.take j).drop i);rw[pL,List.take_take,uE a]at e;have:=(k9 (rs:=(rs.take j).drop i) λx c=>h x (uA (BZ c))).1;omega
def xf.sc(h:xf g rs):rs.Pairwise λa b=>a.ss b=aa/\b.ss a=aa:=by
 rw[List.pairwise_iff_getElem];intro i j c e d;let l:=h.2 i _ (dj c);let o:=h.2 j _ (dj e);let q:=o8 (dj c);let t:=aqA (i:=i+1) (λr hr=>(h.1 r hr).1) d
 have:rs[i].ss rs[j]=aa:=by rw[Rq.ss];rw[lX (p:=rs[j].m.6<_) Y,asK,asK]
 exact⟨this,(N2 ..).E this⟩
def xf.asa{r}(h:r.Gd g/\r.m.6 %4=0):xf g [r]:=by
 refine⟨λx a=>by rw[iz.1 a];exact h,λi x a=>?_,λx a=>by rw[iz.1 a];rfl⟩;let c:=(bY.1 a).1;have e:i=0:=by simpa using c
 subst e;cases a;show r.m.6=r.m.6+0;omega
def xf.snoc{r mx}(h:xf g rs)(p:rs≠[])(l:r.Gd g/\r.m.6 %4=0)(hf:tN (rs[0]?.getD qZ) (rs[pA rs-1]?.getD qZ) r mx=M):xf g (rs++[r]):=by let q:=B8.2 p;let h0:(rs++[r])[0]? =rs[0]? :=BS q;obtain⟨z,a⟩:∃z,rs[pA rs-1]? =Z z:=⟨_,dj Y⟩;rw[a]at hf;rw[tN]at hf;simp[oK,cQ,mL,bne_iff_ne,ne_eq,tB]at hf;obtain⟨f1,f2,f3,f4,f5⟩:=hf;let t:=h.3 z (jC a);refine⟨λx hx=>?_,λi x hx=>?_,λx hx=>?_⟩;obtain hx|hx:=jg.1 hx;exact h.1 x hx;rw[iz.1 hx];exact l;rw[h0];rw[zH]at hx;split at hx;rename_i o;rw[C8 Y];exact h.2 i x hx;rename_i o;have d:=(bY.1 hx).1;simp[TO]at d;have e:i=pA rs:=Y;subst e;have c:=jC hx;rw[iz]at c;subst c;let u:=h.2 _ z a;have j:=o8 a;rw[show pA rs-1+1=pA rs by omega,pM]at j;rw[C8 (aR _),pM];omega;rw[h0];obtain hx|hx:=jg.1 hx;exact h.3 x hx;rw[iz.1 hx];exact f2.E t
structure Sj(g:Cf)(f:Fx)(rs:av Rq):Prop where
 st:xf g rs
 ne:rs≠[]
 ap:∀r∈rs,∀x∈td f.fl,r.ss x=aa
def L9(h:f.qm k=M):k.fst∈k.q/\k.eM f.g=M/\∀x∈td f.fl,k.fst.ss x=aa:=by
 rw[qm]at h;rw[cQ]at h;refine⟨?_,h.1,λx c=>?_⟩;obtain⟨r,l,d,e,_⟩:=yT h.1
 grind
 have a:=h.2;rw[Fx.held]at a;rw[uk,Bool.or_eq_false_iff]at a;obtain⟨b,j,m⟩:=BY.1 c
 grind
def M7:∀(n:Nat) (k:Ck) (rs:av Rq),(∀r∈k.q,r.Gd g/\r.m.6 %4=0)->Sj g f rs->Sj g f (f.eK s n k rs).2
 |0,k,rs,a,h=>h
 |n+1,k,rs,a,h=>by rw[eK];split;rename_i e;rw[along]at e;rw[cQ,cQ]at e;obtain⟨a1,c,a3⟩:=L9 e.1;refine M7 n _ _ (λr hr=>a r (Kr hr)) ⟨h.1.snoc h.2 (a _ a1) e.2.2,ay,λr hr=>?_⟩;obtain hr|hr:=jg.1 hr;exact h.3 r hr;rw[iz.1 hr];exact a3;exact h
def Tm{lm}(h:(W.map Wi.base)[j]? =Z lm):∃w,W[j]? =Z w/\lm=w.base:=by grind
def HK{w}(h:W[j]? =Z w):(W.map Wi.base)[j]? =Z w.base:=by rw[qC,h];rfl
def Lg.se(h:Lg g n (W.map Wi.base) f)(hb:∀(j:Nat) w,W[j]? =Z w->w.9= -1\/(w.2:Int)∈f.rh.map (·.ck))(jb:∀b∈f.fl,∃k,f.K[b.s]? =Z (Z k))(one:∀(t:Nat) x,f.K[t]? =Z (Z x)->x.1=k.1->t=s)(hk:f.K[s]? =Z (Z k))(aD:k.1=i)(v:cK g W i f.rh (gO f.fl s) k un wq wf ts)(Q:qK k b.2 k')(hR:Sj g f b.2)(hs:b.s=s)(N:f'.fl=fP b f.fl)(O:f'.rh=f.rh)(X:f'.K=f.K.set s (Z k'))(e4:f'.B=f.B):Lg g n (W.map Wi.base) f':=by
 have hq:=v.q;rw[Q.q,sV]at hq
 let q1:b.2.map (·.m)=(wq.take (pA b.2)).map (pg W):=by have:=congrArg (List.take (pA b.2)) hq;rw[C8 ay,qE ay,<-asL]at this;exact this
 let A:∀j∈wq,∃d,W[j]? =Z d/\d.u=i/\d.Good g:=λj l=>v.8 j (by simp[l])
 let bC:∀r∈b.2,∃j∈wq.take (pA b.2),∃d,W[j]? =Z d/\d.u=i/\r.m=d.msg:=λr hr=>by have h1:r.m∈b.2.map (·.m):=K2 hr;rw[q1]at h1;obtain⟨j,l,e⟩:=jY.1 h1;obtain⟨d,a1,C,_⟩:=A j (uA l);exact⟨j,l,d,a1,C,e.y.E (We a1)⟩
 let cks:b.2.map (·.m.5)=(wq.take (pA b.2)).map λj=>(iW W j:Int):=by
  have h1:b.2.map (·.m.5)=(b.2.map (·.m)).map (·.ck):=by rw[MB];rfl
  rw[h1,q1,MB];refine rN λj l=>?_;obtain⟨d,a1,_⟩:=A j (uA l);show(pg W j).5=_;rw[We a1,Gv a1]
 let hp:f'.gx.Perm (b.2.map (·.m.5)++f.gx):=by rw[Fx.gx];rw[N,O];refine(((P6 b f.fl).map _).append_left _).E ?_;rw[sV];exact asx ..
 let aL:(un++wq++(wf++ts.filterMap no)).Nodup:=by rw[<-lS];exact v.7
 let J:∀{a c:Nat} {x d:Wi},W[a]? =Z x->W[c]? =Z d->x.2=d.2->a=c:=λh1 G e=>h.2 _ _ _ _ (HK h1) (HK G) e
 let fresh:∀j∈wq,(iW W j:Int)∉f.gx:=λj l hm=>by obtain⟨d,a1,C,_⟩:=A j l;obtain hm|hm:=jg.1 hm;obtain⟨e,he,hc⟩:=jY.1 hm;exact v.nl j (Fl _ l) e he hc;obtain⟨x,hx,hc⟩:=jY.1 hm;obtain⟨c,R,aJ⟩:=BY.1 hx;obtain⟨T,aC⟩:=jb c R;obtain⟨j',y',b1,E,L⟩:=(h.1 c R).2.2 T aC x aJ;obtain⟨w',o,rfl⟩:=Tm b1;rw[Gv a1,E]at hc;have hc:(w'.2:Int)=(d.2:Int):=hc;have bn:=J o a1 Y;subst bn;rw[a1]at o;cases o;have L:(d.u:Int)=T.1:=L;let bh:=one c.s T aC (by rw[aD,<-L,C]);obtain⟨j2,y2,d1,d2,d3,_,d5⟩:=v.bw (r7.2 ⟨c,R,bh,aJ⟩);have:(d.2:Int)=(y2.2:Int):=congrArg (·.ck) (E.y.E d5);have:=J a1 d2 Y;subst this;exact(Ca.1 aL).2.2 j' (Kq _ l) j' (Fl _ d1) U
 let bE:(wq.take (pA b.2)).Nodup:=(Ca.1 (Ca.1 aL).1).2.1.sublist (List.take_sublist ..);let ak:wq++un=wq.take (pA b.2)++(wq.drop (pA b.2)++un):=by rw[<-lS,pL]
 refine⟨λc hc=>?_,h.2,h.3,?_,?_,λa c x d p hc hl H hm=>?_,by rw[O];exact h.7,by rw[e4];exact h.8,by rw[O,e4];exact h.9⟩
 ·rw[N]at hc;obtain rfl|hc:=yL.1 hc
  ·refine⟨hR.1,hR.2,λx hx r hr=>?_⟩;rw[X,hs]at hx
   let bA:x=k':=by obtain⟨_,e⟩|⟨e,_⟩:=oy hx;exact e;exact absurd rfl e
   obtain⟨j,_,d,a1,C,a3⟩:=bC r hr;exact⟨j,d.base,HK a1,a3,by rw[bA,Q.6,aD];exact congrArg _ C⟩
  obtain⟨o,c2,V⟩:=h.1 c hc;refine⟨o,c2,λx hx=>?_⟩;rw[X]at hx;obtain⟨e5,P⟩|⟨_,P⟩:=oy hx;rw[P,Q.6];exact V k (by rw[e5];exact hk);exact V x P
 rw[hp.nodup_iff,Ca];refine⟨?_,h.4,λa p c hc e=>?_⟩;rw[cks];refine Fp.2 (asz (λ{a c} p hc aX e=>aX ?_) bE);obtain⟨d,a1,_⟩:=A a (uA p);obtain⟨z,o,_⟩:=A c (uA hc);rw[Gv a1,Gv o]at e;exact J a1 o Y;subst e;rw[cks]at p;obtain⟨j,l,e⟩:=jY.1 p;exact fresh j (uA l) (e▸hc);rw[N];refine(List.Perm.pairwise_iff (λh=>⟨h.2,h.1⟩) (P6 b f.fl)).2 (Kt.2 ⟨hR.1.sc,h.5,λa p c hc=>?_⟩);have:=hR.3 a p c hc;exact⟨this,(N2 ..).E this⟩;rw[hp.mem_iff]at hm⊢;obtain hm|hm:=jg.1 hm;obtain⟨w,a1,rfl⟩:=Tm p;obtain⟨z,o,rfl⟩:=Tm hc;rw[cks]at hm;obtain⟨j,l,e⟩:=jY.1 hm;obtain⟨d,d1,d2,_⟩:=A j (uA l);rw[Gv d1]at e;have e:(d.2:Int)=(w.2:Int):=e;have:=J d1 a1 Y;subst this;rw[d1]at a1;cases a1;have H:z.u=w.u:=H
 by_cases hx:c∈wq++un
 refine Fl _ ?_;rw[cks];rw[ak]at hx;obtain hx|hx:=jg.1 hx;exact jY.2 ⟨c,hx,by rw[Gv o]⟩;have hi:=v.12;rw[ak]at hi;have:=(Kt.1 hi).2.2 j l c hx;omega;refine Kq _ ?_;obtain hbk|hbk:=hb c z o;have ah:=v.11 c z o (H.E d2) hbk;simp only[jg]at ah hx;obtain((h1|h1)|h1)|h1:=ah;exact absurd (.inr h1) hx;exact absurd (.inl h1) hx;refine Kq _ ?_;have G:pg W c∈wf.map (pg W):=K2 h1;rw[<-v.4]at G;obtain⟨x,bu,E4⟩:=jY.1 G;obtain⟨E,lD,_,bz⟩:=r7.1 bu;refine jY.2 ⟨x,BY.2 ⟨E,lD,bz⟩,?_⟩;rw[E4,We o];obtain⟨t,S,D⟩:=sX.1 h1
 match t,S,D with
 |.inr (m,e',x'),S,D=>
  have D:m=c:=ey D;subst D;obtain⟨en,g1,g2,_⟩:=v.tq _ _ _ S;rw[Gv o]at g2;exact Fl _ (jY.2 ⟨en,g1,g2⟩)
 exact Fl _ hbk;exact Kq _ (h.6 a c x d p hc hl H hm)
def iG(g:Cf)(W:av Wi)(i s:Nat)(f:Fx):Prop:=∃k,f.K[s]? =Z (Z k)/\k.1=i/\wO g W i f.rh (gO f.fl s) k
def eT.u(h:eT g W i s f):iG g W i s f:=by
 let⟨k,a,b,_,c⟩:=h
 exact⟨k,a,b,c⟩
def iG.fY(h:iG g W i s f)(j):iG g W i s (f.fY j):=by
 let⟨k,b,c,m,p,n,l,d⟩:=h
 rcases a:f.K[j]? with _|o;rw[GB (az a)];exact⟨k,b,c,m,p,n,l,d⟩;obtain _|k':=o;rw[GB (aA a)];exact⟨k,b,c,m,p,n,l,d⟩;rw[Mf a]
 by_cases e:j=s
 subst e;rw[b]at a;cases a;exact⟨k.dh f.g,iy (bY.1 b).1,c,m,p,n,l,d.like U U U U U⟩;exact⟨k,(gQ e).E b,c,m,p,n,l,d⟩
def uU{e d:Type}{P:d->Prop}{op}(h:∀b a,P b->P (op b a)):∀(l:av e) (b:d),P b->P (l.foldl op b)
 |[],b,c=>c
 |a::l,b,c=>uU h l (op b a) (h b a c)
def iG.early{g:Cf}{W:av Wi}{i s}{f:Fx}(h:iG g W i s f):iG g W i s f.early:=by exact uU (λb a c=>c.fY a) _ _ h
def Ip:∀(l:av Jb),gO l s=[]->ir l s=0
 |[],_=>rfl
 |b::l,h=>by
  have h:(if b.s=s then b.2 else[])++gO l s=[]:=h
  let⟨a,c⟩:=Fc.1 h
  show(if b.s=s then iJ b.2 else 0)+ir l s=0;rw[Ip l c];split;rename_i e;rw[aO e]at a;rw[a];rfl;rfl
def iG.read(hI:g.Is)(wo:mA W)(v:f.g=g)(h:iG g W i s f)(hm:∀k,f.K[s]? =Z (Z k)->k.7=ir f.fl s):eT g W i s f.po:=by
 let⟨k,c,d,z,u,t,n,a⟩:=h
 let⟨q,r,p,x,j,l,m⟩:=a.dQ hI wo λw=>by
  rw[hm k c]
  let⟨_,_,e,_⟩:=a.1.resolve_left Y
  have b:=a.4;rw[e]at b;exact Ip _ (Fi.1 b)
 refine⟨k.dQ g,?_,m.E d,l,r,u++q,t,n++p,j⟩;show(f.K.map λo=>o.map (Ck.dQ f.g))[s]? =_
 grind
def eT.eV(h:eT g W i s f)(j):eT g W i s (f.eV j):=by
 rcases ek:f.K[j]? with _|o;rw[AT (az ek)];exact h;obtain _|k':=o;rw[AT (aA ek)];exact h;rw[DS ek]
 let⟨k,a⟩:=h.at (k':=k'.num f.4) ek U U (Nz k'.q f.4) U U U
 exact⟨k,a⟩
def eT.mG(h:eT g W i s f):eT g W i s f.mG:=uU (λb a c=>c.eV a) _ _ h
def eT.dP(h:eT g W i s f)(j):eT g W i s (f.dP j):=by
 let⟨k,a,b,c,d⟩:=h
 rw[Fx.dP];split;rename_i n l;split;rename_i m
 have e:j≠s:=λe=>by
  subst e;rw[a]at l;cases l;rw[Ck.gone]at m
  grind
 exact⟨k,(gQ e).E a,b,c,d⟩;exact⟨k,a,b,c,d⟩;exact⟨k,a,b,c,d⟩
def eT.bQ(h:eT g W i s f)(j):eT g W i s (f.bQ j):=uU (λb a c=>c.dP a) _ _ h
def aaq(f:Fx):f.uS.g=f.g/\f.uS.fl=f.fl/\f.uS.7=f.7/\∀(s:Nat) k,f.uS.K[s]? =Z (Z k)->∃d,f.K[s]? =Z (Z d)/\k.7=d.7:=by
 refine uU (P:=λb:Fx=>b.g=f.g/\b.fl=f.fl/\b.7=f.7/\∀(s:Nat) k,b.K[s]? =Z (Z k)->∃d,f.K[s]? =Z (Z d)/\k.7=d.7) (λb a c=>?_) _ _ ⟨U,U,U,λs k h=>⟨k,h,U⟩⟩;rw[Fx.fY];split;rename_i l j;refine⟨c.1,c.2.1,c.2.2.1,λs k h=>?_⟩;have h:=h
 by_cases e:a=s
 subst e;rw[iy (bY.1 j).1]at h;cases h;exact c.2.2.2 a l j;rw[gQ e]at h;exact c.2.2.2 s k h;exact c
def iG.qk(hR:f.Rest)(hc:f.6<1073741824)(d:f.g=g)(u:f.7=aa)(wo:mA W)(HJ:∀b∈f.fl,q9 W i s b)(h:iG g W i s f):eT g W i s f.qk:=by
 have hI:=hR.1.g;rw[d]at hI;obtain⟨l,m,w,x⟩:=aaq {f with ol:=f.6+1}
 let e:f.early.se=f.early.po.mG:=by rw[Fx.se];rw[show f.early.7=aa from w.E u];rfl
 let n:eT g W i s f.early.se:=by rw[e];refine(h.early.read hI wo (l.E d) λk t=>?_).mG;obtain⟨v,o,p⟩:=x s k t;refine(p.E (hR.1.4 s v o).2.2).E ?_;exact congrArg (ir · s) m.y
 let j:=(hR.ok hc).10
 let r:f.early.se.g=g:=by have:=j.1;rw[e];refine uU (P:=λb:Fx=>b.g=g) (λb a c=>?_) _ _ (l.E d);exact(WA b a).2.1.E c
 let q:f.early.se.fl=f.fl:=by rw[e];refine uU (P:=λb:Fx=>b.fl=f.fl) (λb a c=>?_) _ _ m;rw[Fx.eV];split<;>exact c
 exact((eT.fin wo _ _ j r (by rw[q];exact HJ) n).rn _ _ _).bQ _
def TL:∀(n:Nat) (f:Fx),f.nK->(Fx.fin n f).nK
 |0,f,h=>h
 |n+1,f,h=>by rw[Fx.fin];split;exact h;rename_i b r d;split;rename_i a;exact TL n _ (wY.2 f b r h d a).2.2;exact h
def Jr:∀(n p:Nat) (f:Fx),f.mw->(Fx.rn n p f).mw
 |0,p,f,h=>h
 |n+1,p,f,h=>by
  rw[Fx.rn];split;rename_i a;cases e:f.bg.2 with
  |true=>
   rw[aO U];exact Jr n 0 _ (vw.2 f h a.1 e)
  |false=>
   rw[aI aM];exact Jr n (p+1) _ (vw.3 f h e)
  exact h
def Xu(h:f.Rest)(hc:f.6<1073741824):f.qk.Rest/\f.qk.6=f.6+1:=
 YB h (Jr _ _ _ (TL _ _ (h.ok hc).10).trn)
def Hot(W:av Wi)(f:Fx):Prop:=∀(s i:Nat) k,f.K[s]? =Z (Z k)->k.1=i->∀b∈f.fl,q9 W i s b
structure eH(g:Cf)(t:Nat)(f:Fx)(c:Cw):Prop where
 is:g.Is
 rest:f.Rest
 gg:f.g=g
 stop:f.stop=aa
 bF:f.bF=c.S.length
 dO:f.ol<=t/\(0<=c.3/\c.3<=t)/\c.S.length<=t+8/\c.W.length<=t/\c.4<=16
 ck:c.W.length<=c.ck/\c.ck<=60000
 one:∀(j:Nat) r,c.W[j]? =Z r->r.ck<=c.ck/\r.u<c.S.length/\0<=r.ln/\r.ln<=65535
 two:∀(j a:Nat) r b,c.W[j]? =Z r->c.W[a]? =Z b->r.ck=b.ck->j=a
 hd:∀(i:Nat) s,c.S[i]? =Z s->s.hd=⟨#[]⟩
 aC:∀(i:Nat) s,c.S[i]? =Z s->s.3=aa->∃d,iG g c.W i d f
def eH.wo(h:eH g t f c):mA c.W:=⟨by have:=h.7;omega,λj r e=>by have:=h.8 j r e;have:=h.7;omega,λj i r k a b _ d=>h.9 j i r k a b d⟩
def eH.stay(h:eH g t f c):eH g (t+1) f c.pv:=
 ⟨h.1,h.2,h.3,h.4,h.5,by have:=h.6;show f.6<=(t+1:Nat)/\(0<=c.3+1/\c.3+1<=(t+1:Nat))/\pA c.S<=t+1+8/\pA c.W<=t+1/\c.4<=16;omega,h.7,h.8,h.9,h.hd,h.aC⟩
def eH.qk(h:eH g t f c)(HJ:Hot c.W f)(q:t<1073741824):eH g (t+1) f.qk c.pv:=by
 let b:f.6<1073741824:=by have:=h.6.1;omega
 obtain⟨j,p⟩:=Xu h.2 b;let a:=Jn f;refine⟨h.1,j,(congrArg (·.1) a).E h.3,(congrArg (·.2.2) a).E h.4,(congrArg (·.2.1) a).E h.5,?_,h.7,h.8,h.9,h.hd,λi s m l=>?_⟩;have:=h.6
 grind
 obtain⟨e,d⟩:=h.aC i s m l;obtain⟨k,n,o,_⟩:=id d;exact⟨e,(d.qk h.2 b h.3 h.4 h.wo (HJ e i k n o)).u⟩
def eH.dG(h:eH g t f c)(b:f'.Rest)(d:f'=f\/∃u,f'=f.sI u/\1<=u.1/\u.1<=d')(p:c.4<=d'/\d'<=16):eH g (t+1) f' {c.pv with dl:=d'}:=by
 let a:f'.K=f.K/\f'.fl=f.fl/\f'.g=f.g/\f'.7=f.7/\f'.3=f.3/\f'.6=f.6/\f'.rh=f.rh:=by obtain rfl|⟨u,rfl,_⟩:=d<;>exact⟨rfl,rfl,rfl,rfl,rfl,rfl,rfl⟩
 refine⟨h.1,b,a.2.2.1.E h.3,a.2.2.2.1.E h.4,a.2.2.2.2.1.E h.5,?_,h.7,h.8,h.9,h.hd,λi s n m=>?_⟩;have:=h.6
 grind
 obtain⟨o,k,e,j,l⟩:=h.aC i s n m;exact⟨o,k,by rw[a.1];exact e,j,by rw[a.2.1,a.2.2.2.2.2.2];exact l⟩
structure Bk(W:av Wi)(now:Int)(lo:av En):Prop where
 one:∀(j:Nat) w,W[j]? =Z w->w.at_<=now/\(w.bk= -1\/(0<=w.bk/\w.bk<=now)/\∃e∈lo,e.ck=w.ck/\e.er=w.er/\e.tx=w.tx.data.toList)
 nQ:∀(i j:Nat) x a,W[i]? =Z x->W[j]? =Z a->0<=a.bk->a.bk<x.at_->∀(p:Nat) e,lo[p]? =Z e->e.ck=x.ck->∃(p':Nat) (b:En),p'<p/\lo[p']? =Z b/\b.ck=a.ck
def Ck.nJ(k:Ck):Prop:=k.3=4/\k.q=[]/\pC k.4=0/\pC k.H=0
structure ed(f f':Fx):Prop where
 kt:∀(s:Nat) k',f'.K[s]? =Z (Z k')->∃k,f.K[s]? =Z (Z k)/\k'.no=k.no/\(k.nJ->k'.nJ)
 fl:f'.fl=f.fl
 rh:f'.rh=f.rh
 dk:f'.B=f.B
def Bk.rh(h:Bk W now lo)(l):Bk W now (lo++l):=by refine⟨λj w d=>⟨(h.1 j w d).1,(h.1 j w d).2.imp id λ⟨a,e,b,c⟩=>⟨a,e,Fl _ b,c⟩⟩,λi j x u E d C G p e o D=>?_⟩;rw[zH]at o;split at o;rename_i H;obtain⟨q,m,a1,v,a3⟩:=h.2 i j x u E d C G p e o D;exact⟨q,m,a1,by rw[BS Y];exact v,a3⟩;rename_i H;rcases(h.1 j u d).2 with r|⟨_,m,r,z,_⟩;omega;obtain⟨q,t⟩:=Km r;let B:=(bY.1 t).1;exact⟨q,m,Y,by rw[BS B];exact t,z⟩
def Bk.pv{F3}(h:Bk W now lo)(l:now<=F3):Bk W F3 lo:=by refine⟨λj w e=>?_,h.2⟩;obtain⟨a,b⟩:=h.1 j w e;exact⟨Y,b.imp id λ⟨c,d⟩=>⟨Y,d⟩⟩
def Bk.off(h:Bk W now lo)(j:Nat)(w:Wi)(c:W[j]? =Z w):w.9= -1\/(w.2:Int)∈lo.map (·.ck):=
 (h.1 j w c).2.imp id λ⟨_,e,a,b,_⟩=>jY.2 ⟨e,a,b⟩
def ed.refl(f):ed f f:=⟨λs k h=>⟨k,h,U,id⟩,U,U,U⟩
def ed.E{f'':Fx}(h:ed f f')(a:ed f' f''):ed f f'':=
 ⟨λs k e=>by obtain⟨j,a1,b,a3⟩:=a.1 s k e;obtain⟨l,b1,c,d⟩:=h.1 s j a1;exact⟨l,b1,b.E c,λx=>a3 (d x)⟩,a.2.E h.2,a.3.E h.3,a.4.E h.4⟩
def Lg.same{V:av Wi}(h:Lg g n V f)(o:∀b∈f.fl,∀k',f'.K[b.s]? =Z (Z k')->∃k,f.K[b.s]? =Z (Z k)/\k'.1=k.1)(a:f'.fl=f.fl)(c:f'.rh=f.rh)(e:f'.B=f.B):Lg g n V f':=by
 let j:f'.gx=f.gx:=by unfold Fx.gx;rw[a,c]
 refine⟨λb d=>?_,h.2,h.3,by rw[j];exact h.4,by rw[a];exact h.5,by rw[j];exact h.6,by rw[c];exact h.7,by rw[e];exact h.8,by rw[c,e];exact h.9⟩;rw[a]at d;obtain⟨a1,l,a3⟩:=h.1 b d;refine⟨a1,l,λk p=>?_⟩;obtain⟨q,b1,m⟩:=o b d k p;rw[m];exact a3 q b1
def ed.lg{V:av Wi}(m:ed f f')(h:Lg g n V f):Lg g n V f':=h.same (λb _ k c=>by obtain⟨d,b1,a,_⟩:=m.1 _ k c;exact⟨d,b1,a⟩) m.2 m.3 m.4
def TB(c:f.K[s]? =Z (Z k))(a:k'.1=k.1)(b:k.nJ->k'.nJ):ed f (f.at s k'):=
 ⟨λt x d=>by obtain⟨rfl,rfl⟩|⟨_,e⟩:=oy d;exact⟨k,c,a,b⟩;exact⟨x,e,rfl,id⟩,rfl,rfl,rfl⟩
def aqB(f j):ed f (f.fY j):=by rw[Fx.fY];split;rename_i k a;exact TB a U id;exact .refl f
def aqL(f j):ed f (f.eV j):=by rw[Fx.eV];split;rename_i k a;have:=TB (k':=k.num f.4) a U λh=>⟨h.1,by show(bL f.4 k.q).1=[];rw[h.2.1];rfl,h.2.2⟩;exact⟨this.1,this.2,this.3,this.4⟩;exact .refl f
def o9(f j):ed f (f.dP j):=by rw[Fx.dP];split;split;exact⟨λs k a=>⟨k,(xD a).2,U,id⟩,U,U,U⟩;exact .refl f;exact .refl f
def aqM(f):ed f f.po:=by
 refine⟨λs k' b=>?_,U,U,U⟩;obtain⟨k,a,rfl⟩:=wx b;refine⟨k,a,(Iz f.g (pC k.4+1) k).1,λh=>?_⟩;have:k.dQ f.g=k:=Xj (λhm=>hm.1 h.1) _
 rwa [this]
def b9{op}(h:∀f j,ed f (op f j))(l:av Nat)(f):ed f (l.foldl op f):=uU (λb a c=>c.E (h b a)) l f (.refl f)
def EN(f:Fx)(P:Nat->Nat->Prop):Prop:=∀(s:Nat) k,f.K[s]? =Z (Z k)->k.nJ\/∃i:Nat,P i s
def EN.to{P P'}(h:EN f P)(c:∀(s:Nat) k',f'.K[s]? =Z (Z k')->∃k,f.K[s]? =Z (Z k)/\k'.1=k.1/\(k.nJ->k'.nJ))(a:∀i s,P i s->P' i s):EN f' P':=λs k' d=>by obtain⟨k,a1,_,a3⟩:=c s k' d;exact(h s k a1).imp a3 λ⟨i,b⟩=>⟨i,a i s b⟩
def Lg.HJ(h:Lg g n (W.map Wi.base) f)(hc:f.Core):Hot W f:=λs i k o v b a p x q j t c w e=>by obtain⟨_,_,_,l,d⟩:=hc.8 b a;obtain⟨r,u,a1,m,a3⟩:=(h.1 b a).2.2 l d x q;rw[m]at e;have e:=e;have:=h.2 r j u t.base a1 (HK c) (by grind);subst this;rw[HK c]at a1;cases a1;have a3:=a3;exact p (hc.7 b.s s l k d o (by grind))
def L6{B}:∀{rs:av Rq} {k:Ck},k.3=4->(k.pr B ft rs).H=k.H
 |[],k,_=>rfl
 |r::rs,k,h=>by
  let e:k.hrd B ft r={k with bw:=k.6-1,pc:=k.7-sy r.m}:=by unfold Ck.hrd Ck.nQ;rw[aO h]
  show((k.hrd B ft r).pr B ft rs).H=_;rw[e,L6 (by exact h)]
structure CM(g:Cf)(n:Nat)(W:av Wi)(now:Int)(A:Nat->Prop)(f:Fx):Prop where
 lg:Lg g n (W.map Wi.base) f
 bk:Bk W now f.rh
 hO:EN f λi s=>A i/\eT g W i s f
def D0.kA(hc:f.Core):∀b∈f.fl,∃k,f.K[b.s]? =Z (Z k):=λb a=>by obtain⟨_,_,_,k,c⟩:=hc.8 b a;exact⟨k,c⟩
def CM.fin(w:g.1=4*(n:Int))(wo:mA W):∀(m:Nat) (f:Fx),f.nK->f.g=g->CM g n W now A f->CM g n W now A (Fx.fin m f)
 |0,f,_,_,h=>h
 |m+1,f,a,D,h=>by
  rw[Fx.fin];split;exact h;rename_i b r j;split;rename_i C;let o:b∈f.fl:=by rw[j];exact fJ
  let u:=(wY.2 f b r a j C).2.2;let v:=(uR {f with fl:=r} b).2.2.E D;have t:=u.1.B;rw[v]at t;obtain⟨k,p⟩:=D0.kA a.1 b o;have E:=(a.1.8 b o).1;refine CM.fin w wo m _ u v ⟨h.1.does w (D0.kA a.1) j p,?_,λs k' c=>?_⟩;rcases P5 {f with fl:=r} b with e|⟨_,_,e⟩;rw[e];exact h.2;rw[e];exact h.2.rh _
  obtain⟨d,a1,H,a3⟩:∃d,f.K[s]? =Z (Z d)/\k'.1=d.1/\(d.nJ->k'.nJ):=by rw[sE (f:={f with fl:=r}) p]at c;rcases oy c with⟨rfl,rfl⟩|⟨_,e⟩;have l:=CZ (({f with fl:=r}:Fx).dk.pj b.2 b.3).B b.3 b.2 k E.3;rw[pM];exact⟨k,p,l.1,λh=>⟨l.2.E h.1,l.q.E h.2.1,by rw[l.4];exact h.2.2.1,by rw[L6 h.1];exact h.2.2.2⟩⟩;exact⟨k',e,U,id⟩
  refine(h.3 s d a1).imp a3 λ⟨i,z,c⟩=>⟨i,z,c.does wo j ?_ t⟩;obtain⟨G,b1,x,_⟩:=id c;exact h.1.HJ a.1 s i G b1 x b o;exact h
def arq{r:Rq}{a:Wi}(hm:r.m=a.msg)(b:a.Good g):r.m.6 %4=0:=by rw[hm];exact b.3.2.1
def CM.use(D:f.mw)(R:f.g=g)(h:CM g n W now A f):CM g n W now A f.bg.1:=by
 by_cases B:∃k,f.K[f.8]? =Z (Z k)
 ·obtain⟨k,b⟩:=B
  let mv:∀{li:Fx},f.bg.1=li->(∀(s:Nat) k',li.K[s]? =Z (Z k')->∃k,f.K[s]? =Z (Z k)/\k'.1=k.1/\(k.nJ->k'.nJ))->EN li λi s=>A i/\eT g W i s li:=λ{li} e hF=>by subst e;exact h.3.to hF λi s p=>⟨p.1,p.2.use⟩
  let a:(f.aT k).q=k.q/\(f.aT k).3=k.3/\(f.aT k).1=k.1/\(f.aT k).4=k.4/\(f.aT k).H=k.H:=by rw[Fx.aT];split<;>exact⟨U,U,U,U,U⟩
  let m1:ed f (f.om k):=by have:=TB b a.2.2.1 λh=>⟨a.2.1.E h.1,a.1.E h.2.1,by rw[a.2.2.2.1];exact h.2.2.1,by rw[a.2.2.2.2];exact h.2.2.2⟩;exact⟨this.1,this.2,this.3,this.4⟩
  let o:(f.om k).K[f.8]? =Z (Z (f.aT k)):=Pw D.1;let u:=D.1.om b;have c:=Bs b;split at c
  ·rename_i Q;split at c
   ·rename_i aK;rw[c];let d:f.bg.1=(f.om k).gN f.8 (f.aT k):=by rw[c]
    obtain⟨f1,f2,f3⟩:=L9 Q
    let G:¬k.nJ:=λv=>by rw[a.1,v.2.1]at f1;cases f1
    have X:∃i,A i/\eT g W i f.8 f:=(h.3 f.8 k b).resolve_left G;obtain⟨i,_,k0,J,s2,s3,un,wq,wf,ts,ht⟩:=X;rw[b]at J;cases J;let z:cK g W i (f.om k).rh (gO (f.om k).fl f.8) (f.aT k) un wq wf ts:=ht.like a.2.1 (by grind) (by rw[a.1]) (by grind) (by rw[Fx.aT];split<;>rfl)
    let E:∀r∈(f.aT k).q,r.Gd g/\r.m.6 %4=0:=λr hr=>by have H:=(u.4 _ _ o).1.q r hr;let N:(f.om k).g=g:=R;rw[N]at H;have C:r.m∈(f.aT k).q.map (·.m):=K2 hr;rw[z.q]at C;obtain⟨j,T,O⟩:=jY.1 C;obtain⟨aS,b1,b2,L⟩:=z.8 j (by simp[T]);exact⟨H,arq (O.y.E (We b1)) L⟩
    let S:Sj g (f.om k) ((f.om k).eK f.8 (pA (f.aT k).next.q) (f.aT k).next [(f.aT k).fst]).2:=M7 _ _ _ (λr hr=>E r (Kr hr)) ⟨.asa (E _ f1),ay,λr hr=>by rw[iz.1 hr];exact f3⟩;obtain⟨l,P,g2⟩:=GR (f:=f.om k) (s:=f.8) (pA (f.aT k).next.q) (f.aT k).next [(f.aT k).fst]
    have w:=(MC (Iw f2)).E g2;rw[<-P]at w;refine⟨(m1.lg h.1).se (h.2.off) (D0.kA u) (λt x hx e=>u.7 t f.8 x _ hx o e) o (a.2.2.1.E s2) z w S U U U U U,h.2,mv d λs k' p=>?_⟩;obtain⟨rfl,rfl⟩|⟨_,e⟩:=oy p;exact⟨k,b,w.6.E a.2.2.1,λv=>absurd v G⟩;exact m1.1 s k' e
   let d:f.bg.1=f.om k:=by rw[c]
   rw[c];exact⟨m1.lg h.1,h.2,mv d m1.1⟩
  let d:f.bg.1=(f.om k).at f.8 (f.aT k).px:=by rw[c]
  let m2:=m1.E (TB (k':=(f.aT k).px) o U id);rw[c];exact⟨m2.lg h.1,h.2,mv d m2.1⟩
 rw[Js λk b=>B ⟨k,b⟩];exact h
def O1(f:Fx):f.bg.1.g=f.g:=by rw[Fx.bg];split;split;split<;>rfl;rfl;rfl
def CM.rn:∀(m p:Nat) (f:Fx),f.mw->f.g=g->CM g n W now A f->CM g n W now A (Fx.rn m p f)
 |0,p,f,_,_,h=>h
 |m+1,p,f,b,c,h=>by
  let a:=h.use b c;rw[Fx.rn];split;rename_i j;cases e:f.bg.2 with
  |true=>
   rw[aO U];exact CM.rn m 0 _ (vw.2 f b j.1 e) ((O1 f).E c) a
  |false=>
   rw[aI aM];refine CM.rn m (p+1) _ (vw.3 f b e) ((O1 f).E c) ⟨?_,a.2,a.3⟩;exact ed.lg (f:=f.bg.1) ⟨λs k d=>⟨k,d,U,id⟩,U,U,U⟩ a.1
  exact h
def Xb:∀(m:Nat) (f:Fx),(Fx.fin m f).g=f.g
 |0,f=>rfl
 |m+1,f=>by rw[Fx.fin];split;rfl;split;exact(Xb m _).E (uR _ _).2.2;rfl
structure Pe(g:Cf)(n:Nat)(W:av Wi)(now:Int)(A:Nat->Prop)(f:Fx):Prop where
 lg:Lg g n (W.map Wi.base) f
 bk:Bk W now f.rh
 hO:EN f λi s=>A i/\iG g W i s f
def Pe.qk(z:g.1=4*(n:Int))(wo:mA W)(hR:f.Rest)(hc:f.6<1073741824)(d:f.g=g)(B:f.7=aa)(h:Pe g n W now A f):Pe g n W now A f.qk:=by
 have hI:=hR.1.g;rw[d]at hI;obtain⟨r,D,E,G⟩:=aaq {f with ol:=f.6+1}
 let e:f.early.se=f.early.po.mG:=by rw[Fx.se];rw[show f.early.7=aa from E.E B];rfl
 let J:ed f f.early:=by let H:ed f {f with ol:=f.6+1}:=⟨λs k j=>⟨k,j,U,id⟩,U,U,U⟩;exact H.E (b9 aqB _ _)
 let m:ed f f.early.se:=by rw[e];exact J.E ((aqM _).E (b9 aqL _ _))
 let p:=(hR.ok hc).10
 let q:f.early.se.g=g:=by rw[e];refine uU (P:=λb:Fx=>b.g=g) (λb a x=>?_) _ _ (r.E d);exact(WA b a).2.1.E x
 let K:CM g n W now A f.early.se:=by refine⟨m.lg h.1,by rw[m.3];exact h.2,h.3.to m.1 λi s c=>⟨c.1,?_⟩⟩;rw[e];refine(c.2.early.read hI wo (r.E d) λk j=>?_).mG;obtain⟨C,t,v⟩:=G s k j;refine(v.E (hR.1.4 s C t).2.2).E ?_;exact congrArg (ir · s) D.y
 let L:CM g n W now A f.early.se.pw:=K.fin z wo _ _ p q;let w:=(TL (pA f.early.se.fl) _ p).trn;let o:CM g n W now A f.early.se.pw.pl:=L.rn _ _ _ w ((Xb _ _).E q);let l:ed f.early.se.pw.pl f.qk:=b9 o9 _ _;exact⟨l.lg o.1,by rw[l.3];exact o.2,o.3.to l.1 λi s c=>⟨c.1,(c.2.bQ _).u⟩⟩
variable{s:Sl}{b:Bool}
def eH.Jp(h:eH g t f c)(m:c.S[i]? =Z s)(l:s.3=aa)(a:f.Is i sx k):wO g c.W i f.rh (gO f.fl sx) k:=by
 obtain⟨o,n,d,j,p⟩:=h.aC i s m l;have e:=a.3 o n d j;subst e;have:=a.1
 grind
def eH.Ho(h:eH g t f c)(a:c.S[i]? =Z s)(j:s.3=aa):s.2=⟨#[]⟩/\∃sx k,f.Is i sx k:=by
 let⟨sx,k,d,e,_⟩:=h.aC i s a j
 exact⟨h.hd i s a,sx,k,e▸h.2.1.is d⟩
def wO.open{jr}(h:wO g W i lo jr k):k.3=2\/k.3=0:=by obtain⟨d,j,e,a,h⟩:=h;exact h.1.imp id (·.1)
def eH.ask{n:Int}(hn:0<=n/\n<=(t+1:Nat))(h:eH g t f c)(ah:∀e∈f.rh,e.2<=c.5)(J:c.S[i]? =Z s)(V:s.3=aa)(m:f.Is i sx k)(uW:c.5<60000)(A:CI g f (c.til n) i sx k b f' c' r):b=M/\eH g (t+1) f' c':=by
 have v:=h.Jp J V m;let hp:=v.open;let hi:=(bY.1 J).1;obtain⟨a1,H,a3⟩:=A.2;have H:r.2=c.5+1:=H;have hr:=h.2.sp m.1 r.dV;let xL:=h.6;let aJ:=h.7
 have aD:f.sp sx k r.dV=(f,6)\/f.sp sx k r.dV=(f.at sx (k.sp r.dV),0):=by
  rw[sp]
  grind
 obtain e|e:=aD
 ·obtain⟨_,w,a,z⟩|⟨q,_⟩:=A.H
  ·rw[e]at a hr;have a:=a;subst a z;refine⟨w,h.1,h.2,h.3,h.4,h.5,?_,?_,λj x l=>?_,h.9,h.hd,h.aC⟩;show f'.6<=(t+1:Nat)/\(0<=n/\n<=(t+1:Nat))/\pA c.S<=t+1+8/\pA c.W<=t+1/\c.4<=16;omega;show pA c.W<=c.5+1/\c.5+1<=60000;omega;have:=h.8 j x l
   grind
  rw[e]at q;exact absurd U q
 obtain⟨q,_⟩|⟨_,w,a,z⟩:=A.H;rw[e]at q;exact absurd q (by show ¬(0:Int)=6;decide);rw[e]at w a hr;have a:f'=f.at sx (k.sp r.dV):=a;subst a z;let aQ:=A.1.pu h.1;let fresh:∀(j:Nat) x,c.W[j]? =Z x->x.2≠r.2:=λj x l=>by have:=h.8 j x l;omega
 have B:∀{j:Nat} {x:Wi},(c.W++[r])[j]? =Z x->c.W[j]? =Z x\/(j=pA c.W/\x=r):=λ{j x} l=>by grind
 refine⟨w,h.1,hr,h.3,h.4,h.5,?_,?_,λj x l=>?_,λj L x O l af p=>?_,h.hd,λK s' an X=>?_⟩;show f.6<=(t+1:Nat)/\(0<=n/\n<=(t+1:Nat))/\pA c.S<=t+1+8/\pA (c.W++[r])<=t+1/\c.4<=16
 grind
 show(c.W++[r]).length<=c.5+1/\c.5+1<=60000
 grind
 show x.2<=c.5+1/\x.u<pA c.S/\0<=x.6/\x.6<=65535;obtain d|⟨_,rfl⟩:=B l;have:=h.8 j x d;omega;omega;obtain d|⟨d,P⟩:=B l<;>obtain o|⟨o,Q⟩:=B af;exact h.9 j L x O d o p;exact absurd (p.E (by rw[Q])) (fresh j x d);exact absurd (p.y.E (by rw[P])) (fresh L O o);omega
 by_cases R:K=i
 subst R;obtain⟨D,G,E,C,v⟩:=v;exact⟨sx,k.sp r.dV,iy (bY.1 m.1).1,m.2,D++[pA c.W],G,E,C,v.sp a1 A.1 fresh λe p=>by have:=ah e p;omega⟩;obtain⟨N,k2,d,o,D,G,E,C,T⟩:=h.aC K s' an X
 let ak:sx≠N:=λe=>by subst e;have:=m.1;rw[d]at this;cases this;have:=m.2;omega
 exact⟨N,k2,(gQ ak).E d,o,D,G,E,C,T.other Y⟩
def iG.dP(h:iG g W i sx f)(j):iG g W i sx (f.dP j):=by
 let⟨k,a,d,b⟩:=h
 rw[Fx.dP];split;rename_i n m;split;rename_i l
 have e:j≠sx:=λe=>by subst e;rw[a]at m;cases m;rw[Ck.gone]at l;obtain h3|h3:=b.open<;>rw[h3]at l<;>simp at l
 exact⟨k,(gQ e).E a,d,b⟩;exact⟨k,a,d,b⟩;exact⟨k,a,d,b⟩
def iG.bQ(h:iG g W i sx f)(j):iG g W i sx (f.bQ j):=uU (λb a d=>d.dP a) _ _ h
def MA(f:Fx)(j):(f.bQ j).g=f.g/\(f.bQ j).7=f.7/\(f.bQ j).3=f.3/\(f.bQ j).6=f.6:=by
 refine uU (P:=λb:Fx=>b.g=f.g/\b.7=f.7/\b.3=f.3/\b.6=f.6) (λb a d=>?_) _ _ ⟨U,U,U,U⟩;rw[Fx.dP]
 grind
def WJ(ts W):pA (dS now W ts)=pA W:=by
 refine uU (P:=λb:av Wi=>pA b=pA W) (λb a d=>?_) ts W U;unfold on
 grind
def NG{x}(ts)(h:(dS now W ts)[j]? =Z x):∃lm,W[j]? =Z lm/\x.2=lm.2/\x.u=lm.u/\x.6=lm.6:=by
 rcases e:W[j]? with _|lm;rw[DW ts W e]at h;cases h
 by_cases hm:j∈ts.filterMap no
 obtain⟨b,z,_,a⟩:=AV ts W lm hm e;rw[a]at h
 grind
 rw[tS ts W hm,e]at h
 grind
def Yy(k:Ck)(h:pC k.H<=1048576):k.pl 1099511627776={k with H:=⟨#[]⟩}:=by
 unfold Ck.pl Ck.much Ck.take;rw[aI aM,show(min 1099511627776 (pC k.H:Int)).toNat=pC k.H by omega]
 congr 1
 refine rG (BB.1 ?_)
 simp_all
def eH.take{n:Int}(O:0<=n/\n<=(t+1:Nat))(h:eH g t f c)(Q:c.S[i]? =Z s)(J:s.3=aa)(b:f.Is i sx k):∃m p o a,cK g c.W i f.rh (gO f.fl sx) k m p o a/\eH g (t+1) (f.take sx k 1099511627776) {c.til n with W:=dS n c.W a}:=by
 obtain⟨m,p,o,a,q⟩:=h.Jp Q J b;let ho:=(h.2.1.4 sx k b.1).1.H;let r4:=(h.2.1.4 sx k b.1).2.2;let Vj:=h.2.1.pc sx;let c7:=h.2.1.g.9;let A:=Yy k Y;let z:=O.1;let xL:=h.6;obtain⟨V,u,X,k4⟩:=MA (f.at sx (k.pl 1099511627776)) (pA f.K);refine⟨m,p,o,a,q,h.1,(h.2.take b.1 _).2,V.E h.3,u.E h.4,X.E h.5,?_,?_,λj x r=>?_,λj T x x' r N he=>?_,h.hd,λB s' R L=>?_⟩;have e:(f.take sx k 1099511627776).6=f.6:=k4;show(f.take sx k 1099511627776).6<=(t+1:Nat)/\(0<=n/\n<=(t+1:Nat))/\pA c.S<=t+1+8/\pA (dS n c.W a)<=t+1/\c.4<=16;rw[WJ];omega;show(dS n c.W a).length<=c.5/\c.5<=60000;rw[WJ];exact h.7;obtain⟨v,d,l,E,G⟩:=NG a r;rw[l,E,G];exact h.8 j v d;obtain⟨v,d,l,_⟩:=NG a r;obtain⟨y',D,aJ,_⟩:=NG a N;exact h.9 j T v y' d D Y
 by_cases w:B=i
 subst w;refine⟨sx,iG.bQ ⟨k.pl 1099511627776,iy (bY.1 b.1).1,?_,m,p,o,[],?_⟩ _⟩;rw[A];exact b.2;rw[A];exact q.pl z U U U U U;obtain⟨C,u,d,l,an,aE,aD,ak,H⟩:=h.aC B s' R L
 let P:sx≠C:=λe=>by subst e;have:=b.1;rw[d]at this;cases this;have:=b.2;omega
 exact⟨C,iG.bQ (f:=f.at sx (k.pl 1099511627776)) ⟨u,(gQ P).E d,l,an,aE,aD,ak,H.took (dB w) z q.6⟩ _⟩
def Fx.Rest.oX(h:f.Rest){s}(d:f.K[s]? =Z (Z k)):(f.at s k.jd).Rest/\(f.oX s k).Rest:=by
 let b:=(h.1.4 s k d).1
 let a:(f.at s k.jd).Rest:=by rw[Ck.jd];split;exact h.put d b U U U U;let j:=h.1.g.3;let e:=b.H;refine h.put d ⟨⟨by show(0:Int)<=4;decide,by show(4:Int)<=4;decide⟩,b.2,by show(0:Nat)<=1024;decide,λr hr=>(by cases hr),by show((0:Nat):Int)<=f.g.3;omega,by show((0:Nat):Int)+k.7<=f.g.9;omega,b.7,b.8,b.9,b.us⟩ U U U U
 exact⟨a,a.bQ _⟩
def eH.len(h:eH g t f c):(pA f.K:Int)=g.2:=by
 have:=h.2.1.2
 rwa [h.3]at this
def Fx.Host.bU{wt}(hI:g.Is)(h:f.Host g wt n)(q:(n:Int)<=g.2):eH g 0 f (nV wt n):=by
 let c:pA (nV wt n).S=n:=ay;let p:=hI.2
 let at_:∀{i:Nat} {s:Sl},(nV wt n).S[i]? =Z s->i<n/\s=⟨wt i,⟨#[]⟩,aa⟩:=λ{i s} b=>by grind
 refine⟨hI,h.1,h.2,h.3,by rw[c];exact h.5,?_,⟨aR 0,cO _⟩,λj r a=>(by cases a),λj m r u a=>(by cases a),λi s b=>by rw[(at_ b).2],λi s b _=>?_⟩;rw[c];let o:=h.4;refine⟨Y,⟨fI 0,fI 0⟩,Y,aR 0,by show(1:Int)<=16;decide⟩;let d:=(at_ b).1;refine⟨i,(fw i (wt i) g.7).sp gm,h.6 i d,U,[],[],[],[],az ⟨U,U,U,U⟩,?_,U,?_,U,λt k=>(by cases k),xS,λj a=>(by cases a),λj a=>(by cases a),λx l=>(by cases l),λj x a=>(by cases a),y9,λ_ _ _ _ _ m e=>(by cases e),λj a=>(by cases a),λ_ _ _ hm=>(by cases hm)⟩;show((⟨#[]⟩:ByteArray)++gm).1.1=_;rfl;rw[h.8.2.1];rfl
def Onq(S:av Sl)(i:Nat):Prop:=∃s,S[i]? =Z s/\s.3=aa
structure bX(g:Cf)(n t:Nat)(f:Fx)(c:Cw):Prop where
 bU:eH g t f c
 vu:Pe g n c.W c.3 (Onq c.S) f
def Lg.entry{V:av Wi}(h:Lg g n V f)(he:e∈f.rh):∃(j:Nat) (a:Wi),V[j]? =Z a/\e.Of a:=by obtain⟨q,m,_⟩:=h.9;obtain⟨p,o⟩:=Km he;obtain⟨j,a,d,l,_⟩:=m.2 p e o;exact⟨j,a,d,l⟩
def bX.cks(h:bX g n t f c)(e:En)(he:e∈f.rh):e.2<=c.5:=by obtain⟨j,o,a,d⟩:=h.2.1.entry he;obtain⟨w,l,rfl⟩:=Tm a;have:=(h.1.8 j w l).1;let m:e.2=(w.2:Int):=d.2;omega
def bX.gx(h:bX g n t f c){x}(hx:x∈f.gx):x<=c.5:=by
 obtain hx|hx:=jg.1 hx;obtain⟨e,o,rfl⟩:=jY.1 hx;exact h.cks e o;obtain⟨x,d,rfl⟩:=jY.1 hx;obtain⟨b,a,q⟩:=BY.1 d;obtain⟨k,p⟩:=D0.kA h.1.2.1 b a;obtain⟨j,v,l,u,_⟩:=(h.2.1.1 b a).2.2 k p x q;obtain⟨w,m,rfl⟩:=Tm l;have:=(h.1.8 j w m).1
 grind
def HU{V:av Wi}{x}(h:(V++[r])[j]? =Z x):V[j]? =Z x\/(j=pA V/\x=r):=by grind
def Lg.grow{V:av Wi}(h:Lg g n V f)(J:r.Good g)(hf:∀(j:Nat) x,V[j]? =Z x->x.2≠r.2)(C:(r.2:Int)∉f.gx):Lg g n (V++[r]) f:=by
 refine⟨λb H=>?_,λi j x d q m e=>?_,λj d m=>(HU m).e (h.3 j d) λe=>by rw[e.2];exact J,h.4,h.5,λi j x d q m z A hm=>?_,λi j x d q m z A N p e u w=>?_,h.8,?_⟩
 ·obtain⟨a1,D,a3⟩:=h.1 b H;refine⟨a1,D,λk K x O=>?_⟩;obtain⟨j,d,b1,E⟩:=a3 k K x O;exact⟨j,d,Da b1 r,E⟩
 obtain a|⟨a,o⟩:=HU q<;>obtain l|⟨l,v⟩:=HU m;exact h.2 i j x d a l e;exact absurd (e.E (by rw[v])) (hf i x a);exact absurd (e.y.E (by rw[o])) (hf j d l);omega;obtain a|⟨a,o⟩:=HU q;let L:=(bY.1 a).1;obtain l|⟨l,v⟩:=HU m;exact h.6 i j x d a l z A hm;omega;rw[o]at hm;exact absurd hm C;obtain a|⟨a,o⟩:=HU q;let L:=(bY.1 a).1;obtain l|⟨l,v⟩:=HU m;exact h.7 i j x d a l z A N p e u w;omega;rw[o]at w;exact absurd (Fl _ (jY.2 ⟨e,jC u,w⟩)) C;obtain⟨P,B,G⟩:=h.9;refine⟨P,⟨B.1,λp e u=>?_⟩,G⟩;obtain⟨j,d,a,l⟩:=B.2 p e u;exact⟨j,d,Da a r,l⟩
def bX.stay(h:bX g n t f c):bX g n (t+1) f c.pv:=⟨h.1.stay,h.2.1,h.2.2.pv (by grind),h.2.3⟩
def bX.qk(d:g.1=4*(n:Int))(h:bX g n t f c)(e:t<1073741824):bX g n (t+1) f.qk c.pv:=by
 let a:f.6<1073741824:=by have:=h.1.6.1;omega
 let v:=h.2.qk d h.1.wo h.1.2 a h.1.3 h.1.4;exact⟨h.1.qk (h.2.1.HJ h.1.2.1) e,v.1,v.2.pv (by grind),v.3⟩
def bX.dG(h:bX g n t f c)(d:f'.Rest)(a:f'=f\/∃u,f'=f.sI u/\1<=u.1/\u.1<=d')(e:c.4<=d'/\d'<=16):bX g n (t+1) f' {c.pv with dl:=d'}:=by refine⟨h.1.dG d a e,?_⟩;let hv:Pe g n c.W (c.3+1) (Onq c.S) f:=⟨h.2.1,h.2.2.pv Y,h.2.3⟩;obtain rfl|⟨u,rfl,_⟩:=a;exact hv;let m:ed f (f.sI u):=⟨λs k j=>⟨k,j,U,id⟩,U,U,U⟩;exact⟨m.lg hv.1,hv.2,hv.3⟩
def EN.bQ(h:EN f λi s=>A i/\iG g W i s f)(m):EN (f.bQ m) λi s=>A i/\iG g W i s (f.bQ m):=h.to (b9 o9 _ _).1 λi s a=>⟨a.1,a.2.bQ m⟩
def Fx.Is.ne(a:f.Is i sx k)(hc:f.Core){i' s'}(h:iG g W i' s' f)(j:s'≠sx):i'≠i:=λe=>by obtain⟨l,a1,d,_⟩:=h;exact j (hc.7 s' sx l k a1 a.1 (by rw[d,a.2,e]))
def bX.ask(h:bX g n t f c)(D:c.S[i]? =Z s)(z:s.3=aa)(l:f.Is i sx k)(uW:c.5<60000)(A:CI g f c.pv i sx k b f' c' r):b=M/\bX g n (t+1) f' c':=by
 obtain⟨X,h2⟩:=h.1.ask (by have:=h.1.6;omega) h.cks D z l uW A;refine⟨X,h2,?_⟩;have u:=h.1.Jp D z l;let hp:=u.open;obtain⟨a1,L,a3⟩:=A.2;have L:r.2=c.5+1:=L;have a3:r.8=c.3+1:=a3
 have aH:f.sp sx k r.dV=(f,6)\/f.sp sx k r.dV=(f.at sx (k.sp r.dV),0):=by rw[sp];rw[aI Y];split;exact .inl U;exact .inr U
 let B:=h.2.2.pv (F3:=c.3+1) Y;obtain e|e:=aH;obtain⟨_,o1,a,E⟩|⟨q,_⟩:=A.H;rw[e]at a;have a:f'=f:=a;subst a E;exact⟨h.2.1,B,h.2.3⟩;rw[e]at q;exact absurd U q;obtain⟨q,_⟩|⟨_,o1,a,E⟩:=A.H;rw[e]at q;exact absurd q (by grind);rw[e]at a;have a:f'=f.at sx (k.sp r.dV):=a;subst a E;let fresh:∀(j:Nat) x,c.W[j]? =Z x->x.2≠r.2:=λj x d=>by have:=h.1.8 j x d;omega
 let mt:(r.2:Int)∉f.gx:=λhm=>by have:=h.gx hm;omega
 let an:r.base=r:=by have:=A.1.6;rw[Wi.base];rw[<-this.1,<-this.2.1,<-this.2.2]
 let m:=TB (k':=k.sp r.dV) l.1 U λh=>absurd h.1 Y;refine⟨?_,⟨λj x d=>?_,λi j x aQ hi d h0 hl p e v C=>?_⟩,λs' k' aE=>?_⟩;show Lg g n ((c.W++[r]).map Wi.base) _;rw[sV];refine m.lg (Lg.grow h.2.1 (show r.base.Good g by rw[an];exact A.1) (λj x d=>?_) mt);obtain⟨w,o,rfl⟩:=Tm d;exact fresh j w o;obtain o|⟨_,rfl⟩:=HU d;exact B.1 j x o;exact⟨by show x.8<=c.3+1;omega,.inl A.1.6.2.2⟩;obtain h4|⟨_,T⟩:=HU d;obtain o|⟨_,R⟩:=HU hi;exact B.2 i j x aQ o h4 h0 hl p e v C;rw[R]at C;exact absurd (Fl _ (jY.2 ⟨e,jC v,C⟩)) mt;have:=A.1.6.2.2;rw[T]at h0;omega;obtain⟨rfl,rfl⟩|⟨N,Q⟩:=oy aE;obtain⟨H,K,J,G,u⟩:=u;exact .inr ⟨i,⟨s,D,z⟩,k.sp r.dV,iy (bY.1 l.1).1,l.2,H++[pA c.W],K,J,G,u.sp a1 A.1 fresh λe v=>by have:=h.cks e v;omega⟩;refine(h.2.3 s' k' Q).imp id λ⟨i',hA,O⟩=>⟨i',hA,?_⟩;let aS:=l.ne h.1.2.1 O N;obtain⟨k2,b1,P,H,K,J,G,HG⟩:=O;exact⟨k2,(gQ (dB N)).E b1,P,H,K,J,G,HG.other Y⟩
def aqD(ts W):(dS now W ts).map Wi.base=W.map Wi.base:=by
 refine uU (P:=λb:av Wi=>b.map Wi.base=W.map Wi.base) (λb a d=>?_) ts W U;unfold on;split;exact d;rename_i j e x;split;rename_i r hr;rw[Fj];refine Eq.E ?_ d;apply ux
 grind
 exact d
def bX.take{N}(hN:c.3<=N/\N<=c.3+1)(h:bX g n t f c)(G:c.S[i]? =Z s)(D:s.3=aa)(o:f.Is i sx k):∃a,k.H.1.1=a.flatMap (iY c.W)/\(∀t∈a,mU i c.W t)/\(a.filterMap no).Nodup/\bX g n (t+1) (f.take sx k 1099511627776) {c.til N with W:=dS N c.W a}:=by
 let xL:=h.1.6;obtain⟨un,wq,wf,a,m,Q⟩:=h.1.take (n:=N) Y G D o;let ho:=(h.1.2.1.4 sx k o.1).1.H;let r4:=(h.1.2.1.4 sx k o.1).2.2;let Vj:=h.1.2.1.pc sx;let c7:=h.1.2.1.g.9;let w:=Yy k Y;let bq:=m.1;let m1:ed f (f.at sx (k.pl 1099511627776)):=TB o.1 (by rw[w]) λhd=>absurd hd.1 Y;let m2:ed f (f.take sx k 1099511627776):=m1.E (b9 o9 _ _);let v:=h.2.2;refine⟨a,m.H,m.6,(Ca.1 m.7).2.1,Q,?_,?_,EN.bQ (f:=f.at sx (k.pl 1099511627776)) (λs' k' aC=>?_) _⟩;show Lg g n ((dS N c.W a).map Wi.base) _;rw[aqD];exact m2.lg h.2.1;show Bk (dS N c.W a) N _;rw[m2.3]
 let A:∀{j:Nat} {x:Wi},(dS N c.W a)[j]? =Z x->∃d,c.W[j]? =Z d/\x.2=d.2/\x.8=d.8/\(x=d\/x.9=N/\∃e∈f.rh,e.2=x.2/\e.7=x.er/\e.8=x.tx.1.1):=λ{j x} l=>by
  cases e:c.W[j]? with
  |none=>rw[DW a c.W e]at l;cases l
  |some d=>
   by_cases hm:j∈a.filterMap no
   obtain⟨C,z,R,T⟩:=AV (now:=N) a c.W d hm e;rw[T]at l;cases l;obtain⟨P,J,q,q3,q4⟩:=m.tq _ _ _ R;rw[Gv e]at q;exact⟨d,U,U,U,.inr ⟨U,P,J,q,q3,q4⟩⟩;rw[tS a c.W hm,e]at l;cases l;exact⟨x,U,U,U,.inl U⟩
 refine⟨λj x l=>?_,λi j x d hi l h0 hl p e he hc=>?_⟩;obtain⟨d,b1,u,L,B⟩:=A l;obtain⟨d1,d2⟩:=v.1 j d b1;refine⟨Y,?_⟩;obtain rfl|⟨B,O⟩:=B;exact d2.imp id λ⟨J,q⟩=>⟨Y,q⟩;exact .inr ⟨Y,O⟩;obtain⟨K,b1,u,L,_⟩:=A hi;obtain⟨y0,d1,d2,d3,d4⟩:=A l;have:=(v.1 i K b1).1;obtain rfl|⟨d4,_⟩:=d4;exact v.2 i j K d b1 d1 h0 Y p e he Y;omega;obtain⟨rfl,rfl⟩|⟨E,C⟩:=oy aC;refine .inr ⟨i,⟨s,G,D⟩,k.pl 1099511627776,iy (bY.1 o.1).1,by rw[w];exact o.2,un,wq,wf,[],?_⟩;rw[w];exact m.pl Y rfl rfl rfl rfl rfl;refine(h.2.3 s' k' C).imp id λ⟨i',X,H⟩=>⟨i',X,?_⟩;let an:=o.ne h.1.2.1 H E;obtain⟨k2,b1,u,aS,bg,aW,aN,HG⟩:=H;exact⟨k2,(gQ (dB E)).E b1,u,aS,bg,aW,aN,HG.took (dB an) Y m.6⟩
def aqT(hI:g.Is)(a:g.1=4*(n:Int)):tI g (bX g n) where
 is:=hI
 run h:=⟨h.1.2,h.1.3,h.1.4⟩
 dO h:=h.1.6
 wo h:=h.1.wo
 aC h hs ha:=h.1.Ho hs ha
 stay h:=h.stay
 qk h ht:=h.qk a ht
 dG h h1 h2 h3:=h.dG h1 h2 h3
 ask h hs ha hu uW A:=h.ask hs ha hu uW A
 take {t f c i sx s k} h hs ha hu:=h.take (N:=c.3+1) Y hs ha hu
def ary(m k)(a:k<m):qc (qo (4*m)) k=[0,0,0,0]:=by unfold qc mo qo;rw[Array.toList_replicate,List.drop_replicate,List.take_replicate,uE Y];rfl
def Fx.Host.ah{wt}(hI:g.Is)(G:g.1=4*(n:Int))(h:f.Host g wt m)(hm:(m:Int)<=g.2):bX g n 0 f (nV wt m):=by
 let C:=h.bU hI hm
 let D:f.B=qo (4*n):=by have:=congrArg Dk.B h.9.2;rw[h.2,G,show(pD (4*(n:Int)))=4*n by omega]at this;exact this
 let J:(qo (4*n)).size=4*n:=by simp[qo]
 let v:=h.8.2.1;let H:f.gx=[]:=by rw[Fx.gx];rw[h.9.1,v];rfl
 refine⟨C,⟨λb K=>(by grind),λi j x l a=>(by cases a),λj l o=>(by cases o),by rw[H];exact xS,by rw[v];exact y9,λi j x l a=>(by cases a),λi j x l a=>(by cases a),by rw[D];exact J,λ_ k=>qc f.B k,⟨λk d=>?_,λp e u=>by rw[h.9.1]at u;cases u⟩,λk=>U⟩,⟨λj w o=>(by cases o),λi j x l a=>(by cases a)⟩,λs k d=>?_⟩;rw[D];exact ary n k d
 by_cases A:s<m
 obtain⟨sx,E,a1,q,a3⟩:=C.aC s ⟨wt s,⟨#[]⟩,aa⟩ (by grind) U;have z:=h.6 s A;rw[d]at z;cases z;have:=h.1.1.7 sx s E _ a1 d q;subst this;exact .inr ⟨sx,⟨_,by show((dA m).map _)[sx]? =_;rw[qC,List.getElem?_range A];rfl,U⟩,E,a1,q,a3⟩;rw[h.H s Y (bY.1 d).1]at d;cases d
def m7(W:av Wi)(ck:Int):Wi:=(W.find? λr=>decide ((r.2:Int)=ck)).getD ⟨0,0,0,0,0,0,⟨#[]⟩,0,-1,0,⟨#[]⟩⟩
def Jx(W:av Wi)(lo:av En)(n:Nat):Nat->Nat->Nat->av ByteArray
 |0=>λt _=>LX t
 |p+1=>match lo[p]? with
  |some e=>vv (Jx W lo n p) n (pD (e.5 / 4)) (pD (e.6 / 4)) (m7 W e.2) e.7
  |none=>Jx W lo n p
abbrev JL(l:av UInt8):ByteArray:=⟨l.toArray⟩
abbrev m8(n:Nat)(σ:Nat->av UInt8)(X:Nat->Nat->av ByteArray):Prop:=∀k,k<n->JL (σ k)∈X 0 k
def aqU(h:∀(i j:Nat) x a,W[i]? =Z x->W[j]? =Z a->x.2=a.2->i=j)(l:W[j]? =Z r):m7 W r.2=r:=by
 rw[m7];rcases e:W.find? λx=>decide ((x.2:Int)=(r.2:Int))with _|x
 grind
 let d:=List.find?_some e;let b:=List.mem_of_find?_eq_some e;obtain⟨i,k⟩:=Km b
 grind
def WY:∀c:Nat,BN [0] c=List.replicate c 0
 |0=>rfl
 |c+1=>by show[0]++BN [0] c=_;rw[WY c];rfl
def u6{s}(i):eU s i=JL (mo s.1.1 i):=by unfold eU JL mo;refine rG (BB.1 ?_);rw[rE,zz,Kh,show 4*i+4-4*i=4 by omega]
def arR(b:r.Good g)(hl:r.6=4*(m:Int))(d:i<m)(a:r.msg.wr):r.vB i=JL (r.msg.sv i):=by
 unfold Wi.vB bh.sv Rq.qe;obtain e|e|e:=a
 ·have e:=e;rw[aO e,u6]
  grind
 all_goals
  have e:r.3=_:=e;rw[aI Y];show _=JL (mo (if r.3=1 then _ else if r.3=3\/r.3=4 then BN [0] (pD r.6) else[]) i);rw[aI Y,aO Y,WY];unfold JL mo
  grind
def m8.did{σ σ':Nat->av UInt8}{er}(h:m8 n σ X)(d:r.base.Good g)(s:r.5=4*(q:Int))(hl:r.6=4*(m:Int))(hd:∀k,Wm r.msg er k (σ k) (σ' k))(he:er=0\/er=5)(hr:r.3=0->er=0->0<=r.9->∀i,i<m->eU r.tx i=JL (σ (q+i))):m8 n σ' (vv X n q m r er):=λk e=>by
 let w:=d.1;let h0:=h k e;have a:=hd k;rw[Wm]at a;rw[vv]
 by_cases b:r.msg.wr/\r.msg.6<=4*(k:Int)/\4*(k:Int)<r.msg.6+r.msg.7
 rw[aO b]at a;let u:r.3=1\/r.3=3\/r.3=4:=b.1;let o:r.5<=4*(k:Int)/\4*(k:Int)<r.5+r.6:=b.2;let j:pD r.msg.6 / 4=q:=by grind
 rw[j]at a;rw[aI Y,aI Y];rw[cB];let hv:r.vB (k-q)=JL (r.msg.sv (k-q)):=arR (g:=g) (r:=r.base) d hl Y b.1;rw[aO ⟨aM,Y⟩,hv];rw[Zz]
 grind
 rw[aI b]at a;rw[a];split;split;rename_i l p;rw[CA]
 grind
 exact h0;split;split;rw[qa];split<;>exact h0;exact h0;rename_i l v;rw[cB]
 grind
def arp{er}(h:∀t k,pA (X t k)<=lh+1)(t k):pA (vv X n q m r er t k)<=lh+1+1:=by
 let a:=h t k;let b:=h 0 k;rw[vv];split;split;rw[CA]
 grind
 omega;split;split;rw[qa]
 grind
 omega;rw[cB];split
 ·rw[Zz]
  repeat' split
  all_goals first
   |(rw[fQ,TO];omega)
   |(show 0<=_;omega)
   |(show 1<=_;omega)
   |omega
 omega
def arc{i o:Type}{d:i->o}{l:av i}(h:(l.map d).Nodup){a b}(s:l[p]? =Z a)(u:l[q]? =Z b)(e:d a=d b):p=q:=by
 let j:(l.map d)[p]? =Z (d a):=by grind
 let k:(l.map d)[q]? =Z (d b):=by grind
 exact(List.getElem?_inj (by grind) h).1 (j.E (by rw[k,e]))
def bX.row(h:bX g n t f c)(hn:g.1=4*(n:Int))(ht:t<1073741824):r3 n (pA f.rh+1) c.W f.rh (Jx c.W f.rh n)/\m8 n (qc f.B) (Jx c.W f.rh n (pA f.rh)):=by
 let hI:=h.1.1;let O:=h.2.1;let V:=h.2.2;obtain⟨σ,hH,hE⟩:=O.9;let bA:=hI.1;let bu:=h.1.2.3;let bq:=h.1.6.1;let uW:=h.1.7;let bh:=(Ca.1 O.4).1;let S:∀(p q:Nat) e z,f.rh[p]? =Z e->f.rh[q]? =Z z->e.2=z.2->p=q:=λp q e z o l s=>arc bh o l s;let two:∀(i j:Nat) x L,c.W[i]? =Z x->c.W[j]? =Z L->x.2=L.2->i=j:=λi j x L o l e=>O.2 i j _ _ (HK o) (HK l) e;let R:∀(j:Nat) r,c.W[j]? =Z r->r.base.Good g:=λj r E=>O.3 j _ (HK E)
 let ent:∀(p:Nat) e,f.rh[p]? =Z e->∃(j q m:Nat) (r:Wi),c.W[j]? =Z r/\(e.1=r.u/\e.2=r.2/\e.3=r.3/\e.4=r.4/\e.5=r.5/\e.6=r.6)/\(r.5=4*(q:Int)/\r.6=4*(m:Int)/\q+m<=n)/\(e.7=0\/e.7=5)/\(0<=r.9->r.er=e.7/\r.tx.1.1=e.8)/\(∀k,Wm r.msg e.7 k (σ p k) (σ (p+1) k))/\(r.3=0->e.7=0->0<=r.9->pC r.tx=4*m/\∀i,i<m->eU r.tx i=JL (σ p (q+i)))/\Jx c.W f.rh n (p+1)=vv (Jx c.W f.rh n p) n q m r e.7:=λp e w=>by
  obtain⟨j,L,o,l,s,N⟩:=hH.2 p e w;obtain⟨r,G,rfl⟩:=Tm o;let A:=R j r G;let k7:0<=r.5/\r.5 %4=0/\r.6 %4=0/\r.5+r.6<=g.1/\r.6<=g.4:=A.3;have MV:if r.3=2 then r.5=0/\r.6=0 else 4<=r.6:=A.4
  let bt:0<=r.6:=by split at MV<;>omega
  let o1:e.5=r.5:=l.5;let o2:e.6=r.6:=l.6;let o3:e.2=(r.2:Int):=l.2;let o4:e.3=r.3:=l.3
  let aD:0<=r.9->r.er=e.7/\r.tx.1.1=e.8:=λv=>by rcases(V.1 j r G).2 with C|⟨_,z,C,D,H,h9⟩;omega;obtain⟨J,Q⟩:=Km C;have:=S J p z e Q w (D.E o3.y);subst this;rw[w]at Q;cases Q;exact⟨H.y,h9.y⟩
  refine⟨j,pD (e.5 / 4),pD (e.6 / 4),r,G,⟨l.1,o3,o4,l.4,o1,o2⟩,⟨Y,Y,Y⟩,l.7,aD,s,λk0 e0 v=>?_,?_⟩;obtain⟨B,b1,b2,b3⟩:=N (o4.E k0)
  let b4:r.tx.1.1=(B.extract (pD e.5) (pD e.5+pD e.6)).1:=by rw[(aD v).2,b3];rw[lO];rw[aO ⟨o4.E k0,e0⟩]
  let b5:pA r.tx.1.1=pC r.tx:=lQ
  let b6:pA (B.extract e.5.toNat (e.5.toNat+e.6.toNat)).1=pD e.6:=by rw[lQ,Array.size_extract];omega
  refine⟨by rw[<-b5,b4,b6];omega,λi P=>?_⟩;rw[u6,b4,b2];refine congrArg JL (m5 λx hx=>?_);rw[zz,Kh,vP,aO Y,List.getElem?_drop]
  congr 1
  omega
  show(match f.rh[p]? with
   |some e=>vv (Jx c.W f.rh n p) n (pD (e.5 / 4)) (pD (e.6 / 4)) (m7 c.W e.2) e.7
   |none=>Jx c.W f.rh n p)=_
  rw[w];show vv _ n _ _ (m7 c.W e.2) e.7=_;rw[o3,aqU two G]
 let ql:∀p,p<=pA f.rh->m8 n (σ p) (Jx c.W f.rh n p):=λp=>by
  induction p with
  |zero=>
   refine λ_ k hk=>?_;rw[hH.1 k hk];exact iz.2 U
  |succ p ih=>
   intro K;obtain⟨e,w⟩:∃e,f.rh[p]? =Z e:=⟨_,dj Y⟩;obtain⟨j,q,m,r,o,l,s,N,G,C,D,H⟩:=ent p e w;rw[H];exact(ih Y).did (R j r o) s.1 s.2.1 C N λa b d=>(D a b d).2
 let most:∀p,p<=pA f.rh->∀t k,pA (Jx c.W f.rh n p t k)<=p+1:=λp=>by
  induction p with
  |zero=>
   intro _ t k;show(LX t).length<=1;rw[LX];split<;>decide
  |succ p ih=>
   intro K;obtain⟨e,w⟩:∃e,f.rh[p]? =Z e:=⟨_,dj Y⟩;obtain⟨j,q,m,r,_,_,_,_,_,_,_,H⟩:=ent p e w;rw[H];exact arp (ih Y)
 refine⟨⟨⟨Y,Y,Y⟩,⟨Y,Y⟩,two,λj r E=>?_,S,U,λp t k K=>?_,λp e w=>?_,λj r E v=>?_,λi j p q x L e z P E K hc hq m6 bw=>⟨λv=>?_,λv=>?_⟩⟩,?_⟩;let A:=(R j r E).pu hI;exact⟨A.1.1,A.1.2,A.2.1.1,A.2.1.2⟩;have:=most p K t k;omega;obtain⟨j,q,m,r,o,l,s,N,G,C,D,H⟩:=ent p e w;let A:=R j r o;refine⟨j,q,m,r,o,l,s,A.1,λk1=>?_,N,λv=>(G v).1,λa b d=>⟨(D a b d).1,λi P=>?_⟩,H⟩;let hd:r.7=if r.3=1 then qx r.2 (pD (r.6 / 4)) else⟨#[]⟩:=A.5
 rw[hd,aO k1,IS];omega;rw[(D a b d).2 i P];exact ql p (oI (bY.1 w).1) _ Y;rcases(V.1 j r E).2 with C|⟨_,z,C,D,_⟩;omega;obtain⟨J,Q⟩:=Km C;exact⟨J,z,Q,D⟩;obtain⟨J,T,o,l,s⟩:=V.2 i j x L P E v.1 v.2 p e K hc;have:=S J q T z l hq (s.E m6.y);omega
 ·obtain⟨J,T,o,l,s⟩:=O.7 i j _ _ (HK P) (HK E) v.1 v.2.1 v.2.2 p e K hc;have:=S J q T z l hq (s.E m6.y);omega
 have:=ql (pA f.rh) (aR _);rw[show σ (pA f.rh)=qc f.B from funext hE]at this;exact this
def cU:aV Ck->Nat
 |none=>0
 |some k=>2*pC k.4+k.q.length
def cN(l:av (aV Ck)):Nat:=(l.map cU).sum
abbrev Fx.load(f:Fx):Nat:=cN f.K
def Uo{a b}:∀{l:av (aV Ck)} {s:Nat},l[s]? =Z a->cN (l.set s b)+cU a=cN l+cU b
 |x::l,0,h=>by
  have h:x=a:=by simpa using h
  subst h;show cU b+cN l+cU x=cU x+cN l+cU b;omega
 |x::l,s+1,h=>by have:=Uo (l:=l) (s:=s) (b:=b) (by simpa using h);show cU x+cN (l.set s b)+cU a=cU x+cN l+cU b;omega
def x4(a:k'.4=k.4)(b:pA k'.q=pA k.q):cU (Z k')=cU (Z k):=by show 2*pC k'.4+pA k'.q=2*pC k.4+pA k.q;rw[a,b]
def Xa:∀{l:av (aV Ck)} {k:Ck},Z k∈l->2*pC k.4+pA k.q<=cN l
 |x::l,k,h=>by show _<=cU x+cN l;obtain e|h:=jh.1 h;subst e;exact Nat.le_add_right _ _;have:=Xa h;omega
def T7:∀{l:av (aV Ck)},0<cN l->∃k,Z k∈l/\0<2*pC k.4+pA k.q
 |x::l,h=>by
  have h:0<cU x+cN l:=h
  by_cases e:0<cN l
  obtain⟨k,a,b⟩:=T7 e;exact⟨k,gC _ a,b⟩
  match x,h with
  |some k,h=>exact⟨k,fJ,by have:0<2*pC k.4+pA k.q+cN l:=h;omega⟩
  |none,h=>exact absurd (show 0<0+cN l from h) Y
def X5{φ}(h:∀k,φ k=k\/2*pC (φ k).4+pA (φ k).q<2*pC k.4+pA k.q):∀l:av (aV Ck),(l.map λo=>o.map φ)=l\/cN (l.map λo=>o.map φ)<cN l
 |[]=>aA U
 |x::l=>by
  let e:cN ((x::l).map λo=>o.map φ)=cU (x.map φ)+cN (l.map λo=>o.map φ):=U;let a:cN (x::l)=cU x+cN l:=U
  have hx:x.map φ=x\/cU (x.map φ)<cU x:=by
   cases x with
   |none=>exact aA U
   |some k=>exact(h k).imp (congrArg Z) id
  rw[e,a];obtain hx|hx:=hx<;>obtain hl|hl:=X5 h l;exact aA (by grind);exact az (by grind);exact az (by grind);exact az Y
def T0{x:bh×Int}(c:0<=x.2/\x.2<=pC k.4)(h0:x.2≠0):2*pC (k.qt g x).4+pA (k.qt g x).q<2*pC k.4+pA k.q:=by
 let a:pC (k.qt g x).4=pC k.4-pD x.2:=by show(mS k.4 (pD x.2) k.4.size).size=_;simp[oH]
 let b:pA (k.qt g x).q<=pA k.q+1:=by show(if ta x.1 then k.q++[⟨x.1,-1⟩]else k.q).length<=_;split<;>simp
 omega
def w6(g:Cf):∀(n:Nat) (k:Ck),et g n k=k\/2*pC (et g n k).4+pA (et g n k).q<2*pC k.4+pA k.q
 |0,k=>aA U
 |n+1,k=>by
  by_cases hm:k.may g
  have c:=Mm g.1 g.4 k.3 k.us k.4;obtain⟨x,a⟩:∃x,first g.1 g.4 k.3 k.us k.4=x:=⟨_,U⟩
  rw[a]at c
  by_cases h0:x.2=0
  ·exact aA (Y0 (by grind) _)
  by_cases b:x.1.1=4
  rw[YN hm a h0 b];refine az ?_;show 2*0+0<_;omega;rw[Xk hm a h0 b];let d:=T0 (g:=g) c h0;rcases w6 g n (k.qt g x)with e|e;rw[e];exact az d;exact az Y;exact aA (Xj hm _)
def R1(f:Fx)(j):(f.dP j).load<=f.load/\(f.dP j).fl=f.fl:=by
 rw[Fx.dP];split;rename_i k a;split;refine⟨?_,U⟩;let c:=Uo (b:=aj) a;let d:cU aj=0:=U
 grind
 exact⟨aR _,U⟩;exact⟨aR _,U⟩
def p7(f:Fx):∀n,(f.bQ n).load<=f.load/\(f.bQ n).fl=f.fl
 |0=>⟨aR _,U⟩
 |n+1=>by rw[uV];exact⟨cM (R1 _ n).1 (p7 f n).1,(R1 _ n).2.E (p7 f n).2⟩
def w8:∀(n:Nat) (f:Fx),f.nK->(Fx.fin n f).load=f.load/\(∀b∈(Fx.fin n f).fl,b∈f.fl)/\(pA f.fl<=n->∀b∈(Fx.fin n f).fl,f.6<b.4)
 |0,f,h=>⟨U,λ_ h=>h,λj b a=>by have c:b∈f.fl:=a;rw[vQ.1 (Nat.le_zero.1 j)]at c;cases c⟩
 |n+1,f,h=>by
  rw[Fx.fin];split;rename_i e;exact⟨U,λ_ h=>h,λ_ b a=>by rw[e]at a;cases a⟩;rename_i b r e;split;rename_i d;obtain⟨⟨k,i,_⟩,_,t⟩:=wY.2 f b r h e d;obtain⟨z,p,_⟩:=uR {f with fl:=r} b;obtain⟨v,w,m⟩:=w8 n _ t;let u:=(h.1.8 b (by grind)).1;let l:=CZ (({f with fl:=r}:Fx).dk.pj b.2 b.3).B b.3 (b.2.take (pA b.2)) k (by rw[pM];exact u.3);refine⟨v.E ?_,λx hx=>?_,λj x hx=>?_⟩;rw[sE (f:={f with fl:=r}) i];have:=Uo (b:=Z (k.pr (({f with fl:=r}:Fx).dk.pj b.2 b.3).B b.3 (b.2.take (pA b.2)))) i;let A:=x4 l.4 (congrArg BU l.q)
  grind
  have:=w x hx
  grind
  rw[p]at m;exact m (by grind) x hx;rename_i d;refine⟨U,λ_ h=>h,λ_ x hx=>?_⟩;rw[e]at hx;obtain rfl|hx:=jh.1 hx;omega;have:=(h.1.9);rw[e]at this;have:=(sY.1 this).1 x hx;rw[eI]at this
  grind
def Yw(h:f.Core):f.bg.1.load<=f.load/\(f.bg.2=M->f.bg.1.load<f.load):=by
 by_cases e:∃k,f.K[f.8]? =Z (Z k)
 ·obtain⟨k,a⟩:=e;obtain⟨a1,x,a3,z,A,B,d⟩:=h.Jq a;have i:(f.aT k).4=k.4:=by rw[Fx.aT];split<;>rfl
  let n:∀{k':Ck} {f':Fx},f'.K=(f.om k).K.set f.8 (Z k')->f'.load+(2*pC k.4+pA k.q)=f.load+(2*pC k'.4+pA k'.q):=λ{k' f'} u=>by have c:=u.E (by show(f.K.set _ _).set _ _=_;rw[pK]);have:=Uo (b:=Z k') a;show cN f'.K+_=_;rw[c];exact this
  rw[Bs a];split
  ·rename_i c;split
   ·rename_i j;let D:=My (s:=f.8) (f:=f.om k) h.g (pA (f.aT k).next.q) (f.aT k).next [(f.aT k).fst] (uK.first h.g a1 (Dp c) j)
    obtain⟨l,C,r⟩:=GR (f:=f.om k) (s:=f.8) (pA (f.aT k).next.q) (f.aT k).next [(f.aT k).fst]
    let m:=(MC (Iw (Dp c))).E r;have w:=congrArg BU m.q;rw[fQ,fQ,d]at w;have v:=m.3;rw[i]at v;have:=n (f':=(f.om k).gN f.8 (f.aT k)) U
    grind
   refine⟨?_,λh=>by cases h⟩;have:=Uo (b:=Z (f.aT k)) a;let p:=x4 i (congrArg BU d);let t:cN (f.K.set f.8 (Z (f.aT k)))<=cN f.K:=Y;exact t
  refine⟨?_,λh=>by cases h⟩;have:=n (k':=(f.aT k).px) (f':=(f.om k).at f.8 (f.aT k).px) U;have j:(f.aT k).px.4=k.4:=i;let p:pA (f.aT k).px.q=pA k.q:=congrArg BU d
  grind
 rw[Js (λk a=>e ⟨k,a⟩)];exact⟨aR _,λh=>by cases h⟩
def p5:∀(n p:Nat) (f:Fx),f.mw->(Fx.rn n p f).load<=f.load/\((Fx.rn n p f).load<f.load\/(Fx.rn n p f).fl=f.fl)
 |0,p,f,h=>⟨aR _,az U⟩
 |n+1,p,f,h=>by
  obtain⟨j,l⟩:=Yw h.1;rw[Fx.rn];split;rename_i i;split;rename_i a;have:=(p5 n 0 _ (vw.2 f h i.1 a)).1
  grind
  rename_i a;let b:f.bg.2=aa:=by grind
  obtain⟨c,d⟩:=p5 n (p+1) _ (vw.3 f h b);let e:f.bg.1.pass.load=f.bg.1.load:=U;rw[e]at c d;exact⟨cM c j,d.imp (λx=>by omega) λx=>x.E ((xI f).2.2.2.2 b)⟩;exact⟨aR _,az U⟩
def r9(s):∀(d n p:Nat) (f:Fx),f.mw->f.fl=[]->(∃k,f.K[s]? =Z (Z k)/\f.qm k=M)->(f.8+d)%pA f.K=s->(d=0->f.9=aa)->(p:Int)+d<=f.g.2->d<n->(Fx.rn n p f).load<f.load
 |d,0,p,f,_,_,_,_,_,_,N=>by omega
 |d,n+1,p,f,h,H,⟨k,a,i⟩,x,O,hp,N=>by
  obtain⟨S,T⟩:=Yw h.1;let aD:=h.1.g.8;let z:(pA f.fl:Int)<f.g.8:=by grind
  rw[Fx.rn];rw[aO ⟨z,Y⟩];split;rename_i b;exact Kw (p5 n 0 _ (vw.2 f h z b)).1 (T b);rename_i b;let c:f.bg.2=aa:=by grind
  obtain⟨A,Q,R,_,B⟩:=xI f;let w:=asc c;cases d with
  |zero=>
   exfalso;apply b;let P:f.8=s:=by rw[<-x,xU,asA h.1.3]
   rw[<-P]at a;let j:=(h.1.4 _ k a).1
   let J:(f.om k).qm (f.aT k)=M:=by rw[<-i];exact abr U U (T8 a (YI f k)) (YI f k)
   obtain⟨r,l,hq,L,_⟩:=yT (Dp i);let V:=(j.q r (by grind)).cost h.1.g;let an:=h.1.g.5;let af:=h.1.g.4;let W:=j.8;let aE:=j.2
   let X:f.g.5<=k.2*f.g.5:=by have D:k.2=1\/k.2=2\/k.2=3\/k.2=4:=Y;obtain e|e|e|e:=D<;>rw[e]<;>omega
   let t:f.aT k=k.open f.g:=by rw[Fx.aT];rw[O U];rfl
   let C:(f.aT k).fst=r:=by rw[t];exact L
   rw[Bs a,aO J,aO];rw[C,t];show cw r.m<=k.de+k.2*f.g.5;omega
  |succ d=>
   refine cS (r9 s d n (p+1) f.bg.1.pass (vw.3 f h c) ((B c).E H) ?_ ?_ (λ_=>U) (by show((p+1:Nat):Int)+d<=f.bg.1.g.2;rw[A];omega) Y) S;have u:(f.bg.1.K.map (gI Ck.px))[s]? =Z (Z k.px):=by rw[w,qC,a];rfl
   rw[qC,gJ]at u;obtain⟨o,E,v⟩:=u;rw[gJ]at v;obtain⟨k',rfl,G⟩:=v;exact⟨k',E,by rw[<-i];exact abr A (B c) w G⟩;show((f.bg.1.8+1)%pA f.bg.1.K+d)%pA f.bg.1.K=s;rw[Q,R,Nat.mod_add_mod,<-x]
   congr 1
   omega
def arj(h:f.mw)(a:f.fl=[])(hr:∀k,Z k∈f.K->k.q≠[]->k.eM f.g=M)(p:Z k∈f.K)(j:k.q≠[]):f.pl.load<f.load:=by
 obtain⟨k,c,n,t⟩:=WP _ _ p j;obtain⟨s,b⟩:=pJ.1 c;let i:=(bY.1 b).1;let A:=h.1.3;let w:=h.1.2;let B:=h.1.g.8
 let d:f.qm k=M:=by
  rw[qm];rw[hr k c n]
  have:f.held k.fst=aa:=by
   rw[Fx.held];rw[a];simp;intro o z;cases o with
   |none=>simp
   |some x=>
    cases m:x.eM f.g with
    |false=>simp[m]
    |true=>
     obtain⟨r,l,j,_⟩:=yT m
     grind
  rw[this];rfl
 let v:pA f.K+1<f.qf 0:=by
  rw[qf]
  grind
 by_cases u:f.8<s
 exact r9 s (s-f.8) _ 0 f h a ⟨k,b,d⟩ (by rw[show f.8+(s-f.8)=s by omega];exact asA i) (λe=>by omega) Y Y;exact r9 s (s+pA f.K-f.8) _ 0 f h a ⟨k,b,d⟩ (by rw[show f.8+(s+pA f.K-f.8)=s+pA f.K by omega,Nat.add_mod_right];exact asA i) (λe=>by omega) Y Y
def aqN(f:Fx):f.mG.load=f.load/\f.mG.g=f.g/\∀(s:Nat) k',f.mG.K[s]? =Z (Z k')->∃k,f.K[s]? =Z (Z k)/\k'.H=k.H/\k'.9=k.9/\(k'.q=[]↔k.q=[])/\k'.4=k.4:=by
 refine uU (P:=λb:Fx=>b.load=f.load/\b.g=f.g/\∀(s:Nat) k',b.K[s]? =Z (Z k')->∃k,f.K[s]? =Z (Z k)/\k'.H=k.H/\k'.9=k.9/\(k'.q=[]↔k.q=[])/\k'.4=k.4) (λb a d=>?_) _ _ ⟨U,U,λs k h=>⟨k,h,U,U,sS,U⟩⟩;rw[Fx.eV];split;rename_i c i;let j:pA (c.num b.4).q=pA c.q:=yP c.q b.4;refine⟨?_,d.2.1,λs k' h=>?_⟩;have:=Uo (b:=Z (c.num b.4)) i;have e:=x4 (k':=c.num b.4) (k:=c) U j
 grind
 have h:(b.K.set a (Z (c.num b.4)))[s]? =Z (Z k'):=h
 by_cases e:a=s
 subst e;rw[iy (bY.1 i).1]at h;cases h;obtain⟨k,l,m,n,p,r⟩:=d.2.2 a c i;refine⟨k,l,m,n,Iff.E ?_ p,r⟩;rw[<-vQ,<-vQ,j];rw[gQ e]at h;exact d.2.2 s k' h;exact d
def W6(h:f.Rest)(hc:f.6<1073741824)(hs:f.7=aa):f.qk.load<=f.load/\(f.qk.load<f.load\/∀b∈f.qk.fl,b∈f.fl/\f.6+1<b.4)/\(f.fl=[]->(∀k,Z k∈f.K->pC k.H=0)->(∀k,Z k∈f.early.K->k.q=[]->pC k.4≠0->k.dQ f.g≠k)->0<f.load->f.qk.load<f.load):=by
 let j:=h.early hc;let c:=Dh f;let hg:f.early.se=f.early.po.mG:=by rw[Fx.se];rw[aI (by rw[c];show ¬f.7=M;simp[hs])]
 obtain⟨g1,g2,K,a,u⟩:=h.1.early.se;let i:f.early.se.fl=f.fl:=by rw[u,c]
 let bg:f.early.se.6=f.6+1:=by rw[u,c]
 let l1:f.early.load=f.load:=by
  rw[c];show((f.K.map λo=>o.map (Ck.dh f.g)).map cU).sum=(f.K.map cU).sum;rw[MB]
  congr 1
  refine rN λo _=>?_;cases o<;>rfl
 have O:f.early.po.K=f.early.K\/f.early.po.load<f.early.load:=X5 (λk=>by rw[Ck.dQ];exact w6 _ _ k) _;obtain⟨B,n2,P⟩:=aqN f.early.po;rw[<-hg]at B n2 P
 let l3:f.early.se.load<=f.load:=by rw[B];obtain e|e:=O;show cN f.early.po.K<=_;rw[e];exact xV l1;omega
 obtain⟨b1,T,V⟩:=w8 (pA f.early.se.fl) f.early.se j;have v:f.early.se.pw.mw:=(TL _ _ j).trn;obtain⟨W,c2⟩:=p5 (f.early.se.pw.qf 0) 0 f.early.se.pw v;obtain⟨d1,d2⟩:=p7 f.early.se.pw.pl (pA f.early.se.pw.pl.K);have ht:f.qk.load<=f.early.se.pw.pl.load:=d1;let aX:f.early.se.pw.load=f.early.se.load:=b1;have X:f.early.se.pw.pl.load<=f.early.se.pw.load:=W;refine⟨Y,c2.imp (λx=>?_) λx b hb=>?_,λw ho hr h0=>?_⟩;have x:f.early.se.pw.pl.load<f.early.se.pw.load:=x;omega
 let E:b∈f.early.se.pw.fl:=by have:b∈(f.early.se.pw.pl.bQ _).fl:=hb;rw[d2]at this;exact x▸this
 have:=V (aR _) b E;exact⟨i▸T b E,Y⟩;obtain e|e:=O
 let e0:f.early.se.load=f.load:=by rw[B];show cN f.early.po.K=_;rw[e];exact l1
 let aE:f.early.se.pw=f.early.se:=by rw[pw];rw[i,w];rfl
 let bp:f.early.se.g=f.g:=by rw[u,c]
 rw[aE]at ht v X
 let G:∀(s:Nat) k',f.early.se.K[s]? =Z (Z k')->∃k,Z k∈f.early.K/\pC k'.H=0/\1<=k'.9/\(k'.q=[]↔k.q=[])/\k'.4=k.4:=λs k' n=>by obtain⟨k,a1,Q,a3,R,S⟩:=P s k' n;rw[e]at a1;refine⟨k,jC a1,?_,?_,R,S⟩;rw[c]at a1;obtain⟨d,A,rfl⟩:=wx a1;rw[Q];exact ho d (jC A);rw[c]at a1;obtain⟨d,A,rfl⟩:=wx a1;rw[a3];let bq:=h.1.g.6;let bn:=h.1.g.7;let bt:=(h.1.4 s d A).1.7;show 1<=min (d.9+f.g.6) f.g.7;omega
 by_cases p:∃k,Z k∈f.early.se.K/\k.q≠[]
 obtain⟨k,z,aJ⟩:=p;have:=arj v (by rw[i];exact w) (λk z p=>?_) z aJ;omega;obtain⟨s,t⟩:=pJ.1 z;obtain⟨d,_,h2,h3,_⟩:=G s k t;obtain⟨i1,i2,N⟩:=j.1.4 s k t;rw[i,w]at N;let c7:=j.1.g.9;cases eq:k.q with
 |nil=>exact absurd eq p
 |cons r l=>
  let hr:=i1.q r (by rw[eq];exact fJ);let k7:=hr.3;let hz:sy r.m<=f.early.se.g.4+4:=by rw[sy];split<;>omega
  let r4:k.7=0:=N;rw[Ck.eM];rw[eq];simp[cQ,tB];omega
 exfalso;rw[<-e0]at h0;obtain⟨k',n,H⟩:=T7 h0;obtain⟨s,t⟩:=pJ.1 n;let J:k'.q=[]:=ny λx=>p ⟨k',n,x⟩;rw[J]at H;obtain⟨d,C,_,_,h4,h5⟩:=G s k' t;obtain⟨s0,L⟩:=pJ.1 C;refine hr d C (h4.1 J) (by rw[<-h5];show pC k'.4≠0;simp at H;omega) ?_;have D:f.early.po.K[s0]? =Z (Z (d.dQ f.early.g)):=Ya L;rw[e,L]at D;let h7:f.early.g=f.g:=by rw[c]
 rw[<-h7];exact(ey (ey D)).y;omega
def Fx.Eta(f:Fx)(D N:Nat):Prop:=∃m j:Nat,f.load<=m/\(∀b∈f.fl,b.4+1<=f.6+j)/\(f.fl≠[]->1<=j)/\(D+2) *m+j<=N
def arJ(hf:∀b∈f.fl,b.4<=f.6+D):f.Eta D ((D+2) *f.load+(D+1)):=⟨f.load,D+1,aR _,λb a=>by have:=hf b a;omega,λ_=>by omega,aR _⟩
def aqZ(h:f.Eta D 0):f.load=0/\f.fl=[]:=by
 obtain⟨m,j,a,b,c,d⟩:=h
 grind
def aqY(h:f.Rest)(hc:f.6<1073741824)(t:f.7=aa)(z:f.qk.6=f.6+1)(i:∀b∈f.qk.fl,b.4<=f.qk.6+D)(n:f.Eta D (N+1))(r:∀k,Z k∈f.K->pC k.H=0)(hr:f.fl=[]->∀k,Z k∈f.early.K->k.q=[]->pC k.4≠0->k.dQ f.g≠k)(h0:0<f.load\/f.fl≠[]):f.qk.Eta D N:=by
 obtain⟨t1,t2,t3⟩:=W6 h hc t;obtain⟨m,j,A,v,w,B⟩:=n
 let d:f.qk.load<f.load->f.qk.Eta D N:=λx=>by
  obtain⟨m,rfl⟩:∃u,m=u+1:=⟨m-1,Y⟩;refine⟨m,D+1,Y,λb a=>by have:=i b a;omega,λ_=>by omega,?_⟩
  grind
 obtain x|x:=t2;exact d x
 by_cases c:f.fl=[]
 exact d (t3 c r (hr c) (h0.resolve_right λe=>e c));have:=w c;refine⟨m,j-1,Y,λb a=>?_,λp=>?_,Y⟩;have:=v b (x b a).1;omega;obtain⟨b,l,e⟩:=Fe p;let a:b∈f.qk.fl:=by grind
 grind
structure ef(f:Fx)(d:Int):Prop where
 one:1<=d
 ft:∀u∈f.bD,u.1<=d
 fl:∀b∈f.fl,b.due<=f.ol+d
structure cR(g:Cf)(n t:Nat)(f:Fx)(c:Cw):Prop where
 ah:bX g n t f c
 del:ef f c.4
def ef.same(h:ef f d)(a:∀u∈f'.bD,u∈f.bD)(e:∀b∈f'.fl,b∈f.fl)(m:f.6<=f'.6)(i:d<=d'):ef f' d':=
 ⟨by have:=h.1;omega,λu l=>K1 (h.2 u (a u l)) i,λb j=>by have:=h.3 b (e b j);omega⟩
def ef.bQ(h:ef f d)(j):ef (f.bQ j) d:=uU (P:=λb:Fx=>ef b d) (λb a e=>by rw[Fx.dP];split;split;exact⟨e.1,e.2,e.3⟩;exact e;exact e) _ _ h
def X1:∀(m:Nat) (f:Fx),(Fx.fin m f).bD=f.bD
 |0,f=>rfl
 |m+1,f=>by rw[Fx.fin];split;rfl;split;refine(X1 m _).E ?_;rw[does];split<;>rfl;rfl
def ef.use(h:ef f d):ef f.bg.1 d:=by
 by_cases e:∃k,f.K[f.8]? =Z (Z k)
 obtain⟨k,a⟩:=e;let i:ef (f.om k) d:=⟨h.1,h.2,h.3⟩;rw[Bs a];split;split;refine⟨h.1,λu j=>h.2 u (Kr j),λb hb=>?_⟩;have hb:=hb;obtain rfl|hb:=yL.1 hb
 let m:f.dG.1<=d:=by rw[Fx.dG];split;exact h.1;rename_i u l e;exact h.2 u (by grind)
 show f.6+f.dG.1<=f.6+d;omega;exact h.3 b hb;exact i;exact⟨h.1,h.2,h.3⟩;rw[Js (λk a=>e ⟨k,a⟩)];exact h
def ef.rn:∀(n p:Nat) (f:Fx),ef f d->ef (Fx.rn n p f) d
 |0,p,f,h=>h
 |n+1,p,f,h=>by rw[Fx.rn];split;split;exact ef.rn n 0 _ h.use;exact ef.rn n (p+1) _ ⟨h.use.1,h.use.2,h.use.3⟩;exact h
def ef.qk(h:ef f d)(hR:f.Rest)(hc:f.6<1073741824)(v:f.7=aa):ef f.qk d:=by let p:=hR.early hc;obtain⟨r,g2,K,a,i⟩:=hR.1.early.se;obtain⟨b1,l,q⟩:=w8 (pA f.early.se.fl) f.early.se p;let m:ef f.early.se d:=h.same (λu e=>by rw[i,Dh]at e;exact e) (λb j=>by rw[i,Dh]at j;exact j) (by rw[i,Dh];show f.6<=f.6+1;omega) (fI _);let o:ef f.early.se.pw d:=m.same (λu e=>by rw[show f.early.se.pw.bD=_ from X1 _ _]at e;exact e) l (Int.le_of_eq (TK _ _).y) (fI _);exact(o.rn _ _ _).bQ _
def N4(hI:g.Is)(J:g.1=4*(n:Int)):tI g (cR g n):=
 let S:=aqT hI J
 {is:=hI
  run:=λh=>S.2 h.1
  dO:=λh=>S.3 h.1
  wo:=λh=>S.4 h.1
  aC:=λh j a=>S.5 h.1 j a
  stay:=λh=>⟨S.6 h.1,h.2⟩
  qk:=λ{t f c} h K=>⟨S.7 h.1 K,h.2.qk h.1.1.2 (by have:=h.1.1.6.1;omega) h.1.1.4⟩
  dG:=λ{t f c f' d'} h m B v=>⟨S.8 h.1 m B v,by obtain rfl|⟨u,rfl,O,D⟩:=B;exact h.2.same (λ_ h=>h) (λ_ h=>h) (fI _) v.1;refine⟨by have:=h.2.1;show 1<=d';omega,λx hx=>?_,λb E=>by have:=h.2.3 b E;show b.4<=f.6+d';omega⟩;obtain hx|hx:=jg.1 hx;exact K1 (h.2.2 x hx) v.1;rw[iz.1 hx];exact D⟩
  ask:=λ{t f c i q s k b f' c' r} h j a p G A=>by
   obtain⟨a1,l⟩:=S.9 h.1 j a p G A;let w:f'=(f.sp q k r.dV).1/\c'.4=c.4:=by obtain⟨_,_,e,z⟩|⟨_,_,e,z⟩:=A.H<;>exact⟨e,by rw[z]⟩
   refine⟨a1,l,?_⟩;rw[w.1,w.2];rw[sp];split;exact h.2;split;exact h.2;exact⟨h.2.1,h.2.2,h.2.3⟩
  take:=λ{t f c i q s k} h j a p=>by obtain⟨N,a1,l,a3,C⟩:=S.10 h.1 j a p;let m:ef (f.at q (k.pl 1099511627776)) c.4:=⟨h.2.1,h.2.2,h.2.3⟩;exact⟨N,a1,l,a3,C,m.bQ _⟩}
def Fx.Host.cru{wt}(hI:g.Is)(i:g.1=4*(n:Int))(h:f.Host g wt m)(hm:(m:Int)<=g.2):cR g n 0 f (nV wt m):=
 ⟨h.ah hI i hm,fI _,λu e=>(by rw[h.8.1]at e;cases e),λb a=>(by rw[h.8.2.1]at a;cases a)⟩
def Fx.pe(f:Fx)(i:Nat):Prop:=∀(s:Nat) k,f.K[s]? =Z (Z k)->k.1<i->pC k.H=0
def T3:∀(l:av Nat) (a m:Nat),l.Pairwise (·<·)->(∀x∈l,a<=x/\x<m)->pA l+a<=m\/l=[]
 |[],a,m,_,_=>.inr U
 |x::l,a,m,h,b=>by obtain⟨p,q⟩:=sY.1 h;let r:=b x fJ;refine .inl ?_;rcases T3 l (x+1) m q (λo d=>⟨p o d,(b o (gC _ d)).2⟩)with e|e;rw[gH];omega;rw[e];show 1+a<=m;omega
def A4{B}:∀(l:av (aV Ck)),(∀k,Z k∈l->2*pC k.4+pA k.q<=B)->cN l<=B*pA l
 |[],_=>aR _
 |x::l,h=>by
  let b:=A4 l λk a=>h k (gC _ a)
  let d:cU x<=B:=by
   cases x with
   |none=>exact cO _
   |some k=>exact h k fJ
  show cU x+cN l<=B*(pA l+1);rw[Nat.mul_succ];omega
def O5:∀(l:av Nat),(∀j∈l,pA (rz W j)<=lh/\0<pA (rz W j))->pA (l.flatMap (rz W))<=lh*pA l/\(l.flatMap (rz W)=[]->l=[])
 |[],_=>⟨aR _,λ_=>U⟩
 |j::l,h=>by obtain⟨d,a⟩:=h j fJ;let m:=(O5 l λj b=>h j (gC _ b)).1;rw[pH];refine⟨?_,λe=>?_⟩;rw[fQ,gH,Nat.mul_succ];omega;have:=(Fc.1 e).1;rw[this]at a;cases a
def cK.aqq{jr:av Rq}(hI:g.Is)(h:cK g W i lo jr k un wq wf ts):pA (un.flatMap (rz W))<=(9+pD g.4) *pA un/\(un.flatMap (rz W)=[]->un=[]):=O5 un λj d=>by
 obtain⟨r,b,l,a⟩:=h.8 j (by simp[d]);obtain⟨_,m,o⟩:=a.pu hI;let p:=a.3;let q:=a.4;let u:=hI.4;rw[Jw b];let e:pA r.dV.1.1=pC r.dV:=lQ;rw[e,ED]
 grind
def cK.ld{jr:av Rq}(hI:g.Is)(h:cK g W i lo jr k un wq wf ts):2*pC k.4+pA k.q<=14+(18+2*pD g.4) *pA W:=by
 have a:=zb h.2;let o:=(h.aqq hI).1;have b:=congrArg BU h.q;rw[pI,pI]at b
 have d:pA (wq++un)<=pA W:=by
  rcases T3 _ 0 (pA W) h.12 (λj w=>by obtain⟨r,l,_⟩:=h.8 j (by grind);exact⟨cO _,(bY.1 l).1⟩)with e|e
  omega;rw[e];exact cO _
 rw[fQ]at a d;let p:pA gm.1.1=7:=U;let u:pA (if k.3=0 then gm.1.1 else[])<=7:=by grind
 let v:(9+pD g.4) *pA un<=(9+pD g.4) *(pA W-pA wq):=E8 _ Y
 let m:(18+2*pD g.4) *pA W=2*((9+pD g.4) *(pA W-pA wq))+2*((9+pD g.4) *pA wq):=by
  rw[<-asJ,<-asJ,Nat.sub_add_cancel Y,<-Nat.mul_assoc]
  congr 1
  omega
 grind
def cK.reads{jr:av Rq}(hI:g.Is)(wo:mA W)(h:cK g W i lo jr k un wq wf ts)(o:k.7=0)(B:pC k.H=0)(p:k.q=[])(A:pC k.4≠0):k.dQ g≠k:=λe=>by
 let G:=hI.3;let E:=hI.9;let C:=hI.4;obtain⟨_,_,_,_,_,d,_⟩:=h.dQ hI wo λ_=>o;rw[e]at d;have a:=h.2;rw[aI Y,jZ]at a
 match un,h with
 |[],h=>exact A (zb a)
 |j::un,h=>
  obtain⟨r,b,H,z⟩:=h.8 j ay;have l:=h.9 j fJ;rw[Gv b]at l;rw[pH,Jw b]at a;let u:first g.1 g.4 k.3 k.us k.4=(r.msg,(pC r.dV:Int)):=by rw[d];exact Ub k.us hI z (wo.2 j r b).1 l a
  let hm:k.may g:=⟨Y,by rw[p];show((0:Nat):Int)<_;omega,by rw[p,B,o];show((0:Nat):Int)+0+6<=_;omega⟩;have m:=Mm g.1 g.4 k.3 k.us k.4;rw[u]at m;let v:((pC r.dV:Nat):Int)≠0:=by rw[ED];omega
  let w:=Xk hm u v (by grind) k.4.size;have e:et g (pC k.4+1) k=k:=e;rw[w]at e;have x:=T0 (g:=g) (k:=k) m v;rcases w6 g k.4.size (k.qt g (r.msg,(pC r.dV:Int)))with e2|e2;rw[e2]at e;rw[e]at x;omega;rw[e]at e2;omega
def cK.none(hI:g.Is)(h:cK g W i lo [] k un wq wf ts)(v:pC k.H=0)(w:k.q=[])(u:pC k.4=0):un++wq++wf++ts.filterMap no=[]:=by
 have e:=zb h.2;rw[u,fQ]at e;let l:=(h.aqq hI).2 (vQ.1 Y);have a:=h.q;rw[w]at a;let m:=Fi.1 a.y;let o:=Fi.1 (show wf.map (pg W)=[] from h.4.y);have d:=zb h.H;rw[v]at d;let p:=vQ.1 d.y
 let r:ts=[]:=by
  match ts,p with
  |[],_=>rfl
  |.inl b::ts,h=>cases h
  |.inr x::ts,h=>cases h
 rw[l,m,o,r];rfl
def cR.eta(h:cR g n t f c)(B:g.1=4*(n:Int))(C:t<1073741824)(hd:c.4=(D:Int))(z:f.pe (pA c.S))(he:f.Eta D (N+1))(h0:0<f.load\/f.fl≠[]):f.qk.Eta D N:=by
 let hR:=h.1.1.2;let m:f.6<1073741824:=by have:=h.1.1.6.1;omega
 let v:=h.1.1.3;let o:∀(s:Nat) k,f.K[s]? =Z (Z k)->pC k.H=0:=λs k a=>z s k a (by have:=(hR.1.6 s k a).2;rw[h.1.1.5]at this;exact this);refine aqY hR m h.1.1.4 (Xu hR m).2 (λb r=>by have:=(h.2.qk hR m h.1.1.4).3 b r;omega) he (λk a=>?_) (λu k a x p=>?_) h0;obtain⟨s,e⟩:=pJ.1 a;exact o s k e;obtain⟨s,e⟩:=pJ.1 a;rw[Dh]at e;obtain⟨l,d,rfl⟩:=wx e;rw[v];obtain hd|⟨i,_,E,a1,A,un,wq,wf,ts,q⟩:=h.1.2.3 s l d;exact absurd hd.2.2.1 p;rw[d]at a1;cases a1;let w:l.7=0:=by rw[(hR.1.4 s l d).2.2,u];rfl
 exact(q.dh (g:=g)).reads h.1.1.1 h.1.1.wo w (o s l d) x p
def cR.shut(h:cR g n t f c)(w:f.pe (pA c.S))(b:f.load=0)(d:f.fl=[])(m:c.W[j]? =Z r)(l:r.9= -1)(v:c.S[r.u]? =Z s)(e:s.3=aa):False:=by let hR:=h.1.1.2;obtain⟨sx,k,a1,x,un,wq,wf,ts,a⟩:=h.1.1.aC r.u s v e;let o:=w sx k a1 (by grind);let z:=Xa (jC a1);have b:cN f.K=0:=b;rw[d]at a;let p:k.q=[]:=vQ.1 Y;have hm:=a.11 j r m U l;rw[a.none h.1.1.1 o p Y]at hm;cases hm
def aqI(f:Fx)(m):(f.bQ m).fl=f.fl/\(f.bQ m).6=f.6/\∀(s:Nat) k,(f.bQ m).K[s]? =Z (Z k)->f.K[s]? =Z (Z k):=by
 refine uU (P:=λb:Fx=>b.fl=f.fl/\b.6=f.6/\∀(s:Nat) k,b.K[s]? =Z (Z k)->f.K[s]? =Z (Z k)) (λb a d=>?_) _ _ ⟨U,U,λ_ _ h=>h⟩;rw[Fx.dP]
 grind
def cR.take(h:cR g n t f c)(L:c.S[i]? =Z s)(B:s.3=aa)(o:f.Is i sx k):∃ts,k.H.1.1=ts.flatMap (iY c.W)/\(∀t∈ts,mU i c.W t)/\(ts.filterMap no).Nodup/\cR g n t (f.take sx k 1099511627776) {c with W:=dS c.3 c.W ts}/\(f.pe i->(f.take sx k 1099511627776).pe (i+1))/\∀D N,f.Eta D N->(f.take sx k 1099511627776).Eta D N:=by
 obtain⟨ts,a1,x,a3,a⟩:=h.1.take (N:=c.3) Y L B o;let hR:=h.1.1.2;let ho:=(hR.1.4 sx k o.1).1.H;let r4:=(hR.1.4 sx k o.1).2.2;let Vj:=hR.1.pc sx;let c7:=hR.1.g.9;let w:=Yy k Y;obtain⟨u,v,z⟩:=aqI (f.at sx (k.pl 1099511627776)) (pA f.K);let C:ef (f.at sx (k.pl 1099511627776)) c.4:=⟨h.2.1,h.2.2,h.2.3⟩;refine⟨ts,a1,x,a3,⟨⟨⟨a.1.1,a.1.2,a.1.3,a.1.4,a.1.5,?_,a.1.7,a.1.8,a.1.9,a.1.hd,a.1.aC⟩,a.2⟩,C.bQ _⟩,λO r q H X=>?_,λD N E=>?_⟩;let l:=h.1.1.6;let A:pA (dS c.3 c.W ts)=pA c.W:=WJ ts c.W;refine⟨K1 (Int.le_of_eq v) l.1,l.2.1,l.2.2.1,?_,l.2.2.2.2⟩
 grind
 have J:=z r q H;obtain⟨rfl,rfl⟩|⟨d,e⟩:=oy J;rw[w];rfl;refine O r q e ?_
 by_cases G:q.1=(i:Int)
 exact absurd (o.3 r q e G) d;omega;obtain⟨m,j,n1,P,Q,R⟩:=E;refine⟨m,j,?_,λb p=>?_,λd=>Q ?_,R⟩;let l:=Uo (b:=Z (k.pl 1099511627776)) o.1;let A:cU (Z (k.pl 1099511627776))=cU (Z k):=by rw[w];rfl
 let T:(f.at sx (k.pl 1099511627776)).load=f.load:=by grind
 let V:=(p7 (f.at sx (k.pl 1099511627776)) (pA f.K)).1;show((f.at sx (k.pl 1099511627776)).bQ (pA f.K)).load<=m;omega;have p:b∈((f.at sx (k.pl 1099511627776)).bQ (pA f.K)).fl:=p;rw[u]at p;show b.4+1<=((f.at sx (k.pl 1099511627776)).bQ (pA f.K)).6+j;rw[v];exact P b p;have d:((f.at sx (k.pl 1099511627776)).bQ (pA f.K)).fl≠[]:=d;rw[u]at d;exact d
def cR.skip(h:cR g n t f c)(r:c.S[i]? =Z s)(o:s.3=M)(l:f.pe i):f.pe (i+1):=λd b a q=>by
 by_cases p:b.1=(i:Int)
 obtain e|⟨u,⟨z,w,x⟩,v,b1,m,_⟩:=h.1.2.3 d b a;exact e.2.2.2;rw[a]at b1
 grind
 exact l d b a Y
def pe.zero(hR:f.Rest):f.pe 0:=λs k a b=>by have:=(hR.1.6 s k a).1;omega
def cR.ld(h:cR g n t f c):f.load<=(14+(18+2*pD g.4) *pA c.W) *pD g.2/\f.load<=16448:=by
 let hR:=h.1.1.2;let hI:=h.1.1.1;have m:=hR.1.2;rw[h.1.1.3]at m;let e:pA f.K=pD g.2:=Y;refine⟨?_,?_⟩;rw[<-e];refine A4 _ λk b=>?_;obtain⟨s,a⟩:=pJ.1 b;obtain d|⟨i,_,v,b1,o,un,wq,wf,ts,l⟩:=h.1.2.3 s k a;rw[d.2.1,d.2.2.1];exact cO _;rw[a]at b1;cases b1;exact l.ld hI
 have:=A4 (B:=2056) f.K λk b=>by obtain⟨s,a⟩:=pJ.1 b;let p:=(hR.1.4 s k a).1.3;let q:=(hR.1.4 s k a).1.5;let r:=hR.1.g.3;omega
 let u:=hR.1.pu
 grind
def cR.most(h:cR g n t f c)(hd:c.4=(D:Int)){B}(r:2*(g.2+1) *(g.2*g.4+4) *(c.4+2)<=B):(((D+2) *(f.load+1):Nat):Int)<=B*((pA c.W:Int)+2):=by
 let hI:=h.1.1.1;have a:=h.ld.1;have u:=hI.2;have x:=hI.4;obtain⟨m,hm⟩:∃m:Nat,g.4=(m:Int):=⟨pD g.4,Y⟩;obtain⟨q,d⟩:∃q:Nat,g.2=(q:Int):=⟨pD g.2,Y⟩
 let p:((f.load+1:Nat):Int)<=2*(g.2+1) *(g.2*g.4+4) *((pA c.W:Int)+2):=by
  rw[d]at u;rw[hm]at x;rw[hm,d]at a⊢;generalize C:pA c.W=w at a⊢;simp at a;let b:f.load+1<=(14+(18+2*m) *w) *q+1:=Y;let l:(((14+(18+2*m) *w) *q+1:Nat):Int)=14*(q:Int)+18*((q:Int) *w)+2*((q:Int) *(m*w))+1:=by grind
  let o:2*((q:Int)+1) *((q:Int) *m+4) *((w:Int)+2)=2*((q:Int)+1) *((q:Int) *(m*w)+2*((q:Int) *m)+4*w+8):=by grind
  have v:4*(w:Int)<=(m:Int) *w:=MD Y Y;rw[o];refine K1 (Int.ofNat_le.2 b) ?_;rw[l];generalize (m:Int) *w=z at v⊢;have A:q=1\/q=2\/q=3\/q=4\/q=5\/q=6\/q=7\/q=8:=Y;obtain e|e|e|e|e|e|e|e:=A<;>subst e<;>omega
 let b:(((D+2) *(f.load+1):Nat):Int)=((f.load+1:Nat):Int) *(c.4+2):=by grind
 rw[b];refine K1 (MD p Y) ?_;rw[asF,Int.mul_comm ((pA c.W:Int)+2),<-asF];exact MD r Y
section
attribute [local go_sem] cz cE Dj Dl vB
open Go.ConcR (Payload)
section
variable [an] [oM] {l:av aZ} {u:aq} {g:Cf} {cb xb n:Nat} {f:Fx} {c:Cw} {m:Cm}
end
abbrev iE(b o:Nat):aB:=π (Z (F b o))
def aro{q c n m X h:Int}(w:1<=q/\q<=8)(hc:1<=c/\c<=8)(hm:4<=m/\m<=n)(v:n<=64)(hd:1<=d/\d<=16)(k:X=5*c*n)(o:h=X.tdiv 4):2*(c+1) *(c*m+4) *(d+2)<=(q+1) *(c+1) *(h+4) *(d+2):=by
 let r:c*m<=c*n:=Kc hm.2 Y
 let h0:4<=c*m:=by have:=asD hc.1 hm.1 aM Y;omega
 let e:X=5*(c*n):=by rw[k,asF]
 rw[EX Y]at o;let a1:=AR (a:=q+1) (b:=c+1) (A:=9) (B:=9) Y Y Y Y;let b1:2*(c+1)<=(q+1) *(c+1):=MD Y Y;let j:2*(c+1) *(c*m+4)<=(q+1) *(c+1) *(h+4):=asD b1 Y Y a1.1;exact MD j Y
def aqz(cb xb:Nat)(g:Cf)(c:Cw)(m:Cm)(w:aq)(h:w.1[cb]? =Z (au (uQ g xb c m) 40 (0,0)))(hI:g.Is)(hd:1<=c.4/\c.4<=16):ax ai 25 #[jp cb] w λe b=>∃B:Int,e=aG (I B)/\(2*(g.2+1) *(g.2*g.4+4) *(c.4+2)<=B/\B<=938952)/\b=w.drew:=by
 have r:=aJ w cb 1 (I g.2) h;have x:=aJ w cb 2 (I g.3) h;have z:=aJ w cb 4 (I g.5) h;have v:=aJ w cb 13 (I c.4) h;have j:bc (g.Is/\1<=c.4/\c.4<=16):=⟨hI,hd⟩;generalize c.4=d at*;clear h hI hd;go_enter func25,ntmps25
 go_upto_region 1 with fail
 go_region_held3 (λb=>b=w.drew) (first|rfl|assumption) (fail)
 go_wp2;go_ret;obtain⟨hI,hd⟩:=j.H;have hm:=hI.4;have C:=hI.5;obtain⟨k,o,A,q⟩:=Q9 (n:=g.5) (d:=d) hI.3 hI.2 Y hd U U;rw[o];exact⟨_,U,by rw[k];exact⟨aro hI.3 hI.2 Y Y hd U U,q⟩,U⟩
section
variable [an] {l:av aZ} {u:aq} {g:Cf} {cb xb n t i p:Nat} {f:Fx} {c:Cw} {m:Cm} {s:Sl}
def ari(k:vb ai l)(o:an.ok 25)(hI:g.Is)(hd:1<=c.4/\c.4<=16)(h:u.1[cb]? =Z (au (uQ g xb c m) 40 (0,0))):dX ai 25 #[pt cb] u λe q=>∃B:Int,e=aG (I B)/\(2*(g.2+1) *(g.2*g.4+4) *(c.4+2)<=B/\B<=938952)/\q.1=u.1:=by refine dX.lift k o (λe u b h=>h) (λe u ⟨B,h,_⟩=>⟨_,h⟩) λb=>?_;refine(aqz cb xb g c m (u.tp b) h hI hd).V ?_;rintro e r ⟨B,d,j,rfl⟩;exact⟨B,d,j,U⟩
def Sh(c:Cw):Prop:=∃(j:Nat) (r:Wi) (s:Sl),c.W[j]? =Z r/\r.9<0/\c.S[r.u]? =Z s/\s.3=aa
structure aShd(m:Int)(R:Fx->Fx->Prop):Prop where
 clock:∀{a f:Fx},R a f->f.6=a.6
 tick:∀{a f:Fx},R a f->R a.qk f.qk
 is:∀{a f:Fx} {i s:Nat} {k:Ck},R a f->(i:Int)<m->a.Is i s k->f.Is i s k
 take:∀{a f:Fx} {s:Nat} {k:Ck} {n:Int},R a f->a.K[s]? =Z (Z k)->R (a.take s k n) (f.take s k n)
inductive aTk(a:Fx)(c:Cw):Nat->Fx->Cw->Prop
 |zero:aTk a c 0 a c
 |skip{i:Nat} {d:Fx} {e:Cw} {s:Sl}(h:aTk a c i d e)(hs:e.S[i]? =Z s)(ha:s.3=M):aTk a c (i+1) d e
 |take{i j:Nat} {d:Fx} {e:Cw} {s:Sl} {k:Ck} {ts:av Tk}(h:aTk a c i d e)(hs:e.S[i]? =Z s)(ha:s.3=aa)(hu:d.Is i j k)(hW:mA e.W)(ht:k.H.data.toList=ts.flatMap (iY e.W))(hk:∀t∈ts,mU i e.W t):aTk a c (i+1) (d.take j k 1099511627776) {e with W:=dS e.3 e.W ts}
inductive aRn(a:Fx)(c:Cw):Nat->Fx->Cw->Prop
 |zero:aRn a c 0 a c
 |succ{n:Nat} {d d2:Fx} {e e2:Cw}(h:aRn a c n d e)(ho:Sh e)(ht:aTk d.qk e.pv (pA e.S) d2 e2):aRn a c (n+1) d2 e2
def aSn(c:Cw)(j:Nat)(b:Bool):Prop:=(b=M->Sh c)/\(b=aa->∀(x:Nat) (r:Wi) (s:Sl),x<j->c.W[x]? =Z r->r.9<0->c.S[r.u]? =Z s->s.3=M)
def arA(H:vb ai l)(K:an.ok 27){q:Int} {R:Fx->Fx->Prop} {a0:Fx}(S0:aShd q R)(h0:R a0 f)(hf:f.Rest)(hq:(i:Int)<q)(h:cR g n t a0 c)(B:fj u g cb xb f c m)(x:c.S[i]? =Z s)(z:s.3=aa)(O:m.3[i]? =Z p)(P:a0.pe i):
  dX ai 27 #[pt cb,pt p] u λe V=>e=aG (ω M)/\∃d b W,(cR g n t d {c with W:=W}/\R d b/\b.Rest/\∀a e,aTk a e i a0 c->aTk a e (i+1) d {c with W:=W})/\fj V g cb xb b {c with W:=W} m/\d.pe (i+1)/\∀D N,a0.Eta D N->d.Eta D N:=by
 refine dX.lift H K (λe u o ⟨q,d,b,W,r,v,w⟩=>⟨q,d,b,W,r,v.tp o,w⟩) (λe u h=>⟨_,h.1⟩) λo=>?_;obtain⟨L,T⟩:=B.tp o;obtain⟨J,j,k,d⟩:=h.1.1.Ho x z;let hu2:=S0.3 h0 hq d;let hR:=hf;let ft:=hf.take hu2.1 1099511627776;let af:=hR.1.pu;obtain⟨R1,q1,r,v,w,C,E⟩:=h.take x z d;let X:=(hR.1.4 j k hu2.1).1.H;let r4:=(hR.1.4 j k hu2.1).2.2;let Vj:=hR.1.pc j;let c7:=hR.1.g.9;refine(Zh cb xb g f c L m (u.tp o) T i p j s k x O J hu2 Y ft.1.1.stay R1 q1 r v h.1.1.wo Y h.1.1.6.2.1.1).V ?_;rintro e w' ⟨rfl,A,G⟩;exact⟨U,_,_,_,⟨w,S0.4 h0 d.1,ft.2,λa e t=>.take t x z d h.1.1.wo q1 r⟩,⟨A,G⟩,C P,E⟩
variable [oM]
def arB(G:CR l)(hf:f.Rest)(v:f.6<1073741824)(B:fj u g cb xb f c.pv m):dX ai 26 #[pt xb] u λe b=>e=aG (θ #[])/\fj b g cb xb f.qk c.pv m:=by obtain⟨L,T⟩:=B;refine(T.1.ticks WE G hf Y).V ?_;rintro e b ⟨rfl,r,q,j,k⟩;obtain⟨d,o⟩:=T.go j k;exact⟨U,d,o⟩
abbrev L3(cb:Nat)(lh:Int)(n:Nat)(r:av (Nat×aB)):av (Nat×aB):=(0,pt cb)::(3,I lh)::(4,I (n:Int))::r
def SdO(cb:Nat)(lh:Int)(n:Nat)(c:Cw)(d:aq)(a:Act)(u:aq):Prop:=∃(j:Nat) (b:Bool),Fa 109 a (L3 cb lh n [(5,ω b),(6,I (j:Int))])/\j<=pA c.W/\aSn c j b/\u.1=d.1
def SdT(R:Fx->Fx->Prop)(a1:Fx)(c1:Cw)(cb xb:Nat)(lh:Int)(g:Cf)(S:av Sl)(d:Int)(ck m t n D N:Nat)(a:Act)(u:aq):Prop:=∃(i:Nat) (a0 f:Fx) (c:Cw) (b:Cm),Fa 109 a (L3 cb lh n [(7,I (i:Int))])/\i<=pA S/\(cR g m t a0 c/\R a0 f/\f.Rest/\aTk a1 c1 i a0 c)/\fj u g cb xb f c b/\(c.S=S/\c.4=d)/\a0.pe i/\a0.Eta D N
def SdM(R:Fx->Fx->Prop)(K:Nat->Fx->Cw->Prop)(cb xb:Nat)(lh:Int)(g:Cf)(S:av Sl)(d:Int)(m t0 D b:Nat)(a:Act)(u:aq):Prop:=∃(n:Nat) (a0 f:Fx) (c:Cw) (e:Cm),Fa 109 a (L3 cb lh n [])/\n<=b/\(cR g m (t0+n) a0 c/\R a0 f/\f.Rest/\K n a0 c)/\fj u g cb xb f c e/\(c.S=S/\c.4=d)/\((n=0/\(D+2) *(a0.load+1)<=b)\/(1<=n/\a0.pe (pA S)/\a0.Eta D (b-n)))
end
section
variable [an] [oM] {l:av aZ} {u:aq} {g:Cf} {cb xb nn t:Nat} {f:Fx} {c:Cw} {m:Cm} {a:Act} {Q:Exit->Act->aq->Prop} {lh:Int} {n:Nat}
def aSn.mo{c j b}(h:aSn c j b)(k:∀(r:Wi) (s:Sl),c.W[j]? =Z r->r.9<0->c.S[r.u]? =Z s->s.3=M):aSn c (j+1) b:=⟨h.1,λe x r s i a o n=>by by_cases q:x=j;subst q;exact k r s a o n;exact h.2 e x r s Y a o n⟩
def aSn.al{c j b}(h:aSn c j b)(k:pA c.W<=j):b=M<->Sh c:=⟨h.1,λ⟨x,r,s,a,o,n,q⟩=>by cases b with|true=>rfl|false=>have:=h.2 rfl x r s (Nat.lt_of_lt_of_le (bY.1 a).1 k) a o n;rw[q]at this;cases this⟩
def arz(hT:vb ai l){a0}(h:cR g nn t a0 c)(B:fj u g cb xb f c m)(E:Fa 109 a (L3 cb lh n [(5,ω aa)]))(hQ:∀a u' b,Fa 109 a (L3 cb lh n [(5,ω b)])->(b=M<->Sh c)->u'.1=u.1->Q .normal a u'):
  FX dR 17 ai (kv (dg (tL (kv (dg (tL (tL (dg (kv (dg (dg (nS f17)))))))))))) Q a u:=by
 obtain⟨L0,T⟩:=B;obtain⟨lv,wv,ps,qs⟩:=m;obtain⟨wa,wc,aC⟩:=gP T.4;have aC:wv=ζ wa (pA c.W) wc:=aC;obtain⟨la,lc,af⟩:=gP T.3;have af:lv=ζ la (pA c.S) lc:=af;subst aC af;have bn:=T.2;have uW:=h.1.1.7;have xL:=h.1.1.6;refine sq (reg [0] ?_);refine ow E λa _ E=>cc ?_;refine FX.bk 2 (lp (SdO cb lh n c u) (λa _=>yb (pA c.W) 6 a) ⟨0,aa,E.to,cO _,⟨λe=>(by cases e),λ_ x r s h=>absurd h (Nat.not_lt_zero _)⟩,U⟩ ?_);clear E;rintro a K ⟨j,b,E,d,V,D⟩;have A:=bn;rw[<-D]at A;have bz:=tP (n:=pA c.W) (E.3 6 _ U);refine sq (sq (reg [0,1,2,3,4,5,6] ?_))
 iterate 4 refine ow E λa _ E=>?_
 refine FE.lc E A λa _ E=>?_;refine ln E λa _ E=>?_
 by_cases aJ:j<pA c.W
 have aK:(j:Int)<(pA c.W:Int):=Y;refine ow (v:=ω M) E λa _ E=>cc ?_;refine cT E (sk ?_)
 replace E:Fa 109 a (L3 cb lh n [(5,ω b),(6,I (j:Int))]):=E.to
 obtain⟨w,aT,ev,MM⟩:=yV T.4 Y;have ev:fM wa (pA c.W) wc=ζ (Z (F w 0)) (pA c.W) aT:=ev;injection ev with aX bG bg;obtain⟨r,hr⟩:∃r,c.W[j]? =Z r:=⟨_,dj aJ⟩;obtain⟨q,an,J,_⟩:=T.Jy hr;have an:qs[j]? =Z q:=an
 have C:kD K (F w j)=Z (jp q):=by have:=MM j (jp q) (by rw[qC,an];rfl);unfold gp at this⊢;rw[D];exact this
 rw[<-D]at J;have aL:=(h.1.1.8 j r hr).2.1;obtain⟨H,k8⟩:∃H,c.S[r.u]? =Z H:=⟨_,dj aL⟩;obtain⟨p,ak,N,_⟩:=T.Bg k8;have ak:ps[r.u]? =Z p:=ak;obtain⟨G,F2,O,QG⟩:=yV T.3 Y;have O:fM la (pA c.S) lc=ζ (Z (F G 0)) (pA c.S) F2:=O;injection O with bh bH bl
 have cl:kD K (F G r.u)=Z (jp p):=by have:=QG r.u (jp p) (by rw[qC,ak];rfl);unfold gp at this⊢;rw[D];exact this
 rw[<-D]at N;have E9:=E;subst aX bg bh bl;have E:=E9;clear E9;have g1:0<=(j:Int)/\(j:Int)<(pA c.W:Int):=Y;have g2:0<=(r.u:Int)/\(r.u:Int)<(pA c.S:Int):=Y;have bN:pA c.W<=60000:=Y;clear MM QG aK xL uW aL;refine sj (λa u=>∃L:Bool,Fa 109 a (L3 cb lh n [(5,ω L),(6,I (j:Int))])/\aSn c (j+1) L/\u.1=K.1) (FX.bk 3 ?_) ?_
 by_cases X:r.9<0
 have bw:=X;refine sq (dr 33 32 (λix v=>match ix with|0=>v=pt cb|1=>v=pt cb|2=>v=iE cb 11|3=>v=ζ (Z (F w 0)) (pA c.W) wc|4=>v=I (j:Int)|5=>v=iE w j|6=>v=jp q|7=>v=jp q|8=>v=iE q 8|9=>v=I r.9|10=>v=ω M|11=>v=ω M|12=>v=pt cb|13=>v=pt cb|14=>v=iE cb 10|15=>v=ζ (Z (F G 0)) (pA c.S) lc|16=>v=pt cb|17=>v=pt cb|18=>v=iE cb 11|19=>v=ζ (Z (F w 0)) (pA c.W) wc|20=>v=I (j:Int)|21=>v=iE w j|22=>v=jp q|23=>v=jp q|24=>v=iE q 0|25=>v=I (r.u:Int)|26=>v=iE G r.u|27=>v=jp p|28=>v=jp p|29=>v=iE p 3|30=>v=ω H.3|31=>v=ω (!H.3)|_=>True) E (λz o x hx a is E d k=>?_) λz o a E hv=>?_)
 ·have bp:=A;rw[show K.1=z.1 by rw[o]]at A J N;have C:kD z (F w j)=Z (jp q):=by rw[o];exact C
  have cl:kD z (F G r.u)=Z (jp p):=by rw[o];exact cl
  clear o
  match x,hx with
  |0,_=>exact ow E (dk k)
  |1,_=>exact ow (E.dd (d 0 U)) (dk k)
  |2,_=>exact ow (E.dd (d 1 U)) (dk k)
  |3,_=>exact FE.lc (E.dd (d 2 U)) A (dk k)
  |4,_=>exact ow E (dk k)
  |5,_=>exact ow (v:=iE w j) ((E.dd (d 3 U)).dd (d 4 U)) (dk k)
  |6,_=>exact FE.l1 (E.dd (d 5 U)) C (dk k)
  |7,_=>exact ow (E.dd (d 6 U)) (dk k)
  |8,_=>exact ow (E.dd (d 7 U)) (dk k)
  |9,_=>exact FE.lc (E.dd (d 8 U)) J (dk k)
  |10,_=>exact ow (v:=ω M) (E.dd (d 9 U)) (dk k)
  |11,_=>exact ow (E.dd (d 10 U)) (dk k)
  |12,_=>exact ow (E.dd (d 11 U)) (dk k)
  |13,_=>exact ow ((E.dd (d 11 U)).dd (d 12 U)) (dk k)
  |14,_=>exact ow ((E.dd (d 11 U)).dd (d 13 U)) (dk k)
  |15,_=>exact FE.lc ((E.dd (d 11 U)).dd (d 14 U)) A (dk k)
  |16,_=>exact ow (E.dd (d 11 U)) (dk k)
  |17,_=>exact ow ((E.dd (d 11 U)).dd (d 16 U)) (dk k)
  |18,_=>exact ow ((E.dd (d 11 U)).dd (d 17 U)) (dk k)
  |19,_=>exact FE.lc ((E.dd (d 11 U)).dd (d 18 U)) A (dk k)
  |20,_=>exact ow (E.dd (d 11 U)) (dk k)
  |21,_=>exact ow (v:=iE w j) (((E.dd (d 11 U)).dd (d 19 U)).dd (d 20 U)) (dk k)
  |22,_=>exact FE.l1 ((E.dd (d 11 U)).dd (d 21 U)) C (dk k)
  |23,_=>exact ow ((E.dd (d 11 U)).dd (d 22 U)) (dk k)
  |24,_=>exact ow ((E.dd (d 11 U)).dd (d 23 U)) (dk k)
  |25,_=>exact FE.lc ((E.dd (d 11 U)).dd (d 24 U)) J (dk k)
  |26,_=>exact ow (v:=iE G r.u) (((E.dd (d 11 U)).dd (d 15 U)).dd (d 25 U)) (dk k)
  |27,_=>exact FE.l1 ((E.dd (d 11 U)).dd (d 26 U)) cl (dk k)
  |28,_=>exact ow ((E.dd (d 11 U)).dd (d 27 U)) (dk k)
  |29,_=>exact ow ((E.dd (d 11 U)).dd (d 28 U)) (dk k)
  |30,_=>exact FE.lc ((E.dd (d 11 U)).dd (d 29 U)) N (dk k)
  |31,_=>exact ow ((E.dd (d 11 U)).dd (d 30 U)) (dk k)
  |m+32,hm=>omega
 replace E:=(E.dd (hv 11 U)).dd (hv 31 U)
 refine eP.one (j:=32) aW λis P=>ow (v:=ω (!H.3)) E λa _ E=>P a z (eP.none aW ?_);cases R:H.3 with
 |false=>
  rw[R]at E;refine cT E (reg [0] ?_);refine ow E λa _ E=>cc ?_;exact⟨M,E.to,⟨λ_=>⟨j,r,H,hr,X,k8,R⟩,λe=>(by cases e)⟩,by rw[o]⟩
 |true=>
  rw[R]at E;refine cF E (sk ?_);exact⟨b,E.to,V.mo λr' s' i a n=>(by rw[hr]at i;cases i;rw[k8]at n;cases n;exact R),by rw[o]⟩
 have bw:¬r.9<0:=X;refine sq (dr 33 32 (λix v=>match ix with|0=>v=pt cb|1=>v=pt cb|2=>v=iE cb 11|3=>v=ζ (Z (F w 0)) (pA c.W) wc|4=>v=I (j:Int)|5=>v=iE w j|6=>v=jp q|7=>v=jp q|8=>v=iE q 8|9=>v=I r.9|10=>v=ω aa|11=>v=ω aa|12=>v=y|13=>v=y|14=>v=y|15=>v=y|16=>v=y|17=>v=y|18=>v=y|19=>v=y|20=>v=y|21=>v=y|22=>v=y|23=>v=y|24=>v=y|25=>v=y|26=>v=y|27=>v=y|28=>v=y|29=>v=y|30=>v=y|31=>v=y|_=>True) E (λz o x hx a is E d k=>?_) λz o a E hv=>?_)
 ·have bp:=A;rw[show K.1=z.1 by rw[o]]at A J N;have C:kD z (F w j)=Z (jp q):=by rw[o];exact C
  have cl:kD z (F G r.u)=Z (jp p):=by rw[o];exact cl
  clear o
  match x,hx with
  |0,_=>exact ow E (dk k)
  |1,_=>exact ow (E.dd (d 0 U)) (dk k)
  |2,_=>exact ow (E.dd (d 1 U)) (dk k)
  |3,_=>exact FE.lc (E.dd (d 2 U)) A (dk k)
  |4,_=>exact ow E (dk k)
  |5,_=>exact ow (v:=iE w j) ((E.dd (d 3 U)).dd (d 4 U)) (dk k)
  |6,_=>exact FE.l1 (E.dd (d 5 U)) C (dk k)
  |7,_=>exact ow (E.dd (d 6 U)) (dk k)
  |8,_=>exact ow (E.dd (d 7 U)) (dk k)
  |9,_=>exact FE.lc (E.dd (d 8 U)) J (dk k)
  |10,_=>exact ow (v:=ω aa) (E.dd (d 9 U)) (dk k)
  |11,_=>exact ow (E.dd (d 10 U)) (dk k)
  |12,_=>exact gh (E.dd (d 11 U)) (dk k)
  |13,_=>exact gh (E.dd (d 11 U)) (dk k)
  |14,_=>exact gh (E.dd (d 11 U)) (dk k)
  |15,_=>exact gh (E.dd (d 11 U)) (dk k)
  |16,_=>exact gh (E.dd (d 11 U)) (dk k)
  |17,_=>exact gh (E.dd (d 11 U)) (dk k)
  |18,_=>exact gh (E.dd (d 11 U)) (dk k)
  |19,_=>exact gh (E.dd (d 11 U)) (dk k)
  |20,_=>exact gh (E.dd (d 11 U)) (dk k)
  |21,_=>exact gh (E.dd (d 11 U)) (dk k)
  |22,_=>exact gh (E.dd (d 11 U)) (dk k)
  |23,_=>exact gh (E.dd (d 11 U)) (dk k)
  |24,_=>exact gh (E.dd (d 11 U)) (dk k)
  |25,_=>exact gh (E.dd (d 11 U)) (dk k)
  |26,_=>exact gh (E.dd (d 11 U)) (dk k)
  |27,_=>exact gh (E.dd (d 11 U)) (dk k)
  |28,_=>exact gh (E.dd (d 11 U)) (dk k)
  |29,_=>exact gh (E.dd (d 11 U)) (dk k)
  |30,_=>exact gh (E.dd (d 11 U)) (dk k)
  |31,_=>exact gh (E.dd (d 11 U)) (dk k)
  |m+32,hm=>omega
 replace E:=(E.dd (hv 11 U)).dd (hv 31 U)
 refine eP.one (j:=32) aW λis P=>ow (v:=ω aa) E λa _ E=>P a z (eP.none aW ?_);refine cF E (sk ?_);exact⟨b,E.to,V.mo λr' s' i a n=>(by rw[hr]at i;cases i;exact absurd a X),by rw[o]⟩;rintro a z ⟨L,E,bt,bu⟩;refine reg [0,1,2] ?_;refine ow E λa _ E=>?_;refine ar E λa _ E=>?_;refine ow E λa _ E=>cc ?_;rw[show(j:Int)+1=((j+1:Nat):Int) by simp]at E;refine⟨⟨j+1,L,E.to,aJ,bt,bu.E D⟩,?_⟩;rw[bz,tP (n:=pA c.W) (E.3 6 _ U)];omega;have aK:¬(j:Int)<(pA c.W:Int):=Y;refine ow (v:=ω aa) E λa _ E=>cc ?_;exact cF E (ex 2 (hQ a _ b E.to (V.al Y) D))
end
def Fx.Eta.V{N'}(h:f.Eta D N)(i:N<=N'):f.Eta D N':=by obtain⟨m,j,a,b,d,e⟩:=h;exact⟨m,j,a,b,d,Y⟩
def cR.next{a:Nat}(h:cR g m t f c)(hm:g.1=4*(m:Int))(B:t<1073741824)(hd:c.4=(D:Int))(A:Sh c)(hc:(n=0/\(D+2) *(f.load+1)<=a)\/(1<=n/\f.pe (pA c.S)/\f.Eta D (a-n))):n+1<=a/\f.qk.Eta D (a-(n+1)):=by
 let hR:=h.1.1.2;let p:f.6<1073741824:=by have:=h.1.1.6.1;omega
 obtain⟨rfl,x⟩|⟨G,q,d⟩:=hc
 ·let z:=(W6 hR p h.1.1.4).1;let w:f.qk.Eta D ((D+2) *f.qk.load+(D+1)):=arJ λb k=>by have:=(h.2.qk hR p h.1.1.4).3 b k;omega
  let H:(D+2) *f.qk.load<=(D+2) *f.load:=E8 _ z;rw[asJ]at x;exact⟨Y,w.V Y⟩
 have h0:0<f.load\/f.fl≠[]:=by
  by_cases o:0<f.load
  exact aA o;refine az λi=>?_;obtain⟨j,r,s,v,J,C,E⟩:=A
  let k:r.9= -1:=by rcases(h.1.2.2.1 j r v).2 with e|⟨e,_⟩;exact e;omega
  exact h.shut q Y i v k C E
 cases e:a-n with
 |zero=>
  rw[e]at d;obtain⟨o,i⟩:=aqZ d;obtain h0|h0:=h0;omega;exact absurd i h0
 |succ N=>
  rw[e]at d;have:=h.eta hm B hd q d h0;exact⟨Y,by rw[show a-(n+1)=N by omega];exact this⟩
section
variable [an] [oM] {l:av aZ} {u:aq} {g:Cf} {cb xb nn t:Nat} {f:Fx} {c:Cw} {m:Cm}
def aqR{zZ:Int} {Rl:Fx->Fx->Prop} {a0:Fx}(S0:aShd zZ Rl)(h0:Rl a0 f)(hf:f.Rest)(hZ:(pA c.S:Int)<=zZ)(G:wH l)(oB:an.ok 25/\il 25)(hm:g.1=4*(nn:Int))(ht:t<=536870912)(h:cR g nn t a0 c)(B:fj u g cb xb f c m):
  iT dR ai 17 #[pt cb] u λe K=>e=aG (ω M)/\∃t' a' R c' m' n,t'<=t+296082/\(cR g nn t' a' c'/\Rl a' R/\R.Rest/\aRn a0 c n a' c'/\¬Sh c')/\fj K g cb xb R c' m':=by
 have hT:=G.x.1;have hI:=h.1.1.1;have bQ:=h.2.1;have xL:=h.1.1.6;obtain⟨w,T⟩:=B;obtain⟨lv,wv,ps,qs⟩:=m;obtain⟨wa,wc,aN⟩:=gP T.4;have aN:wv=ζ wa (pA c.W) wc:=aN;subst aN;have q:=T.2;have uW:=h.1.1.7;refine iT.AU 109 func17 λa E=>?_;refine sq (reg [0] ?_);refine ow E λa _ E=>cc ?_
 replace E:Fa 109 a [(0,pt cb)]:=E.to
 refine sq (dm 10 9 10 (λj v _=>match j with|0=>v=pt cb|1=>∃B:Int,v=I B/\2*(g.2+1) *(g.2*g.4+4) *(c.4+2)<=B/\B<=938952|2=>v=pt cb|3=>v=pt cb|4=>v=iE cb 11|5=>v=ζ wa (pA c.W) wc|6=>v=I (pA c.W:Int)|7=>v=I ((pA c.W:Int)+2)|8=>∃B:Int,v=I (B*((pA c.W:Int)+2))/\2*(g.2+1) *(g.2*g.4+4) *(c.4+2)<=B/\B<=938952|_=>True) (λK=>K.1=u.1) (λu K=>K.1=u.1) (λ_ _ _ _ _ h=>h) E U (λQ O x hx a is E H hc=>?_) (λQ O a E hv=>?_) (λh=>absurd h aM))
 ·have k:=λP v hv N=>hc P v Q hv O U N;rw[<-O]at q
  match x,hx with
  |0,_=>exact ow E (dk k)
  |1,_=>
   refine FE.cx (E.dd (H 0 U)) oB.2 ((ari hT oB.1 hI Y q).V ?_);rintro e u4 ⟨B,rfl,z,hh⟩;exact⟨_,U,λP N _=>hc P _ u4 ⟨B,U,z⟩ (hh.E O) hh N⟩
  |2,_=>exact ow E (dk k)
  |3,_=>exact ow (E.dd (H 2 U)) (dk k)
  |4,_=>exact ow (E.dd (H 3 U)) (dk k)
  |5,_=>exact FE.lc (E.dd (H 4 U)) q (dk k)
  |6,_=>exact ln (E.dd (H 5 U)) (dk k)
  |7,_=>exact ar (E.dd (H 6 U)) (dk k)
  |8,_=>
   obtain⟨B,e,z⟩:=H 1 U;have h0:0<=B:=K1 (PP (PP (by have:=hI.2;omega) (by have:=PP (a:=g.2) (b:=g.4) (by have:=hI.2;omega) (by have:=hI.4;omega);omega)) Y) z.1;have hm:=AR (a:=B) (b:=(pA c.W:Int)+2) (A:=938952) (B:=60002) h0 Y z.2 Y;exact ar ((E.add (d:=10) e).dd (H 7 U)) λP N _=>k P _ ⟨B,U,z⟩ N
  |m+9,hm=>omega
 obtain⟨B,e,z⟩:=hv 8 U
 replace E:=E.add (d:=17) e
 refine eP.one (j:=9) aW λis hK=>ow E λa _ E=>hK a Q (eP.none aW ?_);have B3:fj Q g cb xb f c ⟨lv,ζ wa (pA c.W) wc,ps,qs⟩:=⟨w,T.old λb _=>by rw[O]⟩;obtain⟨D,hD⟩:∃D:Nat,c.4=(D:Int):=⟨pD c.4,Y⟩;have hM:=h.most hD z.1;have bV:=h.ld.2;generalize bO:B*((pA c.W:Int)+2)=L at*;obtain⟨s,X⟩:∃s,(D+2) *(a0.load+1)=s:=⟨_,U⟩
 have cj:s<=296082:=by rw[<-X];exact Nat.mul_le_mul (show D+2<=18 by omega) (show a0.load+1<=16449 by omega)
 rw[X]at hM;refine sq (sq (reg [0] ?_));refine ow E λa _ E=>cc ?_
 replace E:Fa 109 a (L3 cb L 0 []):=E.to
 obtain⟨kk,hk0,hks,hke⟩:∃K:Nat->Fx->Cw->Prop,K 0 a0 c/\(∀n a e d k,K n a e->Sh e->aTk a.qk e.pv (pA e.S) d k->K (n+1) d k)/\∀n a e,K n a e->aRn a0 c n a e:=⟨aRn a0 c,.zero,λ_ _ _ _ _ h a b=>.succ h a b,λ_ _ _ h=>h⟩
 refine FX.bk 0 (lp (SdM Rl kk cb xb L g c.S c.4 nn t D s) (λa _=>yb (s+1) 4 a) ⟨0,a0,f,c,_,E,cO _,⟨h,h0,hf,hk0⟩,B3,⟨U,U⟩,aA ⟨U,xV X⟩⟩ ?_);obtain⟨S,He⟩:∃S,c.S=S:=⟨_,U⟩;rw[He]at hZ⊢;rw[hD];clear h0 hf hk0 T q hv bQ xL uW B3 E X bV h bO z e O He hD;rintro a u ⟨n,a0,f,c,r,E,cu,⟨h,h0,hf,hk1⟩,B,⟨hS,k⟩,aK⟩;have bS:=tP (n:=s+1) (E.3 4 _ U);have hh:(n:Int)<=L:=Y;refine sq (sq (reg [0,1,2] ?_))
 iterate 2 refine ow E λa _ E=>?_
 refine ow (v:=ω M) E λa _ E=>cc ?_;refine cT E (sk ?_);refine sq (FX.bk 1 (sq (reg [0] ?_)));refine ow E λa _ E=>cc ?_;refine sq (arz hT h B E.to λa K b E hb Du=>?_);refine sq (sq (reg [0,1] ?_));refine ow E λa _ E=>?_;obtain⟨w,T⟩:=B;have T:bz K g cb xb f c w r:=T.old λb _=>by rw[Du]
 cases b with
 |false=>
  refine ow (v:=ω M) E λa _ E=>cc ?_;refine cT E (sq (reg [0] ?_));refine ow E λa _ E=>cc ?_;refine FX.rt ⟨U,E.2,ω M,?_,U,_,a0,f,c,r,n,Y,⟨h,h0,hf,hke _ _ _ hk1,λe=>absurd (hb.2 e) aM⟩,w,T⟩;have V:=ev (E.3 2 _ U);simp[asu,results17,go_sem,V]
 |true=>
  refine ow (v:=ω aa) E λa _ E=>cc ?_;refine cF E (sk ?_);rw[<-hS]at aK;obtain⟨bW,C⟩:=h.next hm Y k (hb.1 U) aK;have hck:f.6<1073741824:=by have:=S0.1 h0;have:=h.1.1.6.1;omega
  have hf2:=(Xu hf hck).1;have h2:=S0.2 h0;have hsc:bc (∀d e,aTk a0.qk c.pv (pA S) d e->kk (n+1) d e):=λd e ht=>hks _ _ _ _ _ hk1 (hb.1 U) (by rw[hS];exact ht)
  obtain⟨ax,cx,hax,hcx⟩:∃(ax:Fx) (cx:Cw),ax=a0.qk/\cx=c.pv:=⟨_,_,U,U⟩;rw[<-hax,<-hcx]at hsc
  have q:=T.2;have Va:=h.1.1.6.2.1;refine sq (reg [0,1,2,3,4,5,6,7] ?_)
  iterate 3 refine ow E λa _ E=>?_
  refine FE.lc E q λa _ E=>?_;refine ar E λa _ E=>?_
  iterate 2 refine ow E λa _ E=>?_
  refine FE.st E q λu2 h1 V=>cc ?_;have B:fj u2 g cb xb f c.pv r:=⟨w,T.box U U h1 V⟩;clear T h1 V q;have q:=B.at;refine sq (reg [0,1,2,3,4] ?_)
  iterate 3 refine ow E λa _ E=>?_
  refine FE.lc E q λa _ E=>?_;refine FE.cx E G.4 ((arB G.x hf hck B).V ?_);rintro e Q ⟨rfl,B⟩;refine⟨_,U,λa _ E=>cc ?_⟩
  replace h:=(N4 hI hm).7 h Y
  refine sq (reg [0] ?_);refine ow E λa _ E=>cc ?_;refine FX.bk 4 (lp (SdT Rl ax cx cb xb L g S D 0 nn (t+n+1) n D (s-(n+1))) (λa _=>yb (pA S) 7 a) ⟨0,a0.qk,f.qk,c.pv,r,E.to,cO _,⟨h,h2,hf2,by rw[hax,hcx];exact .zero⟩,B,⟨hS,k⟩,pe.zero h.1.1.2,C⟩ ?_);clear B E h C aK hS k Va q hb Du h0 hf h2 hf2 hk1 hax hcx hck;rintro a u ⟨i,a0,f,c,r,E,hi,⟨h,h0,hf,hk2⟩,B,⟨hS,k⟩,J,C⟩;have bT:=tP (n:=pA S) (E.3 7 _ U);obtain⟨w,T⟩:=B;obtain⟨lv,wv,ps,qs⟩:=r;obtain⟨la,lc,ak⟩:=gP T.3;have ak:lv=ζ la (pA c.S) lc:=ak;rw[hS]at ak;subst ak;have q:=T.2;have xL:=h.1.1.6;rw[hS]at xL;refine sq (sq (reg [0,1,2,3,4,5,6] ?_))
  iterate 4 refine ow E λa _ E=>?_
  refine FE.lc E q λa _ E=>?_;refine ln E λa _ E=>?_
  by_cases bp:i<pA S
  ·have bq:(i:Int)<(pA S:Int):=Y;refine ow (v:=ω M) E λa _ E=>cc ?_;refine cT E (sk ?_)
   replace E:Fa 109 a (L3 cb L n [(7,I (i:Int))]):=E.to
   obtain⟨sl,k8⟩:∃sl,c.S[i]? =Z sl:=⟨_,dj (by rw[hS];exact bp)⟩;obtain⟨p,bt,SW,_⟩:=T.Bg k8;obtain⟨lb,F2,aE,QG⟩:=yV T.3 (by rw[hS];omega);have aE:fM la (pA S) lc=ζ (Z (F lb 0)) (pA c.S) F2:=aE;injection aE with bH b9 bJ;have cl:kD u (F lb i)=Z (jp p):=QG i (jp p) (by rw[qC,bt];rfl);have E9:=E;subst bH bJ;have E:=E9;clear E9;have g2:0<=(i:Int)/\(i:Int)<(pA S:Int):=Y;have g3:0<=(i:Int)/\(i:Int)<(pA c.S:Int):=by rw[hS];exact g2
   have cm:pA S<=4611686018427387904:=Y;clear QG bq xL;refine sj (λa u=>∃a0 f c r,Fa 109 a (L3 cb L n [(7,I (i:Int))])/\(cR g nn (t+n+1) a0 c/\Rl a0 f/\f.Rest/\aTk ax cx (i+1) a0 c)/\fj u g cb xb f c r/\(c.S=S/\c.4=(D:Int))/\a0.pe (i+1)/\a0.Eta D (s-(n+1))) (FX.bk 5 ?_) ?_
   ·refine sq (sq (reg [0,1,2,3,4,5,6,7,8,9] ?_))
    iterate 3 refine ow E λa _ E=>?_
    refine FE.lc E q λa _ E=>?_;refine ow E λa _ E=>?_;refine ow (v:=iE lb i) E λa _ E=>?_;refine FE.l1 E cl λa _ E=>?_
    iterate 2 refine ow E λa _ E=>?_
    refine FE.lc (v:=ω sl.3) E SW λa _ E=>cc ?_;cases ha:sl.3 with
    |true=>
     rw[ha]at E;exact cT E (ex 5 ⟨a0,f,c,_,E.to,⟨h,h0,hf,.skip hk2 k8 ha⟩,⟨w,T⟩,⟨hS,k⟩,h.skip k8 ha J,C⟩)
    |false=>
     rw[ha]at E;refine cF E (sk ?_);refine sq (reg [0,1,2,3,4,5,6,7,8,9] ?_)
     iterate 4 refine ow E λa _ E=>?_
     refine FE.lc E q λa _ E=>?_;refine ow E λa _ E=>?_;refine ow (v:=iE lb i) E λa _ E=>?_;refine FE.l1 E cl λa _ E=>?_;refine FE.cx E (G.o _ aM).2 ((arA hT (G.o _ aM).1 S0 h0 hf Y h ⟨w,T⟩ k8 ha bt J).V ?_);rintro e u4 ⟨rfl,a',R,W,⟨h,h0,hf,hk3⟩,B,J,bR⟩;refine⟨_,U,λa _ E=>?_⟩;refine ow E λa _ E=>cc ?_;refine sq (reg [0,1] ?_);refine ow E λa _ E=>?_;refine ow (v:=ω aa) E λa _ E=>cc ?_;exact cF E (sk ⟨a',R,_,_,E.to,⟨h,h0,hf,hk3 _ _ hk2⟩,B,⟨hS,k⟩,J,bR _ _ C⟩)
   rintro a u ⟨a0,f,c,r,E,h,B,bP,J,C⟩;refine reg [0,1,2] ?_;refine ow E λa _ E=>?_;refine ar E λa _ E=>?_;refine ow E λa _ E=>cc ?_;rw[show(i:Int)+1=((i+1:Nat):Int) by simp]at E;refine⟨⟨i+1,a0,f,c,r,E.to,bp,h,B,bP,J,C⟩,?_⟩;rw[bT,tP (n:=pA S) (E.3 7 _ U)];omega
  have bq:¬(i:Int)<(pA S:Int):=Y;refine ow (v:=ω aa) E λa _ E=>cc ?_;refine cF E (ex 4 ?_);have ei:i=pA S:=Y;subst ei;refine reg [0,1,2] ?_;refine ow E λa _ E=>?_;refine ar E λa _ E=>?_;refine ow E λa _ E=>cc ?_;rw[show(n:Int)+1=((n+1:Nat):Int) by simp]at E;refine⟨⟨n+1,a0,f,c,_,E.to,bW,⟨by rw[<-jv];exact h,h0,hf,hsc.H _ _ hk2⟩,⟨w,T⟩,⟨hS,k⟩,az ⟨Y,J,C⟩⟩,?_⟩;rw[bS,tP (n:=s+1) (E.3 4 _ U)];omega
end
def aqx[an](x):asu f17 x=asu f17 (dU (dR 17) x):=by let h:(dU (dR 17) x).getD 2 y=x.getD 2 y:=zm (L:=dR 17) (a:=⟨x,[]⟩) (i:=2) aM;simp only[asu,results17,BW,vU,BV,h]
def aqv[an](cb ρ)(b:VR ρ (pt cb) (pt cb)):∀(i:Nat) (v:aB),(ba ai 17 #[pt cb] .normal).2[i]? =Z v->i∉dR 17->VR ρ v v:=
 GC func17 (body:=nS f17) aW λi v h a=>by
  match i,a with
  |0,_=>simp at h;subst h;exact b
  |n+1,_=>simp at h
section
variable [an] [oM] {l:av aZ} {u:aq} {g:Cf} {cb xb n t:Nat} {f:Fx} {c:Cw} {m:Cm} {B:ByteArray}
end
end
open Go.ChangeAt Go.ChangeShapes Go.Deep Go.WideShapes
def aeR:ownKnob ai.godebug=aj:=aW
end Go.Proofs.YtpobhljcainmdaaGreat
