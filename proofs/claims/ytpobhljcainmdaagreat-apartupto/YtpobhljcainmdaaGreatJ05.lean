/- Parts of the proof. -/
import Derived.Test.YtpobhljcainmdaaGreatJ04
set_option maxRecDepth 100000
set_option maxHeartbeats 8000000
set_option linter.all false
namespace Go.Proofs.YtpobhljcainmdaaGreat
open Go.IntKind renaming i64->cJ,u8->BM,wrap_i64->vL,wrap->nt
open _root_.UInt8 renaming ofNat->ji,toNat->pW
open Go renaming World->aq,Value->aB,FuncId->aZ,run_convert_bytes_back->yd,wpList_append_lies->Re,TypeId->aY,info_parts->nG,maxLen->cP,Addr->iL,heap_alloc_new->ao,results->bo,yielded->co,Calls->ax
open _root_.ByteArray renaming empty->rF,extract->mS,size->pC
open Go.World renaming ownsRow_nil->qH,news_of_block->wu,ownsRow->KO,setCell->kB,cell?->kD,alloc->lL,ownsRow->mT
open Go.Calls renaming quiet_of_same->ur
open _root_.List renaming replicate->rP,range->dA,length->BU,perm_append_comm->C4,length_pos_iff->B8,extract->Qv,nodup_range->C3,cons_ne_nil->A3,length->pA,toArray->pT
open Go.Value renaming ownBlock->lW,oneCell'->zS,int->BX,slice->ζ,string->ξ,pointer->π,bool->ω,tuple->θ,agg->ν,int->ι,ownBlock->rW
open _root_.Int renaming mul_tdiv_cancel_left->l8,toNat->pD
open _root_.Option renaming map->gI
open _root_.Bool renaming or_eq_false_iff->Zv
open Go.ConcR renaming Payload->oM
open _root_.Nat renaming mul_le_mul_left->E8,eq_or_lt_of_le->E2,le_antisymm->E6
open Go.Region renaming wanted->cY
open _root_.List.Pairwise renaming nil->y9
open Go.RowKit renaming intOf->dw,Hid->bc
open Go.Oper renaming wp->tr
open Go renaming undef->y
open Go.Ending renaming returned->aG
open Go.Obj renaming cells->au
open _root_.Bool renaming false->aa,true->M
open _root_.Option renaming none->aj,some->Z
open _root_.Or renaming inl->aA,inr->az
open Go.Proofs.Tryz renaming underlying158->dp,underlying9->gc,underlying5->kc,prog->ai
open Go.Frame renaming enter->ba
open Go.RowKit.Below renaming refl->bv
open Ck renaming fresh->fw
open an renaming known->il
open GO renaming nil->cc
open Go.ConcR (Payload)
open Go.Proofs.Tryz
open _root_.Array renaming setIfInBounds->mP,size->pB
open FE FX Fx
structure Fx.mw(f:Fx):Prop where
 ov:f.Core
 ol:f.ol<=1073741824
 bO:(f.bO:Int)<=8*(f.ol-1)+f.fl.length
 rh:(f.rh.length:Int)<=64*f.ol
 C:(f.C.length:Int)<=512*f.ol
 acc:f.acc<=64*f.ol
def aeT{l:av Jb}(h:l.Pairwise λa b=>a.5≠b.5):∀(i j:Nat) (b c:Jb),l[i]? =Z b->l[j]? =Z c->b.5=c.5->i=j:=by
 induction l with
 |nil=>intro i j b c d;simp at d
 |cons a l k=>let⟨e,g⟩:=sY.1 h;grind
variable{g:Cf}{k:Ck}{f f':Fx}{j s n xb kh wb cb i p:Nat}{w W w3 u u' wr:aq}{L L':cZ}{Q:Exit->Act->aq->Prop}{jt:aF Oper}{P:Program}{md:Region.Mode}{S:aq->Prop}{hd:ByteArray}
def Ck.In.go{c}(a:g.Is)(h:k.In g c)(hc:c<=1073741824)(n:0<=k.7)(hf:0<=k.6/\k.6<=64)(hd:k.de<=288):k.Go:=by let b:=h.H;let d:=a.9;let e:=h.7;let i:=h.8;let j:=h.9;let l:=h.5;let m:=a.3;exact⟨Y,Y,λr hr=>(h.q r hr).ok a,Y,Y,Y,Y⟩
def Fx.mw.Bq(h:f.mw):f.Al/\(∀k,f.K[f.8]? =Z (Z k)->pA k.q<=1048576)/\f.g.2=pA f.K/\pA f.K<=65535/\1<=f.g.8:=by let a:=h.1;let c:=a.g;let Q:=a.pu;let J:=a.kA;let p:=c.8;let P:=c.3;let O:=c.5;let L:=c.4;let N:=c.9;let E:=a.ol;let n:=h.2;let G:=h.3;let H:=a.dG.1;refine⟨⟨⟨⟨λk d=>?_,λb i=>?_,Y,Y,aeT a.pq⟩,Y,λb i=>(a.11 b i).1,Y,Y,a.bD.1,Y,Y⟩,a.3,Y,λk d=>?_⟩,λk d=>?_,a.2.y,Y,p.1⟩;let⟨s,o⟩:=pJ.1 d;let⟨e,u,v⟩:=a.4 s k o;have l:=e.H;let m:=a.pc s;exact⟨Y,Y,λr hr=>(e.q r hr).ok c⟩;let⟨a1,j,_⟩:=a.8 b i;exact⟨λx t=>(a1.3 x t).ok c,Y⟩;let⟨e,u,v⟩:=a.4 _ k d;let⟨a1,j,a3,w,z,A,B⟩:=a.Jq d;have l:=a.5 _ k d;let m:=e.2;let C:=a.pc f.8;let D:=a.bw f.8;refine⟨Y,⟨e.8,by split at l<;>omega⟩,a1.go c n Y Y j⟩;have:=(a.4 _ k d).1.5;omega
def Bs(a:f.K[f.8]? =Z (Z k)):f.bg=if(f.om k).qm (f.aT k)then(if cw (f.aT k).fst.m<=(f.aT k).de then((f.om k).gN f.8<|f.aT k,M)else(f.om k,aa))else((f.om k).at f.8 (f.aT k).px,aa):=by rw[Fx.bg];rw[a]
def Js(a:∀k,f.K[f.8]? ≠Z (Z k)):f.bg=(f,aa):=by rw[Fx.bg];split<;>grind
def Pw(h:f.Core):(f.om k).K[(f.om k).8]? =Z (Z<|f.aT k):=by show(f.K.set f.8<|Z<|f.aT k)[f.8]? =_;rw[rM,aO U,aO h.3]
def Fx.Core.pass(h:f.Core)(hd:∀k,f.K[f.8]? =Z (Z k)->k.de<=32):f.pass.Core:=by refine⟨h.g,h.2,?_,h.4,λs k b=>?_,h.6,h.7,h.8,h.9,h.pq,h.11,h.kA,h.ol,h.B,h.bD,h.16,h.bF⟩;show(f.8+1)%pA f.K<pA f.K;have:=h.3;exact Nat.mod_lt _ Y;have a:=b;show k.de<=(if s=(f.8+1)%pA f.K/\aa=M then 288 else 32);rw[aI ay];by_cases e:s=f.8;rw[e]at a;exact hd k a;have:=h.5 s k a;rwa [aI<|λx=>e x.1]at this
def Fx.Core.px(h:f.Core)(b:f.K[f.8]? =Z (Z k)):(f.at f.8 k.px).Core:=by let⟨a,d,e⟩:=h.4 _ k b;refine h.put b ⟨a.1,a.2,a.3,a.q,a.5,a.H,a.7,fI 0,a.9,a.us⟩ U U U ?_ λt x _ c=>h.5 t x c;show(0:Int)<=_;split<;>omega
def vw:AC Fx.mw:=by
 refine⟨λf h=>h.Bq,λf h s b=>?_,λf h b=>?_⟩;by_cases e:∃k,f.K[f.8]? =Z (Z k);let⟨k,a⟩:=e;rw[Bs a]at b⊢;split at b;rename_i c;rw[aO c];split at b;rename_i d;rw[aO d];let j:(f.aT k).eM (f.om k).g=M:=by rw[Fx.qm]at c;grind
 refine⟨((h.1.om a).gN U (Pw h.1) j d s),h.2,?_,h.4,h.C,h.6⟩;show((f.5+1:Nat):Int)<=8*(f.6-1)+(pA (fP _ f.fl):Int);rw[Vw];have:=h.3;omega;cases b;cases b;rw[Js<|λk a=>e ⟨k,a⟩]at b;cases b;by_cases e:∃k,f.K[f.8]? =Z (Z k);let⟨k,a⟩:=e;rw[Bs a]at b⊢;split at b;rename_i c;rw[aO c];split at b;cases b;rename_i d;rw[aI d];refine⟨(h.1.om a).pass λx m=>?_,h.2,h.3,h.4,h.C,h.6⟩;have n:=(Pw h.1).y.E m;cases n;let j:(f.aT k).eM f.g=M:=by rw[Fx.qm]at c;rw[cQ]at c;exact c.1
 let⟨r,l,t,o,_⟩:=yT j;have:=((h.1.Jq a).1.q r j4).cost h.1.g;have:=h.1.g.4;rw[o]at d;omega;rename_i c;rw[aI c];refine⟨((h.1.om a).px<|Pw h.1).pass λx m=>?_,h.2,h.3,h.4,h.C,h.6⟩;obtain⟨_,i⟩|⟨i,_⟩:=oy m;rw[i];show(0:Int)<=32;omega;exact absurd rfl i;rw[Js<|λk a=>e ⟨k,a⟩];refine⟨h.1.pass λk a=>absurd ⟨k,a⟩ e,h.2,h.3,h.4,h.C,h.6⟩
structure Fx.Rest(f:Fx):Prop where
 ov:f.Core
 bO:(f.bO:Int)<=8*f.ol
 rh:(f.rh.length:Int)<=64*f.ol
 C:(f.C.length:Int)<=512*f.ol
 acc:f.acc<=64*f.ol
def xD{K:av (aV Ck)}{t x}(h:(K.set j aj)[t]? =Z (Z x)):t≠j/\K[t]? =Z (Z x):=by grind
def Fx.Core.leave(h:f.Core){o}(p:∀b∈f.fl,b.s≠j)(q:o=f.9\/f.8=j):({f with K:=f.K.set j aj,opn:=o}:Fx).Core:=by refine⟨h.g,?_,?_,λs k a=>h.4 s k (xD a).2,λs k a=>?_,λs k a=>h.6 s k (xD a).2,λs t k i a d e=>h.7 s t k i (xD a).2 (xD d).2 e,λb c=>?_,h.9,h.pq,h.11,h.kA,h.ol,h.B,h.bD,h.16,h.bF⟩;show(pA (f.K.set j aj):Int)=f.g.2;rw[jB];exact h.2;show f.8<pA (f.K.set j aj);rw[jB];exact h.3;let n:=h.5 s k (xD a).2;grind;let⟨a1,l,a3,k,m⟩:=h.8 b c;grind
def Fx.Core.dP(h:f.Core)(j):(f.dP j).Core:=by rw[Fx.dP];split;rename_i k d;split;rename_i c;refine h.leave (λb a e=>?_) ?_;have:=h.stay b a k j4;grind;by_cases e:f.8=j;exact az e;rw[aI e];exact aA U;exact h;exact h
def abU(f:Fx)(j):(f.dP j).6=f.6/\(f.dP j).5=f.5/\(f.dP j).rh=f.rh/\(f.dP j).C=f.C/\(f.dP j).4=f.4/\(f.dP j).7=f.7/\(f.dP j).3=f.3/\(f.dP j).g=f.g/\(f.dP j).B=f.B:=by rw[Fx.dP];split;split<;>exact⟨U,U,U,U,U,U,U,U,U⟩;exact⟨U,U,U,U,U,U,U,U,U⟩
def Fx.Core.bQ(h:f.Core):∀n,(f.bQ n).Core/\(f.bQ n).6=f.6/\(f.bQ n).5=f.5/\(f.bQ n).rh=f.rh/\(f.bQ n).C=f.C/\(f.bQ n).4=f.4/\(f.bQ n).7=f.7/\(f.bQ n).3=f.3/\(f.bQ n).g=f.g/\(f.bQ n).B=f.B
 |0=>⟨h,U,U,U,U,U,U,U,U,U⟩|n+1=>by obtain⟨a1,b,a3,c,d,e,i,j,k,a⟩:=Core.bQ h n;let⟨m,o,p,q,r,s,t,u,l⟩:=abU (f.bQ n) n;rw[uV];exact⟨a1.dP n,m.E b,o.E a3,p.E c,q.E d,r.E e,s.E i,t.E j,u.E k,l.E a⟩
def Fx.Rest.bQ(h:f.Rest)(n):(f.bQ n).Rest:=by let⟨a1,a,a3,b,c,d,_⟩:=h.1.bQ n;exact⟨a1,by rw[a,a3];exact h.2,by rw[a,b];exact h.3,by rw[a,c];exact h.C,by rw[a,d];exact h.5⟩
def TK:∀(n:Nat) (f:Fx),(Fx.fin n f).6=f.6
 |0,f=>rfl|n+1,f=>by rw[Fx.fin];split;rfl;split;exact(TK n _).E (uR _ _).2.1;rfl
def YM(f:Fx):f.bg.1.6=f.6:=by rw[Fx.bg];split;split;split<;>rfl;rfl;rfl
def Py:∀(n p:Nat) (f:Fx),(rn n p f).6=f.6
 |0,_,f=>rfl|n+1,p,f=>by rw[rn];split;split;exact(Py n _ _).E<|YM f;exact(Py n _ _).E<|YM f;rfl
def Fx.Rest.early(h:f.Rest)(hc:f.6<1073741824):f.early.se.nK:=by
 let⟨l,g2,K,a,d⟩:=h.1.early.se;let b:=Dh f;let r:=h.1.kA;let s:=h.1.g.8;let n:=h.2;let o:=h.3;let p:=h.C;let q:=h.5;let c:f.early.se.6=f.6+1:=by rw[d,b]
 let i:f.early.se.5=f.5:=by rw[d,b]
 let j:f.early.se.rh=f.rh:=by rw[d,b]
 let k:f.early.se.C=f.C:=by rw[d,b]
 let e:f.early.se.fl=f.fl:=by rw[d,b]
 let m:f.early.4=f.4:=by rw[b]
 exact⟨l,by rw[c];omega,by rw[c,i];omega,by rw[c,j,e];omega,by rw[c,k,e];omega,by rw[c];omega⟩
def Fx.Rest.ok(h:f.Rest)(hc:f.6<1073741824):f.RE nK:=by
 let c:=h.1.g;let u:=h.1.pu;let q:=h.1.ol;let a:=h.1.early;let r:=c.3;let t:=c.6;let p:=c.7;let n:=h.1.16;let o:=h.5;let d:f.early.4=f.4:=by rw[Dh]
 refine⟨Y,Y,Y,Y,λs k b=>?_,λs k b=>?_,λs k b=>?_,by rw[d];omega,by have:=a.pu;omega,h.early hc⟩;have:=(h.1.4 s k b).1.7;omega;let⟨j,v,l⟩:=a.4 s k b;exact j.Ly a.g (by rw[l];exact a.pc s);have e:=(a.po.4 s k b).1.5;let m:=a.g.3;let i:f.early.po.g=f.early.g:=U;rw[i]at e;omega
def Fx.nK.trn(h:f.nK):f.mw:=by let a:=h.3;let b:=h.4;let c:=h.C;exact⟨h.1,h.2,Y,Y,Y,h.6⟩
def Fx.mw.rest(h:f.mw):f.Rest:=by let a:=h.3;let b:=h.1.kA;let c:=h.1.g.8;exact⟨h.1,Y,h.4,h.C,h.6⟩
def YB(h:f.Rest)(b:f.early.se.pw.pl.mw):f.qk.Rest/\f.qk.6=f.6+1:=by
 let⟨e,g2,K,a,d⟩:=h.1.early.se;let c:f.early.se.6=f.6+1:=by rw[d,Dh]
 refine⟨b.rest.bQ _,?_⟩;show(f.early.se.pw.pl.bQ _).6=_;rw[(b.1.bQ _).2.1];show(rn _ _<|Fx.fin _ f.early.se).6=_;rw[Py,TK,c]
open Go.Conc
def akF:PT ai=M:=aW
def adH:(uY ai [] "" &&uY ai [] " ")=M:=aW
open Go.RowKit
def Fx.Rest.put(h:f.Rest){k'}(a:f.K[s]? =Z (Z k))(i:k'.In f.g f.6)(b:k'.6=k.6)(c:k'.7=k.7)(d:k'.1=k.1)(e:k'.de=k.de):(f.at s k').Rest:=by refine⟨h.1.put a i b c d (by rw[e];exact h.1.5 s k a) λt x _ j=>h.1.5 t x j,h.2,h.3,h.C,h.5⟩
def Fx.Rest.sp(h:f.Rest)(b:f.K[s]? =Z (Z k))(x):(f.sp s k x).1.Rest:=by rw[Fx.sp];split;exact h;split;exact h;rename_i c d;let a:=(h.1.4 s k b).1;refine h.put b ⟨a.1,a.2,?_,a.q,a.5,a.H,a.7,a.8,a.9,a.us⟩ U U U U;show(k.4++x).size<=1024;grind
def Fx.Rest.take(h:f.Rest)(c:f.K[s]? =Z (Z k))(n):(f.at s<|k.pl n).Rest/\(f.take s k n).Rest:=by
 let b:=(h.1.4 s k c).1;let a:(f.at s<|k.pl n).Rest:=by
  rw[Ck.pl];split;exact h.put c b U U U U;refine h.put c ⟨b.1,b.2,b.3,b.q,b.5,?_,b.7,b.8,b.9,b.us⟩ U U U U;have:=b.H;show(pC (k.take<|k.much n).H:Int)+k.7<=f.g.9;let e:pC (k.take<|k.much n).H<=pC k.H:=by show(mS k.H _ _).size<=_;rw[oH];omega
  omega
 exact⟨a,a.bQ _⟩
def abl{l}(h:∀b∈l,b.s≠s):gw l s=0/\ir l s=0:=by
 induction l with
 |nil=>exact⟨U,U⟩
 |cons b l g=>let⟨c,d⟩:=g λx e=>h x (gC _ e);let a:=h b fJ;refine⟨?_,?_⟩;show(if b.s=s then(pA b.2:Int)else 0)+gw l s=0;rw[aI a,c];rfl;show(if b.s=s then iJ b.2 else 0)+ir l s=0;rw[aI a,d];rfl
section
variable [an] [oM] {l:av aZ} {u:aq} {f:Fx} {xb:Nat} {L:cZ}
def aE.ticks(c:If)(h:aE u f xb L)(G:CR l)(hR:f.Rest)(hc:f.6<1073741824):
  dX ai 26 #[pt xb] u λe b=>e=aG (θ #[])/\(f.qk.Rest/\f.qk.6=f.6+1)/\∃a,aE b f.qk xb a/\bE u L b a:=
 (h.S6 nK Fx.mw (U3 c _) wY vw (λ_ h=>h.1.stay) G (hR.ok hc)<|λh=>h.trn).V λ_ _ ⟨d,g,i⟩=>⟨d,YB hR g,i⟩
end
def Fx.Rest.jV(h:f.Rest){wt}(O:f.K[j]? =Z aj)(P:1<=wt/\wt<=4):(f.jV j wt).Rest:=by
 let m:=h.1.g;let S:=m.7;let X:=m.3;let W:=m.9;let V:=m.4;let J:=h.1.ol;let T:=h.1.bF;let L:∀b∈f.fl,b.s≠j:=λb G e=>by let⟨_,_,_,k,v⟩:=h.1.8 b G;rw[e,O]at v;cases v
 let⟨Q,R⟩:=abl L;let N:(fw f.3 wt f.g.7).In f.g f.6:=by refine⟨⟨fI 0,by show(0:Int)<=4;omega⟩,P,by show(0:Nat)<=1024;omega,λr hr=>(by cases hr),?_,?_,?_,fI 0,?_,⟨xS,λx a=>M3⟩⟩;show((0:Nat):Int)<=f.g.3;omega;show((0:Nat):Int)+0<=f.g.9;omega;show 0<=f.g.7/\f.g.7<=32;omega;show(0:Int)<=0/\0+32*f.g.7<=1024*(f.6+1);omega
 have l:∀(t:Nat) x,(f.K.set j<|Z<|fw f.3 wt f.g.7)[t]? =Z (Z x)->(t=j/\x=fw f.3 wt f.g.7)\/(t≠j/\f.K[t]? =Z (Z x)):=λt x a=>oy a;refine⟨⟨m,?_,?_,λt x a=>?_,λt x a=>?_,λt x a=>?_,λt p x n a w e=>?_,λc H=>?_,h.1.9,h.1.pq,h.1.11,h.1.kA,J,h.1.B,h.1.bD,h.1.16,by show 0<=f.3+1;omega⟩,h.2,h.3,h.C,h.5⟩;show(pA (f.K.set j _):Int)=f.g.2;rw[jB];exact h.1.2;show f.8<pA (f.K.set j _);rw[jB];exact h.1.3;show x.In f.g f.6/\x.6=gw f.fl t/\x.7=ir f.fl t;obtain⟨o,i⟩|⟨_,d⟩:=l t x a;rw[o,i,Q,R];exact⟨N,rfl,rfl⟩;exact h.1.4 t x d;obtain⟨o,i⟩|⟨_,d⟩:=l t x a;rw[i];show(0:Int)<=_;split<;>omega;exact h.1.5 t x d;show 0<=x.1/\x.1<f.3+1;obtain⟨o,i⟩|⟨_,d⟩:=l t x a;rw[i];show 0<=f.3/\f.3<f.3+1;omega;have:=h.1.6 t x d;omega;obtain⟨o,i⟩|⟨_,d⟩:=l t x a;obtain⟨E,u⟩|⟨_,q⟩:=l p n w;omega;have:=h.1.6 p n q;rw[i]at e;let D:f.3=n.1:=e;omega;obtain⟨E,u⟩|⟨_,q⟩:=l p n w;have:=h.1.6 t x d;rw[u]at e;let D:x.1=f.3:=e;omega;exact h.1.7 t p x n d q e;let⟨a1,z,a3,k,A⟩:=h.1.8 c H;exact⟨a1,z,a3,IW A⟩
def Fx.Core.is(h:f.Core)(a:f.K[s]? =Z (Z k)):f.Is k.1 s k:=⟨a,U,λt c b e=>h.7 t s c k b a e⟩
variable{t:av UInt8}{wt:Nat->Int}
def wU{s:ByteArray}(h:s.1.1=t)(i):bt s i=(pW (t[i]?.getD 0):Int):=by rw[bt];rw[<-h];simp[ue]
def Nl(n:Nat)(h:n<=65535):((pW (ji ((n:Int)%256).toNat):Int))+256*(pW (ji ((n:Int) / 256).toNat):Int)=n:=by let a:pD ((n:Int)%256)=n %256:=Y;let b:pD ((n:Int) / 256)=n / 256:=Y;rw[a,b,zQ,zQ];omega
structure Aj(k k':Ck):Prop where
 no:k'.no=k.no
 wt:k'.wt=k.wt
 tok:k'.tok=k.tok
 de:k'.de=k.de
 sv:k'.sv=k.sv
 pc:k'.pc=k.pc
 H:k'.H=k.H
 ph:k'.ph=k.ph
def Aj.E{a b c}(h:Aj a b)(d:Aj b c):Aj a c:=⟨d.1.E h.1,d.2.E h.2,d.3.E h.3,d.4.E h.4,d.5.E h.5,d.6.E h.6,d.H.E h.H,d.8.E h.8⟩
attribute [local go_sem ↓] Go.wp_at_zero Go.wp_at_succ
attribute [local go_sem] cz cE
abbrev qo(n:Nat):aF UInt8:=Array.replicate n 0
def Ef(n:Nat):aF aB:=(qo n).map bP
def adw(n):madeCells (BX .u8 0).cells n=Ef n:=by apply Bx;rw[show(BX .u8 0).cells=#[ι .u8 0] from U,toList_madeCells_one];simp[Ef,qo]
def adN(n:Nat)(e:n<=65535)(W):(Instr.makeSlice 158 (I (n:Int))<|I (n:Int)).run ai W=.ok (ζ (Z<|F W.1.size 0) n n) (lL W<|au (Ef n) 5):=by let⟨d,a,b,c,f⟩:=nG infoByte;have h:=run_make W 158 5 d (ι .u8 0) dp a b .i64 .i64 (n:Int) (n:Int) Y Y j4 Y;rw[c]at h;simp at h;rwa [adw]at h
def Ru(w w':aq)(n d:Nat):Prop:=∃a b,dc w' d a b (ζ aj 0 0) n (qo n) (qo n) []/\pB w.1<=d/\pB w.1<=a/\pB w.1<=b
def Tj{b0 b1}(a:n<=65535)(h:(b0=pB w.1/\b1=pB w.1+1)\/(b1=pB w.1/\b0=pB w.1+1)):
  Ru w ((lL (lL (lL w<|au (Ef n) 5)<|au (Ef n) 5)<|au #[ζ (Z<|F b0 0) n n,ζ (Z<|F b1 0) n n,ζ aj 0 0] 161).drew) n (pB w.1+2):=by
 refine⟨b0,b1,⟨vj ay,?_,?_,qH _ _ _ _,by simp[qo],ay,Y,Y⟩,Y,Y,Y⟩;obtain h|h:=h;exact gD<|gD<|vj h.1;exact gD (vj (by simp;exact h.2));obtain h|h:=h;exact gD (vj (by simp;exact h.2));exact gD<|gD<|vj h.1
def Tg(n:Nat)(c:n<=65535)(w):
  ax ai 111 #[I (n:Int)] w λe d=>∃b,e=aG (aQ b)/\aK w d/\Ru w d n b:=by
 let m:=adN n c;go_enter func111,ntmps111
 go_upto_region 1 with fail
 refine ga (S:=λ_=>True) trivial λl=>?_;apply tl [0,2];refine aH [1,3]<|.cons U (λK a=>?_) ?_
 ·go_simp;refine a _ _ (trivial)<|λf=>?_;clear a K;refine rH 3 λK a=>?_;go_simp;refine a _ _ (trivial)<|λg=>?_;clear a K;apply tl [4];refine rH 5 λK a=>?_;go_simp;refine a _ _ (trivial)<|λh=>?_;clear a K;apply tl [6];refine dJ ?_;(go_wp2_with fail;go_ret;exact⟨_,U,((bq.alloc ay _).alloc bV _).drew,(Tj c<|aA ⟨U,U⟩)⟩)
 refine .cons U (λK a=>?_) .nil;go_simp;refine a _ _ (trivial)<|λi=>?_;clear a K;refine rH 1 λK a=>?_;go_simp;refine a _ _ (trivial)<|λj=>?_;clear a K;apply tl [4];refine rH 5 λK a=>?_;go_simp;refine a _ _ (trivial)<|λk=>?_;clear a K;apply tl [6];refine dJ ?_
 (go_wp2_with fail;go_ret;exact⟨_,U,((bq.alloc ay _).alloc bV _).drew,(Tj c<|az ⟨U,U⟩)⟩)
def J7(w:aq)(a N:Nat)(l i k rt h m j:Int)(e:Ending)(w':aq):Prop:=∃c b d f g,e=aG (θ #[aQ c,I 0])/\J5 w' c a N l i k rt h m j b N 0 0 aa 0 (Z<|F d 0)/\Ai w' b (rP N aj)/\dc w' d f g (ζ aj 0 0) a (qo a) (qo a) []/\aK w w'/\pB w.1<=c/\pB w.1<=b/\pB w.1<=d/\pB w.1<=f/\pB w.1<=g
def dc.old{W' d bb db B D}(h:dc W d bb db (ζ aj 0 0) n B D [])(a:∀(b:Nat) (x:Obj),W.1[b]? =Z x->W'.1[b]? =Z x):dc W' d bb db (ζ aj 0 0) n B D []:=⟨a _ _ h.1,a _ _ h.2,a _ _ h.3,qH _ _ _ _,h.5,h.6,h.7,h.8⟩
def aef(d N:Nat)(qu mx qn rt bu wk ou w)(u:d<=65535)(B:N<=65535)(hc:sB d N qu mx qn rt bu wk ou=M):
  ax ai 66 #[ν<|iV d N qu mx qn rt bu wk ou] w (J7 w d N qu mx qn rt bu wk ou):=by
 have J:=adP N B;go_enter func66,ntmps66
 go_upto_region 4 with(go_at_call 81;apply(U2 d N qu mx qn rt bu wk ou _).V;rw[hc];rintro e i ⟨rfl,p⟩)
 have s:=bq.E (p.V ay);have c:=(p.5 _ ay).E (ao w _);have j:=aX s;clear p s;refine ga (S:=iU w.1.size d N qu mx qn rt bu wk ou) ⟨aD c U,aD c U,aD c U,aD c U,aD c U,aD c U,aD c U,aD c U,aD c U⟩ λt=>?_;apply tl [0,1,2,4,5];refine aH [3,6]<|.cons U (λK a=>?_) ?_
 ·go_simp;refine a _ _ (iU.a1 t)<|λv=>?_;clear a K;refine rH 6 λK a=>?_;go_simp;(refine(Tg d u _).V ?_;rintro e l ⟨b,rfl,g,q⟩);go_wp2_with fail;refine a _ _ (iU.rk v g)<|λx=>?_;clear a K;apply tl [7];refine rH 8 λK a=>?_;go_simp;refine a _ _ (iU.a1 x)<|λG=>?_;clear a K;apply tl [9,10];refine dJ ?_
  (go_wp2_with fail;go_ret2;exact(by
     have k:=j.4;have f:=((j.alloc k _).drew).E (g.V bV);let⟨m,n,o,C,D,E⟩:=q;let e:pB (lL i<|au (tU<|rP N aj) 119).drew.1=pB i.1+1:=ay;exact⟨pB l.1,pB i.1,b,m,n,U,vj U,gD<|bT g<|vj U,o.old λ_ _ h=>gD h,f.alloc f.4 _,f.4,k,Y,Y,Y⟩))
 refine .cons U (λK a=>?_) .nil;go_simp
 (refine(Tg d u _).V ?_;rintro e l ⟨b,rfl,g,q⟩)
 go_wp2_with fail;refine a _ _ (iU.rk t g)<|λz=>?_;clear a K;refine rH 3 λK a=>?_;go_simp;refine a _ _ (iU.a1 z)<|λA=>?_;clear a K;apply tl [7];refine rH 8 λK a=>?_;go_simp;refine a _ _ (iU.a1 A)<|λH=>?_;clear a K;apply tl [9,10];refine dJ ?_
 (go_wp2_with fail;go_ret2;exact(by
    let k:=j.4;let f:=(j.drew).E<|g.V k;let r:=f.4;let⟨m,n,o,C,D,E⟩:=q;let e:pB i.drew.1=pB i.1:=U;exact⟨pB l.1+1,pB l.1,b,m,n,U,vj ay,gD<|vj U,o.old λ_ _ h=>gD (gD h),(f.alloc r _).alloc bV _,Y,r,Y,Y,Y⟩))
def Fx.sI(f:Fx)(t:Ft):Fx:={f with bD:=f.bD++[t]}
def acE:(ai.info? 188).map (λi=>(i.8,i.3,i.4))=Z (Z<|ν #[I 0,ω aa,I 0],3,24):=aW
def aaM{g t o}(h:aE w f xb L)(s:mT w3 0 188 3 (ζ (Z<|F g 0) (pA f.bD+1) kh) (pA f.bD+1) ((f.bD.flatMap λt=>(dK t).1)++(dK t).1))(i:(lL w o).grownBy w3 (rW L.7))(q:rW L.7=Z g\/g=pB w.1+1):
  w3.1[xb]? =Z (au (lC f L) 112 (0,0))/\∃k,aE (kB w3 (F xb 17)<|ζ (Z<|F g 0) (pA f.bD+1) kh) (f.sI t) xb k/\bE w L (kB w3 (F xb 17)<|ζ (Z<|F g 0) (pA f.bD+1) kh) k:=by
 let c:aK w (lL w o):=bq;let j:aS (λb=>Z b=rW L.7) w w3:=⟨i.1.E c.1,cM c.4 i.4,λb d l=>(i.5 b (cS d c.4) l).E (c.5 b d)⟩;let m:∀b,b<pB w.1->Z b=rW L.7->L.13 b=4:=λb _ e=>h.9 b e.y
 let p:=ze j h.1 λe=>by let d:=h.9 xb e.y;let l:=h.2;omega
 refine⟨p,_,h.dG (cq:=gE L.13 w.1.size 4) j m j4 (λb a=>gW a)<|λb e=>?_,⟨λb a=>gW a,(j.V λb a e=>?_).set ?_ _⟩⟩;have n:g=b:=D4
 subst n;obtain e|e:=q;rw[gW (jJ h.8 g e)];exact h.9 g e;exact uZ Y;have:=m b a e;show L.13 b≠0;omega;show L.13 xb≠0;rw[h.2];omega
def abA(w f xb L)(h:aE w f xb L)(t:Ft)(hd:1<=t.1/\t.1<=16)(Q:0<=t.3):ax ai 76 #[jp xb,I t.1,ω t.2,I t.3] w λe s=>∃i n,e=aG (I n)/\((n=6/\64<=pA f.bD/\i=f)\/(n=0/\pA f.bD<64/\i=f.sI t))/\∃m,aE s i xb m/\bE w L s m:=by
 obtain⟨H,C,D,E,G⟩:=nG acE;let q:ia t.1 1 16=M:=by simp[ia];omega
 let R:¬t.3<0:=Y;let hr:=h.8;obtain⟨a,kh,e⟩:=gP hr;let z:kD w (F xb 17)=Z (ζ a (pA f.bD) kh):=by rw[<-e];exact aD h.1 U
 let S:xb<pB w.1:=jo z;let T:¬xb=pB w.1:=Y;let l:=aX h;obtain⟨b,c,tp⟩:=t;by_cases P:64<=pA f.bD;·have B:(pA f.bD:Int)≥64:=Y;go_enter func76,ntmps76;go_wp2_with (go_at_call 71;refine(xK b 1 16 _).V ?_;rw[q];rintro e j ⟨rfl,h0⟩;subst j);go_ret;exact⟨f,6,U,aA ⟨U,P,U⟩,L,l,bE.refl _ _⟩
 have B:¬(pA f.bD:Int)≥64:=Y;have v:bc (mT (lL w<|au (dK ⟨b,c,tp⟩) 188) 0 188 3 (ζ a (pA f.bD) kh) (pA f.bD)<|f.bD.flatMap λt=>(dK t).1):=by rw[<-e];exact hr.alloc _
 have r:=trivial;go_enter func76,ntmps76;go_wp2_with (first
  |(go_at_call 71;refine(xK b 1 16 _).V ?_;rw[q];rintro e j ⟨rfl,h0⟩;subst j)|(at_builtin;have _t:=r;refine Re _ n7 _ _ 106 n7 0 188 H _ 3 24 underlying106 C D E G n7 Y _ (pA f.bD) (f.bD.flatMap λt=>(dK t).1) n7 v ⟨pB w.1,0,aj⟩ 1 1 (dK ⟨b,c,tp⟩).1 n7 n7 (wu<|ao w _) Hx Y B5 Y ay (pB w.1+1) ay ?_;intro g N J p o A O;clear r;obtain⟨d,k⟩:=aaM (t:=⟨b,c,tp⟩) l p (by rw[aX e];exact o) j4;have K:=aJ J xb 17 L.7 d;have f3:=bp d 17;have u:=aX k;clear d k p o A))
 go_ret;exact⟨f.sI ⟨b,c,tp⟩,0,U,az ⟨U,Y,U⟩,u⟩
def Fx.Rest.sI(h:f.Rest){t}(hl:pA f.bD<64)(hd:1<=t.1/\t.1<=16)(a:0<=t.3/\t.3<=9223372036854775807):(f.sI t).Rest:=by let c:=h.1;refine⟨⟨c.g,c.2,c.3,c.4,c.5,c.6,c.7,c.8,c.9,c.pq,c.11,c.kA,c.ol,c.B,⟨?_,λx hx=>?_⟩,c.16,c.bF⟩,h.2,h.3,h.C,h.5⟩;show(f.bD++[t]).length<=_;grind;obtain hx|hx:=jg.1 hx;exact c.bD.2 x hx;rw[iz.1 hx];exact⟨⟨Y,hd.2⟩,a⟩
abbrev oU(g:Cf):aF aB:=iV g.sz g.cl g.qu g.mx g.qn g.rt g.bu g.8 g.ou
def Fx.new(g:Cf):Fx:={g:=g,K:=rP (pD g.2) aj,bF:=0,acc:=0,bO:=0,ol:=0,stop:=aa,aC:=0,opn:=aa,bD:=[],fl:=[],B:=qo (pD g.1),D:=qo (pD g.1),C:=[],rh:=[]}
def Cf.Is.WI(h:sB g.1 g.2 g.3 g.4 g.5 g.6 g.7 g.8 g.9=M):g.Is:=by unfold sB JT Hm at h;simp[ia,sN]at h;refine⟨?_,?_,?_,?_,?_,?_,?_,?_,?_⟩<;>omega
def IE{N:Nat}{x}(h:(rP N (aj:aV Ck))[s]? =Z (Z x)):False:=by grind
def Fx.Rest.new(h:g.Is):(Fx.new g).Rest:=by let e:=h.2;let f:=h.1;let i:=h.8;exact⟨⟨h,by simp[Fx.new];omega,by simp[Fx.new];omega,λs k a=>(IE a).e,λs k a=>(IE a).e,λs k a=>(IE a).e,λs t k j a=>(IE a).e,λb c=>Hq,y9,y9,λb c=>Hq,by simp[Fx.new];omega,fI 0,by simp[Fx.new,qo];omega,⟨NB,λt d=>(by cases d)⟩,fI 0,fI 0⟩,NB,NB,NB,NB⟩
variable{b:Nat}
def mC{a t:Nat}{x lm}(c:W.1[a]? =Z (au x t (0,0)))(d:W.1[b]? =Z (au lm s (0,0)))(f:t≠s):a≠b:=λe=>by grind
def abD(g)(h:sB g.1 g.2 g.3 g.4 g.5 g.6 g.7 g.8 g.9=M)(w):
  ax ai 66 #[ν<|oU g] w λe u=>∃m L,e=aG (θ #[jp m,I 0])/\aE u (Fx.new g) m L/\(∀b,b<pB w.1->L.13 b=0)/\aK w u:=by
 let hI:=Cf.Is.WI h;let T:=hI.2;let V:=hI.1;obtain⟨f,hS⟩:∃n:Nat,g.1=n:=⟨pD g.1,Y⟩;obtain⟨N,v⟩:∃n:Nat,g.2=n:=⟨pD g.2,Y⟩;let C:pD g.1=f:=Y;let D:pD g.2=N:=Y;have E:=h;rw[hS,v]at E;rw[show oU g=iV f N g.3 g.4 g.5 g.6 g.7 g.8 g.9 from by rw[oU];rw[hS,v]];apply(aef f N g.3 g.4 g.5 g.6 g.7 g.8 g.9 w Y Y E).V;rintro e u ⟨m,t,d,o,p,rfl,q,hR,k,c,W,X,q3,q4,q5⟩;refine⟨m,⟨t,rP N aj,[],ζ aj 0 0,λ_=>0,λ_=>(0,0),ζ aj 0 0,ζ aj 0 0,d,o,p,ζ aj 0 0,λx=>if x=m then 1 else if x=t then 2 else if x=d\/x=o\/x=p then 6 else 0⟩,U,⟨?_,ay,?_,by simp[(mC q hR aM).y],⟨by simp[Fx.new,D],λs a b G c=>?_⟩,⟨U,λi b l c=>?_⟩,⟨qH _ _ _ _,λb c=>Hq,λx A=>absurd A (rR _),λi l J=>?_,λx an A=>absurd A (rR _),λi b l c=>?_,λj h0 H=>absurd H (rR _)⟩,qH _ _ _ _,λb c=>Hq,qH _ _ _ _,λb c=>Hq,?_,⟨by simp[(mC q k.1 aM).y,(mC hR k.1 aM).y],by simp[(mC q k.2 aM).y,(mC hR k.2 aM).y],by simp[(mC q k.3 aM).y,(mC hR k.3 aM).y],λb c=>Hq⟩⟩,λb c=>?_,c⟩
 rwa [show lC (Fx.new g) _=TI f N g.3 g.4 g.5 g.6 g.7 g.8 g.9 t N 0 0 aa 0 (Z<|F d 0) from by simp[lC,TI,Fx.new,hS,v]]
 rwa [List.map_replicate]
 have r:(rP N (aj:aV Ck))[s]? =Z a:=by rw[<-D];exact G
 rw[Kn]at r;have z:=c;rw[Kn]at z;split at r;rename_i K;rw[aO K]at z;cases r;cases z;trivial;cases r;cases c;cases J;cases c;have:pB (Fx.new g).B=f:=by simp[Fx.new,qo,C]
 rw[this];show dc u d o p _ f (qo (pD g.1)) (qo (pD g.1)) []
 rwa [C]
 have:b≠m/\b≠t/\b≠d/\b≠o/\b≠p:=⟨Y,Y,Y,Y,Y⟩;simp[this]
abbrev crL(g:Cf)(xb:Nat)(lv:aB):aF aB:=#[I g.sz,I g.cl,I g.qu,I g.mx,I g.qn,I g.rt,I g.bu,I g.8,I g.ou,jp xb,lv,ζ aj 0 0,I 0,I 1,I 0]
abbrev J2(W:aq)(a:Nat)(g:Cf)(xb:Nat)(lv:aB):Prop:=W.1[a]? =Z (au (crL g xb lv) 40 (0,0))
def K6(g)(h:sB g.1 g.2 g.3 g.4 g.5 g.6 g.7 g.8 g.9=M)(w):
  ax ai 30 #[ν<|oU g] w λe l=>∃i f L,e=aG (jp i)/\J2 l i g f (ζ aj 0 0)/\aE l (Fx.new g) f L/\(∀b,b<pB w.1->L.13 b=0)/\L.13 i=0/\pB w.1<=i/\(∀b,pB l.1<=b->L.13 b=0)/\aK w l:=by
 have o:=aX h;clear h;go_enter func30,ntmps30;go_wp2_with (go_at_call 66;apply(abD g o _).V;rintro e a ⟨f,L,rfl,hF,j,d⟩;have c:=bT d<|ao w _;have q:=aJ a w.1.size 0 (I g.1) c;have r:=aJ a w.1.size 1 (I g.2) c;have s:=aJ a w.1.size 2 (I g.3) c;have t:=aJ a w.1.size 3 (I g.4) c;have u:=aJ a w.1.size 4 (I g.5) c;have v:=aJ a w.1.size 5 (I g.6) c;have x:=aJ a w.1.size 6 (I g.7) c;have z:=aJ a w.1.size 7 (I g.8) c;have A:=aJ a w.1.size 8 (I g.9) c;have p:bc (aE a (Fx.new g) f L/\(∀b,b<pB (lL w<|au (oU g) 35).1->L.13 b=0)/\aK (lL w<|au (oU g) 35) a):=⟨hF,j,d⟩;clear hF j d c);go_ret
 let⟨hF,j,d⟩:=p
 have m:aK w a:=bq.E (d.V ay);have n:=m.4;refine⟨pB a.1,f,{L with own:=λb=>if b<pB a.1 then L.13 b else 0},U,vj U,(hF.owns _ λb k=>aO k).below<|(bv _ a).alloc (aR _) _,λb k=>?_,aI<|uD _,n,λb k=>aI ?_,m.alloc n _⟩;show(if b<pB a.1 then L.13 b else 0)=0;rw[aO Y];exact j b bV;simp at k;omega
section
attribute [local go_sem] cz cE Dj Dl vB
structure CQ[an](l:av aZ):Prop where
 fit:vb ai l
 kR:il 29
 kP:il 21
 kC:il 28
def agk[an](x):bo f29 x=bo f29 (dU (dR 29) x):=by let h:(dU (dR 29) x).getD 4 y=x.getD 4 y:=zm (L:=dR 29) (a:=⟨x,[]⟩) (i:=4) aM;simp only[bo,results29,BW,vU,BV,h]
def agj[an](x):bo f21 x=bo f21 (dU (dR 21) x):=by let h:(dU (dR 21) x).getD 4 y=x.getD 4 y:=zm (L:=dR 21) (a:=⟨x,[]⟩) (i:=4) aM;simp only[bo,results21,BW,vU,BV,h]
def agi[an](x):bo f28 x=bo f28 (dU (dR 28) x):=by let h:(dU (dR 28) x).getD 2 y=x.getD 2 y:=zm (L:=dR 28) (a:=⟨x,[]⟩) (i:=2) aM;simp only[bo,results28,BW,vU,BV,h]
section
variable [an] {u:aq} {l:av aZ}
def afF(ad len kh j ρ i v)(h:(ba ai 29 #[.slice ad len kh,I j] .normal).2[i]? =Z v)(b:i∉dR 29):VR ρ v v:=
 Di func29 (body:=nS f29) aW (λi v h b ρ=>by
  match i,b with
  |0,b=>exact absurd aM b
  |1,_=>simp at h;subst h;exact .int _ _
  |n+2,_=>simp at h) ρ i v h b
def afg(c n ρ i v)(h:(ba ai 21 #[I c,I n] .normal).2[i]? =Z v)(b:i∉dR 21):VR ρ v v:=
 Di func21 (body:=nS f21) aW (λi v h b ρ=>by
  match i with
  |0=>simp at h;subst h;exact .int _ _
  |1=>simp at h;subst h;exact .int _ _
  |n+2=>simp at h) ρ i v h b
def V7(ad len kh ρ i v)(h:(ba ai 28 #[ζ ad len kh] .normal).2[i]? =Z v)(b:i∉dR 28):VR ρ v v:=
 Di func28 (body:=nS f28) aW (λi v h b ρ=>by
  match i,b with
  |0,b=>exact absurd aM b
  |n+1,_=>simp at h) ρ i v h b
variable {Q:Exit->Act->aq->Prop} {a:Act} {jt:aF Oper} {i n d:Nat} {kj:av Nat} {f0:aZ} {L:av (Nat×aB)} {ty:aY} {ps:String} {af:aF Edge} {gd:aV (Nat×Bool)} {ats:aF aY} {x lm:Operand} {ad:aV iL} {len kh:Nat} {j c:Int}
def FE.rz{z}(G:CQ l)(hl:len<=cP)(h:aRZ z ad len)(E:Fa n a L)(k:∀b,dy (aRv z len j)->iD a b d (I (aRv z len j))->Fa n b ((d,I (aRv z len j))::L)->FO dR f0 ai jt Q kj b u)(g:jt[i]? =Z ⟨Z d,.call ⟨.value<|.func 29,#[x,lm],ats⟩,ty,ps,af,gd⟩:=by rfl) (hv:tK L [x,lm]=Z [ζ ad len kh,I j]:=by rfl) (f:0<=j/\j<=9223372036854775807:=by omega) (m:(iu jt L gd&&iH jt n gd)=M:=by rfl) (hc:mW [] n d []=M:=by rfl):FO dR f0 ai jt Q (i::kj) a u:=by refine FE.cf (xs:=[x,lm]) E func29 G.2 agk (afF ad len kh j) ((afG G.1 ad len kh j hl f.1 f.2 h).V ?_) g m (hc:=hc) (hv:=hv);rintro e p ⟨rfl,o,h0⟩;subst p;exact⟨_,U,λb N E=>k b o N E⟩
def FE.raw(G:CQ l)(hl:len<=cP)(h:Af ad len)(E:Fa n a L)(k:∀z b,dy z->iD a b d (I z)->Fa n b ((d,I z)::L)->FO dR f0 ai jt Q kj b u)(g:jt[i]? =Z ⟨Z d,.call ⟨.value<|.func 29,#[x,lm],ats⟩,ty,ps,af,gd⟩:=by rfl) (hv:tK L [x,lm]=Z [ζ ad len kh,I j]:=by rfl) (f:0<=j/\j<=9223372036854775807:=by omega) (m:(iu jt L gd&&iH jt n gd)=M:=by rfl) (hc:mW [] n d []=M:=by rfl):FO dR f0 ai jt Q (i::kj) a u:=FE.rz G hl h.choose_spec E (k _) g hv f m hc

def FE.pkz{m:Int}(G:CQ l)(h:dy c)(E:Fa n a L)(k:∀b,iD a b d (I<|eX c m)->Fa n b ((d,I<|eX c m)::L)->FO dR f0 ai jt Q kj b u)(f:jt[i]? =Z ⟨Z d,.call ⟨.value<|.func 21,#[x,lm],ats⟩,ty,ps,af,gd⟩:=by rfl) (hv:tK L [x,lm]=Z [I c,I m]:=by rfl) (hm:0<m/\m<=9223372036854775807:=by omega) (g:(iu jt L gd&&iH jt n gd)=M:=by rfl) (hc:mW [] n d []=M:=by rfl):FO dR f0 ai jt Q (i::kj) a u:=by refine FE.cf (xs:=[x,lm]) E func21 G.3 agj (afg c m) ((afh G.1 c m h hm.1 hm.2).V ?_) f g (hc:=hc) (hv:=hv);rintro e o ⟨rfl,h0⟩;subst o;exact⟨_,U,λb N E=>k b N E⟩
def FE.tT{m:Int}(G:CQ l)(g:dy c)(E:Fa n a L)(k:∀r b,(0<=r/\r<m)->iD a b d (I r)->Fa n b ((d,I r)::L)->FO dR f0 ai jt Q kj b u)(e:jt[i]? =Z ⟨Z d,.call ⟨.value<|.func 21,#[x,lm],ats⟩,ty,ps,af,gd⟩:=by rfl) (hv:tK L [x,lm]=Z [I c,I m]:=by rfl) (hm:0<m/\m<=9223372036854775807:=by omega) (f:(iu jt L gd&&iH jt n gd)=M:=by rfl) (hc:mW [] n d []=M:=by rfl):FO dR f0 ai jt Q (i::kj) a u:=FE.pkz G g E (λb N E=>k _ b (AX c hm.1) N E) e hv hm f hc
def FE.lcf{k:Nat}(o:vb ai l)(E:Fa n a L)(B:u.1[b]? =Z (au (oU g) 35 (0,0)))(c:∀m,iD a m d (ν<|oU g)->Fa n m ((d,ν<|oU g)::L)->FO dR f0 ai jt Q kj m u)(f:jt[i]? =Z ⟨Z d,.load 35<|.tmp k,ty,ps,af,gd⟩:=by rfl) (p:lk L k=Z (pt b):=by rfl) (q:(iu jt L gd&&iH jt n gd)=M:=by rfl) (hc:mE (dR f0) n d L (.load 35<|.tmp k)=M:=by rfl):FO dR f0 ai jt Q (i::kj) a u:=by
 refine FE.ow E c f q U hc (λh=>?_) o;have e:gS L (.tmp k)=pt b:=by show(lk L k).getD y=_;rw[p];rfl
 have f:(u.tp h).1[b]? =_:=B;have r:=aJ (u.tp h) b 0 (I g.1) f;have s:=aJ (u.tp h) b 1 (I g.2) f;have t:=aJ (u.tp h) b 2 (I g.3) f;have v:=aJ (u.tp h) b 3 (I g.4) f;have w:=aJ (u.tp h) b 4 (I g.5) f;have z:=aJ (u.tp h) b 5 (I g.6) f;have A:=aJ (u.tp h) b 6 (I g.7) f;have C:=aJ (u.tp h) b 7 (I g.8) f;have D:=aJ (u.tp h) b 8 (I g.9) f;clear f B E c;rw[execOp];simp[e];go_simp
def V8(G:CQ l)(ad:aV iL)(len kh:Nat)(hl:len<=cP)(h:Af ad len):
  iT dR ai 28 #[ζ ad len kh] u λe u'=>∃g:Cf,e=aG (ν<|oU g)/\sB g.1 g.2 g.3 g.4 g.5 g.6 g.7 g.8 g.9=M:=by
 have hT:=G.1;refine iT.AU 60 func28 λa E=>?_;refine sq<|reg [0] ?_;refine nw (v:=pt u.1.size) E (lL u<|au (iV 0 0 0 0 0 0 0 0 0) 35) (hr:=λA=>by go_simp;rfl) λa _ E=>cc ?_;obtain⟨f,lD⟩:∃b,b=pB u.1:=⟨_,U⟩;rw[<-lD]at E;have o:(lL u<|au (iV 0 0 0 0 0 0 0 0 0) 35).1[f]? =Z (au (iV 0 0 0 0 0 0 0 0 0) 35 (0,0)):=vj lD;generalize lL u (au (iV 0 0 0 0 0 0 0 0 0) 35)=H at*;clear lD;refine sq<|reg [0,1,2,3,4,5,6,7,8,9,10,11,12,13,14,15,16,17,18,19,20] ?_;refine FE.bl E λa _ E=>?_;refine FE.raw G hl h E λz0 a oh _ E=>?_;refine FE.tT G oh E λK a yJ _ E=>?_;refine ar E λa _ E=>?_;refine ar E λa _ E=>?_;refine FE.bl E λa _ E=>?_;refine FE.raw G hl h E λz1 a bg _ E=>?_;refine FE.tT G bg E λP a Vk _ E=>?_;refine ar E λa _ E=>?_;refine FE.bl E λa _ E=>?_;refine FE.raw G hl h E λz2 a oZ _ E=>?_;refine FE.tT G oZ E λR a bC _ E=>?_;refine ar E λa _ E=>?_;refine FE.bl E λa _ E=>?_;refine FE.raw G hl h E λz3 a bh _ E=>?_;refine FE.tT G bh E λm a bD _ E=>?_;refine ar E λa _ E=>?_;refine ar E λa _ E=>?_;refine FE.ow (v:=ν<|iV (4*(1+K)) (1+P) (1+R) (4*(1+m)) 0 0 0 0 0) E λa _ E=>?_;refine nw (v:=pt H.1.size) E (lL H<|au (iV 0 0 0 0 0 0 0 0 0) 35) (hr:=λA=>by go_simp;rfl) λa _ E=>?_;obtain⟨B,V⟩:∃b,b=pB H.1:=⟨_,U⟩;rw[<-V]at E;refine vo E (lL H<|au (iV (4*(1+K)) (1+P) (1+R) (4*(1+m)) 0 0 0 0 0) 35) (cc ?_) (hr:=λA=>?_)
 rotate_left
 ·show _=Result.ok _ (lL (H.tp A)<|au (iV (4*(1+K)) (1+P) (1+R) (4*(1+m)) 0 0 0 0 0) 35);have V:B=pB (H.tp A).1:=V;show(execOp _ _).run _ (lL (H.tp A)<|au (iV 0 0 0 0 0 0 0 0 0) 35)=_;generalize H.tp A=x at*;subst V;go_simp
 have w:(lL H<|au (iV (4*(1+K)) (1+P) (1+R) (4*(1+m)) 0 0 0 0 0) 35).1[B]? =Z (au (iV (4*(1+K)) (1+P) (1+R) (4*(1+m)) 0 0 0 0 0) 35 (0,0)):=vj V;have W:f≠B:=λe=>by have:=(bf.1 o).1;omega
 replace o:(lL H<|au (iV (4*(1+K)) (1+P) (1+R) (4*(1+m)) 0 0 0 0 0) 35).1[f]? =Z (au (iV 0 0 0 0 0 0 0 0 0) 35 (0,0)):=gD o
 generalize lL H (au (iV (4*(1+K)) (1+P) (1+R) (4*(1+m)) 0 0 0 0 0) 35)=u2 at*;clear V
 replace E:Fa 60 a [(0,ζ ad len kh),(2,pt f),(3,pt B)]:=E.to
 refine sq<|dr 11 10 (λi v=>match i with|0=>v=π (Z<|F B 3)|1=>v=I (4*(1+m))|2=>v=ζ ad len kh|3=>∃z,v=I z/\dy z|4=>v=π (Z<|F B 3)|5=>v=I (4*(1+m))|6=>v=I (65-(4*(1+m)))|7=>∃r,v=I r/\(0<=r/\r<65-(4*(1+m)))|8=>∃r,v=I ((4*(1+m))+r)/\(0<=r/\r<65-(4*(1+m)))|9=>v=π (Z<|F B 4)|_=>True) E (λu3 S i hi a is E t p=>?_) λu3 S a E hv=>?_
 ·subst S;match i,hi with
  |0,_=>exact FE.ow E λk N _=>p k _ U N
  |1,_=>exact lc (E.add (d:=23)<|t 0 U) w λk N _=>p k _ U N
  |2,_=>exact FE.bl E λk N _=>p k _ U N
  |3,_=>exact FE.raw G hl h (E.add (d:=25)<|t 2 U) λz k T N _=>p k _ ⟨z,U,T⟩ N
  |4,_=>exact FE.ow E λk N _=>p k _ U N
  |5,_=>exact lc (E.add (d:=27)<|t 4 U) w λk N _=>p k _ U N
  |6,_=>exact ar (E.add (d:=28)<|t 5 U) λk N _=>p k _ U N
  |7,_=>obtain⟨z,D,T⟩:∃z,a.eval (.tmp 26)=I z/\dy z:=t 3 U;exact FE.tT G T (((E.add (d:=29)<|t 6 U)).add (d:=26) D) λr k hr N _=>p k _ ⟨r,U,hr⟩ N
  |8,_=>obtain⟨r,D,hr⟩:∃r,a.eval (.tmp 30)=I r/\(0<=r/\r<65-(4*(1+m))):=t 7 U;exact ar (((E.add (d:=24)<|t 1 U)).add (d:=30) D) λk N _=>p k _ ⟨r,U,hr⟩ N
  |9,_=>exact FE.ow E λk N _=>p k _ U N
  |q+10,hm=>omega
 obtain⟨r4,D,bE⟩:∃r,a.eval (.tmp 31)=I ((4*(1+m))+r)/\(0<=r/\r<65-(4*(1+m))):=hv 8 U
 replace E:=(E.add (d:=32)<|hv 9 U).add (d:=31) D
 clear hv;subst S;refine eP.one (j:=10) aW λis X=>?_;refine FE.st E w λu4 w O=>X _ _ (eP.none aW ?_)
 replace o:=(O f W).E o
 replace E:Fa 60 a [(0,ζ ad len kh),(2,pt f),(3,pt B)]:=E.to
 refine sq<|reg [0,1,2,3,4,5] ?_;refine FE.bl E λa _ E=>?_;refine FE.raw G hl h E λz5 a bk _ E=>?_;refine FE.tT G bk E λr5 a bH _ E=>?_;refine ar E λa _ E=>?_;refine FE.ow E λa _ E=>?_;refine FE.st E w λu5 w O=>cc ?_
 replace o:=(O f W).E o
 replace E:Fa 60 a [(0,ζ ad len kh),(2,pt f),(3,pt B)]:=E.to
 refine sq<|reg [0,1,2,3,4,5] ?_;refine FE.bl E λa _ E=>?_;refine FE.raw G hl h E λz6 a bn _ E=>?_;refine FE.tT G bn E λr6 a bJ _ E=>?_;refine ar E λa _ E=>?_;refine FE.ow E λa _ E=>?_;refine FE.st E w λu6 w O=>cc ?_
 replace o:=(O f W).E o
 replace E:Fa 60 a [(0,ζ ad len kh),(2,pt f),(3,pt B)]:=E.to
 refine sq<|reg [0,1,2,3,4,5] ?_;refine FE.bl E λa _ E=>?_;refine FE.raw G hl h E λz7 a bq _ E=>?_;refine FE.tT G bq E λr7 a bL _ E=>?_;refine ar E λa _ E=>?_;refine FE.ow E λa _ E=>?_;refine FE.st E w λu7 w O=>cc ?_
 replace o:=(O f W).E o
 replace E:Fa 60 a [(0,ζ ad len kh),(2,pt f),(3,pt B)]:=E.to
 refine sq<|dr 12 11 (λi v=>match i with|0=>v=π (Z<|F B 3)|1=>v=I (4*(1+m))|2=>v=I ((4*(1+m))+4)|3=>v=ζ ad len kh|4=>∃z,v=I z/\dy z|5=>v=π (Z<|F B 3)|6=>v=I (4*(1+m))|7=>v=I (253-(4*(1+m)))|8=>∃r,v=I r/\(0<=r/\r<253-(4*(1+m)))|9=>∃r,v=I ((4*(1+m))+4+r)/\(0<=r/\r<253-(4*(1+m)))|10=>v=π (Z<|F B 8)|_=>True) E (λu3 S i hi a is E t p=>?_) λu3 S a E hv=>?_
 ·subst S;match i,hi with
  |0,_=>exact FE.ow E λk N _=>p k _ U N
  |1,_=>exact lc (E.add (d:=48)<|t 0 U) w λk N _=>p k _ U N
  |2,_=>exact ar (E.add (d:=49)<|t 1 U) λk N _=>p k _ U N
  |3,_=>exact FE.bl E λk N _=>p k _ U N
  |4,_=>exact FE.raw G hl h (E.add (d:=51)<|t 3 U) λz k T N _=>p k _ ⟨z,U,T⟩ N
  |5,_=>exact FE.ow E λk N _=>p k _ U N
  |6,_=>exact lc (E.add (d:=53)<|t 5 U) w λk N _=>p k _ U N
  |7,_=>exact ar (E.add (d:=54)<|t 6 U) λk N _=>p k _ U N
  |8,_=>obtain⟨z,D,T⟩:∃z,a.eval (.tmp 52)=I z/\dy z:=t 4 U;exact FE.tT G T (((E.add (d:=55)<|t 7 U)).add (d:=52) D) λr k hr N _=>p k _ ⟨r,U,hr⟩ N
  |9,_=>obtain⟨r,D,hr⟩:∃r,a.eval (.tmp 56)=I r/\(0<=r/\r<253-(4*(1+m))):=t 8 U;exact ar (((E.add (d:=50)<|t 2 U)).add (d:=56) D) λk N _=>p k _ ⟨r,U,hr⟩ N
  |10,_=>exact FE.ow E λk N _=>p k _ U N
  |q+11,hm=>omega
 obtain⟨r8,D,bN⟩:∃r,a.eval (.tmp 57)=I ((4*(1+m))+4+r)/\(0<=r/\r<253-(4*(1+m))):=hv 9 U
 replace E:=(E.add (d:=58)<|hv 10 U).add (d:=57) D
 clear hv;subst S;refine eP.one (j:=11) aW λis X=>?_;refine FE.st E w λC w O=>X _ _ (eP.none aW ?_)
 replace o:=(O f W).E o
 replace E:Fa 60 a [(0,ζ ad len kh),(2,pt f),(3,pt B)]:=E.to
 obtain⟨g,hg⟩:∃g:Cf,g=⟨(4*(1+K)),(1+P),(1+R),(4*(1+m)),((4*(1+m))+r4),(1+r5),(1+r6),(1+r7),((4*(1+m))+4+r8)⟩:=⟨_,U⟩
 replace w:C.1[B]? =Z (au (oU g) 35 (0,0)):=by rw[hg];exact w
 have aX:sB g.1 g.2 g.3 g.4 g.5 g.6 g.7 g.8 g.9=M:=by subst hg;simp[sB,JT,Hm,sN,ia];omega
 clear hg;refine sq<|reg [0,1] ?_;refine FE.lcf hT E w λa _ E=>?_;refine vo E (kB (kB (kB (kB (kB (kB (kB (kB (kB C (F f 0)<|I g.1) (F f 1)<|I g.2) (F f 2)<|I g.3) (F f 3)<|I g.4) (F f 4)<|I g.5) (F f 5)<|I g.6) (F f 6)<|I g.7) (F f 7)<|I g.8) (F f 8)<|I g.9) (cc ?_) (hr:=λA=>?_)
 rotate_left
 ·have s:(C.tp A).1[f]? =_:=o;have c0:=aJ (C.tp A) f 0 (I 0) s;have c1:=aJ (C.tp A) f 1 (I 0) s;have c2:=aJ (C.tp A) f 2 (I 0) s;have c3:=aJ (C.tp A) f 3 (I 0) s;have c4:=aJ (C.tp A) f 4 (I 0) s;have c5:=aJ (C.tp A) f 5 (I 0) s;have c6:=aJ (C.tp A) f 6 (I 0) s;have c7:=aJ (C.tp A) f 7 (I 0) s;have c8:=aJ (C.tp A) f 8 (I 0) s;have f0:=bp s 0;have f1:=bp s 1;have f2:=bp s 2;have f3:=bp s 3;have f4:=bp s 4;have f5:=bp s 5;have f6:=bp s 6;have f7:=bp s 7;have f8:=bp s 8;clear s;go_simp;simp[IU]
 replace o:=(bG (bG (bG (bG (bG (bG (bG (bG (bG o 0<|I g.1) 1<|I g.2) 2<|I g.3) 3<|I g.4) 4<|I g.5) 5<|I g.6) 6<|I g.7) 7<|I g.8) 8<|I g.9)
 generalize (kB (kB (kB (kB (kB (kB (kB (kB (kB C (F f 0)<|I g.1) (F f 1)<|I g.2) (F f 2)<|I g.3) (F f 3)<|I g.4) (F f 4)<|I g.5) (F f 5)<|I g.6) (F f 6)<|I g.7) (F f 7)<|I g.8) (F f 8)<|I g.9)=J at*
 replace o:J.1[f]? =Z (au (oU g) 35 (0,0)):=o
 refine FX.rt ⟨U,E.2,ν<|oU g,?_,g,U,aX⟩;have h2:=ev (E.3 2 _ U);have c0:=aJ J f 0 (I g.1) o;have c1:=aJ J f 1 (I g.2) o;have c2:=aJ J f 2 (I g.3) o;have c3:=aJ J f 3 (I g.4) o;have c4:=aJ J f 4 (I g.5) o;have c5:=aJ J f 5 (I g.6) o;have c6:=aJ J f 6 (I g.7) o;have c7:=aJ J f 7 (I g.8) o;have c8:=aJ J f 8 (I g.9) o;clear o;simp[bo,results28,h2];go_simp
end
end
abbrev pz(ps:av Nat):av aB:=ps.map jp
def gm:ByteArray:=⟨#[70,69,82,82,89,97,103]⟩
def acH:(ai.info? 49).map (λi=>(i.8,i.3,i.4))=Z (Z<|π aj,1,8):=aW
def ajz(w:aq)(x lm){T aqf}:(lL (lL w<|au x T)<|au lm aqf).1[pB w.1+1]? =Z (au lm aqf (0,0)):=by have:=ao (lL w<|au x T) (au lm aqf);simpa using this
structure Fx.Host(f:Fx)(g:Cf)(wt:Nat->Int)(m:Nat):Prop where
 rest:f.Rest
 gg:f.g=g
 stop:f.stop=aa
 ol:f.ol=0
 bF:f.bF=m
 uX:∀(s:Nat),s<m->f.K[s]? =Z (Z ((fw s (wt s) g.bu).sp gm))
 H:∀s,m<=s->s<f.K.length->f.K[s]? =Z aj
 idle:f.bD=[]/\f.fl=[]/\f.bO=0/\f.aC=0/\f.9=aa
 zero:f.rh=[]/\f.dk=⟨qo f.g.sz.toNat,qo f.g.sz.toNat,[]⟩
def Fx.Host.new(hI:g.Is)(wt):(Fx.new g).Host g wt 0:=⟨.new hI,U,U,U,U,λs a=>by omega,λs _ a=>by let b:s<pA (rP g.2.toNat (aj:aV Ck)):=a;show(rP (pD g.2) (aj:aV Ck))[s]? =_;rw[Kn,aO j4],⟨U,U,U,U,U⟩,U,U⟩
abbrev LE(wt:Nat->Int)(m:Nat)(x:Int)(i:Nat):Int:=if i=m then x else wt i
variable{m k:Nat}{x:Int}
def Fx.Host.qm(h:f.Host g wt m)(hm:(m:Int)<g.2):f.K[m]? =Z aj:=h.H m (aR _) (by have:=h.1.1.2;rw[h.2]at this;omega)
def Fx.Host.at (h:f.Host g wt m)(hm:(m:Int)<g.2):(f.jV m x).K[m]? =Z (Z<|fw f.3 x f.g.7):=iy (bY.1<|h.qm hm).1
def Fx.Host.sp(h:f.Host g wt m)(hm:(m:Int)<g.2)(d:1<=x/\x<=4):((f.jV m x).sp m (fw f.3 x f.g.7) gm).2=0/\((f.jV m x).sp m (fw f.3 x f.g.7) gm).1.Host g (LE wt m x) (m+1):=by
 have b:=(h.1.jV (h.qm hm) d).sp (h.at hm) gm;have e:(f.jV m x).sp m (fw f.3 x f.g.7) gm=((f.jV m x).at m<|(fw f.3 x f.g.7).sp gm,0):=by rw[Fx.sp];rw[aI Ut,aI (show ¬1024<pC (fw f.3 x f.g.7).4+pC gm from(by decide:¬1024<(⟨#[]⟩:ByteArray).size+gm.size))]
 rw[e]at b⊢;let j:=(bY.1<|h.qm hm).1;refine⟨U,b,h.2,h.3,h.4,by show f.3+1=_;rw[h.5];rfl,λs k=>?_,λs i c=>?_,h.8,h.9⟩;show((f.K.set m _).set m _)[s]? =_;rw[pK,rM];split;rename_i e;subst e;rw[h.5,h.2];grind;rename_i e;rw[h.6 s Y];grind;show((f.K.set m _).set m _)[s]? =_;have a:s<pA ((f.K.set m _).set m _):=c;rw[pK,rM,aI Y];simp at a;exact h.H s Y a
def Ib(n w)(h0:0<=n)(e:n<=65535):
  bN 95 #[I n] w (ξ ⟨pT (cu n)⟩):=by
 have a:=Ar (n %256) Y Y;have b1:=Ar (n / 256) Y Y;have d:=yd (lL w<|au #[ι .u8<|n %256,ι .u8<|n / 256] 5) 158 9 5 ⟨pB w.1,0,aj⟩ 2 (cu n) dp kc gc
 have b:∀(j:Nat) (c:j<pA (cu n)),kD (lL w<|au #[ι .u8<|n %256,ι .u8<|n / 256] 5) ((⟨pB w.1,0,aj⟩:iL).add j)=Z (ι .u8 ((cu n)[j].toNat:Int)):=by
  intro j c;match j,c with
  |0,_=>simp only[cu,uz,a];simp[Addr.add,go_sem]
  |1,_=>simp only[cu,BT,uz,b1];simp[Addr.add,go_sem]
 have kd:(convert 158 9<|ζ (Z<|F w.1.size 0) 2 2).run ai (lL w<|au #[ι .u8<|n %256,ι .u8<|n / 256] 5)=.ok (ξ ⟨pT (cu n)⟩) (lL w<|au #[ι .u8<|n %256,ι .u8<|n / 256] 5):=d b;let m1:n.tmod 256=n %256:=j4
 let m2:n.tdiv 256=n / 256:=j4
 clear d b a b1;go_enter func95,ntmps95;go_wp2;go_ret;exact⟨U,bq⟩
def zo{S':aq->Prop}(h:∀w,S' w->S w):∀(v:Nat) (listed:aF Bool) (a:Act) (w:aq),pG P md jt Q S' s v listed a w->pG P md jt Q S s v listed a w
 |0,_,_,_,b=>b|v+1,_,_,_,b=>⟨b.1,λi f=>wpOpIn_mono (λd g c=>⟨λe=>h _ (c.1 e),zo h v _ d g c.2⟩) (b.2 i f)⟩
def g2{o o' v listed a}(i j)(h:∀b:Act->aq->Prop,Shut (∀a w,S w->(S w->pG P md jt Q S s v (mP listed i M) a w)->b a w)->if cY o (co jt a.1)=M then tr P o a w b Q else b (a.put o.1 y) w)(k:∀b:Act->aq->Prop,Shut (∀a w,S w->(S w->pG P md jt Q S s v (mP listed j M) a w)->b a w)->if cY o' (co jt a.1)=M then tr P o' a w b Q else b (a.put o'.1 y) w)(f:jt[i]? =Z o:=by rfl) (l:jt[j]? =Z o':=by rfl) (hr:Region.ready md jt listed=[i,j]:=by kernel_rfl):pG P md jt Q S s (v+1) listed a w:=by
 refine⟨λh0=>j4,?_⟩;rw[hr];intro x m;let q:∀(x:Nat) (o:Oper),jt[x]? =Z o->(∀b:Act->aq->Prop,Shut (∀a w,S w->(S w->pG P md jt Q S s v (mP listed x M) a w)->b a w)->if cY o (co jt a.1)=M then tr P o a w b Q else b (a.put o.1 y) w)->wpOpIn Fence.wide 0 P jt Q x (λd c=>((mP listed x M).getD s M=aa->S c)/\pG P md jt Q S s v (mP listed x M) d c) a w:=λx o f h=>by rw[wpOpIn];simp only[f];have:=h (λd c=>((mP listed x M).getD s M=aa->S c)/\pG P md jt Q S s v (mP listed x M) d c) (λa w g h=>⟨λ_=>g,h g⟩);split;rename_i e;rw[aO e]at this;exact PS this;rename_i e;rw[aI e]at this;exact⟨λ_ _=>trivial,this⟩
 grind
abbrev wsL(u ck kd fl of ln:Int)(dt:ByteArray)(at_ back er:Int)(tx:ByteArray):aF aB:=#[I u,I ck,I kd,I fl,I of,I ln,ξ dt,I at_,I back,I er,ξ tx]
abbrev pU(w:aq)(a:Nat)(ck kd fl of ln:Int)(dt:ByteArray)(W:aq):Prop:=kD W (F a 1)=Z (I ck)/\kD W (F a 2)=Z (I kd)/\kD W (F a 3)=Z (I fl)/\kD W (F a 4)=Z (I of)/\kD W (F a 5)=Z (I ln)/\kD W (F a 6)=Z (ξ dt)/\aK w W
def pU.old{W' ck kd fl of ln dt}(h:pU w wb ck kd fl of ln dt W)(a:aK W W'):pU w wb ck kd fl of ln dt W':=by let⟨a1,c,a3,d,e,f,b⟩:=h;exact⟨bH a a1,bH a c,bH a a3,bH a d,bH a e,bH a f,b.E<|a.V b.4⟩
def zi(a b:Int):ByteArray:=⟨#[ji (pD a),ji (pD b)]⟩
def X0(a b)(c:0<=a/\a<256)(d:0<=b/\b<256)(n w)(h:w.1[n]? =Z (au #[ι .u8 a,ι .u8 b] 5 (0,0))):(convert 158 9<|ζ (Z<|F n 0) 2 2).run ai w=.ok (ξ<|zi a b) w:=by
 refine yd w 158 9 5 ⟨n,0,aj⟩ 2 [ji (pD a),ji (pD b)] dp kc gc λj f=>?_;match j,f with
 |0,_=>simp only[uz,Ar a c.1 c.2];exact aD h U
 |1,_=>simp only[BT,uz,Ar b d.1 d.2];exact aD h U
def akk(c:Nat)(u ck kd fl of ln:Int)(dt:ByteArray)(at_ back er:Int)(tx:ByteArray)(w:aq)(h:w.1[c]? =Z (au (wsL u ck kd fl of ln dt at_ back er tx) 53 (0,0)))(x:0<=ck/\ck<=65535)(D:0<=kd/\kd<256)(C:0<=fl/\fl<256)(A:0<=of/\of<=65535)(z:0<=ln/\ln<=65535)(N:pC dt<=65535):
  bN 58 #[jp c] w (ξ<|⟨#[81]⟩++zi kd fl++⟨pT (cu ck)⟩++⟨pT (cu of)⟩++⟨pT (cu ln)⟩++dt):=by
 have E:bc (pU w c ck kd fl of ln dt w.drew):=⟨aD h U,aD h U,aD h U,aD h U,aD h U,aD h U,(bv _ _).drew⟩;have B:bc (∀W,bN 95 #[I ck] W<|ξ ⟨pT (cu ck)⟩):=λW=>Ib ck W x.1 x.2;have t:bc (∀W,bN 95 #[I of] W<|ξ ⟨pT (cu of)⟩):=λW=>Ib of W A.1 A.2;have o:bc (∀W,bN 95 #[I ln] W<|ξ ⟨pT (cu ln)⟩):=λW=>Ib ln W z.1 z.2;have p:bc (∀(n:Nat) (w:aq),w.1[n]? =Z (au #[ι .u8 kd,ι .u8 fl] 5 (0,0))->(convert 158 9<|ζ (Z<|F n 0) 2 2).run ai w=.ok (ξ<|zi kd fl) w):=X0 kd fl D C;have O:nt BM kd=kd:=by have:nt BM kd=kd %256:=U;omega
 have R:nt BM fl=fl:=by have:nt BM fl=fl %256:=U;omega
 have T:pC (zi kd fl)=2:=U;have V:pC (⟨(cu ck).toArray⟩:ByteArray)=2:=U;have X:pC (⟨(cu of).toArray⟩:ByteArray)=2:=U;have s3:pC (⟨(cu ln).toArray⟩:ByteArray)=2:=U;generalize zi kd fl=q at*;generalize (⟨pT (cu ck)⟩:ByteArray)=G at*;generalize (⟨pT (cu of)⟩:ByteArray)=H at*;generalize (⟨pT (cu ln)⟩:ByteArray)=J at*;have L:¬9223372036854775807<9+pC dt:=Y;clear h x D C A z;go_enter func58,ntmps58
 go_upto_region 1 with fail
 refine gY (S:=pU w c ck kd fl of ln dt) 36 E λhS=>?_;apply tg [0,1,2,3,4,5,6,7];apply tg [8,9,13,14,15,16,19,20];apply tg [21,22,25,26,27,28,31,32];apply tg [33,34];refine g2 10 17 (λK a=>?_) λK a=>?_
 ·go_simp;refine a _ _ (hS.old<|bq) λb=>?_;clear a K;apply zo (S':=λW=>pU w c ck kd fl of ln dt W/\W.1[pB w.1]? =Z (au #[ι .u8 kd,ι .u8 fl] 5 (0,0))) (λ_ h=>h.1) _ _ _ _;have d:pU w c ck kd fl of ln dt (lL w<|au #[ι .u8 kd,ι .u8 fl] 5).drew/\(lL w<|au #[ι .u8 kd,ι .u8 fl] 5).drew.1[pB w.1]? =Z (au #[ι .u8 kd,ι .u8 fl] 5 (0,0)):=⟨b,ao w<|au #[ι .u8 kd,ι .u8 fl] 5⟩;clear hS b;have hS:=d;clear d;refine tg [11] ?_ (bS.g (v:=ξ q) (hy:=az ⟨by kernel_rfl,aA ⟨U,λW j=>by go_simp;rw[p _ _ j.2];rfl⟩⟩) (h:=.nil));apply tg [12];refine gr 17 λK a=>?_;go_simp;go_at_call 95;apply(B _).V;rintro e m ⟨rfl,r⟩;refine a _ _ ⟨hS.1.old r,bT r hS.2⟩ λb=>?_;clear a K hS;have hS:=b;clear b;apply tg [18];refine gr 23 λK a=>?_;go_simp;go_at_call 95;apply(t _).V;rintro e l ⟨rfl,k⟩;refine a _ _ ⟨hS.1.old k,bT k hS.2⟩ λb=>?_;clear a K hS;have hS:=b;clear b;apply tg [24];refine gr 29 λK a=>?_;go_simp;go_at_call 95;apply(o _).V;rintro e i ⟨rfl,f⟩;refine a _ _ ⟨hS.1.old f,bT f hS.2⟩ λb=>?_;clear a K hS;have hS:=b;clear b;apply tg [30,35];refine gz λK a=>?_;go_simp;apply a _ _;clear a K;refine gl ?_;go_wp2_with fail;go_ret;exact PQ
 go_simp;go_at_call 95;apply(B _).V;rintro e m ⟨rfl,r⟩;refine a _ _ (hS.old r) λb=>?_;clear a K hS;have hS:=b;clear b;refine g2 10 23 (λK a=>?_) λK a=>?_
 ·go_simp;refine a _ _ (hS.old<|bq) λb=>?_;clear a K;apply zo (S':=λW=>pU w c ck kd fl of ln dt W/\W.1[pB m.1]? =Z (au #[ι .u8 kd,ι .u8 fl] 5 (0,0))) (λ_ h=>h.1) _ _ _ _;have d:pU w c ck kd fl of ln dt (lL m<|au #[ι .u8 kd,ι .u8 fl] 5)/\(lL m<|au #[ι .u8 kd,ι .u8 fl] 5).1[pB m.1]? =Z (au #[ι .u8 kd,ι .u8 fl] 5 (0,0)):=⟨b,ao m<|au #[ι .u8 kd,ι .u8 fl] 5⟩;clear hS b;have hS:=d;clear d;refine tg [11] ?_ (bS.g (v:=ξ q) (hy:=az ⟨by kernel_rfl,aA ⟨U,λW j=>by go_simp;rw[p _ _ j.2];rfl⟩⟩) (h:=.nil));apply tg [12,18];refine gr 23 λK a=>?_;go_simp;go_at_call 95;apply(t _).V;rintro e l ⟨rfl,k⟩;refine a _ _ ⟨hS.1.old k,bT k hS.2⟩ λb=>?_;clear a K hS;have hS:=b;clear b;apply tg [24];refine gr 29 λK a=>?_;go_simp;go_at_call 95;apply(o _).V;rintro e i ⟨rfl,f⟩;refine a _ _ ⟨hS.1.old f,bT f hS.2⟩ λb=>?_;clear a K hS;have hS:=b;clear b;apply tg [30,35];refine gz λK a=>?_;go_simp;apply a _ _;clear a K;refine gl ?_;go_wp2_with fail;go_ret;exact PQ
 go_simp;go_at_call 95;apply(t _).V;rintro e l ⟨rfl,k⟩;refine a _ _ (hS.old k) λb=>?_;clear a K hS;have hS:=b;clear b;refine g2 10 29 (λK a=>?_) λK a=>?_
 ·go_simp;refine a _ _ (hS.old<|bq) λb=>?_;clear a K;apply zo (S':=λW=>pU w c ck kd fl of ln dt W/\W.1[pB l.1]? =Z (au #[ι .u8 kd,ι .u8 fl] 5 (0,0))) (λ_ h=>h.1) _ _ _ _;have d:pU w c ck kd fl of ln dt (lL l<|au #[ι .u8 kd,ι .u8 fl] 5)/\(lL l<|au #[ι .u8 kd,ι .u8 fl] 5).1[pB l.1]? =Z (au #[ι .u8 kd,ι .u8 fl] 5 (0,0)):=⟨b,ao l<|au #[ι .u8 kd,ι .u8 fl] 5⟩;clear hS b;have hS:=d;clear d;refine tg [11] ?_ (bS.g (v:=ξ q) (hy:=az ⟨by kernel_rfl,aA ⟨U,λW j=>by go_simp;rw[p _ _ j.2];rfl⟩⟩) (h:=.nil));apply tg [12,18,24];refine gr 29 λK a=>?_;go_simp;go_at_call 95;apply(o _).V;rintro e i ⟨rfl,f⟩;refine a _ _ ⟨hS.1.old f,bT f hS.2⟩ λb=>?_;clear a K hS;have hS:=b;clear b;apply tg [30,35];refine gz λK a=>?_;go_simp;apply a _ _;clear a K;refine gl ?_;go_wp2_with fail;go_ret;exact PQ
 go_simp;go_at_call 95;apply(o _).V;rintro e i ⟨rfl,f⟩;refine a _ _ (hS.old f) λb=>?_;clear a K hS;have hS:=b;clear b;refine gr 10 λK a=>?_;go_simp;refine a _ _ (hS.old<|bq) λb=>?_;clear a K;apply zo (S':=λW=>pU w c ck kd fl of ln dt W/\W.1[pB i.1]? =Z (au #[ι .u8 kd,ι .u8 fl] 5 (0,0))) (λ_ h=>h.1) _ _ _ _;have d:pU w c ck kd fl of ln dt (lL i<|au #[ι .u8 kd,ι .u8 fl] 5)/\(lL i<|au #[ι .u8 kd,ι .u8 fl] 5).1[pB i.1]? =Z (au #[ι .u8 kd,ι .u8 fl] 5 (0,0)):=⟨b,ao i<|au #[ι .u8 kd,ι .u8 fl] 5⟩;clear hS b;have hS:=d;clear d;refine tg [11] ?_ (bS.g (v:=ξ q) (hy:=az ⟨by kernel_rfl,aA ⟨U,λW j=>by go_simp;rw[p _ _ j.2];rfl⟩⟩) (h:=.nil));apply tg [12,18,24,30,35];refine gz λK a=>?_;go_simp;apply a _ _;clear a K;refine gl ?_;go_wp2_with fail;go_ret;exact PQ
structure Wi where
 u:Nat
 ck:Nat
 kd:Int
 fl:Int
 of:Int
 ln:Int
 dt:ByteArray
 at_:Int
 bk:Int
 er:Int
 tx:ByteArray
structure Sl where
 wt:Int
 hd:ByteArray
 aw:Bool
structure Cw where
 S:av Sl
 W:av Wi
 now:Int
 dl:Int
 ck:Nat
 ks:Nat->Option Obj:=λ_=>aj
structure Cm where
 lv:aB
 wv:aB
 ps:av Nat
 qs:av Nat
abbrev mI(r:Wi):aF aB:=#[I r.u,I r.ck,I r.kd,I r.fl,I r.of,I r.ln,ξ r.dt,I r.at_,I r.bk,I r.er,ξ r.tx]
abbrev vh(i:Nat)(s:Sl):aF aB:=#[I i,I s.wt,ξ s.hd,ω s.3]
abbrev uQ(g:Cf)(xb:Nat)(c:Cw)(m:Cm):aF aB:=#[I g.sz,I g.cl,I g.qu,I g.mx,I g.qn,I g.rt,I g.bu,I g.8,I g.ou,jp xb,m.lv,m.2,I c.3,I c.4,I c.ck]
def apO(cb:Nat)(m:Cm)(b:Nat):Prop:=b≠cb/\m.lv.ownBlock≠Z b/\m.2.ownBlock≠Z b/\b∉m.3/\b∉m.4
structure bz(u:aq)(g:Cf)(cb xb:Nat)(f:Fx)(c:Cw)(L:cZ)(m:Cm):Prop where
 fx:aE u f xb L
 cr:u.1[cb]? =Z (au (uQ g xb c m) 40 (0,0))
 gV:mT u 0 49 1 m.lv c.S.length (pz m.3)
 jW:mT u 0 54 1 m.2 c.W.length (pz m.4)
 sl:∀(i p:Nat) s,m.3[i]? =Z p->c.S[i]? =Z s->u.1[p]? =Z (au (vh i s) 66 (0,0))/\L.own p=0
 ws:∀(j q:Nat) r,m.4[j]? =Z q->c.W[j]? =Z r->u.1[q]? =Z (au (mI r) 53 (0,0))/\L.own q=0
 nd:m.3.Nodup/\m.4.Nodup
 own:L.own cb=0/\(∀b,m.lv.ownBlock=Z b->L.own b=0)/\∀b,m.2.ownBlock=Z b->L.own b=0
 no:∀b,u.1.size<=b->L.own b=0
 kp:∀b o,c.ks b=Z o->u.1[b]? =Z o/\L.own b=0/\apO cb m b
def uH(u:aq)(g:Cf)(cb xb:Nat)(f:Fx)(c:Cw)(ps:av Nat):Prop:=∃L m,bz u g cb xb f c L m/\ps<+:m.3
variable{c:Cw}{m:Cm}{s:Sl}{r r':Wi}{ck:Nat}{W:av Wi}
def bz.NQ(T:bz u g cb xb f c L m):pA m.3=pA c.S:=by have:=T.3.1;simpa using this
def bz.Od(T:bz u g cb xb f c L m):pA m.4=pA c.W:=by have:=T.4.1;simpa using this
def bz.Bg(T:bz u g cb xb f c L m)(h:c.S[i]? =Z s):∃p:Nat,m.3[i]? =Z p/\u.1[p]? =Z (au (vh i s) 66 (0,0))/\L.13 p=0:=by let a:=(bY.1 h).1;have:=T.NQ;let e:m.3[i]? =Z (m.3[i]'Y):=dj _;exact⟨_,e,T.5 i _ s e h⟩
def bz.Jy(T:bz u g cb xb f c L m)(h:c.W[j]? =Z r):∃q:Nat,m.4[j]? =Z q/\u.1[q]? =Z (au (mI r) 53 (0,0))/\L.13 q=0:=by let a:=(bY.1 h).1;have:=T.Od;let e:m.4[j]? =Z (m.4[j]'Y):=dj _;exact⟨_,e,T.6 j _ r e h⟩
def yW{S v xs}(h:mT w 0 S k v n xs)(a:rW v=Z b):∃c,w.1[b]? =Z (au c S (0,0)):=by obtain⟨e,_⟩|⟨g0,j,d,e,_,i,_⟩:=h.2;rw[e]at a;cases a;rw[e]at a;cases a;exact⟨d,i⟩
def bz.move{c' m'}(T:bz u g cb xb f c L m)(d:∀b,b<pB u.1->L.13 b≠0->u'.1[b]? =u.1[b]?)(l:pB u.1<=pB u'.1)(a:u'.1[cb]? =Z (au (uQ g xb c' m') 40 (0,0)))(lr:mT u' 0 49 1 m'.1 (pA c'.S) (pz m'.3))(wr:mT u' 0 54 1 m'.2 (pA c'.W) (pz m'.4))(sl:∀(i p:Nat) s,m'.3[i]? =Z p->c'.S[i]? =Z s->u'.1[p]? =Z (au (vh i s) 66 (0,0))/\L.13 p=0)(h:∀(j q:Nat) r,m'.4[j]? =Z q->c'.W[j]? =Z r->u'.1[q]? =Z (au (mI r) 53 (0,0))/\L.13 q=0)(e:m'.3.Nodup/\m'.4.Nodup)(ow:(∀b,rW m'.1=Z b->L.13 b=0)/\∀b,rW m'.2=Z b->L.13 b=0)(kp:∀b o,c.ks b=Z o->b<pB u.1->u.1[b]? =Z o->apO cb m b->u'.1[b]? =Z o/\apO cb m' b)(hks:c'.ks=c.ks:=by rfl):bz u' g cb xb f c' L m':=⟨T.1.yE d,a,lr,wr,sl,h,e,⟨T.8.1,ow⟩,λb k=>T.9 b Y,λb o x=>have h:=T.kp b o (hks▸x);have k:=kp b o (hks▸x) (bf.1 h.1).1 h.1 h.2.2;⟨k.1,h.2.1,k.2⟩⟩
def bz.go(T:bz u g cb xb f c L m)(h:aE u' f' xb L')(t:bE u L u' L'):∃L',bz u' g cb xb f' c L' m:=by let⟨d,v,t2,w⟩:=h.norm t;let keep:∀b,b<pB u.1->L.13 b=0->u'.1[b]? =u.1[b]? /\d.13 b=0:=λb a h0=>⟨t.2.3 b a λx=>x h0,(t2.1 b a).E h0⟩;let blk:∀{b:Nat} {o:Obj},u.1[b]? =Z o->L.13 b=0->u'.1[b]? =Z o/\d.13 b=0:=λh h0=>let k:=keep _ (bf.1 h).1 h0;⟨k.1.E h,k.2⟩;exact⟨d,v,(blk T.2 T.8.1).1,eF T.3 λb a=>(keep b (jJ T.3 b a)<|T.8.2.1 b a).1,eF T.4 λb a=>(keep b (jJ T.4 b a)<|T.8.2.2 b a).1,λi p s e n=>blk (T.5 i p s e n).1 (T.5 i p s e n).2,λj q r l hr=>blk (T.6 j q r l hr).1 (T.6 j q r l hr).2,T.7,⟨(blk T.2 T.8.1).2,λb a=>(keep b (jJ T.3 b a)<|T.8.2.1 b a).2,λb a=>(keep b (jJ T.4 b a)<|T.8.2.2 b a).2⟩,w,λb o x=>have h:=T.kp b o x;have k:=blk h.1 h.2.1;⟨k.1,k.2,h.2.2⟩⟩
def bz.old(T:bz u g cb xb f c L m)(a:∀b,b<pB u.1->u'.1[b]? =u.1[b]?):bz u' g cb xb f c L m:=by let k:∀{b:Nat} {o:Obj},u.1[b]? =Z o->u'.1[b]? =Z o:=λh=>(a _ (bf.1 h).1).E h;refine⟨T.1.old a,k T.2,eF T.3 λb h=>a b (jJ T.3 b h),eF T.4 λb h=>a b (jJ T.4 b h),λi p s d l=>⟨k (T.5 i p s d l).1,(T.5 i p s d l).2⟩,λj q r e hr=>⟨k (T.6 j q r e hr).1,(T.6 j q r e hr).2⟩,T.7,T.8,λb h=>T.9 b (xW λn=>?_),λb x hx=>⟨k (T.kp b x hx).1,(T.kp b x hx).2⟩⟩;grind
def bz.below(T:bz u g cb xb f c L m)(a:aK u u'):bz u' g cb xb f c L m:=T.old λb h=>a.5 b h
def bz.tp(T:bz u g cb xb f c L m)(a:Tape):bz (u.tp a) g cb xb f c L m:=T.old λ_ _=>U
def uH.tp{ps}(T:uH u g cb xb f c ps)(a:Tape):uH (u.tp a) g cb xb f c ps:=by let⟨L,m,T,h⟩:=T;exact⟨L,m,T.tp a,h⟩
def bz.Iv(T:bz u g cb xb f c L m)(E:m.3[i]? =Z p)(G:i<pA c.S)(B:u'.1[p]? =Z (au (vh i s) 66 (0,0)))(l:∀b,b≠p->u'.1[b]? =u.1[b]?):bz u' g cb xb f {c with S:=c.S.set i s} L m:=by
 obtain⟨o,H⟩:∃o,c.S[i]? =Z o:=⟨_,dj G⟩;let⟨a1,A⟩:=T.5 i p o E H;let ne:∀{b:Nat} {x:aF aB} {V:aY},u.1[b]? =Z (au x V (0,0))->V≠66->u'.1[b]? =Z (au x V (0,0)):=λh C=>(l _<|mC h a1 C).E h;let w:∀{S k n:Nat} {v:aB} {z:av aB},mT u 0 S k v n z->S≠66->mT u' 0 S k v n z:=λh hS=>eF h λb t=>by let⟨x,a⟩:=yW h t;exact(ne a hS).E a.y
 refine T.move (λb t D=>l b λe=>D (e▸A)) ?_ (ne T.2 aM) (by show mT u' 0 _ 1 m.1 (pA (c.S.set i s)) _;rw[jB];exact w T.3 aM) (w T.4 aM) (λk q x d a=>?_) (λj q r d hr=>⟨ne (T.6 j q r d hr).1 aM,(T.6 j q r d hr).2⟩) T.7 T.8.2 λb o _ _ e D=>⟨(l b λh=>D.2.2.2.1 (h▸List.mem_of_getElem? E)).E e,D⟩;have:=(bf.1 B).1;refine xW λK=>?_;have e:=l u'.1.size Y;grind;have a:=a;by_cases e:k=i;subst e;grind;rw[gQ<|dB e]at a;let⟨b1,J⟩:=T.5 k q x d a;grind
def bz.afv(T:bz u g cb xb f c L m){q}(d:m.4[j]? =Z q)(o:j<pA c.W)(G:u'.1[q]? =Z (au (mI r) 53 (0,0)))(l:∀b,b≠q->u'.1[b]? =u.1[b]?):bz u' g cb xb f {c with W:=c.W.set j r} L m:=by
 obtain⟨w,K⟩:∃w,c.W[j]? =Z w:=⟨_,dj o⟩;let⟨a1,C⟩:=T.6 j q w d K;let ne:∀{b:Nat} {x:aF aB} {V:aY},u.1[b]? =Z (au x V (0,0))->V≠53->u'.1[b]? =Z (au x V (0,0)):=λh H=>(l _<|mC h a1 H).E h;let A:∀{S k n:Nat} {v:aB} {B:av aB},mT u 0 S k v n B->S≠53->mT u' 0 S k v n B:=λh hS=>eF h λb z=>by let⟨x,a⟩:=yW h z;exact(ne a hS).E a.y
 refine T.move (λb z J=>l b λe=>J (e▸C)) ?_ (ne T.2 aM) (A T.3 aM) (by show mT u' 0 _ 1 m.2 (pA (c.W.set j r)) _;rw[jB];exact A T.4 aM) (λi p s d o=>⟨ne (T.5 i p s d o).1 aM,(T.5 i p s d o).2⟩) (λk p x t a=>?_) T.7 T.8.2 λb o _ _ e D=>⟨(l b λh=>D.2.2.2.2 (h▸List.mem_of_getElem? d)).E e,D⟩;have:=(bf.1 G).1;refine xW λN=>?_;have e:=l u'.1.size Y;grind;have a:=a;by_cases e:k=j;subst e;grind;rw[gQ<|dB e]at a;let⟨b1,D⟩:=T.6 k p x t a;refine⟨(l p λE=>e ?_).E b1,D⟩;subst E;exact(List.getElem?_inj (bY.1 t).1 T.7.2).1 (t.E d.y)
def Ed(c n w)(hc:dy c)(h0:0<n)(b:n<=9223372036854775807):
  eZ 21 #[I c,I n] w (I<|eX c n):=by
 suffices H:ax ai 21 #[I c,I n] w λe f=>∃r,e=aG (I r)/\r=eX c n/\f=w from H.V λe f ⟨r,b,g,h⟩=>⟨by rw[b,g],h⟩
 rw[dy]at hc;let k:¬n=0:=Y
 by_cases d:c<0
 ·let i:nt cJ (c+1)=c+1:=by rw[vL];omega
  let j:nt cJ (-(c+1))= -(c+1):=by rw[vL];omega
  let a:bc (eX c n=(-(c+1)).tmod n):=by rw[eX];rw[aO d];rfl
  go_enter func21,ntmps21;go_wp2;go_ret;exact⟨_,U,by first|exact a.y|(rw[<-Int.neg_tmod];exact a.y),rfl⟩
 let a:bc (eX c n=c.tmod n/\c %n=c.tmod n):=⟨by rw[eX];rw[aI d],(EY Y).y⟩;go_enter func21,ntmps21;go_wp2;go_ret;exact⟨_,U,by first|exact a.1.y|(rw[a.2];exact a.1.y),rfl⟩
def aeF(cb xb g f)(c:Cw)(L)(m:Cm)(w)(h:bz w g cb xb f c L m)(x)(t:dy x)(i p:Nat)(s:Sl)(o:(i:Int)=eX x (pA c.S))(a:c.S[i]? =Z s)(q:m.3[i]? =Z p)(hl:pA c.S<=1099511627776):
  ax ai 55 #[jp cb,I x] w λe b=>e=aG (if s.3 then π aj else jp p)/\∃k,b=w.drewN k:=by
 have v:=Kw (cO _) (bY.1 a).1
 let⟨u,kh,ev,l⟩:=yV h.3 v
 have A:=l i (jp p) j4;have z:kD w (F cb 10)=Z (ζ (Z<|F u 0) (pA c.S) kh):=ev▸aD h.2 U;have j:kD w (F p 3)=Z (ω s.3):=aD (h.5 i p s q a).1 U
 have d:bc (∀n,ax ai 21 #[I x,I (pA c.S)] (w.drewN n) λe b=>e=aG (I i)/\b=w.drewN n):=λn=>by rw[o];exact Ed x (pA c.S) _ t Y Y
 have B:0<=(i:Int)/\(i:Int)<(pA c.S:Int):=by have:=(bY.1 a).1;omega
 have C:¬(pA c.S:Int)=0:=Y;have D:¬pA c.S=0:=Y;clear h o a q l ev t;generalize pA c.S=n at*;cases r:s.3 with
 |true=>rw[r]at j;go_enter func55,ntmps55;go_wp2;go_quiet ((go_at_call 21;exact ur (d _)));go_wp2;go_ret;exact⟨U,_,U⟩
 |false=>rw[r]at j;go_enter func55,ntmps55;go_wp2;go_quiet ((go_at_call 21;exact ur (d _)));go_wp2;go_ret;exact⟨U,_,U⟩
def qx(ck:Int):Nat->ByteArray
 |0=>⟨#[]⟩|n+1=>qx ck n++⟨#[119]⟩++⟨pT (cu ck)⟩++⟨#[ji<|1+n]⟩
def IS(ck):∀n,pC (qx ck n)=4*n
 |0=>rfl|n+1=>by show(qx ck n++⟨#[119]⟩++⟨pT (cu ck)⟩++⟨#[ji<|1+n]⟩).size=_;rw[qB,qB,qB,IS ck n];show 4*n+1+2+1=_;omega
def W8(a)(b:0<=a/\a<256)(n w)(h:w.1[n]? =Z (au #[ι .u8 a] 5 (0,0))):(convert 158 9<|ζ (Z<|F n 0) 1 1).run ai w=.ok (ξ ⟨#[ji (pD a)]⟩) w:=by
 refine yd w 158 9 5 ⟨n,0,aj⟩ 1 [ji (pD a)] dp kc gc λj d=>?_;match j,d with
 |0,_=>simp only[uz,Ar a b.1 b.2];exact aD h U
def akB(ck ln w)(r:0<=ck/\ck<=65535)(C:0<=ln/\ln<=256):
  bN 94 #[I ck,I ln] w (ξ<|qx ck (pD (ln / 4))):=by
 obtain⟨N,z⟩:∃N:Nat,ln / 4=(N:Int):=⟨pD (ln / 4),Y⟩;rw[show(ln / 4).toNat=N by omega];have p:bc (∀W,bN 95 #[I ck] W<|ξ ⟨pT (cu ck)⟩):=λW=>Ib ck W r.1 r.2;have E:ln.tdiv 4=(N:Int):=j4
 have A:N<=64:=Y;have H:nt cJ (N:Int)=N:=dI Y Y;have s:bc (∀n,(qx ck<|n+1)=qx ck n++⟨#[119]⟩++⟨pT (cu ck)⟩++⟨#[ji<|1+n]⟩):=λ_=>U;have O:pC (⟨(cu ck).toArray⟩:ByteArray)=2:=U;generalize (⟨pT (cu ck)⟩:ByteArray)=x at*;go_enter func94,ntmps94;go_wp2
 go_loopw [5,6] (λu l wr=>∃i:Nat,i<=N/\u=ξ (qx ck i)/\l=I i/\aK w wr) (λ_ l _=>N-pD (dw l))
 case atStart=>exact⟨0,cO _,U,U,bv _ _⟩
 case round=>
  obtain⟨i,B,rfl,rfl,c⟩:=hrel;by_cases D:i<N
  ·have t:(i:Int)<(N:Int):=Y;have G:=IS ck i;have m:bc (∀(n:Nat) (w:aq),w.1[n]? =Z (au #[ι .u8<|1+i] 5 (0,0))->(convert 158 9<|ζ (Z<|F n 0) 1 1).run ai w=.ok (ξ ⟨#[ji<|1+i]⟩) w):=λn w h=>by have:=W8 (1+i) Y n w h;rwa [show(1+(i:Int)).toNat=1+i by omega]at this
   have o:=s i;have J:nt cJ (1+(i:Int))=1+i:=dI Y Y;have L:nt BM (1+(i:Int))=1+i:=by have:nt BM (1+(i:Int))=(1+(i:Int))%256:=U;omega
   have Q:¬9223372036854775807<4*i+1:=Y;have R:¬9223372036854775807<4*i+1+2:=Y;have T:¬9223372036854775807<4*i+1+2+1:=Y;have P:pC (⟨#[ji<|1+i]⟩:ByteArray)=1:=U;generalize (⟨#[ji<|1+i]⟩:ByteArray)=q at*;generalize qx ck i=X at*
   go_upto_region 5 with fail;refine gY (S:=λW=>aK wr W) 11 ((bv _ _).drew) λhS=>?_;apply tg [0,1,2,5,6,7];refine g2 3 8 (λK a=>?_) λK a=>?_
   ·go_simp;go_at_call 95;apply(p _).V;rintro e b ⟨rfl,b1⟩;refine a _ _ (hS.E<|b1.V hS.4) λd=>?_;clear a K hS;apply tg [4];refine gr 8 λK a=>?_;go_simp;refine a _ _ (d.E<|(bv _ b).alloc d.4 _) λf=>?_;clear a K;have j:=ao b (au #[ι .u8<|1+i] 5);apply zo (S':=λW=>aK wr W/\W.1[pB b.1]? =Z (au #[ι .u8<|1+i] 5 (0,0))) (λ_ h=>h.1) _ _ _ _;have hS:aK wr (lL b<|au #[ι .u8<|1+i] 5)/\(lL b<|au #[ι .u8<|1+i] 5).1[pB b.1]? =Z (au #[ι .u8<|1+i] 5 (0,0)):=⟨f,j⟩;clear d f j;refine tg [9] ?_ (bS.g (v:=ξ q) (hy:=az ⟨by kernel_rfl,aA ⟨U,λW k=>by go_simp;rw[m _ _ k.2];rfl⟩⟩) (h:=.nil));apply tg [10];refine gz λK a=>?_;go_simp;apply a _ _;clear a K;refine gl ?_;go_wp2;go_roundw;case rel=>exact⟨i+1,Y,by rw[o],by go_num,c.E<|hS.1.V c.4⟩
    case measure=>simp[dw];omega
   go_simp;refine a _ _ (((bv _ wr).alloc (aR _) _).drew) λf=>?_;clear a K hS;have j:=ao wr (au #[ι .u8<|1+i] 5);apply zo (S':=λW=>aK wr W/\W.1[pB wr.1]? =Z (au #[ι .u8<|1+i] 5 (0,0))) (λ_ h=>h.1) _ _ _ _;have hS:aK wr (lL wr<|au #[ι .u8<|1+i] 5).drew/\(lL wr<|au #[ι .u8<|1+i] 5).drew.1[pB wr.1]? =Z (au #[ι .u8<|1+i] 5 (0,0)):=⟨f,j⟩;clear f;refine tg [9] ?_ (bS.g (v:=ξ q) (hy:=az ⟨by kernel_rfl,aA ⟨U,λW k=>by go_simp;rw[m _ _ k.2];rfl⟩⟩) (h:=.nil));refine gr 3 λK a=>?_;go_simp;go_at_call 95;apply(p _).V;rintro e b ⟨rfl,b1⟩;refine a _ _ ⟨hS.1.E<|b1.V hS.1.4,bT b1 j⟩ λd=>?_;clear a K hS;apply tg [4,10];refine gz λK a=>?_;go_simp;apply a _ _;clear a K;refine gl ?_;go_wp2;go_roundw;case rel=>exact⟨i+1,Y,by rw[o],by go_num,c.E<|d.1.V c.4⟩
   case measure=>simp[dw];omega
  have t:¬(i:Int)<(N:Int):=Y;have e:i=N:=Y;subst e;go_wp2;go_ret;exact⟨U,c⟩
def bz.box{c'}(T:bz u g cb xb f c L m)(hS:c'.S=c.S)(o:c'.W=c.W)(l:u'.1[cb]? =Z (au (uQ g xb c' m) 40 (0,0)))(a:∀b,b≠cb->u'.1[b]? =u.1[b]?)(hks:c'.ks=c.ks:=by rfl):bz u' g cb xb f c' L m:=by
 let ne:∀{b:Nat} {x:aF aB} {V:aY},u.1[b]? =Z (au x V (0,0))->V≠40->u'.1[b]? =Z (au x V (0,0)):=λh D=>(a _<|mC h T.2 D).E h;let B:∀{S k n:Nat} {v:aB} {C:av aB},mT u 0 S k v n C->S≠40->mT u' 0 S k v n C:=λh hS=>eF h λb t=>by obtain⟨x,A⟩:=yW h t;exact(ne A hS).E A.y
 refine T.move (λb t E=>a b λe=>E (e▸T.8.1)) ?_ l (by rw[hS];exact B T.3 aM) (by rw[o];exact B T.4 aM) (λi p s w d=>?_) (λj q r z hr=>?_) T.7 T.8.2 (λb o _ _ e D=>⟨(a b D.1).E e,D⟩) hks;have:=(bf.1 l).1;refine xW λG=>?_;let e:=a u'.1.size Y;grind;rw[hS]at d;exact⟨ne (T.5 i p s w d).1 aM,(T.5 i p s w d).2⟩;rw[o]at hr;exact⟨ne (T.6 j q r z hr).1 aM,(T.6 j q r z hr).2⟩
structure Wi.Good(g:Cf)(r:Wi):Prop where
 kd:0<=r.kd/\r.kd<=4
 fl:r.fl=0\/r.fl=1/\(r.kd=1\/r.kd=3\/r.kd=4)
 of:0<=r.of/\r.of %4=0/\r.ln %4=0/\r.of+r.ln<=g.sz/\r.ln<=g.mx
 ln:if r.kd=2 then r.of=0/\r.ln=0 else 4<=r.ln
 dt:r.dt=if r.kd=1 then qx r.ck (r.ln / 4).toNat else⟨#[]⟩
 er:r.er=0/\r.tx=⟨#[]⟩/\r.bk= -1
abbrev Pz(u ck:Nat)(kd of ln now:Int):Wi:=⟨u,ck,kd,0,of,ln,⟨#[]⟩,now,-1,0,⟨#[]⟩⟩
def GY{u:Nat}{kd fl of ln now dt}(h:(0<=kd/\kd<=4)/\(0<=of/\of %4=0)/\(4<=ln/\ln %4=0/\of+ln<=g.1/\ln<=g.4))(a:¬kd=2)(hf:fl=0\/fl=1/\(kd=1\/kd=3\/kd=4))(hd:dt=if kd=1 then qx ck (pD (ln / 4)) else⟨#[]⟩):Wi.Good g ⟨u,ck,kd,fl,of,ln,dt,now,-1,0,⟨#[]⟩⟩:=⟨h.1,hf,⟨h.2.1.1,h.2.1.2,h.2.2.2.1,h.2.2.2.2.1,h.2.2.2.2.2⟩,by show if kd=2 then _ else _;rw[aI a];exact h.2.2.1,hd,U,U,U⟩
structure uP(w:aq)(c u ck:Nat)(now:Int)(g:Cf)(a:Nat)(r:Wi)(w':aq):Prop where
 blk:w'.1[a]? =Z (au (mI r) 53 (0,0))
 new:w.1.size<=a
 old:∀b,b<w.1.size->w'.1[b]? =w.1[b]?
 raw:∃kd of ln,r=Pz u ck kd of ln now/\(0<=kd/\kd<=4)/\(0<=of/\of %4=0)/\(4<=ln/\ln %4=0/\of+ln<=g.sz/\ln<=g.mx)
def aWF(g:Cf)(u ck:Nat)(now y z:Int):Wi:=⟨u,ck,eX y 5,if eX y 20 / 5=0/\¬eX y 5=0/\¬eX y 5=2 then 1 else 0,if eX y 5=2 then 0 else 4*eX z (g.1 / 4),if eX y 5=2 then 0 else 4*(1+eX (z.tdiv 64) (if g.4 / 4<g.1 / 4-eX z (g.1 / 4)then g.4 / 4 else g.1 / 4-eX z (g.1 / 4))),if eX y 5=1 then qx ck (pD (4*(1+eX (z.tdiv 64) (if g.4 / 4<g.1 / 4-eX z (g.1 / 4)then g.4 / 4 else g.1 / 4-eX z (g.1 / 4))) / 4))else⟨#[]⟩,now,-1,0,⟨#[]⟩⟩
def uP.fin{F:Wi} {w1 wc w':aq}{u now}{e:Ending}(i:e=aG (jp wb))(h:uP w1 cb u ck now g wb r wc)(T:bz w1 g cb xb f c L m/\pB w1.1=pB w.1)(l:r'.Good g)(he:(r'.u=u/\r'.2=ck/\r'.8=now)/\r'=F)(j:w'.1[wb]? =Z (au (mI r') 53 (0,0)))(k:∀b,b≠wb->b<pB wc.1->w'.1[b]? =wc.1[b]?):∃a r',e=aG (jp a)/\r'.Good g/\((r'.u=u/\r'.2=ck/\r'.8=now)/\r'=F)/\pB w.1<=a/\w'.1[a]? =Z (au (mI r') 53 (0,0))/\bz w' g cb xb f c L m:=by let n:=h.2;refine⟨wb,r',i,l,he,by have:=T.2;omega,j,T.1.old λb d=>(k b Y ?_).E (h.3 b d)⟩;have:=h.3 b d;grind
abbrev WiB(a:Nat)(r:Wi)(B W:aq):Prop:=W.1[a]? =Z (au (mI r) 53 (0,0))/\aK B W
def aka(d xb:Nat)(g:Cf)(f:Fx)(c:Cw)(L:cZ)(m:Cm)(w:aq)(h:bz w g d xb f c L m)(u:Nat)(s z:Int)(hy:dy s)(hz:dy z)(hI:g.Is)(uW:c.5<65535):
  ax ai 57 #[jp d,I u,I s,I z] w λe w'=>∃l r,e=aG (jp l)/\r.Good g/\((r.u=u/\r.2=c.5+1/\r.8=c.3)/\r=aWF g u (c.5+1) c.3 s z)/\pB w.1<=l/\w'.1[l]? =Z (au (mI r) 53 (0,0))/\bz w' g d xb f {c with ck:=c.5+1} L m:=by
 have q0:=aJ w d 0 (I g.1) h.2;have q3:=aJ w d 3 (I g.4) h.2;have bV:=aJ w d 12 (I c.3) h.2;have bW:=aJ w d 14 (I c.5) h.2;have f14:=bp h.2 14;have cD:=hI.1;have cC:=hI.4;obtain⟨n,hn⟩:∃n:Int,g.1=4*n:=⟨g.1 / 4,Y⟩;obtain⟨C,bH⟩:∃n:Int,g.4=4*n:=⟨g.4 / 4,Y⟩;have d0:g.1.tdiv 4=n:=by rw[hn];exact l8 _ aM
 have d3:g.4.tdiv 4=C:=by rw[bH];exact l8 _ aM
 have e0:g.1 / 4=n:=Y;have e3:g.4 / 4=C:=Y;generalize hF:aWF g u (c.5+1) c.3 s z=kF;rw[aWF]at hF;rw[e0,e3]at hF;have D:nt cJ n=n:=dI Y Y;have w3:nt cJ C=C:=dI Y Y;have HP:bc (∀W,eZ 21 #[I z,I n] W<|I<|eX z n):=λW=>Ed z n W hz Y Y;obtain⟨j,aW⟩:∃a,a=eX z n:=⟨_,U⟩;have bB:=AX z (n:=n) Y;rw[<-aW]at HP bB hF;clear aW;have cE:nt cJ (n-j)=n-j:=dI Y Y;have bk:(kB w (F d 14)<|I<|c.5+1).1[d]? =Z (au (uQ g xb {c with ck:=c.5+1} m) 40 (0,0)):=bG h.2 14 _;have N:bz (kB w (F d 14)<|I<|c.5+1) g d xb f {c with ck:=c.5+1} L m:=h.box U U bk λb p=>bC p;have bl:pB (kB w (F d 14)<|I<|c.5+1).1=pB w.1:=ay;have G:bc (bz (kB w (F d 14)<|I<|c.5+1) g d xb f {c with ck:=c.5+1} L m/\pB (kB w (F d 14)<|I<|c.5+1).1=pB w.1):=⟨N,bl⟩;have bt:=aJ (kB w (F d 14)<|I<|c.5+1) d 12 (I c.3) N.2;have bu:=aJ (kB w (F d 14)<|I<|c.5+1) d 14 (I<|c.5+1) N.2;have cK:nt cJ ((c.5:Int)+1)=c.5+1:=dI Y Y;clear h N bl bk;obtain⟨E,bQ⟩:∃E,z.tdiv 64=E:=⟨_,U⟩;rw[bQ]at hF
 have aQ:dy E:=by
  unfold dy at hz⊢;rw[<-bQ];by_cases bL:0<=z;rw[EX bL];omega;have e:z.tdiv 64= -((-z) / 64):=by rw[<-EX (a:=-z) Y,Int.neg_tdiv,Int.neg_neg]
  rw[e];omega
 have cN:nt cJ E=E:=dI aQ.1 aQ.2;have H5:bc (∀W,eZ 21 #[I s,I 5] W<|I<|eX s 5):=λW=>Ed s 5 W hy aM aM;have bD:=AX s (n:=5) aM;obtain⟨kd,UX⟩:∃a,a=eX s 5:=⟨_,U⟩;rw[<-UX]at H5 bD hF;clear UX
 obtain⟨t,cB,Dx⟩:∃t,(1<=t/\t<=n-j/\t<=C)/\(C<n-j/\t=C\/¬C<n-j/\t=n-j):=by by_cases O:C<n-j;exact⟨C,Y,aA ⟨O,U⟩⟩;exact⟨n-j,Y,az ⟨O,U⟩⟩
 rw[show(if C<n-j then C else n-j)=t by obtain⟨h,e⟩|⟨h,e⟩:=Dx<;>rw[e]<;>simp[h]]at hF
 have HM:bc (∀W,eZ 21 #[I E,I t] W<|I<|eX E t):=λW=>Ed E t W aQ Y Y;have MV:=AX E (n:=t) Y;obtain⟨lp,bh⟩:∃a,a=eX E t:=⟨_,U⟩;rw[<-bh]at HM MV hF;clear bh;have HF:=Dv hF;clear hF;have Vn:nt cJ (4*j)=4*j:=dI Y Y;have bO:nt cJ (1+lp)=1+lp:=dI Y Y;have bP:nt cJ (4*(1+lp))=4*(1+lp):=dI Y Y
 have J:bc ((0<=kd/\kd<=4)/\(0<=4*j/\4*j %4=0)/\(4<=4*(1+lp)/\4*(1+lp)%4=0/\4*j+4*(1+lp)<=g.1/\4*(1+lp)<=g.4)):=by show(_/\_)/\_;omega
 go_enter func57,ntmps57;rcases Dx with⟨O,aH⟩|⟨O,aH⟩
 all_goals go_upto_region 7 with(go_at_call 21;refine(HP.H _).V ?_;rintro e D ⟨rfl,h0⟩;subst D)
 all_goals rw[<-aH]
 all_goals clear aH O HP
 all_goals
  go_cut [12] (λv w'=>∃l,v=jp l/\uP (kB w (F d 14)<|I<|c.5+1) d u (c.5+1) c.3 g l (Pz u (c.5+1) kd (4*j) (4*(1+lp)) c.3) w')
  case first=>refine gY (S:=λW=>kD W (F d 12)=Z (I c.3)/\kD W (F d 14)=Z (I<|c.5+1)) 20 ⟨bt,bu⟩ λhS=>?_;apply tg [0,1,2,3,4,5,7,8];apply tg [9,10,11,15,16,17,18];refine gr 6 λK o=>?_;go_simp;go_at_call 21;refine(H5.H _).V ?_;rintro e D ⟨rfl,h0⟩;subst D;refine o.H _ _ hS λB=>?_;clear o K B;refine gr 12 λK o=>?_;go_simp;go_at_call 21;refine(HM.H _).V ?_;rintro e D ⟨rfl,h0⟩;subst D;refine o.H _ _ hS λB=>?_;clear o K B;apply tg [13,14,19];refine gz λK o=>?_;go_simp;refine o.H _ _ ?_;clear o K;apply tg [21];refine gl ?_;go_wp2_with fail;go_meet;case rel=>exact⟨_,U,vj G.H.2.y,xV G.H.2,λb p=>((bv _<|kB w (F d 14)<|I<|c.5+1).alloc (aR _) _).5 b p,⟨_,_,_,U,J.H⟩⟩
  case rest=>
   obtain⟨l,rfl,q⟩:=hcut;have ah:bc (∀W,eZ 21 #[I s,I 20] W<|I<|eX s 20):=λW=>Ed s 20 W hy aM aM;have aL:=AX s (n:=20) aM;obtain⟨k,hk⟩:∃a,a=eX s 20:=⟨_,U⟩;have hF:=HF.H;clear HF;rw[<-hk]at ah aL hF;clear hk;have bE:k.tdiv 5=k / 5:=EX aL.1;obtain⟨Q,bg⟩:∃a,a=k / 5:=⟨_,U⟩;rw[<-bg]at bE hF;have HF:=Dv hF;clear hF;have cL:nt cJ Q=Q:=dI Y Y;have b1:=aJ wc l 1 (I (c.5+1:Nat)) q.1;have b2:=aJ wc l 2 (I kd) q.1;have b3:=aJ wc l 3 (I 0) q.1;have b4:=aJ wc l 4 (I<|4*j) q.1;have b5:=aJ wc l 5 (I<|4*(1+lp)) q.1;have b6:=aJ wc l 6 (ξ ⟨#[]⟩) q.1;have g3:=bp q.1 3;have g4:=bp q.1 4;have g5:=bp q.1 5;have g6:=bp q.1 6;have A:bc (uP (kB w (F d 14)<|I<|c.5+1) d u (c.5+1) c.3 g l (Pz u (c.5+1) kd (4*j) (4*(1+lp)) c.3) wc):=q;clear q bg aL bt bu Vn bO bP HM H5 q0 q3 bV bW f14;have aT:bc (∀W,bN 94 #[I<|(c.5:Int)+1,I<|4*(1+lp)] W<|ξ<|qx (c.5+1:Nat) (pD (4*(1+lp) / 4))):=λW=>akB ((c.5+1:Nat):Int) _ W Y Y;generalize bn:qx ((c.5+1:Nat):Int) (pD (4*(1+lp) / 4))=SW at aT;have aS:bc (SW=qx ((c.5+1:Nat):Int) (pD (4*(1+lp) / 4))):=bn.y;clear bn;by_cases e1:kd=1
   ·subst e1;have H:bc (if Q=0 then(kB wc (F l 3)<|I 1).1[l]? =Z (au (mI ⟨u,c.5+1,1,1,4*j,4*(1+lp),⟨#[]⟩,c.3,-1,0,⟨#[]⟩⟩) 53 (0,0))else wc.1[l]? =Z (au (mI ⟨u,c.5+1,1,0,4*j,4*(1+lp),⟨#[]⟩,c.3,-1,0,⟨#[]⟩⟩) 53 (0,0))):=by show ite _ _ _;split;exact bG A.H.1 3 _;exact A.H.1
    by_cases P:Q=0;all_goals
     replace H:=H.H
     first|rw[aO P]at H|rw[aI P]at H
     try subst P
     have an:bc _:=H;have x1:=aD an.H (i:=1) U;have x5:=aD an.H (i:=5) U;clear H
     go_upto_region 15 with(go_at_call 21;refine(ah.H _).V ?_;rintro e D ⟨rfl,h0⟩;subst D)
     refine gY (S:=WiB l _ _) 12 ⟨an.H,(bv _ _).drew⟩ λhS=>?_;apply tg [0,1,2,3];refine tg [4] ?_ (bS.g (v:=I<|(c.5:Int)+1) (hy:=az ⟨by kernel_rfl,aA ⟨U,λW hW=>by have x:=aD hW.1 (i:=1) U;go_simp⟩⟩) (h:=.nil));apply tg [5,6,7];refine tg [8] ?_ (bS.g (v:=I<|4*(1+lp)) (hy:=az ⟨by kernel_rfl,aA ⟨U,λW hW=>by have x:=aD hW.1 (i:=5) U;go_simp⟩⟩) (h:=.nil));refine gr 9 λK o=>?_;go_simp;go_at_call 94;refine(aT.H _).V ?_;rintro e w1 ⟨rfl,oY⟩;refine o.H _ _ ⟨bT oY hS.1,hS.2.E<|oY.V hS.2.4⟩ λB=>?_;clear o K hS;apply tg [10,11];have y6:=aJ w1 l 6 (ξ ⟨#[]⟩) B.1;have z6:=bp B.1 6;refine gz λK o=>?_;go_simp;refine o.H _ _ ?_;clear o K;refine gl ?_;go_wp2;go_ret
     first
     |(obtain⟨R,X,T,V⟩:=uP.fin (F:=kF) (e:=aG<|jp l) (r':=⟨u,c.5+1,1,0,4*j,4*(1+lp),SW,c.3,-1,0,⟨#[]⟩⟩) U A.H G.H (GY J.H aM (aA U) aS.H) ⟨⟨U,U,U⟩,(by rw[<-HF.H];first|(simp;done)|(simp[P];done)|(rw[aS.H];simp;done)|(rw[aS.H];simp[P];done))⟩ (bG B.1 6 _) λb p hl=>(bC p).E (B.2.5 b hl)
       first|exact⟨R,T,X,V⟩|exact⟨R,X,T,V⟩)
     |(obtain⟨R,X,T,V⟩:=uP.fin (F:=kF) (e:=aG<|jp l) (r':=⟨u,c.5+1,1,1,4*j,4*(1+lp),SW,c.3,-1,0,⟨#[]⟩⟩) U A.H G.H (GY J.H aM (az ⟨U,aA U⟩) aS.H) ⟨⟨U,U,U⟩,(by rw[<-HF.H];first|(simp;done)|(simp[P];done)|(rw[aS.H];simp;done)|(rw[aS.H];simp[P];done))⟩ (bG B.1 6 _) λb p hl=>(bC p).E ((B.2.5 b (by simpa using hl)).E<|bC p)
       first|exact⟨R,T,X,V⟩|exact⟨R,X,T,V⟩)
   have HK:kd=0\/kd=2\/kd=3\/kd=4:=by have:=J.H.1;omega
   by_cases P:Q=0<;>(try subst P)<;>rcases HK with rfl|rfl|rfl|rfl
   all_goals
    go_wp2_with (go_at_call 21;refine(ah.H _).V ?_;rintro e D ⟨rfl,h0⟩;subst D);go_ret
    first
    |exact uP.fin rfl A.H G.H (GY J.H aM (aA rfl) rfl) ⟨⟨rfl,rfl,rfl⟩,(by rw[<-HF.H];first|(simp;done)|(simp[P];done)|(rw[aS.H];simp;done)|(rw[aS.H];simp[P];done))⟩ A.H.1 λb _ _=>U
    |exact uP.fin (r':=Pz u (c.5+1) 2 0 0 c.3) rfl A.H G.H (by have N:=hI.1;have h2:=hI.4;refine⟨?_,aA U,?_,⟨U,U⟩,U,U,U,U⟩;show(0:Int)<=2/\(2:Int)<=4;decide;show(0:Int)<=0/\(0:Int)%4=0/\(0:Int)%4=0/\(0:Int)+0<=g.1/\(0:Int)<=g.4;omega) ⟨⟨U,U,U⟩,(by rw[<-HF.H];first|(simp;done)|(simp[P];done)|(rw[aS.H];simp;done)|(rw[aS.H];simp[P];done))⟩ (bG (bG A.H.1 4 _) 5 _) λb p _=>(bC p).E (bC p)
    |exact uP.fin (r':=⟨u,c.5+1,_,1,4*j,4*(1+lp),⟨#[]⟩,c.3,-1,0,⟨#[]⟩⟩) rfl A.H G.H (GY J.H aM (az ⟨rfl,az aM⟩) rfl) ⟨⟨rfl,rfl,rfl⟩,(by rw[<-HF.H];first|(simp;done)|(simp[P];done)|(rw[aS.H];simp;done)|(rw[aS.H];simp[P];done))⟩ (bG A.H.1 3 _) λb p _=>bC p
def acI:(ai.info? 54).map (λi=>(i.8,i.3,i.4))=Z (Z<|π aj,1,8):=aW
def Wi.dV(r:Wi):ByteArray:=⟨#[81]⟩++zi r.3 r.4++⟨pT (cu r.2)⟩++⟨pT (cu r.5)⟩++⟨pT (cu r.6)⟩++r.7
def bz.goK(T:bz u g cb xb f c L m)(h:aE u' f' xb L')(t:bE u L u' L'):∃L',bz u' g cb xb f' c L' m/\∀b,b<pB u.1->L.13 b=0->u'.1[b]? =u.1[b]? /\L'.13 b=0:=by let⟨d,v,t2,w⟩:=h.norm t;let keep:∀b,b<pB u.1->L.13 b=0->u'.1[b]? =u.1[b]? /\d.13 b=0:=λb a h0=>⟨t.2.3 b a λx=>x h0,(t2.1 b a).E h0⟩;let blk:∀{b:Nat} {o:Obj},u.1[b]? =Z o->L.13 b=0->u'.1[b]? =Z o/\d.13 b=0:=λh h0=>let k:=keep _ (bf.1 h).1 h0;⟨k.1.E h,k.2⟩;exact⟨d,⟨v,(blk T.2 T.8.1).1,eF T.3 λb a=>(keep b (jJ T.3 b a)<|T.8.2.1 b a).1,eF T.4 λb a=>(keep b (jJ T.4 b a)<|T.8.2.2 b a).1,λi p s e n=>blk (T.5 i p s e n).1 (T.5 i p s e n).2,λj q r l hr=>blk (T.6 j q r l hr).1 (T.6 j q r l hr).2,T.7,⟨(blk T.2 T.8.1).2,λb a=>(keep b (jJ T.3 b a)<|T.8.2.1 b a).2,λb a=>(keep b (jJ T.4 b a)<|T.8.2.2 b a).2⟩,w,λb o x=>have h:=T.kp b o x;have k:=blk h.1 h.2.1;⟨k.1,k.2,h.2.2⟩⟩,keep⟩
def bz.K9{gb t2 lm}(T:bz u g cb xb f c L m)(hr:u.1[wb]? =Z (au (mI r) 53 (0,0)))(X:L.13 wb=0)(z:wb∉m.4)(hkw:c.ks wb=aj)(af:mT w3 0 54 1 (ζ (Z<|F gb 0) (pA c.W+1) kh) (pA c.W+1) (pz m.4++[jp wb]))(E:(lL u<|au lm t2).grownBy w3 (rW m.2))(C:rW m.2=Z gb\/gb=pB u.1+1):
  w3.1[cb]? =Z (au (uQ g xb c m) 40 (0,0))/\bz (kB w3 (F cb 11)<|ζ (Z<|F gb 0) (pA c.W+1) kh) g cb xb f {c with W:=c.W++[r]} L {m with wv:=ζ (Z<|F gb 0) (pA c.W+1) kh,qs:=m.4++[wb]}:=by
 let lt:∀{b:Nat} {o:Obj},u.1[b]? =Z o->b<pB u.1:=λh=>(bf.1 h).1;let V:cb<pB u.1:=lt T.2;have ah:=E.4;simp at ah;let w:∀x,x<pB u.1->Z x≠rW m.2->w3.1[x]? =u.1[x]? :=λx d z=>(E.5 x bV z).E (((bv _ u).alloc (aR _) _).5 x d)
 let A:∀{x:Nat} {c:aF aB} {t:Nat},u.1[x]? =Z (au c t (0,0))->t≠54->Z x≠rW m.2:=λh v e=>by let⟨c',D⟩:=yW T.4 e.y;rw[h]at D;cases D;exact v U
 let B:=(w cb V<|A T.2 aM).E T.2
 let R:gb≠cb:=λe=>by subst e;obtain h|h:=C;exact A T.2 aM h.y;omega
 let k:∀{b:Nat} {x:aF aB} {t:Nat},u.1[b]? =Z (au x t (0,0))->t≠54->t≠40->(kB w3 (F cb 11)<|ζ (Z<|F gb 0) (pA c.W+1) kh).1[b]? =Z (au x t (0,0)):=λh v O=>(bC<|mC h T.2 O).E ((w _ (lt h)<|A h v).E h);refine⟨B,T.move (λb n J=>(bC λe=>J (by rw[e];exact T.8.1)).E (w b n λe=>J (T.8.2.2 b e.y))) bV (bG B 11 _) (eF T.3 λb n=>?_) ?_ (λi p s K N=>⟨k (T.5 i p s K N).1 aM aM,(T.5 i p s K N).2⟩) (λj q x l d=>?_) ⟨T.7.1,?_⟩ ⟨T.8.2.1,λb n=>?_⟩ λb o x n e D=>⟨(bC D.1).E ((w b n λh=>D.2.2.1 h.y).E e),D.1,D.2.1,λh=>(by have q:gb=b:=Option.some.inj h;obtain h|h:=C;exact D.2.2.1 (q▸h);omega),D.2.2.2.1,λq=>(jg.1 q).e D.2.2.2.2 λq=>(by rw[iz.1 q,hkw]at x;cases x)⟩⟩
 let⟨x,d⟩:=yW T.3 n
 exact(k d aM aM).E d.y;show KO _ 0 _ 1 _ (pA (c.W++[r])) (pz<|m.4++[wb]);rw[fQ];refine eF (by simpa[pz]using af) λx d=>bC ?_;have e:gb=x:=by simpa[lW]using d
 exact e▸R;have l:(m.4++[wb])[j]? =Z q:=l;have d:(c.W++[r])[j]? =Z x:=d;let S:=T.Od;rw[zH]at l d
 by_cases G:j<pA m.4
 rw[aO G]at l;rw[aO Y]at d;exact⟨k (T.6 j q x l d).1 aM aM,(T.6 j q x l d).2⟩;rw[aI G]at l;rw[aI Y]at d
 let H:j-pA m.4=0:=by have:=(bY.1 l).1;simp at this;omega
 rw[H]at l;rw[<-S,H]at d;cases l;cases d;exact⟨k hr aM aM,X⟩;show(m.4++[wb]).Nodup;refine Ca.2 ⟨T.7.2,ay,λa P b n e=>?_⟩;rw[iz]at n;subst n e;exact z P;have e:gb=b:=by simpa[lW]using n
 subst e;obtain h|h:=C;exact T.8.2.2 _ h;exact T.9 _ Y
structure CI(g:Cf)(f:Fx)(c:Cw)(i a:Nat)(k:Ck)(b:Bool)(f':Fx)(d:Cw)(r:Wi):Prop where
 good:r.Good g
 is:r.u=i/\r.ck=c.ck+1/\r.at_=c.3
 H:((f.sp a k r.dV).2=6/\b=M/\f'=(f.sp a k r.dV).1/\d={c with ck:=c.ck+1})\/((f.sp a k r.dV).2≠6/\b=((f.sp a k r.dV).2==0)/\f'=(f.sp a k r.dV).1/\d={c with ck:=c.ck+1,W:=c.W++[r]})
def I9(g:Cf)(cb xb:Nat)(f:Fx)(c:Cw)(i d:Nat)(k:Ck)(y z:Int)(ps:av Nat)(e:Ending)(w':aq):Prop:=∃b f' a r,e=aG (ω b)/\(CI g f c i d k b f' a r/\r=aWF g i (c.5+1) c.3 y z)/\uH w' g cb xb f' a ps
def RZ(cb xb g f)(c:Cw)(L)(m:Cm)(w)(h:bz w g cb xb f c L m)(p lm z)(b:60000<=c.5):
  eZ 24 #[jp cb,jp p,I lm,I z] w (ω M):=by
 let d:=aJ w cb 14 (I c.5) h.2;let a:(60000:Int)<=c.5:=Y;go_enter func24,ntmps24;go_wp2;go_ret;exact⟨U,U⟩
def RY(cb xb g f)(c:Cw)(L)(m:Cm)(w)(h:bz w g cb xb f c L m)(i p t:Nat)(s:Sl)(k lm z)(hy:dy lm)(hz:dy z)(hI:g.Is)(uW:c.5<60000)(hs:c.S[i]? =Z s)(hp:m.3[i]? =Z p)(hu:f.Is i t k)(hf:pA f.K<=65535)(hi:pC k.4<=1024)(hl:pA c.W<=1099511627776):
  ax ai 24 #[jp cb,jp p,I lm,I z] w λe v=>I9 g cb xb f c i t k lm z m.3 e v:=by
 let⟨iP,bH,oh,bL,oZ⟩:=nG acI
 have cu:=aJ w cb 14 (I c.5) h.2;have bV:¬(60000:Int)<=c.5:=Y;have bW:¬(c.5:Int)≥60000:=Y;have bg:=h.5 i p s hp hs;have p0:=aJ w p 0 (I i) bg.1
 have HW:bc (ax ai 57 #[jp cb,I i,I lm,I z] w λe v=>∃d r,e=aG (jp d)/\(r.Good g/\(r.u=i/\r.2=c.5+1/\r.8=c.3)/\r=aWF g i (c.5+1) c.3 lm z)/\(v.1[d]? =Z (au (mI r) 53 (0,0))/\L.13 d=0/\d∉m.4/\c.ks d=aj)/\bz v g cb xb f {c with ck:=c.5+1} L m):=by apply(aka cb xb g f c L m w h i lm z hy hz hI Y).V;rintro e v ⟨d,r,rfl,h1,h2,O,P,q⟩;refine⟨d,r,U,⟨h1,h2⟩,⟨P,h.9 d O,λhm=>?_,by cases e:c.ks d with|none=>rfl|some o=>have:=(bf.1 (h.kp d o e).1).1;omega⟩,q⟩;let⟨j,hj⟩:=pJ.1 hm;have bX:=(bY.1 hj).1;have:=h.Od;obtain⟨x,hx⟩:∃x,c.W[j]? =Z x:=⟨_,dj Y⟩;have:=(bf.1 (h.6 j d x hj hx).1).1;omega
 have HM:bc (∀r:Wi,r.Good g->r.2=c.5+1->∀d W,W.1[d]? =Z (au (mI r) 53 (0,0))->bN 58 #[jp d] W (ξ r.dV)):=λr E hk d W X=>by
  have cm:=hI.1;have cg:=hI.4;have o:=E.3;have n:=E.4;have MV:0<=r.6:=by by_cases e:r.3=2;rw[aO e]at n;omega;rw[aI e]at n;omega
  refine akk d r.u r.2 r.3 r.4 r.5 r.6 r.7 r.8 r.9 r.er r.tx W X Y (by have:=E.1;omega) (by have:=E.2;omega) Y Y ?_;rw[E.5];split;rw[IS];omega;show(0:Nat)<=_;omega
 have HS:bc (∀x W L,aE W f xb L->ax ai 37 #[jp xb,I i,ξ x] W λe v=>e=aG (I (f.sp t k x).2)/\∃L',aE v (f.sp t k x).1 xb L'/\bE W L v L'):=λx W L X=>Uq W f xb L X hf i x t k hu hi;have J:bc (m.3[i]? =Z p/\c.S[i]? =Z s):=⟨hp,hs⟩;have Ew:=trivial;clear h bg hu hi hy hz hs hp;go_enter func24,ntmps24
 go_upto_region 4 with(go_at_call 57;apply HW.V;rintro e w1 ⟨d,r,rfl,Hg,bl,Q⟩)
 have B:=aX Hg;have H:=aX bl;have H1:=aX Q;clear Hg bl;have x9:=aJ w1 cb 9 (jp xb) Q.2;have x0:kD w1 (F p 0)=Z (I i):=aD (Q.5 i p s J.1 J.2).1 U;clear Q;refine gY (S:=λW=>kD W (F cb 9)=Z (jp xb)/\kD W (F p 0)=Z (I i)) 10 ⟨x9,x0⟩ λhS=>?_;apply tg [0,1,2,3,4,5,6,7];apply tg [8];refine gr 9 λK D=>?_;go_simp;go_at_call 58;apply(HM r B.1 B.2.1.2.1 d w1.drew H.1).V;rintro e w2 ⟨rfl,lD⟩;have A:bc (bz w2 g cb xb f {c with ck:=c.5+1} L m/\w2.1[d]? =Z (au (mI r) 53 (0,0))):=⟨H1.old λb hb=>lD.5 b hb,bT lD H.1⟩;refine D _ _ ⟨aD A.1.2 U,aD (A.1.5 i p s J.1 J.2).1 U⟩ λyG=>?_;clear D K hS lD;refine gz λK D=>?_;go_simp;go_at_call 37;apply(HS _ w2 L A.1.1).V;rintro e l ⟨rfl,L',O,P⟩
 let⟨L3,q,C⟩:=A.1.goK O P
 have V:=C d (bf.1 A.2).1 H.2.1
 let⟨a0,Sw,aS⟩:=gP q.4
 have N:=aX aS;have G:bc (bz l g cb xb (f.sp t k r.dV).1 {c with ck:=c.5+1} L3 m/\l.1[d]? =Z (au (mI r) 53 (0,0))/\L3.13 d=0):=⟨q,V.1.E A.2,V.2⟩
 have cv:kD l (F cb 11)=Z (ζ a0 (pA c.W) Sw):=by rw[<-N];exact aD q.2 U
 have b8:cb<pB l.1:=(bf.1 q.2).1;have cj:¬cb=pB l.1:=Y
 have HR:bc (mT (lL l<|au #[jp d] 54) 0 54 1 (ζ a0 (pA c.W) Sw) (pA c.W)<|pz m.4):=by show KO _ _ _ _ _ _ _;rw[<-N];exact q.4.alloc _
 clear O P q C V aS yG;obtain⟨er,af⟩:∃a,a=(f.sp t k r.dV).2:=⟨_,U⟩;rw[<-af];have R:=aX af;clear af;apply D _ _;clear D K;apply tg [11];refine gl ?_
 by_cases C:er=6
 ·subst C;go_wp2;go_ret;exact⟨_,_,_,r,U,⟨⟨B.1,B.2.1,aA ⟨R.y,U,U,U⟩⟩,B.2.2⟩,_,_,G.1,qD _⟩
 have bU:(er==6)=aa:=by simpa using C
 go_wp2_with (at_builtin;have _t:=Ew;refine Re _ n7 _ _ 38 n7 0 54 iP _ 1 8 underlying38 bH oh bL oZ n7 Y _ (pA c.W) (pz m.4) n7 HR ⟨pB l.1,0,aj⟩ 1 1 [jp d] n7 n7 (wu<|ao l _) Hx Y B5 Y ay (pB l.1+1) ay ?_;intro g0 kh w4 Ve US UK b9;clear Ew;let⟨T,E4⟩:=bz.K9 (r:=r) G.1 G.2.1 G.2.2 H.2.2.1 H.2.2.2 Ve (by rw[N];exact US) (by rw[N];exact UK);have c4:=aJ w4 cb 11 m.2 T;have f4:=bp T 11;have bu:bc (uH (kB w4 (F cb 11)<|ζ (Z<|F g0 0) (pA c.W+1) kh) g cb xb (f.sp t k r.dV).1 {c with ck:=c.5+1,W:=c.W++[r]} m.3):=⟨_,_,E4,qD _⟩;clear T E4 Ve US UK);go_ret;exact⟨_,_,_,r,U,⟨⟨B.1,B.2.1,az ⟨by rw[<-R];exact C,by rw[<-R],U,U⟩⟩,B.2.2⟩,bu⟩
def bz.spot(T:bz u g cb xb f c L m){x}(b:c.W[i]? =Z x):∃a kh q,m.2=ζ (Z<|F a 0) (pA c.W) kh/\m.4[i]? =Z q/\kD u (F a i)=Z (jp q)/\u.1[q]? =Z (au (mI x) 53 (0,0)):=by let⟨q,d,h,_⟩:=T.Jy b;let⟨a,kh,e,j⟩:=yV T.4 (Kw (cO _) (bY.1 b).1);exact⟨a,kh,q,e,d,j i (jp q) j4,h⟩
def akf(cb xb g f)(c:Cw)(L)(m:Cm)(w)(h:bz w g cb xb f c L m)(u k j:Nat)(r:Wi)(d:c.W[j]? =Z r)(hr:r.u=u/\r.2=k)(hf:∀i x,c.W[i]? =Z x->x.u=u->x.2=k->j<=i)(hl:pA c.W<=1099511627776):
  ax ai 110 #[jp cb,I u,I k] w λe N=>∃q,m.4[j]? =Z q/\e=aG (jp q)/\N=w:=by
 let⟨z,kh,q,ev,B,R,b⟩:=h.spot d
 have X:=(bY.1 d).1;have P:kD w (F cb 11)=Z (ζ (Z<|F z 0) (pA c.W) kh):=ev▸aD h.2 U;have E:=aX B
 have D:bc (∀i,i<j->∃(x:Wi) (q:Nat),kD w (F z i)=Z (jp q)/\(kD w (F q 0)=Z (I (x.u:Nat))/\kD w (F q 1)=Z (I (x.2:Nat)))/\¬(x.u=u/\x.2=k)):=λi G=>by obtain⟨x,C⟩:∃x,c.W[i]? =Z x:=⟨_,dj Y⟩;let⟨T,Q,K,v,_,t,A⟩:=h.spot C;rw[ev]at v;cases v;exact⟨x,K,t,⟨aD A U,aD A U⟩,λe=>by have:=hf i x C e.1 e.2;omega⟩
 have O:kD w (F q 0)=Z (I u):=by rw[<-hr.1];exact aD b U
 have b1:kD w (F q 1)=Z (I k):=by rw[<-hr.2];exact aD b U
 clear h b B hf hr d ev;generalize pA c.W=n at*;go_enter func110,ntmps110;go_wp2
 go_loopw [7] (λs wr=>∃i:Nat,i<=j/\s=I i/\wr=w) (λs _=>n-pD (dw s))
 case atStart=>exact⟨0,cO _,U,U⟩
 case round=>
  obtain⟨i,G,rfl,rfl⟩:=hrel;have af:(i:Int)<(n:Int):=Y;have V:0<=(i:Int)/\(i:Int)<(n:Int):=Y;by_cases H:i<j
  ·let⟨x,p,t,⟨J,p1⟩,l⟩:=D i H;by_cases o:x.u=u
   ·have a:((x.u:Nat):Int)=(u:Int):=Y;have S:¬((x.2:Nat):Int)=(k:Int):=λe=>l ⟨o,Y⟩;rw[a]at J;clear l o a;go_wp2;go_roundw;case rel=>exact⟨i+1,Y,by go_num,by first|rfl|trivial⟩
    case measure=>simp[dw];omega
   have a:¬((x.u:Nat):Int)=(u:Int):=Y;clear l o;go_wp2;go_roundw;case rel=>exact⟨i+1,Y,by go_num,by first|rfl|trivial⟩
   case measure=>simp[dw];omega
  have e:i=j:=Y;subst e;go_wp2;go_ret;exact⟨q,E,U,U⟩
abbrev Tk:=UInt8 ⊕ (Nat×UInt8×av UInt8)
def iW(W:av Wi)(j:Nat):Nat:=match W[j]? with|some r=>r.2|none=>0
def iY(W:av Wi):Tk->av UInt8
 |.inl b=>[b]|.inr (j,e,t)=>82::e::(cu (iW W j)++t)
def Tk.no:Tk->aV Nat
 |.inl _=>aj|.inr (j,_)=>Z j
def mU(u:Nat)(W:av Wi):Tk->Prop
 |.inl b=>b=89\/b=71|.inr (j,e,t)=>∃r,W[j]? =Z r/\r.u=u/\r.9<0/\(e=0\/e=5)/\pA t=if r.3=0/\e=0 then pD r.6 else 0
abbrev Wi.had(r:Wi)(now:Int)(e:UInt8)(t:av UInt8):Wi:={r with bk:=now,er:=(e.toNat:Int),tx:=⟨t.toArray⟩}
def Tk.on(now:Int)(W:av Wi):Tk->av Wi
 |.inl _=>W|.inr (j,e,t)=>match W[j]? with|some r=>W.set j (r.had now e t)|none=>W
abbrev dS(now:Int)(W:av Wi)(ts:av Tk):av Wi:=ts.foldl (Tk.on now) W
structure mA(W:av Wi):Prop where
 dO:W.length<=1099511627776
 one:∀(j:Nat) r,W[j]? =Z r->r.ck<=65535/\0<=r.ln/\r.ln<=65535
 two:∀(j d:Nat) r a,W[j]? =Z r->W[d]? =Z a->r.u=a.u->r.ck=a.ck->j=d
def mA.set(h:mA W)(O:W[j]? =Z r)(e:r'.u=r.u/\r'.2=r.2/\r'.6=r.6):mA (W.set j r'):=by
 let q:∀(k:Nat) x,(W.set j r')[k]? =Z x->∃l,W[k]? =Z l/\x.u=l.u/\x.2=l.2/\x.6=l.6:=λk x o=>by grind
 refine⟨by rw[jB];exact h.1,λk x o=>?_,λk z x C o A K N=>?_⟩;let⟨l,v,a,b,d⟩:=q k x o;have:=h.2 k l v;rwa [b,d];let⟨l,v,a,b,d⟩:=q k x o;let⟨D,B,G,H,J⟩:=q z C A;exact h.3 k z l D v B j4 j4
def U8(d:W[j]? =Z r)(e:r'.2=r.2)(k):iW (W.set j r') k=iW W k:=by unfold iW;by_cases a:k=j;subst a;rwa [iy (bY.1 d).1,d];rw[gQ<|dB a]
def aau(h:W[j]? =Z r)(e:r'.2=r.2)(ts:av Tk):ts.flatMap (iY<|W.set j r')=ts.flatMap (iY W):=by refine cG (λd=>ts.flatMap d)<|funext λt=>?_;obtain b|⟨k,a,t⟩:=t;rfl;show 82::a::(cu (iW _ k)++t)=82::a::(cu (iW _ k)++t);rw[U8 h e]
def mU.set{u t}(h:mU u W t)(d:t.no≠Z j):mU u (W.set j r) t:=by obtain b|⟨k,e,t⟩:=t;exact h;let⟨x,l,a⟩:=h;exact⟨x,(gQ λe=>d C1).E l,a⟩
structure mz(w:aq)(g:Cf)(cb xb:Nat)(f:Fx)(c:Cw)(L:cZ)(m:Cm)(i:Nat)(s:Sl)(E:av Wi)(wr:aq)(W:av Wi)(hd:ByteArray)(ts:av Tk):Prop where
 cr:bz wr g cb xb f {c with S:=c.S.set i {s with hd:=hd},W:=W} L m
 hd:hd.data.toList=ts.flatMap (iY W)
 ok:∀t∈ts,mU i W t
 nd:(ts.filterMap Tk.no).Nodup
 wo:mA W
 fin:dS c.3 W ts=E
def AB(s:ByteArray)(n):(mS s n s.size).1.1=s.1.1.drop n:=by rw[rE,zz];simp[Qv];rw[qE];simp
variable{ts:av Tk}
def mz.drewN{E:av Wi}(h:mz w g cb xb f c L m i s E wr W hd ts)(k):mz w g cb xb f c L m i s E (wr.drewN k) W hd ts:=⟨h.1.old λ_ _=>U,h.2,h.3,h.4,h.5,h.6⟩
def mz.letter{E:av Wi}{b:UInt8}(h:mz w g cb xb f c L m i s E wr W hd (.inl b::ts))(k:m.3[i]? =Z p)(o:i<pA c.S):mz w g cb xb f c L m i s E (kB wr (F p 2)<|ξ<|mS hd 1 hd.size) W (mS hd 1 hd.size) ts:=by let⟨v,l,a,_⟩:=h.1.Bg (i:=i) (s:={s with hd:=hd}) (iy o);rw[k]at l;cases l;have d:=h.1.Iv (s:={s with hd:=mS hd 1 hd.size}) k j4 (bG a 2 _) λb a=>bC a;rw[show({c with S:=c.S.set i {s with hd:=hd},W:=W}:Cw).S.set i {s with hd:=mS hd 1 hd.size}=c.S.set i {s with hd:=mS hd 1 hd.size} from pK ..]at d;refine⟨d,?_,λt u=>h.3 t (gC _ u),h.4,h.5,h.6⟩;rw[AB,h.2];rfl
def mz.afX{q}{E:av Wi}{e:UInt8}(h:mz w g cb xb f c L m i s E wr W hd (.inr (j,e,t)::ts))(C:m.3[i]? =Z p)(z:i<pA c.S)(d:W[j]? =Z r)(G:m.4[j]? =Z q)(A:pA t+4=n):mz w g cb xb f c L m i s E (kB (kB (kB (kB wr (F q 8)<|I c.3) (F q 9)<|I (pW e)) (F q 10)<|ξ<|mS hd 4 n) (F p 2)<|ξ<|mS hd n hd.size) (W.set j<|r.had c.3 e t) (mS hd n hd.size) ts:=by
 let⟨P,D,a,_⟩:=h.1.Bg (i:=i) (s:={s with hd:=hd}) (iy z);rw[C]at D;cases D;let⟨Q,H,u,_⟩:=h.1.Jy d;rw[G]at H;cases H;let l:=mC a u aM;let k:mS hd 4 n=⟨pT t⟩:=by
  let J:(mS hd 4 n).1.1=t:=by rw[rE,zz,h.2];show(Qv (82::e::(cu (iW W j)++t)++ts.flatMap (iY W)) 4 n)=t;rw[<-A];simp[Qv,cu]
  have o:(mS hd 4 n).1=pT t:=by rw[<-J]
  cases O:mS hd 4 n;rw[O]at o;rw[<-o]
 let N:=h.1.afv (r:=r.had c.3 e t) G (bY.1 d).1 (u':=kB (kB (kB wr (F q 8)<|I c.3) (F q 9)<|I (pW e)) (F q 10)<|ξ<|mS hd 4 n) (by rw[k];exact bG (bG (bG u 8 _) 9 _) 10 _) λb a=>(bC a).E ((bC a).E<|bC a);have v:=N.Iv (s:={s with hd:=mS hd n hd.size}) C (by show i<pA (c.S.set i _);rw[jB];exact z) (bG (((bC l).E<|(bC l).E<|bC l).E a) 2 _) λb a=>bC a;rw[show({c with S:=c.S.set i {s with hd:=hd},W:=W.set j<|r.had c.3 e t}:Cw).S.set i {s with hd:=mS hd n hd.size}=c.S.set i {s with hd:=mS hd n hd.size} from pK ..]at v;let B:=vV.1 h.4;refine⟨v,?_,λx k=>(h.3 x<|gC _ k).set λe=>B.1 (sX.2 ⟨x,k,e⟩),B.2,h.5.set d ⟨U,U,U⟩,?_⟩;rw[AB,h.2,aau (r':=r.had c.3 e t) d U];show List.drop n (82::e::(cu (iW W j)++t)++ts.flatMap (iY W))=_;rw[<-A];simp[cu];have:=h.6;rw[show dS c.3 W (.inr (j,e,t)::ts)=dS c.3 (Tk.on c.3 W<|.inr (j,e,t)) ts from U]at this;rw[<-this];show dS _ (W.set j _) ts=dS _ (match W[j]? with|some r=>W.set j (r.had c.3 e t)|none=>W) ts;rw[d]
def gU(S:av Sl):Nat:=(S.filter λs=>!s.3).length
def VN{S:av Sl}(h:S[i]? =Z s):gU (S.take<|i+1)=gU (S.take i)+if s.3 then 0 else 1:=by unfold gU;rw[rQ,h,Option.toList_some,zF,fQ];cases a:s.3<;>simp[List.filter,a]
def VM(S):gU S<=pA S:=Ko ..
def Za(cb xb g f)(c:Cw)(L)(m:Cm)(w)(h:bz w g cb xb f c L m)(K:pA c.S<=1099511627776):eZ 67 #[jp cb] w (I<|gU c.S):=by
 let⟨a,kh,l⟩:=gP h.3;have C:kD w (F cb 10)=Z (ζ a (pA c.S) kh):=by rw[<-l];exact aD h.2 U
 have d:bc (bz w g cb xb f c L m/\m.1=ζ a (pA c.S) kh):=⟨h,l⟩;go_enter func67,ntmps67;go_wp2;go_loopw [3,4] (λnv k wr=>∃i:Nat,i<=pA c.S/\nv=I (gU<|c.S.take i)/\k=I i/\wr=w) (λ_ k _=>pA c.S-pD (dw k));case atStart=>exact⟨0,cO _,U,U,U⟩
 case round=>
  obtain⟨i,J,rfl,rfl,rfl⟩:=hrel;by_cases x:i<pA c.S
  ·have v:(i:Int)<(pA c.S:Int):=Y;have H:0<=(i:Int)/\(i:Int)<(pA c.S:Int):=Y;have j:=d.1.3;rw[d.2]at j;let⟨E,B,e,o⟩:=yV j Y;cases e;obtain⟨s,r⟩:∃s,c.S[i]? =Z s:=⟨_,dj x⟩;let⟨p,z,n,_⟩:=d.1.Bg r;have D:=o i (jp p) j4;have cs:=aD n (i:=3) U;have q:=VN r;have t:=VM (c.S.take i);rw[vS]at t;have N:nt cJ ((gU (c.S.take i):Int)+1)=(gU (c.S.take i):Int)+1:=dI Y Y;generalize G:gU (c.S.take i)=A at*;clear n o z j;cases b:s.3
   ·simp[vh,b]at cs;go_wp2;go_roundw;case rel=>exact⟨i+1,Y,by rw[q,b];go_num,by go_num,by first|rfl|trivial⟩
    case measure=>simp[dw];omega
   simp[vh,b]at cs;go_wp2;go_roundw;case rel=>exact⟨i+1,Y,by rw[q,b];rfl,by go_num,by first|rfl|trivial⟩
   case measure=>simp[dw];omega
  have v:¬(i:Int)<(pA c.S:Int):=Y;have e:i=pA c.S:=Y;subst e;rw[pM];go_wp2;go_ret;exact⟨U,U⟩
def bz.LC{gb t2 lm}(T:bz u g cb xb f c L m)(X:mT w3 0 49 1 (ζ (Z<|F gb 0) (pA c.S+1) kh) (pA c.S+1) (pz m.3++[jp u.1.size]))(w:(lL (lL u<|au (vh (pA c.S) s) 66)<|au lm t2).grownBy w3 (rW m.1))(C:rW m.1=Z gb\/gb=pB u.1+2):
  w3.1[cb]? =Z (au (uQ g xb c m) 40 (0,0))/\bz (kB w3 (F cb 10)<|ζ (Z<|F gb 0) (pA c.S+1) kh) g cb xb f {c with S:=c.S++[s]} L {m with lv:=ζ (Z<|F gb 0) (pA c.S+1) kh,ps:=m.3++[pB u.1]}:=by
 let lt:∀{b:Nat} {o:Obj},u.1[b]? =Z o->b<pB u.1:=λh=>(bf.1 h).1;let V:cb<pB u.1:=lt T.2;have af:=w.4;simp at af;let z:∀x,x<pB u.1->Z x≠rW m.1->w3.1[x]? =u.1[x]? :=λx d W=>(w.5 x bV W).E ((((bv _ u).alloc (aR _) _).alloc ay _).5 x d)
 let A:∀{x:Nat} {c:aF aB} {r:Nat},u.1[x]? =Z (au c r (0,0))->r≠49->Z x≠rW m.1:=λh v e=>by let⟨c',D⟩:=yW T.3 e.y;rw[h]at D;cases D;exact v U
 let B:=(z cb V<|A T.2 aM).E T.2
 let P:gb≠cb:=λe=>by subst e;obtain h|h:=C;exact A T.2 aM h.y;omega
 let k:∀{b:Nat} {x:aF aB} {r:Nat},u.1[b]? =Z (au x r (0,0))->r≠49->r≠40->(kB w3 (F cb 10)<|ζ (Z<|F gb 0) (pA c.S+1) kh).1[b]? =Z (au x r (0,0)):=λh v K=>(bC<|mC h T.2 K).E ((z _ (lt h)<|A h v).E h);refine⟨B,T.move (λb n G=>(bC λe=>G (by rw[e];exact T.8.1)).E (z b n λe=>G (T.8.2.1 b e.y))) bV (bG B 10 _) ?_ (eF T.4 λb n=>?_) (λj q x l d=>?_) (λi p s H J=>⟨k (T.6 i p s H J).1 aM aM,(T.6 i p s H J).2⟩) ⟨?_,T.7.2⟩ ⟨λb n=>?_,T.8.2.2⟩ λb o x n e D=>⟨(bC D.1).E ((z b n λh=>D.2.1 h.y).E e),D.1,λh=>(by have q:gb=b:=Option.some.inj h;obtain h|h:=C;exact D.2.1 (q▸h);omega),D.2.2.1,λq=>(jg.1 q).e D.2.2.2.1 λq=>(by have:=iz.1 q;omega),D.2.2.2.2⟩⟩;show KO _ 0 _ 1 _ (pA (c.S++[s])) (pz<|m.3++[pB u.1]);rw[fQ];refine eF (by simpa[pz]using X) λx d=>bC ?_;have e:gb=x:=by simpa[lW]using d
 exact e▸P
 let⟨x,d⟩:=yW T.4 n
 exact(k d aM aM).E d.y;have l:(m.3++[pB u.1])[j]? =Z q:=l;have d:(c.S++[s])[j]? =Z x:=d;let R:=T.NQ;rw[zH]at l d
 by_cases t:j<pA m.3
 rw[aO t]at l;rw[aO Y]at d;exact⟨k (T.5 j q x l d).1 aM aM,(T.5 j q x l d).2⟩;rw[aI t]at l;rw[aI Y]at d
 let E:j-pA m.3=0:=by have:=(bY.1 l).1;simp at this;omega
 rw[E]at l;rw[<-R,E]at d;cases l;cases d;have Q:j=pA c.S:=Y;subst Q;refine⟨(bC Y).E<|(w.5 _ bV λe=>?_).E<|gD<|vj U,T.9 _<|aR _⟩;have:=jJ T.3 _ e.y;omega;show(m.3++[pB u.1]).Nodup;refine Ca.2 ⟨T.7.1,ay,λa N b n e=>?_⟩;rw[iz]at n;subst n
 let⟨j,t⟩:=pJ.1 N
 let ak:=(bY.1 t).1;have:=T.NQ;obtain⟨x,d⟩:∃x,c.S[j]? =Z x:=⟨_,dj Y⟩;have:=lt (T.5 j a x t d).1;omega;have e:gb=b:=by simpa[lW]using n
 subst e;obtain h|h:=C;exact T.8.2.1 _ h;exact T.9 _ Y
def Fx.ku(f:Fx)(j:Nat)(k:Int):Fx:=(f.jV j k).at j ((fw f.3 k f.g.7).sp gm)
def RG(g:Cf)(a xb:Nat)(f:Fx)(c:Cw)(j:Nat)(x:Int)(ps:av Nat)(w':aq):Prop:=∃k:Int,(1<=k/\k<=4/\k=1+eX x 4)/\uH w' g a xb (f.ku j k) {c with S:=c.S++[⟨k,⟨#[]⟩,aa⟩]} ps
def YU(cb xb g f)(c:Cw)(L)(m:Cm)(w)(T:bz w g cb xb f c L m)(x)(hx:dy x)(hf:pA f.K<=65535)(X:f.7=aa)(j)(z:f.K[j]? =Z aj)(Q:∀i,i<j->f.K[i]? ≠Z aj)(hl:pA c.S<=1099511627776)(hn:(gU c.S:Int)<g.2)(q:f.3=pA c.S)(V:∀(s:Nat) k,f.K[s]? =Z (Z k)->k.1≠f.3):
  ax ai 31 #[jp cb,I x] w λe h=>e=aG (ω M)/\RG g cb xb f c j x m.3 h:=by
 let⟨iP,aT,oh,bl,oZ⟩:=nG acH
 have c9:=aJ w cb 9 (jp xb) T.2
 have HN:bc (∀k,1<=k/\k<=4->ax ai 36 #[jp xb,I k] w λe h=>e=aG (θ #[I (pA c.S),I 0])/\∃o,bz h g cb xb (f.jV j k) c o m):=λk hk=>by refine(abv w f xb L T.1 hf X k (by simp[ia];omega) j z Q Y).V ?_;rintro e h ⟨rfl,o,l,h2⟩;exact⟨by rw[q],T.go l h2⟩
 have HL:bc (∀a f1 d,bz a g cb xb f1 c d m->eZ 67 #[jp cb] a (I<|gU c.S)):=λa f1 d l=>Za cb xb g f1 c d m a l hl
 have HS:bc (∀k a d,bz a g cb xb (f.jV j k) c d m->ax ai 37 #[jp xb,I (pA c.S),ξ gm] a λe h=>e=aG (I 0)/\∃o,bz h g cb xb (f.ku j k) c o m):=λk a d l=>by
  have aS:(f.jV j k).K[j]? =Z (Z<|fw f.3 k f.g.7):=iy ((bY.1 z).1);have aW:(f.jV j k).Is (pA c.S) j (fw f.3 k f.g.7):=by refine⟨aS,q,λt k' u bg=>?_⟩;by_cases e:t=j;exact e;have u:(f.K.set j _)[t]? =Z (Z k'):=u;rw[gQ<|dB e]at u;exact absurd (bg.E q.y)<|V t k' u
  have e:(f.jV j k).sp j (fw f.3 k f.g.7) gm=(f.ku j k,0):=by rw[Fx.sp];rw[aI Ut,aI (show ¬1024<pC (fw f.3 k f.g.7).4+pC gm from(by decide:¬1024<(⟨#[]⟩:ByteArray).size+gm.size))];rfl
  refine(Uq a _ xb d l.1 (by show(f.K.set j _).length<=_;rw[jB];exact hf) (pA c.S) gm j _ aW (show(⟨#[]⟩:ByteArray).size<=1024 from by decide)).V ?_;rintro e' h ⟨rfl,o,J,h4⟩;rw[e]at J⊢;exact⟨U,l.go J h4⟩
 have bB:¬(gU c.S:Int)≥g.2:=Y
 let⟨E,G,H⟩:=gP T.3
 have p:=aX H;clear T z Q V X q H;generalize gU c.S=N at*;have Ew:True:=trivial;go_enter func31,ntmps31
 go_wp2_with (first
  |(go_at_call 21;apply((Ed x 4 w hx aM aM).V λe H h=>(⟨_,h.1,AX x aM,U,h.2⟩:∃r,e=aG (I r)/\(0<=r/\r<4)/\r=eX x 4/\H=w)).V;rintro e B ⟨r,rfl,hr,q,h0⟩;subst B;have R:bc (1<=1+r/\1+r<=4/\1+r=1+eX x 4):=(by show 1<=1+r/\1+r<=4/\1+r=1+eX x 4;omega);clear q;have bL:nt cJ (1+r)=1+r:=dI Y Y;clear hr)|(go_at_call 36;go_loud (apply(HN _ ⟨R.1,R.2.1⟩).V;rintro e a ⟨rfl,d,A⟩;have d9:=aJ a cb 9 (jp xb) A.2;have D:=aX A;clear A))|(go_at_call 67;apply(HL _ _ _ D).V;rintro e B ⟨rfl,h0⟩;subst B)|(go_at_call 37;apply(HS _ a d D).V;rintro e b ⟨rfl,L2,n⟩;have f9:kD b (F cb 10)=Z (ζ E (pA c.S) G):=(by rw[<-p];exact aD n.2 U);have f1:=aJ b cb 1 (I g.2) n.2;have bJ:cb<pB b.1:=(bf.1 n.2).1;have bG:¬cb=pB b.1:=Y;have bH:¬cb=pB b.1+1:=Y;have H2:=aX n;have HR:bc (mT (lL (lL b<|au (vh (pA c.S) ⟨1+r,⟨#[]⟩,aa⟩) 66)<|au #[jp b.1.size] 49) 0 49 1 (ζ E (pA c.S) G) (pA c.S)<|pz m.3):=(by show KO _ _ _ _ _ _ _;rw[<-p];exact(n.3.alloc _).alloc _);clear n)|(at_builtin;have _t:=Ew;go_loud (refine Re _ n7 _ _ 37 n7 0 49 iP _ 1 8 underlying37 aT oh bl oZ n7 Y _ (pA c.S) (pz m.3) n7 HR ⟨pB b.1+1,0,aj⟩ 1 1 [jp b.1.size] n7 n7 (wu<|ajz b _ _) Hx Y B5 Y ay (pB b.1+2) ay ?_;intro g0 kh w3 W P O bD;clear Ew;let⟨v,C⟩:=bz.LC (s:=⟨1+r,⟨#[]⟩,aa⟩) H2 W (by rw[p];exact P) (by rw[p];exact O);have c3:=aJ w3 cb 10 m.1 v;have f3:=bp v 10;have HE:bc (RG g cb xb f c j x m.3<|kB w3 (F cb 10)<|ζ (Z<|F g0 0) (pA c.S+1) kh):=⟨_,R,_,_,C,List.prefix_append _ _⟩;clear v C W P O)))
 go_ret;exact⟨U,HE⟩
def qy:aV aB->Nat
 |some (ξ s)=>pC s|_=>0
def ajC(u xb:Nat)(g:Cf)(f:Fx)(c:Cw)(L:cZ)(m:Cm)(w:aq)(h:bz w g u xb f c L m)(i p:Nat)(s:Sl)(hs:c.S[i]? =Z s)(hp:m.3[i]? =Z p)(a:av Tk)(hh:s.2.1.1=a.flatMap (iY c.W))(ok:∀t∈a,mU i c.W t)(nd:(a.filterMap Tk.no).Nodup)(wo:mA c.W)(bE:pC s.2<=1048576)(Va:0<=c.3):
  ax ai 65 #[jp u,jp p] w λe w'=>e=aG (ω M)/\bz w' g u xb f {c with S:=c.S.set i {s with hd:=⟨#[]⟩},W:=dS c.3 c.W a} L m:=by
 have hi:i<pA c.S:=(bY.1 hs).1;have N:bc (i<pA c.S/\m.3[i]? =Z p):=⟨hi,hp⟩
 have H0:bc (mz w g u xb f c L m i s (dS c.3 c.W a) w c.W s.2 a):=by
  refine⟨?_,hh,ok,nd,wo,U⟩;have e:c.S.set i {s with hd:=s.2}=c.S:=by
   refine ux λk=>?_;rw[rM];split;rename_i e;subst e;first|rw[aO hi,hs]|rw[hs]
   rfl
  rw[e];exact h
 generalize dS c.3 c.W a=E at*;clear h hs hp hh ok nd wo hi;go_enter func65,ntmps65;go_wp2
 go_loopw [] (λwr=>∃W hd a,pC hd<=1048576/\bc (mz w g u xb f c L m i s E wr W hd a)) (λwr=>qy (kD wr<|F p 2))
 case atStart=>exact⟨_,_,_,bE,H0⟩
 case round=>
  obtain⟨W,hd,a,hz,l⟩:=hrel;obtain⟨p',bh,A,_⟩:=l.H.1.Bg (i:=i) (s:={s with hd:=hd}) (iy N.H.1);rw[N.H.2]at bh;cases bh;have c0:=aJ wr p 0 (I i) A;have c2:=aJ wr p 2 (ξ hd) A;have f2:=bp A 2;cases a with
  |nil=>
   have hn:pC hd=0:=by have:=cG BU l.H.2;exact DP
   have bT:¬(0:Int)<(pC hd:Int):=Y;go_wp2;go_ret;refine⟨U,?_⟩;have e:hd=⟨#[]⟩:=by
    cases hd with
    |mk d=>have:pB d=0:=hn;rw[zv this]
   have h1:=l.H.1;have Q:W=E:=l.H.6;rw[e,Q]at h1;exact h1
  |cons t a=>
   obtain b|⟨j,e,t⟩:=t
   ·have bD:0<pC hd:=by have:=cG BU l.H.2;simp[iY]at this;have Q:pB hd.1=pC hd:=U;omega
    have bB:(0:Int)<(pC hd:Int):=Y;have X:=pV hd 0 bD;have O:bt hd 0=(pW b:Int):=by rw[wU l.H.2 0];rfl
    have o:bc (mz w g u xb f c L m i s E (kB wr (F p 2)<|ξ<|mS hd 1 hd.size) W (mS hd 1 hd.size) a):=l.H.letter N.H.2 N.H.1;have cq:pC (mS hd 1 hd.size)=pC hd-1:=ay;have bA:b=89\/b=71:=l.H.3 _ (fJ ..);have aS:=aJ (kB wr (F p 2)<|ξ<|mS hd 1 hd.size) p 2 (ξ<|mS hd 1 hd.size) (bG A 2 _);have HM:bc (qy (kD (kB wr (F p 2)<|ξ<|mS hd 1 hd.size)<|F p 2)<qy (kD wr<|F p 2)):=by rw[c2,aS];show(mS hd 1 hd.size).size<pC hd;omega
    clear aS A l H0;obtain rfl|rfl:=bA
    ·have O:bt hd 0=89:=O;rw[O]at X;go_wp2;go_roundw;case rel=>exact⟨W,mS hd 1 hd.size,a,Y,o⟩
     case measure=>exact HM.H
    rw[O]at X;go_wp2;go_roundw;case rel=>exact⟨W,mS hd 1 hd.size,a,Y,o⟩
    case measure=>exact HM.H
   obtain⟨r,K,aN,bw,he,ah⟩:mU i W (.inr (j,e,t)):=l.H.3 _ (fJ ..);obtain⟨q,hq,z,_⟩:=l.H.1.Jy K;have wo:=l.H.5;obtain⟨uW,MV⟩:=wo.2 j r K;have J:hd.1.1=82::e::ji (pD ((r.2:Int)%256))::ji (pD ((r.2:Int) / 256))::(t++a.flatMap (iY W)):=by rw[l.H.2];show 82::e::(cu (iW W j)++t)++a.flatMap (iY W)=_;rw[show iW W j=r.2 by rw[iW];rw[K]];simp[cu]
   generalize a.flatMap (iY W)=R at J;have b9:pA t+4<=pC hd:=by have:=cG BU J;simp at this;have Q:pB hd.1=pC hd:=U;omega
   have X:=pV hd 0 Y;have P:=pV hd 1 Y;have e2:=pV hd 2 Y;have e3:=pV hd 3 Y;rw[show bt hd 0=82 by rw[wU J 0];rfl]at X;rw[show bt hd 1=(pW e:Int) by rw[wU J 1];rfl]at P;have aT:bt hd 2+256*bt hd 3=(r.2:Int):=by rw[wU J 2,wU J 3];exact Nl r.2 uW
   have r2:=nU hd 2;have r3:=nU hd 3;have cg:nt cJ (256*bt hd 3)=256*bt hd 3:=dI Y Y;have cj:nt cJ (bt hd 2+256*bt hd 3)=(r.2:Int):=by rw[aT];exact dI Y Y
   have V:bc (∀n,ax ai 110 #[jp u,I i,I r.2] (wr.drewN n) λe w'=>e=aG (jp q)/\w'=wr.drewN n):=λn=>by refine(akf u xb g f _ L m (wr.drewN n) (l.H.1.old λ_ _=>U) i r.2 j r K ⟨aN,U⟩ (λk x hx h1 Q=>xV (wo.3 j k r x K hx (aN.E h1.y) Q.y)) wo.1).V ?_;rintro e w' ⟨q',Dy,rfl,rfl⟩;rw[hq]at Dy;cases Dy;exact⟨U,U⟩
   have k2:=aJ wr q 2 (I r.3) z;have k5:=aJ wr q 5 (I r.6) z;have k8:=aJ wr q 8 (I r.9) z;have k9:=aJ wr q 9 (I r.er) z;have cv:=aJ wr q 10 (ξ r.tx) z;have g8:=bp z 8;have g9:=bp z 9;have bP:=bp z 10;have bL:=aJ wr u 12 (I c.3) l.H.1.2;have an:¬p=q:=mC A z aM;have bW:¬q=p:=λe=>an e.y;have bX:¬u=q:=mC l.H.1.2 z aM;have b7:¬u=p:=mC l.H.1.2 A aM;have bS:¬0<=r.9:=Y;have bB:(0:Int)<(pC hd:Int):=Y;have Vh:¬(pC hd:Int)<4:=Y;have B:bc (∀n,pA t+4=n->mz w g u xb f c L m i s E (kB (kB (kB (kB wr (F q 8)<|I c.3) (F q 9)<|I (pW e)) (F q 10)<|ξ<|mS hd 4 n) (F p 2)<|ξ<|mS hd n hd.size) (W.set j<|r.had c.3 e t) (mS hd n hd.size) a):=λn hn=>l.H.afX N.H.2 N.H.1 K hq hn;have HM:bc (∀n v9 bq,4<=n->qy (kD (kB (kB (kB (kB wr (F q 8)<|I c.3) (F q 9) v9) (F q 10) bq) (F p 2)<|ξ<|mS hd n hd.size)<|F p 2)<qy (kD wr<|F p 2)):=λn v9 bq hn=>by rw[c2,aD (bG (((bC an).E<|(bC an).E<|bC an).E A) 2 _) U];show(mS hd n hd.size).size<pC hd;simp;omega
   clear A z l H0 J wo K hq aN bw uW aT;by_cases T:r.3=0
   ·obtain rfl|rfl:=he
    ·rw[aO ⟨T,U⟩]at ah;have Vn:nt cJ (4+r.6)=4+r.6:=dI Y Y;have b8:¬(pC hd:Int)<4+r.6:=Y;have oY:4<=4+r.6/\4+r.6<=(pC hd:Int):=Y;have lD:0<=4+r.6/\4+r.6<=(pC hd:Int):=Y;have H:(pW (0:UInt8):Int)=0:=U;rw[H]at P;rw[T]at k2;have o:=B.H (pD (4+r.6)) Y;have v:=HM.H (pD (4+r.6)) (I 0) (ξ<|mS hd 4 (pD (4+r.6))) Y;have D:bc (mz w g u xb f c L m i s E (kB (kB (kB (kB wr (F q 8)<|I c.3) (F q 9)<|I 0) (F q 10)<|ξ<|mS hd 4 (pD (4+r.6))) (F p 2)<|ξ<|mS hd (pD (4+r.6)) hd.size) (W.set j<|r.had c.3 0 t) (mS hd (pD (4+r.6)) hd.size) a):=o;have G:bc (qy (kD (kB (kB (kB (kB wr (F q 8)<|I c.3) (F q 9)<|I 0) (F q 10)<|ξ<|mS hd 4 (pD (4+r.6))) (F p 2)<|ξ<|mS hd (pD (4+r.6)) hd.size)<|F p 2)<qy (kD wr<|F p 2)):=v;clear o v B HM;go_wp2;go_quiet ((go_at_call 110;exact ur (V.H _)));go_wp2;go_roundw;case rel=>exact⟨W.set j<|r.had c.3 0 t,mS hd (pD (4+r.6)) hd.size,a,bV,D.H.drewN _⟩
     case measure=>exact G.H
    rw[aI λh=>absurd h.2 aM]at ah;have C:mS hd 4 4=rF:=ay;have oY:(4:Int)<=(pC hd:Int):=Y;have H:(pW (5:UInt8):Int)=5:=U;rw[H]at P;rw[T]at k2;have o:=B.H 4 Y;have v:=HM.H 4 (I 5) (ξ<|rF) Y;rw[C]at o;have D:bc (mz w g u xb f c L m i s E (kB (kB (kB (kB wr (F q 8)<|I c.3) (F q 9)<|I 5) (F q 10)<|ξ<|rF) (F p 2)<|ξ<|mS hd 4 hd.size) (W.set j<|r.had c.3 5 t) (mS hd 4 hd.size) a):=o;have G:bc (qy (kD (kB (kB (kB (kB wr (F q 8)<|I c.3) (F q 9)<|I 5) (F q 10)<|ξ<|rF) (F p 2)<|ξ<|mS hd 4 hd.size)<|F p 2)<qy (kD wr<|F p 2)):=v;clear o v B HM C;go_wp2;go_quiet ((go_at_call 110;exact ur (V.H _)));go_wp2;go_roundw;case rel=>exact⟨W.set j<|r.had c.3 5 t,mS hd 4 hd.size,a,bV,D.H.drewN _⟩
    case measure=>exact G.H
   obtain rfl|rfl:=he
   ·rw[aI (by simp[T])]at ah;have C:mS hd 4 4=rF:=ay;have oY:(4:Int)<=(pC hd:Int):=Y;have H:(pW (0:UInt8):Int)=0:=U;rw[H]at P;have o:=B.H 4 Y;have v:=HM.H 4 (I 0) (ξ<|rF) Y;rw[C]at o;have D:bc (mz w g u xb f c L m i s E (kB (kB (kB (kB wr (F q 8)<|I c.3) (F q 9)<|I 0) (F q 10)<|ξ<|rF) (F p 2)<|ξ<|mS hd 4 hd.size) (W.set j<|r.had c.3 0 t) (mS hd 4 hd.size) a):=o;have G:bc (qy (kD (kB (kB (kB (kB wr (F q 8)<|I c.3) (F q 9)<|I 0) (F q 10)<|ξ<|rF) (F p 2)<|ξ<|mS hd 4 hd.size)<|F p 2)<qy (kD wr<|F p 2)):=v;clear o v B HM C;go_wp2;go_quiet ((go_at_call 110;exact ur (V.H _)));go_wp2;go_roundw;case rel=>exact⟨W.set j<|r.had c.3 0 t,mS hd 4 hd.size,a,bV,D.H.drewN _⟩
    case measure=>exact G.H
   rw[aI (by simp[T])]at ah;have C:mS hd 4 4=rF:=ay;have oY:(4:Int)<=(pC hd:Int):=Y;have H:(pW (5:UInt8):Int)=5:=U;rw[H]at P;have o:=B.H 4 Y;have v:=HM.H 4 (I 5) (ξ<|rF) Y;rw[C]at o;have D:bc (mz w g u xb f c L m i s E (kB (kB (kB (kB wr (F q 8)<|I c.3) (F q 9)<|I 5) (F q 10)<|ξ<|rF) (F p 2)<|ξ<|mS hd 4 hd.size) (W.set j<|r.had c.3 5 t) (mS hd 4 hd.size) a):=o;have G:bc (qy (kD (kB (kB (kB (kB wr (F q 8)<|I c.3) (F q 9)<|I 5) (F q 10)<|ξ<|rF) (F p 2)<|ξ<|mS hd 4 hd.size)<|F p 2)<qy (kD wr<|F p 2)):=v;clear o v B HM C;go_wp2;go_quiet ((go_at_call 110;exact ur (V.H _)));go_wp2;go_roundw;case rel=>exact⟨W.set j<|r.had c.3 5 t,mS hd 4 hd.size,a,bV,D.H.drewN _⟩
   case measure=>exact G.H
def Ck.abR(k:Ck)(h:pC k.H<=1048576):k.tO 1099511627776=k.H:=by unfold Ck.tO Ck.much;rw[aI aM,show(min 1099511627776 (pC k.H:Int)).toNat=pC k.H by omega];exact ByteArray.extract_zero_size
def Zh(cb xb g f)(c:Cw)(L)(m:Cm)(w)(h:bz w g cb xb f c L m)(i p j:Nat)(s:Sl)(k:Ck)(q:c.S[i]? =Z s)(u:m.3[i]? =Z p)(he:s.2=⟨#[]⟩)(H:f.Is i j k)(hf:pA f.K<=65535)(G:(f.at j<|k.pl 1099511627776).sn)(n:av Tk)(E:k.H.1.1=n.flatMap (iY c.W))(ok:∀t∈n,mU i c.W t)(J:(n.filterMap Tk.no).Nodup)(wo:mA c.W)(x:pC k.H<=1048576)(V:0<=c.3):
  ax ai 27 #[jp cb,jp p] w λe r=>e=aG (ω M)/\∃A,bz r g cb xb (f.take j k 1099511627776) {c with W:=dS c.3 c.W n} A m:=by
 have R:=aJ w cb 9 (jp xb) h.2;have Q:kD w (F p 0)=Z (I i):=aD (h.5 i p s u q).1 U
 have O:bc (ax ai 33 #[jp xb,I i,I 1099511627776] w.drew λe d=>e=aG (θ #[ξ k.H,I 0])/\∃a,bz d g cb xb (f.take j k 1099511627776) c a m):=by have B:bz w.drew g cb xb f c L m:=h.old λ_ _=>U;apply(abH w.drew f xb L B.1 hf i _ j k H x G).V;rintro e r ⟨rfl,A,v,C⟩;exact⟨by rw[Ck.abR k x];rfl,B.go v C⟩
 have P:bc (∀d a,bz d g cb xb (f.take j k 1099511627776) {c with S:=c.S.set i {s with hd:=k.H}} a m->ax ai 65 #[jp cb,jp p] d λe r=>e=aG (ω M)/\bz r g cb xb (f.take j k 1099511627776) {c with W:=dS c.3 c.W n} a m):=λd a v=>by
  have T:=(bY.1 q).1;refine(ajC cb xb g _ _ a m d v i p {s with hd:=k.H} (iy T) u n E ok J wo x V).V ?_;rintro e r ⟨rfl,C⟩;refine⟨U,?_⟩;have e:(c.S.set i {s with hd:=k.H}).set i {s with hd:=⟨#[]⟩}=c.S:=by rw[pK];refine ux λk=>?_;rw[rM];split;rename_i e;subst e;rw[q,<-he];rfl
  rwa [<-e]
 have o:bc (m.3[i]? =Z p/\c.S[i]? =Z s/\s.2=⟨#[]⟩):=⟨u,q,he⟩;clear h q u he H G E ok J wo;go_enter func27,ntmps27
 go_upto_region 1 with fail
 refine gY (S:=λW=>kD W (F cb 9)=Z (jp xb)/\kD W (F p 0)=Z (I i)) 8 ⟨R,Q⟩ λhS=>?_;apply tg [0,1,2,3,4,5,6,7];refine gz λK D=>?_;go_simp;go_at_call 33;apply O.H.V;rintro e d ⟨rfl,a,z⟩;apply D.H _ _;clear D K;apply tg [9,10,11,12,13];refine gl ?_;have l:=(z.5 i p s o.H.1 o.H.2.1).1
 have d2:kD d (F p 2)=Z (ξ ⟨#[]⟩):=by have:kD d (F p 2)=Z (ξ s.2):=aD l U;rwa [o.H.2.2]at this
 have f2:=bp l 2;have N:bc (bz (kB d (F p 2)<|ξ k.H) g cb xb (f.take j k 1099511627776) {c with S:=c.S.set i {s with hd:=k.H}} a m):=z.Iv o.H.1 (bY.1 o.H.2.1).1 (bG l 2 _) λb l=>bC l;clear z l hS
 have ah:¬9223372036854775807<pC (⟨#[]⟩:ByteArray)+pC k.H:=by show ¬9223372036854775807<0+pC k.H;omega
 have af:(⟨#[]⟩:ByteArray)++k.H=k.H:=ByteArray.empty_append;go_wp2_with (go_at_call 65;apply(P.H _ a N.H).V;rintro e w2 ⟨rfl,X⟩);go_ret;exact⟨U,a,X⟩
def aFF(f:Fx)(x y z:Int):Fx:=if 64<=pA f.bD then f else f.sI ⟨1+eX x 16,eX y 4==0,eX z 9⟩
def aFD(f:Fx)(d x:Int):Int:=if 64<=pA f.bD then d else if d<1+eX x 16 then 1+eX x 16 else d
def K5(d xb:Nat)(g:Cf)(f:Fx)(c:Cw)(x y z:Int)(ps:av Nat)(u:aq):Prop:=∃b a,b.Rest/\(b=f\/∃t,b=f.sI t/\1<=t.1/\t.1<=a)/\(c.4<=a/\a<=16)/\(b=aFF f x y z/\a=aFD f c.4 x)/\uH u g d xb b {c with dl:=a} ps
def ake(cb xb g f)(c:Cw)(L1)(l:Cm)(w)(T:bz w g cb xb f c L1 l)(kd x d z)(hR:f.Rest)(hx:dy x)(hy:dy d)(hz:dy z)(hd:c.4<=16):
  ax ai 41 #[jp cb,ν #[I kd,I x,I d,I z]] w λe H=>e=aG (ω M)/\K5 cb xb g f c x d z l.3 H:=by
 have P:=(bv _ w).alloc (aR _) (au #[I kd,I x,I d,I z] 46);have O:=T.below P;have E:(lL w<|au #[I kd,I x,I d,I z] 46).1[pB w.1]? =Z (au #[I kd,I x,I d,I z] 46 (0,0)):=vj U;have A:=aX O;have s2:=aJ (lL w<|au #[I kd,I x,I d,I z] 46) w.1.size 1 (I x) E;have L:=aX E;have v:bc (∀(c m:Int) (W:aq),dy c->0<m->m<=16->ax ai 21 #[I c,I m] W λe H=>∃r,e=aG (I r)/\(0<=r/\r<m)/\r=eX c m/\H=W):=λc m W C D X=>(Ed c m W C D Y).V λe H h=>⟨_,h.1,AX c D,U,h.2⟩;have q:bc (f.Rest/\c.4<=16):=⟨hR,hd⟩;clear E T O P hR hd;go_enter func41,ntmps41
 go_upto_region 2 with(go_at_call 21;apply(v x 16 _ hx aM aM).V;rintro e w0 ⟨a,rfl,Vk,q1,h0⟩;subst w0;have Q1:=Dv q1;clear q1;have n:bc (1<=1+a/\1+a<=16):=(by show 1<=1+a/\1+a<=16;omega);have aT:nt cJ (1+a)=1+a:=dI Y Y;clear Vk)
 generalize lL w (au #[I kd,I x,I d,I z] 46)=i at*;apply wp_region_noPanic;refine Ze (S:=λW=>kD W (F w.1.size 2)=Z (I d)/\kD W (F w.1.size 3)=Z (I z)/\kD W (F cb 9)=Z (jp xb)) 12 aW ⟨aD (w:=i) L U,aD (w:=i) L U,aD (w:=i) A.2 U⟩ ?_;intro hS;apply tg [0,1,2,3,4,5,6,9];apply tg [10];refine gr 7 λK j=>?_;go_simp;go_at_call 21;apply(v d 4 _ hy aM aM).V;rintro e J ⟨r2,rfl,aQ,q2,h0⟩;subst J;have Q2:=Dv q2;clear q2;refine j _ _ hS<|λyG=>?_;clear j K;apply tg [8];refine gr 11 λK j=>?_;go_simp;go_at_call 21;apply(v z 9 _ hz aM aM).V;rintro e J ⟨u,rfl,aS,q3,h0⟩;subst J;have Q3:=Dv q3;clear q3;refine j _ _ hS<|λMK=>?_;clear j K;refine gz λK j=>?_;go_simp;go_at_call 76;refine(abA i.drew f xb L1 A.1.drew ⟨1+a,r2==0,u⟩ n (by show 0<=u;omega)).V ?_;rintro e w2 ⟨k,m,rfl,G,L2,Q,R⟩
 let⟨B,s⟩:=bz.go (A.old (u':=i.drew) λ_ _=>U) Q R
 apply j _ _;clear j K;apply tg [13];refine gl ?_;have aL:=aJ w2 cb 13 (I c.4) s.2;have f13:=bp s.2 13;have o:=aX s
 have p:bc (k.Rest/\(k=f/\m=6\/∃t,k=f.sI t/\1<=t.1/\t.1<=1+a)):=by obtain⟨_,_,rfl⟩|⟨_,hl,rfl⟩:=G;exact⟨q.1,aA ⟨rfl,K4⟩⟩;exact⟨q.1.sI hl n (by show 0<=u/\u<=_;omega),az ⟨_,rfl,n.1,fI _⟩⟩
 have HX:bc (k=aFF f x d z/\(m=6->aFD f c.4 x=c.4)/\(m=0->aFD f c.4 x=if c.4<1+a then 1+a else c.4)):=by unfold aFF aFD;rw[<-Q1.H,<-Q2.H,<-Q3.H];obtain⟨rfl,h,rfl⟩|⟨rfl,h,rfl⟩:=G;exact⟨(aO h).y,λ_=>aO h,λh=>(by cases h)⟩;exact⟨(aI Y).y,λh=>(by cases h),λ_=>aI Y⟩
 clear s Q R;have hm:m=6/\k=f\/m=0:=G.e (λh=>aA ⟨h.1,h.2.2⟩) λh=>az h.1;clear G;obtain⟨rfl,V⟩|rfl:=hm
 ·go_wp2;go_ret;exact⟨U,k,c.4,p.1,aA V,⟨fI _,q.2⟩,⟨HX.1,(HX.2.1 (by trivial)).y⟩,B,l,o,qD _⟩
 have N:=aX (p.2.e (λh=>absurd h.2 aM) λh=>h)
 by_cases aN:1+a>c.4
 ·go_wp2;go_ret;exact⟨U,k,1+a,p.1,az N,⟨Y,n.2⟩,⟨HX.1,((HX.2.2 (by trivial)).E (aO Y)).y⟩,B,l,o.box U U (bG o.2 13 _)<|λb hb=>bC hb,qD _⟩
 go_wp2;go_ret
 let⟨t,C,D,X⟩:=N
 exact⟨U,k,c.4,p.1,az ⟨t,C,D,Y⟩,⟨fI _,q.2⟩,⟨HX.1,((HX.2.2 (by trivial)).E (aI Y)).y⟩,B,l,o,qD _⟩
abbrev Wi.msg(r:Wi):bh:=⟨3,⟨#[]⟩,r.kd,r.fl,r.ck,r.of,r.ln,r.dt,0⟩
def YX(r:Wi):r.dV.1.1=[81,ji (pD r.3),ji (pD r.4)]++cu r.2++cu r.5++cu r.6++r.7.1.1:=by unfold Wi.dV zi;simp[zB,uh]
def ED(r:Wi):pC r.dV=9+pC r.7:=by show pB r.dV.1=9+pB r.7.1;rw[<-lQ,YX,<-lQ];simp[cu];omega
def VQ{n}(h0:0<=n)(h:n<=65535):((pW (ji (n %256).toNat):Int))+256*(pW (ji (n / 256).toNat):Int)=n:=by obtain⟨k,rfl⟩:=Int.eq_ofNat_of_zero_le h0;exact Nl k Y
def Wi.Good.verdict(h:r.Good g):tt g.1 r.3 r.4 r.5 r.6=0:=by let b:=h.1;let a:=h.2;let d:=h.3;let c:=h.4;rw[tt];grind
def Wi.Good.pu(hI:g.Is)(h:r.Good g):(0<=r.5/\r.5<=65535)/\(0<=r.6/\r.6<=65535)/\(pC r.7:Int)=if r.3=1 then r.6 else 0:=by let e:=hI.1;let c:=hI.4;let d:=h.3;let a:=h.4;let b:0<=r.6:=j4;refine⟨Y,Y,?_⟩;rw[h.5];split;rw[IS];omega;rfl
def Ub{s t}(us)(hI:g.Is)(a:r.Good g)(hc:r.2<=65535)(v:(r.2:Int)∉us)(h:s.1.1=r.dV.1.1++t):first g.1 g.4 2 us s=(r.msg,(pC r.dV:Int)):=by
 let⟨i,f,e⟩:=a.pu hI;let q:=a.3;let p:=a.1;let o:=a.2;rw[(YX r)]at h;let b:=wU h;let u:pC s=9+pC r.7+pA t:=by show pB s.1=9+pB r.7.1+pA t;rw[<-lQ,h,<-lQ];simp[cu];omega
 let j:bt s 0=81:=b 0;let b1:bt s 1=r.3:=by rw[b 1];show((pW (ji r.3.toNat):Nat):Int)=_;rw[zQ];omega
 let d:bt s 2=r.4:=by rw[b 2];show((pW (ji r.4.toNat):Nat):Int)=_;rw[zQ];omega
 let t3:two s 3=r.2:=by rw[two];rw[b 3,b 4];exact Nl r.2 hc
 let t5:two s 5=r.5:=by rw[two];rw[b 5,b 6];exact VQ i.1 i.2
 let t7:two s 7=r.6:=by rw[two];rw[b 7,b 8];exact VQ f.1 f.2
 show mH g.1 g.4 us s=_;rw[mH];rw[aI Y,j,t7,t3,aI j4,b1];by_cases c:r.3=1;rw[aO c]at e;let l:mS s 9 (pD (9+r.6))=r.7:=by
  refine rG<|BB.1 ?_;rw[rE,zz,h,Kh];let m:pA ([81,ji r.3.toNat,ji r.4.toNat]++cu r.2++cu r.5++cu r.6)=9:=by simp[cu]
  rw[lS _ r.7.1.1 t,Kg Y,BR Y,jZ];let k:pD (9+r.6)-9=pA r.7.1.1:=by rw[lQ];show _=pC r.7;omega
  rw[k,C8<|aR _,pM]
 rw[aO c,aI Y,d,t5,a.verdict,l,ED];grind;rw[aI c]at e;let n:r.7=⟨#[]⟩:=by rw[a.5,aI c]
 rw[aI c,d,t5,a.verdict,ED];grind
def Fx.fix(f:Fx):Cf×Int×Bool:=(f.g,f.3,f.7)
def GM(st:Fx->Nat->Fx)(h:∀f s,(st f s).fix=f.fix):∀(l:av Nat) (f:Fx),(l.foldl st f).fix=f.fix
 |[],f=>rfl|s::l,f=>(GM st h l<|st f s).E (h f s)
def aao(f:Fx)(s):(f.fY s).fix=f.fix:=by rw[fY];split<;>rfl
def aeu(f:Fx)(s):(f.eV s).fix=f.fix:=by rw[eV];split<;>rfl
def abW(f:Fx)(s):(f.dP s).fix=f.fix:=by rw[Fx.dP];split;split<;>rfl;rfl
def TQ:∀(n:Nat) (f:Fx),(Fx.fin n f).fix=f.fix
 |0,f=>rfl|n+1,f=>by rw[Fx.fin];split;rfl;split;refine(TQ n _).E ?_;rw[does];split<;>rfl;rfl
def PE:∀(n p:Nat) (f:Fx),(rn n p f).fix=f.fix
 |0,_,f=>rfl|n+1,p,f=>by
  let a:f.bg.1.fix=f.fix:=by rw[Fx.bg];split;split;split<;>rfl;rfl;rfl
  rw[rn];split;split;exact(PE n _ _).E a;exact(PE n _ _).E a;rfl
def Jn(f:Fx):f.qk.fix=f.fix:=by
 let b:f.early.se.fix=f.early.fix:=by rw[se];split;rfl;exact(GM _ aeu _ _).E U
 exact(GM _ abW _ _).E<|(PE _ _ _).E<|(TQ _ _).E<|b.E (GM _ aao _ _)
def aeH(cb xb g f)(c:Cw)(L)(m:Cm)(w)(h:bz w g cb xb f c L m)(x)(h0:pA c.S=0):
  ax ai 55 #[jp cb,I x] w λe b=>e=aG (π aj)/\∃k,b=w.drewN k:=by
 let⟨a,kh,ev⟩:=gP h.3
 rw[h0]at ev;have d:kD w (F cb 10)=Z (ζ a 0 kh):=ev▸aD h.2 U;clear h ev;go_enter func55,ntmps55;go_wp2;go_ret;exact⟨U,0,U⟩
abbrev Cw.til(c:Cw)(n:Int):Cw:={c with now:=n}
abbrev Cw.pv(c:Cw):Cw:=c.til (c.3+1)
structure tI(g:Cf)(aqd:Nat->Fx->Cw->Prop):Prop where
 is:g.Is
 run:∀{t f c},aqd t f c->f.Rest/\f.g=g/\f.stop=aa
 dO:∀{t f c},aqd t f c->f.ol<=t/\(0<=c.3/\c.3<=t)/\c.S.length<=t+8/\c.W.length<=t/\c.4<=16
 wo:∀{t f c},aqd t f c->mA c.W
 aC:∀{t f c} {i:Nat} {s},aqd t f c->c.S[i]? =Z s->s.3=aa->s.hd=⟨#[]⟩/\∃a k,f.Is i a k
 stay:∀{t f c},aqd t f c->aqd (t+1) f c.pv
 qk:∀{t f c},aqd t f c->t<1073741824->aqd (t+1) f.qk c.pv
 dG:∀{t f c d e},aqd t f c->d.Rest->(d=f\/∃u,d=f.sI u/\1<=u.1/\u.1<=e)->c.4<=e/\e<=16->aqd (t+1) d {c.pv with dl:=e}
 ask:∀{t f c} {i a:Nat} {s k b d n r},aqd t f c->c.S[i]? =Z s->s.3=aa->f.Is i a k->c.ck<60000->CI g f c.pv i a k b d n r->b=M/\aqd (t+1) d n
 take:∀{t f c} {i a:Nat} {s k},aqd t f c->c.S[i]? =Z s->s.3=aa->f.Is i a k->∃h,k.H.data.toList=h.flatMap (iY c.W)/\(∀t∈h,mU i c.W t)/\(h.filterMap Tk.no).Nodup/\aqd (t+1) (f.take a k 1099511627776) {c.pv with W:=dS (c.3+1) c.W h}
inductive aDd(g:Cf)(kd x y z:Int)(f:Fx)(c:Cw):Fx->Cw->Prop
 |tick(h:kd=2):aDd g kd x y z f c f.qk c.pv
 |fate(h:kd=4):aDd g kd x y z f c (aFF f x y z) {c.pv with dl:=aFD f c.4 x}
 |none(h:kd≠2/\kd≠4/\kd≠6)(hn:∀(i:Nat) s,(i:Int)=eX x (pA c.S)->c.S[i]? =Z s->s.3=M):aDd g kd x y z f c f c.pv
 |ask{i d:Nat} {s k b f' c' r}(h:kd=1)(hi:(i:Int)=eX x (pA c.S))(hs:c.S[i]? =Z s)(ha:s.3=aa)(hu:f.Is i d k)(hck:c.5<60000)(A:CI g f c.pv i d k b f' c' r)(hr:r=aWF g i (c.5+1) (c.3+1) y z):aDd g kd x y z f c f' c'
 |full{i:Nat} {s}(h:kd=1)(hi:(i:Int)=eX x (pA c.S))(hs:c.S[i]? =Z s)(ha:s.3=aa)(hck:60000<=c.5):aDd g kd x y z f c f c.pv
 |take{i d:Nat} {s k h'}(h:kd=3)(hi:(i:Int)=eX x (pA c.S))(hs:c.S[i]? =Z s)(ha:s.3=aa)(hu:f.Is i d k)(ht:k.H.data.toList=h'.flatMap (iY c.W))(hk:∀t∈h',mU i c.W t):aDd g kd x y z f c (f.take d k 1099511627776) {c.pv with W:=dS (c.3+1) c.W h'}
 |other(h:kd≠2/\kd≠4/\kd≠6/\kd≠1/\kd≠3/\kd≠5):aDd g kd x y z f c f c.pv
def aSD(g:Cf)(aqd:Nat->Fx->Cw->Prop)(D:Fx->Cw->Prop)(t cb xb:Nat)(ps:av Nat)(u:aq):Prop:=∃f c,aqd t f c/\D f c/\uH u g cb xb f c ps

def fj(u:aq)(g:Cf)(cb xb:Nat)(f:Fx)(c:Cw)(m:Cm):Prop:=∃L,bz u g cb xb f c L m
section
variable [an] {l:av aZ} {u:aq} {g:Cf} {cb xb:Nat} {f:Fx} {c:Cw} {m:Cm} {t:Nat} {A:Int->Nat->Prop} {aqd:Nat->Fx->Cw->Prop}
def fj.tp(B:fj u g cb xb f c m)(a:Tape):fj (u.tp a) g cb xb f c m:=by let⟨L,T⟩:=B;exact⟨L,T.tp a⟩
def fj.at (B:fj u g cb xb f c m):u.1[cb]? =Z (au (uQ g xb c m) 40 (0,0)):=by let⟨L,T⟩:=B;exact T.2
def fj.SV(B:fj u g cb xb f c m):uH u g cb xb f c m.3:=by let⟨L,T⟩:=B;exact⟨L,m,T,qD _⟩
def aSD.tp{D:Fx->Cw->Prop} {ps:av Nat}(h:aSD g aqd D t cb xb ps u)(τ:Tape):aSD g aqd D t cb xb ps (u.tp τ):=by obtain⟨f,c,h1,h2,L,m,T,h3⟩:=h;exact⟨f,c,h1,h2,L,m,T.tp τ,h3⟩
def Y2(n:vb ai l)(o:an.ok 41)(S:tI g aqd)(h:aqd t f c)(B:fj u g cb xb f c.pv m)(kd x lm z)(hk:kd=4)(p:dy x)(hy:dy lm)(q:dy z):
  dX ai 41 #[pt cb,ν #[I kd,I x,I lm,I z]] u λe r=>e=aG (ω M)/\aSD g aqd (aDd g kd x lm z f c) (t+1) cb xb m.3 r:=by
 refine dX.lift n o (λe u a h=>⟨h.1,h.2.tp a⟩) (λe u h=>⟨_,h.1⟩) λa=>?_
 let⟨L,T⟩:=B.tp a
 apply(ake cb xb g f c.pv L m (u.tp a) T kd x lm z (S.2 h).1 p hy q (S.3 h).2.2.2.2).V;rintro e v ⟨rfl,b,s,d,i,j,⟨rfl,rfl⟩,k⟩;exact⟨U,_,_,S.8 h d i j,.fate hk,k⟩
def Y5(C:vb ai l)(E:an.ok 55)(S:tI g aqd)(h:aqd t f c)(N:t<1073741824)(B:fj u g cb xb f c.pv m)(x)(G:dy x):
  dX ai 55 #[pt cb,I x] u λe o=>∃v,e=aG v/\((v=π aj/\∀(i:Nat) s,(i:Int)=eX x (pA c.S)->c.S[i]? =Z s->s.3=M)\/∃(i p:Nat) (s:Sl),v=pt p/\c.S[i]? =Z s/\s.3=aa/\m.3[i]? =Z p/\(i:Int)=eX x (pA c.S))/\o.1=u.1/\fj o g cb xb f c.pv m:=by
 refine dX.lift C E (λe u a ⟨v,q,r,z,w⟩=>⟨v,q,r,z,w.tp a⟩) (λe u ⟨v,h,_⟩=>⟨_,h⟩) λa=>?_
 let⟨L,T⟩:=B.tp a
 let J:=(S.3 h).2.2.1
 by_cases h0:pA c.S=0
 apply(aeH cb xb g f c.pv L m (u.tp a) T x h0).V;rintro e H ⟨rfl,k,rfl⟩;exact⟨_,U,.inl ⟨U,λi s _ hs=>(by have:=(bY.1 hs).1;omega)⟩,U,L,T.old λ_ _=>U⟩;let K:=AX x (n:=pA c.S) Y;obtain⟨i,d⟩:∃i:Nat,(i:Int)=eX x (pA c.S):=⟨pD (eX x c.S.length),Y⟩;obtain⟨s,b⟩:∃s,c.S[i]? =Z s:=⟨_,dj Y⟩
 let⟨p,j,_⟩:=T.Bg b
 refine(aeF cb xb g f c.pv L m (u.tp a) T x G i p s d b j j4).V ?_;rintro e H ⟨rfl,k,rfl⟩;cases D:s.3;exact⟨_,U,.inr ⟨i,p,s,ay,b,D,j,d⟩,U,L,T.old λ_ _=>U⟩;exact⟨_,U,.inl ⟨ay,λk s hk hs=>(by have e:i=k:=Y;subst e;rw[b]at hs;exact Option.some.inj hs▸D)⟩,U,L,T.old λ_ _=>U⟩
def X8{x0:Int}(E:(i:Int)=eX x0 (pA c.S))(G:vb ai l)(H:an.ok 24)(S:tI g aqd)(h:aqd t f c)(Q:t<1073741824)(B:fj u g cb xb f c.pv m)(d:c.S[i]? =Z s)(n:s.3=aa)(J:m.3[i]? =Z p)(lm z)(hy:dy lm)(K:dy z):
  dX ai 24 #[pt cb,pt p,I lm,I z] u λe N=>e=aG (ω M)/\aSD g aqd (aDd g 1 x0 lm z f c) (t+1) cb xb m.3 N:=by
 refine dX.lift G H (λe u a h=>⟨h.1,h.2.tp a⟩) (λe u h=>⟨_,h.1⟩) λa=>?_
 let⟨L,T⟩:=B.tp a
 by_cases o:c.5<60000
 let⟨_,q,k,j⟩:=S.5 h d n
 let⟨hR,_⟩:=S.2 h
 let P:=hR.1.pu;let R:=(S.3 h).2.2.2.1;refine(RY cb xb g f c.pv L m (u.tp a) T i p q s k lm z hy K S.1 o d J j Y (hR.1.4 q k j.1).1.3 j4).V ?_;rintro e O ⟨b,w,v,r,rfl,⟨x,y⟩,C⟩;obtain⟨rfl,D⟩:=S.9 h d n j o x;exact⟨U,w,v,D,.ask U E d n j o x y,C⟩;refine(RZ cb xb g f c.pv L m (u.tp a) T p lm z j4).V ?_;rintro e O ⟨rfl,rfl⟩;exact⟨U,f,_,S.6 h,.full U E d n Y,L,m,T,qD _⟩
def Y6{x0 y0 z0:Int}(z:(i:Int)=eX x0 (pA c.S))(C:vb ai l)(E:an.ok 27)(S:tI g aqd)(h:aqd t f c)(B:fj u g cb xb f c.pv m)(j:c.S[i]? =Z s)(n:s.3=aa)(G:m.3[i]? =Z p):
  dX ai 27 #[pt cb,pt p] u λe J=>e=aG (ω M)/\aSD g aqd (aDd g 3 x0 y0 z0 f c) (t+1) cb xb m.3 J:=by
 refine dX.lift C E (λe u d h=>⟨h.1,h.2.tp d⟩) (λe u h=>⟨_,h.1⟩) λd=>?_
 let⟨L,T⟩:=B.tp d
 let⟨D,b,k,a⟩:=S.5 h j n
 let⟨hR,K,_⟩:=S.2 h
 let R:=hR.1.pu
 let⟨H,q,r,v,w⟩:=S.10 h j n a
 let N:=(hR.1.4 b k a.1).1.H;let Q:=(hR.1.4 b k a.1).2.2;let P:=hR.1.pc b;let O:=hR.1.g.9;refine(Zh cb xb g f c.pv L m (u.tp d) T i p b s k j G D a Y (hR.take a.1 _).1.1.stay H q r v (S.4 (c:=c) h) Y (by have:=(S.3 h).2.1;show 0<=c.3+1;omega)).V ?_;rintro e V ⟨rfl,o,x⟩;exact⟨U,_,_,w,.take U z j n a q r,o,m,x,qD _⟩
variable [oM]
def Y7{x0 y0 z0:Int}(G:CR l)(S:tI g aqd)(h:aqd t f c)(n:t<1073741824)(B:fj u g cb xb f c.pv m):dX ai 26 #[pt xb] u λe a=>e=aG (θ #[])/\aSD g aqd (aDd g 2 x0 y0 z0 f c) (t+1) cb xb m.3 a:=by let⟨L,T⟩:=B;refine(T.1.ticks WE G (S.2 h).1 (by have:=(S.3 h).1;omega)).V ?_;rintro e a ⟨rfl,p,o,d,i⟩;let⟨b,j⟩:=T.go d i;exact⟨U,_,_,S.7 h n,.tick U,b,m,j,qD _⟩
end
section
attribute [local go_sem] cz cE Dj Dl vB
open Go.ConcR (Payload)
structure wH[an](l:av aZ):Prop where
 k:CQ l
 x:CR l
 o:∀f,f∈[30,31,41,55,24,27,56]->an.ok f/\il f
 kI:il 26
abbrev stA(kd x b z:Int):aF aB:=#[I kd,I x,I b,I z]
section
variable [an] {l:av aZ} {Q:Exit->Act->aq->Prop} {a:Act} {u:aq} {jt:aF Oper} {i n d:Nat} {kj:av Nat} {Lf:aZ->av Nat} {f0:aZ} {L:av (Nat×aB)} {ty:aY} {ps:String} {af:aF Edge} {gd:aV (Nat×Bool)}
def FE.lst{kd o z:Int}(q:vb ai l)(E:Fa n a L)(B:u.1[b]? =Z (au (stA kd x o z) 46 (0,0)))(c:∀p,iD a p d (ν<|stA kd x o z)->Fa n p ((d,ν<|stA kd x o z)::L)->FO Lf f0 ai jt Q kj p u)(h:jt[i]? =Z ⟨Z d,.load 46<|.tmp k,ty,ps,af,gd⟩:=by rfl) (r:lk L k=Z (pt b):=by rfl) (s:(iu jt L gd&&iH jt n gd)=M:=by rfl) (hc:mE (Lf f0) n d L (.load 46<|.tmp k)=M:=by rfl):FO Lf f0 ai jt Q (i::kj) a u:=by
 refine FE.ow E c h s U hc (λj=>?_) q;let e:gS L (.tmp k)=pt b:=by show(lk L k).getD y=_;rw[r];rfl
 let h:(u.tp j).1[b]? =_:=B;let v:=aJ (u.tp j) b 0 (I kd) h;let w:=aJ (u.tp j) b 1 (I x) h;let C:=aJ (u.tp j) b 2 (I o) h;let D:=aJ (u.tp j) b 3 (I z) h;go_simp
end
section
variable [an] [oM] {l:av aZ} {u:aq} {g:Cf} {cb xb:Nat} {f:Fx} {c:Cw} {m:Cm} {t:Nat} {A:Int->Nat->Prop} {aqd:Nat->Fx->Cw->Prop}
def Tn(G:wH l)(S:tI g aqd)(h:aqd t f c)(J:t<1073741824)(B:fj u g cb xb f c m)(kd x k z:Int)(hx:dy x)(hy:dy k)(hz:dy z)(k5:kd≠5)(k6:kd≠6):
  iT dR ai 22 #[pt cb,ν<|stA kd x k z] u λe u'=>e=aG (ω M)/\aSD g aqd (aDd g kd x k z f c) (t+1) cb xb m.3 u':=by
 have r:=G.x.1;have Va:=(S.3 h).2.1;obtain⟨V,T⟩:=B;have aX:cb<pB u.1:=(bf.1 T.2).1;have K:=T.below ((bv _ u).alloc (aR _)<|au (stA kd x k z) 46);have yI:(lL u<|au (stA kd x k z) 46).1[pB u.1]? =Z (au (stA kd x k z) 46 (0,0)):=vj U;refine iT.AU 60 func22 λa E=>?_
 have fin:∀(a:Act) (u:aq) (L:av (Nat×aB)),Fa 60 a ((4,ω M)::L)->aSD g aqd (aDd g kd x k z f c) (t+1) cb xb m.3 u->Exit.ret=.ret/\a.2=[]/\∃v,(bo f22 a.1).run ai u=.ok v u/\(Ending.returned v=aG (ω M)/\aSD g aqd (aDd g kd x k z f c) (t+1) cb xb m.3 u):=λa u L E b=>by refine⟨U,E.2,ω M,?_,U,b⟩;have D:=ev (E.3 4 _ U);simp[bo,results22,go_sem,D]
 refine sq<|reg [0,1] ?_;refine nw (v:=pt u.1.size) E (lL u<|au (stA kd x k z) 46) (hr:=λτ=>by go_simp;rfl) λa _ E=>?_;refine FE.ow E λa _ E=>cc ?_;generalize lL u (au (stA kd x k z) 46)=u1 at*;generalize pB u.1=w at*
 replace E:Fa 60 a [(0,pt cb),(3,pt w)]:=E.to
 have C:=K.2;refine sq<|reg [0,1,2,3,4,5,6,7] ?_
 iterate 3 refine FE.ow E λa _ E=>?_
 refine lc E C λa _ E=>?_;refine ar E λa _ E=>?_
 iterate 2 refine FE.ow E λa _ E=>?_
 refine FE.st E C λR X D=>cc ?_;have W:bz R g cb xb f c.pv V m:=K.box U U X D;have q:R.1[w]? =Z (au (stA kd x k z) 46 (0,0)):=(D w Y).E yI;have B:fj R g cb xb f c.pv m:=⟨V,W⟩;clear T K W yI C X D
 replace E:Fa 60 a [(0,pt cb),(3,pt w)]:=E.to
 have C:=B.at;refine sq<|sq<|reg [0,1] ?_;refine FE.ow E λa _ E=>?_;refine lc E q λa _ E=>cc ?_;refine FX.bk 0<|sq<|reg [0,1] ?_
 by_cases k2:kd=2
 ·subst k2;iterate 1 refine FE.ow (v:=ω M) E λa _ E=>?_
  refine FE.ow E λa _ E=>cc ?_;refine cT E<|sq<|reg [0,1,2,3,4] ?_;iterate 3 refine FE.ow E λa _ E=>?_
  refine lc E C λa _ E=>?_;refine cx E G.4<|(Y7 (x0:=x) (y0:=k) (z0:=z) G.x S h J B).V ?_;rintro e j ⟨rfl,b⟩;refine⟨_,U,λa _ E=>cc ?_⟩;refine sq<|reg [0] ?_;refine FE.ow E λa _ E=>cc ?_;exact K3
 have b2:(kd==2)=aa:=by simpa using k2
 refine FE.ow (v:=ω aa) E λa _ E=>?_;refine FE.ow E λa _ E=>cc ?_;refine cF E<|sq<|reg [0,1] ?_
 by_cases k4:kd=4
 ·subst k4;refine FE.ow (v:=ω M) E λa _ E=>?_;refine FE.ow E λa _ E=>cc ?_;refine cT E<|sq<|reg [0,1,2,3] ?_;refine FE.ow E λa _ E=>?_;refine FE.lst r E q λa _ E=>?_;refine cx E (G.o _ aM).2 ((Y2 r (G.o _ aM).1 S h B 4 x k z U hx hy hz).V ?_);rintro e j ⟨rfl,b⟩;refine⟨_,U,λa _ E=>?_⟩;refine FE.ow E λa _ E=>cc ?_;exact K3
 have b4:(kd==4)=aa:=by simpa using k4
 refine FE.ow (v:=ω aa) E λa _ E=>?_;refine FE.ow E λa _ E=>cc ?_;refine cF E<|sq<|reg [0,1] ?_
 have b6:(kd==6)=aa:=by simpa using k6
 refine FE.ow (v:=ω aa) E λa _ E=>?_;refine FE.ow E λa _ E=>cc ?_;refine cF E<|sk ?_
 replace E:Fa 60 a [(0,pt cb),(3,pt w)]:=E.to
 refine sq<|reg [0,1,2,3,4] ?_
 iterate 2 refine FE.ow E λa _ E=>?_
 refine lc E q λa _ E=>?_;refine cx E (G.o _ aM).2 ((Y5 r (G.o _ aM).1 S h J B x hx).V ?_);rintro e j ⟨v,rfl,hv,hh,B⟩;rw[<-hh]at q;clear hh C;refine⟨_,U,λa _ E=>?_⟩;obtain⟨rfl,hn⟩|⟨i,p,s,rfl,b,N,O,P⟩:=hv
 ·refine FE.ow E λa _ E=>cc ?_;refine sq<|sq<|reg [0,1] ?_;refine FE.ow E λa _ E=>?_;refine FE.ow (v:=ω M) E λa _ E=>cc ?_;refine cT E<|sq<|reg [0] ?_;refine FE.ow E λa _ E=>cc ?_;exact FX.rt<|fin a j _ E ⟨f,_,S.6 h,.none ⟨k2,k4,k6⟩ hn,B.SV⟩
 refine FE.ow E λa _ E=>cc ?_;refine sq<|sq<|reg [0,1] ?_;refine FE.ow E λa _ E=>?_;refine FE.ow (v:=ω aa) E λa _ E=>cc ?_;refine cF E<|sk ?_
 replace E:Fa 60 a [(0,pt cb),(3,pt w),(5,pt p)]:=E.to
 refine sq<|sq<|reg [0,1] ?_;refine FE.ow E λa _ E=>?_;refine lc E q λa _ E=>cc ?_;refine FX.bk 1<|sq<|reg [0,1] ?_
 by_cases k1:kd=1
 ·subst k1;refine FE.ow (v:=ω M) E λa _ E=>?_;refine FE.ow E λa _ E=>cc ?_;refine cT E<|sq<|reg [0,1,2,3,4,5,6,7] ?_;iterate 3 refine FE.ow E λa _ E=>?_
  refine lc E q λa _ E=>?_;refine FE.ow E λa _ E=>?_;refine lc E q λa _ E=>?_;refine cx E (G.o _ aM).2 ((X8 P r (G.o _ aM).1 S h J B b N O k z hy hz).V ?_);rintro e j ⟨rfl,b⟩;refine⟨_,U,λa _ E=>?_⟩;refine FE.ow E λa _ E=>cc ?_;exact K3
 have b1:(kd==1)=aa:=by simpa using k1
 refine FE.ow (v:=ω aa) E λa _ E=>?_;refine FE.ow E λa _ E=>cc ?_;refine cF E<|sq<|reg [0,1] ?_
 by_cases k3:kd=3
 ·subst k3;refine FE.ow (v:=ω M) E λa _ E=>?_;refine FE.ow E λa _ E=>cc ?_;refine cT E<|sq<|reg [0,1,2,3] ?_;iterate 2 refine FE.ow E λa _ E=>?_
  refine cx E (G.o _ aM).2 ((Y6 (y0:=k) (z0:=z) P r (G.o _ aM).1 S h B b N O).V ?_);rintro e j ⟨rfl,b⟩;refine⟨_,U,λa _ E=>?_⟩;refine FE.ow E λa _ E=>cc ?_;exact K3
 have b3:(kd==3)=aa:=by simpa using k3
 refine FE.ow (v:=ω aa) E λa _ E=>?_;refine FE.ow E λa _ E=>cc ?_;refine cF E<|sq<|reg [0,1] ?_
 have b5:(kd==5)=aa:=by simpa using k5
 refine FE.ow (v:=ω aa) E λa _ E=>?_;refine FE.ow E λa _ E=>cc ?_;refine cF E<|sk ?_;refine sq<|reg [0] ?_;refine FE.ow E λa _ E=>cc ?_;exact FX.rt<|fin a j _ E ⟨f,_,S.6 h,.other ⟨k2,k4,k6,k1,k3,k5⟩,B.SV⟩
end
def yb(n k:Nat)(a:Act):Nat:=n-(match a.eval (.tmp k)with|ι _ x=>pD x|_=>0)
def tP{a}{m:Nat}(h:a.eval (.tmp k)=I (m:Int)):yb n k a=n-m:=by rw[yb];rw[h];simp
def wN[an](ad:aV iL)(len:Nat):Prop:=len=0\/∃(b e:Nat) (c:Obj) (z:Nat->Nat->Int),ad=Z ⟨b,e,aj⟩/\an.tY b=Z c/\∀i,i<len->∀j,j<4->dy (z i j)/\∀w:aq,w.1[b]? =Z c->kD w (F b<|e+i*4+j)=Z (I<|z i j)
section
variable [an] {Q:Exit->Act->aq->Prop} {a:Act} {u:aq} {jt:aF Oper} {i n d k:Nat} {kj:av Nat} {Lf:aZ->av Nat} {f0:aZ} {L:av (Nat×aB)} {ty:aY} {ps:String} {af:aF Edge} {gd:aV (Nat×Bool)}
def FE.sg{ad:iL}{t x:Nat}{e:Obj}{vs:aF aB}(z:an.tY b=Z e)(l:∀w,(isAgg t).run ai w=.ok M w)(A:∀w,(sizeOf t).run ai w=.ok x w)(B:∀w g,(isAgg t).events ai w g=g)(E:Fa n a L)(m:ad.1=b)(r:pB vs=x)(hc:∀w:aq,w.1[b]? =Z e->∀j,(h:j<pB vs)->kD w (ad.add j)=Z vs[j])(hr:∀w:aq,w.1[b]? =Z e->(loadCells ad x).run ai w=.ok vs w)(s:∀C,VR C (ν vs)<|ν vs)(c:∀f,Fa n f ((d,ν vs)::L)->FO Lf f0 ai jt Q kj f u)
  (q:jt[i]? =Z ⟨Z d,.load t<|.tmp k,ty,ps,af,gd⟩:=by rfl) (hv:lk L k=Z (π<|Z ad):=by rfl) (v:(iu jt L gd&&iH jt n gd)=M:=by rfl) (p:mW [] n d []=M:=by rfl):FO Lf f0 ai jt Q (i::kj) a u:=
 FO.see z l A B q (E.wt (o:=⟨Z d,_,ty,ps,af,gd⟩) v) U U (E.3 k _ hv) m r hc hr s (c _<|E.put _<|Au p)
def Yp(kd x lm z ρ):VR ρ (ν<|stA kd x lm z) (ν<|stA kd x lm z):=by intro g _;simp[stA,rv]
def FE.stp{f tq:Nat}{m:Obj}{tz:Nat->Int}(q:an.tY f=Z m)(g:∀j,j<4->dy (tz j)/\∀w:aq,w.1[f]? =Z m->kD w (F f<|tq+j)=Z (I<|tz j))(E:Fa n a L)(c:∀l,Fa n l ((d,ν<|stA (tz 0) (tz 1) (tz 2)<|tz 3)::L)->FO Lf f0 ai jt Q kj l u)
  (p:jt[i]? =Z ⟨Z d,.load 46<|.tmp k,ty,ps,af,gd⟩:=by rfl) (hv:lk L k=Z (π<|Z<|F f tq):=by rfl) (b:(iu jt L gd&&iH jt n gd)=M:=by rfl) (o:mW [] n d []=M:=by rfl):FO Lf f0 ai jt Q (i::kj) a u:=by
 refine FE.sg (t:=46) (vs:=stA (tz 0) (tz 1) (tz 2)<|tz 3) (x:=4) q (λw=>by go_simp) (λw=>by go_simp) (λw A=>by go_simp) E U U (λw b j h=>?_) (λw b=>?_) (Yp _ _ _ _) c p hv b o;have e:(⟨f,tq,aj⟩:iL).add j=⟨f,tq+j,aj⟩:=by rw[Addr.add];split<;>simp_all
 rw[e]
 match j,h with
 |0,_=>exact(g 0 aM).2 w b
 |1,_=>exact(g 1 aM).2 w b
 |2,_=>exact(g 2 aM).2 w b
 |3,_=>exact(g 3 aM).2 w b
 |k+4,h=>exact absurd h ay
 have r:kD w (F f tq)=Z (I<|tz 0):=(g 0 aM).2 w b;have s:kD w (F f<|tq+1)=Z (I<|tz 1):=(g 1 aM).2 w b;have v:kD w (F f<|tq+2)=Z (I<|tz 2):=(g 2 aM).2 w b;have z:kD w (F f<|tq+3)=Z (I<|tz 3):=(g 3 aM).2 w b;go_simp
end
def Xs[an](x):bo f22 x=bo f22 (dU (dR 22) x):=by let h:(dU (dR 22) x).getD 4 y=x.getD 4 y:=zm (a:=⟨x,[]⟩) (i:=4) aM;simp only[bo,results22,BW,vU,BV,h]
def Tl[an](cb kd x lm z ρ)(c:VR ρ (pt cb) (pt cb)):∀(i:Nat) (v:aB),(ba ai 22 #[pt cb,ν<|stA kd x lm z] .normal).2[i]? =Z v->i∉dR 22->VR ρ v v:=
 GC func22 (body:=nS f22) aW λi v h b=>by
  match i,b with
  |0,_=>simp at h;subst h;exact c
  |1,_=>simp at h;subst h;exact Yp _ _ _ _ _
  |n+2,_=>simp at h
abbrev nV(wt:Nat->Int)(n:Nat):Cw:=⟨(dA n).map λi=>⟨wt i,⟨#[]⟩,aa⟩,[],0,1,0,λ_=>aj⟩
def adk(wt n):gU (nV wt n).S=n:=by rw[gU];rw[Fg.2 λs a=>by obtain⟨i,_,rfl⟩:=jY.1 a;rfl];simp
def Y8(wt n k):(⟨(nV wt n).S++[⟨k,⟨#[]⟩,aa⟩],[],0,1,0,λ_=>aj⟩:Cw)=nV (LE wt n k) (n+1):=by
 let e:(dA n).map (λi=>(⟨LE wt n k i,⟨#[]⟩,aa⟩:Sl))=(dA n).map λi=>⟨wt i,⟨#[]⟩,aa⟩:=rN λi a=>by grind
 show _=(⟨(dA<|n+1).map λi=>(⟨LE wt n k i,⟨#[]⟩,aa⟩:Sl),[],0,1,0,λ_=>aj⟩:Cw);rw[uB,sV,e];simp
def Fx.Host.ku{k}(h:f.Host g wt n)(b:(n:Int)<g.2)(a:1<=k/\k<=4):(f.ku n k).Host g (LE wt n k) (n+1):=by
 have c:=(h.sp b a).2;let e:(f.jV n k).sp n (fw f.3 k f.g.7) gm=(f.ku n k,0):=by rw[Fx.sp];rw[aI Ut,aI (show ¬1024<pC (fw f.3 k f.g.7).4+pC gm from(by decide:¬1024<(⟨#[]⟩:ByteArray).size+gm.size))];rfl
 rwa [e]at c
section
variable [an] {l:av aZ} {u:aq} {al:aV iL} {ll cl:Nat}
def fj.form(B:fj u g cb xb f c m):∃a k,m.1=ζ a (pA c.S) k:=by obtain⟨L,T⟩:=B;exact gP T.3
end
end
end Go.Proofs.YtpobhljcainmdaaGreat
