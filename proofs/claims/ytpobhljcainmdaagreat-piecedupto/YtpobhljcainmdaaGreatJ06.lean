/- Parts of the proof. -/
import Derived.Conc.CompanyDraw
import Derived.Test.YtpobhljcainmdaaGreatJ05
set_option maxRecDepth 100000
set_option maxHeartbeats 8000000
set_option linter.all false
namespace Go.Proofs.YtpobhljcainmdaaGreat
open Go renaming World->an,Frame->aJ,Goroutine->bw,Program->aN,Item->gG,Trace->eW,Value->au,TypeId->aK,FuncId->bh,Exit->Wx
open Go.Region renaming wanted->cL
open Go.MemOp renaming ofEvents_g->lD,ofEvents->jq
open Go.GStep renaming after->jo
open Go.MemAct renaming ofEvent->cI
open Go.CallKind renaming early->vL
open Go.stepG renaming exec->gv,oper->Im
open Go.Conc renaming runT_crowd_go->yj,lt_size_of_getElem?->vY,mem_ofEvents->LH,Deaf_other->nC,events_call_body->Mz,woken_quitsD->GJ,ofEvents_eq->GC,getElem?_append_old->Vn,run_call_body->MB,crowd_pick->Gy,stepG_region_end->cy,stepG_value->Ai,Leavers->zQ,Deaf_own->FN,awake_of->Gu,mem_seen->pX
open Go.ConcN renaming upd_same->gV,upd_ne->iZ
open Go.Instr renaming beginRound->zM,getLoop->tV,enterLoop->xI,endRound->rU,endLoop->xH
open Go.World renaming setCell->fD
open Go.Trace renaming act?->yd,g?->uj
open _root_.List renaming range->dM
open Go.Sem renaming runT_fst->iW,bind->cA,runT->cX
open Go.ConcR renaming WgAt->LJ
section
open Go.Conc
open Go.ConcN (ShN WgLive sumTo upd sumTo_upd upd_ne upd_same)
open Go.ConcR (KK WgAt stA smA rd wr mk)
section
variable [aA] [aW] {P:aN} {ty:aK} {Wg:Nat} {Shun:Loc->Prop} {Q:Nat->(Nat->Prop)->an->Prop} {M old:Nat} {O0:uD} {mp:Mp} {a:bw} {bl:Bool} {w0:an} {m:Nat} {f:Nat->mu} {Ow:Nat->Nat->Prop} {q:Nat->Nat} {gs:Array bw} {w:an} {t:eW} {sl:Option (Nat×Nat)}
theorem QJ{k fn pos es}(hm:∀e∈es,e.mute=true):∀op∈jq k fn pos es,op.act.touch?=none:=fun op c=>by obtain⟨e,b,rfl⟩:=LH c;exact touch_mute (hm e b)
theorem QH{k fn pos es}(hm:∀e∈es,e.mute=true)(B):∀op∈jq k fn pos es,op.act.low B:=fun op c=>by obtain⟨e,b,rfl⟩:=LH c;exact low_mute (hm e b) B
theorem QI{k fn pos es}(hm:∀e∈es,e.mute=true)(ad):∀op∈jq k fn pos es,op.act≠.mark (.release ad):=fun op c d=>by
 obtain⟨⟨loc,wr,g⟩,b,rfl⟩:=LH c;have:=hm _ b;cases loc with
 |mark x=>cases x<;>simp_all[Event.mute,cI]
 |_=>simp_all[Event.mute]
theorem iq.Jv{k r}(h:iq Wg t k r){ops}(j:∀op∈ops,op.act.touch?=none):iq Wg (t++ops) k r:=by
 refine h.app (fun i l g e=>?_) fun op b _ x c=>by grind
 obtain⟨x,c,_⟩:=e;rcases wJ g with⟨n,_⟩|⟨_,op,b,d,_⟩
 ·omega
 ·have:touchAt (t++ops) i=some x:=c;rw[touchAt_of d,j op b]at this;cases this
theorem act?_old{ops s x}(h:t.act? s=some x):(t++ops).act? s=some x:=by obtain⟨z,b,c⟩:=ep.1 h;unfold yd;rw[Vn (vY b),b];exact dG some c
theorem g?_old{ops s g}(h:t.g? s=some g):(t++ops).g? s=some g:=by obtain⟨z,b,c⟩:=ep.1 h;unfold uj;rw[Vn (vY b),b];exact dG some c
theorem heard_old{ops s}(h:t.heard s):(t++ops).heard s:=by obtain⟨g,b,c⟩:=h;refine⟨g,g?_old b,?_⟩;obtain⟨z,d,_⟩:=ep.1 b;rw[deaf_old (mg (vY d))];exact c
theorem Acq.app{ops}(h:Acq Wg old m t)(hr:∀i k,i<m->iq Wg t (old+i) k->iq Wg (t++ops) (old+i) k):Acq Wg old m (t++ops):=by obtain⟨s,c,d,e,g⟩:=h;exact⟨s,act?_old c,g?_old d,heard_old e,fun i b=>by obtain⟨k,j,l⟩:=g i b;exact⟨k,hr i k b j,l⟩⟩
theorem Inv.leaves(h:Inv P ty Wg Shun Q M old O0 mp a bl w0 m f Ow q gs w t)(U:a.status=.running){i}(H:i<m)(v:(f i).p=.quit)(A:(f i).g.status=.running):
  ∃u L E K,runT P (crowd gs w sl) (old+i)=(.next (crowd E w sl),K)/\Inv P ty Wg Shun Q M old O0 mp a u w0 m (upd f i L) Ow q E w (t++K)/\qm P ty Wg L (f i)/\(u=true->bl=true):=by
 obtain⟨st,sm,aq,ah,W⟩:=h.mode;have B:=h.work i H;obtain⟨S,G⟩:=h.own i H;have I:old+i≠0:=by have:=h.many;omega
 have aa:(old+i==0)=false:=by simp;have:=h.many;omega
 obtain⟨z,T⟩:=B.qu v;cases C:(f i).n with
 |zero=>rw[C]at z;rw[z.1]at A;cases A
 |succ n=>
  rw[C]at z;rcases z with⟨X,_⟩|⟨_,c,N,hm,tA,qx⟩
  ·rw[X]at A;cases A
  have hr:=yj (P:=P) (sl:=sl) (i:=old+i) G (by rw[aa];exact tA w);have l:=lD (old+i) (f i).g.frame.fn (f i).g.frame.place N;have D:=QJ (k:=old+i) (fn:=(f i).g.frame.fn) (pos:=(f i).g.frame.place) hm;have hF:woken P (f i).g c w=woken P (f i).g c w\/(woken P (f i).g c w=id/\False):=.inl rfl;obtain⟨u,IP,F⟩:=Lg h.main U hF I;have af:old+i<gs.size:=(aP.1 G).1
  have bU:∀(j:Nat) x,0<j->j≠old+i->((gs.map (woken P (f i).g c w)).setIfInBounds (old+i) c)[j]? =some x->gs[j]? =some x:=fun j x b s o=>by rw[dx (cW s),fj]at o;obtain⟨y,J,rfl⟩:=ep.1 o;rw[oq hF (h.status b J)];exact J
  have R:∀(j:Nat) x,0<j->j≠old+i->gs[j]? =some x->((gs.map (woken P (f i).g c w)).setIfInBounds (old+i) c)[j]? =some x:=fun j x b s o=>by rw[dx (cW s),fj,o];simp[oq hF (h.status b o)]
  have ay:=h.many;refine⟨u,⟨.quit,(f i).O,c,(f i).w,n⟩,_,_,hr,⟨h.many,by simp[h.size],h.room,h.tc.mute D (QH hm _) ⟨_,l⟩,h.kt.app (fun op ho=>.inr (.inl (by rw[l op ho];omega))) (QI hm _),?_,IP,h.tG,?_,fun j x b Y o=>?_,fun j b=>?_,fun j b=>?_,fun V=>?_,fun j b=>⟨?_,(h.above j b).2.1,?_⟩,h.bare,h.all⟩,?_,fun e=>(F e).1⟩
  ·refine⟨st,sm,aq,?_,fun e=>W (F e).1⟩
   have:(fun j=>(upd f i ⟨.quit,(f i).O,c,(f i).w,n⟩ j).p)=fun j=>(f j).p:=by
    funext j
    by_cases d:j=i
    ·subst d;rw[gV];exact v.symm
    ·rw[iZ f _ d]
   rw[this];exact ah
  ·rw[pq l (cW I)];exact h.deaf0
  ·rw[pq l ak];exact h.gh j x b Y (bU j x b ak o)
  ·by_cases d:j=i
   ·subst d;rw[gV];exact⟨S,by simp[af]⟩
   ·rw[iZ f _ d];exact⟨(h.own j b).1,R _ _ ak ak (h.own j b).2⟩
  ·by_cases d:j=i
   ·subst d;rw[gV];refine⟨B.rel,fun s=>absurd rfl s,fun _=>⟨?_,T⟩,fun _=>?_⟩
    ·rw[FN];exact qx
    ·obtain⟨r,hr⟩:=B.rl (by rw[v];simp);exact⟨r,hr.Jv D⟩
   ·rw[iZ f _ d];exact(h.work j b).other l ak (.refl ..)
  ·exact(h.acq V).app fun j k _ Z=>Z.Jv D
  ·rw[pq l ak];exact(h.above j b).1
  ·exact yK l ak (h.above j b).2.2
  ·exact .inr ⟨v,rfl,by simp[C]⟩
theorem Inv.gone(h:Inv P ty Wg Shun Q M old O0 mp a bl w0 m f Ow q gs w t)(J:a.status=.running){k}(v:0<k)(S:k<old){g}(u:gs[k]? =some g)(s:g.status=.running):
  ∃o n B G,runT P (crowd gs w sl) k=(.next (crowd B w sl),G)/\Inv P ty Wg Shun Q M old O0 mp a o w0 m f Ow (upd q k n) B w (t++G)/\n<q k/\(o=true->bl=true):=by
 obtain⟨st,sm,Z,V,L⟩:=h.mode;have D:k≠0:=ak;have R:(k==0)=false:=bK;have r:=h.gh k g v S u;cases E:q k with
 |zero=>rw[E]at r;rw[r.1]at s;cases s
 |succ n=>
  rw[E]at r;rcases r with⟨N,_⟩|⟨_,d,H,hm,Y,X⟩
  ·rw[N]at s;cases s
  have hr:=yj (P:=P) (sl:=sl) (i:=k) u (by rw[R];exact Y w);have l:=lD k g.frame.fn g.frame.place H;have A:=QJ (k:=k) (fn:=g.frame.fn) (pos:=g.frame.place) hm;have hF:woken P g d w=woken P g d w\/(woken P g d w=id/\False):=.inl rfl;obtain⟨o,U,C⟩:=Lg h.main J hF D;have T:k<gs.size:=(aP.1 u).1
  have bU:∀(j:Nat) x,0<j->j≠k->((gs.map (woken P g d w)).setIfInBounds k d)[j]? =some x->gs[j]? =some x:=fun j x b z c=>by rw[dx (cW z),fj]at c;obtain⟨y,F,rfl⟩:=ep.1 c;rw[oq hF (h.status b F)];exact F
  have I:∀(j:Nat) x,0<j->j≠k->gs[j]? =some x->((gs.map (woken P g d w)).setIfInBounds k d)[j]? =some x:=fun j x b z c=>by rw[dx (cW z),fj,c];simp[oq hF (h.status b c)]
  refine⟨o,n,_,_,hr,⟨h.many,by simp[h.size],h.room,h.tc.mute A (QH hm _) ⟨_,l⟩,h.kt.app (fun op W=>.inr (.inr (A op W))) (QI hm _),⟨st,sm,Z,V,fun e=>L (C e).1⟩,U,h.tG,?_,fun j x b O c=>?_,fun j b=>?_,fun j b=>?_,fun K=>?_,fun j b=>⟨?_,(h.above j b).2.1,?_⟩,h.bare,h.all⟩,ak,fun e=>(C e).1⟩
  ·rw[pq l (cW D)];exact h.deaf0
  ·by_cases p:j=k
   ·subst p;rw[xB (by simpa using T)]at c;obtain rfl:=dm c;rw[gV,FN];exact X
   ·rw[pq l p,iZ q n p];exact h.gh j x b O (bU j x b p c)
  ·exact⟨(h.own j b).1,I _ _ ak ak (h.own j b).2⟩
  ·exact(h.work j b).other l ak (.refl ..)
  ·exact(h.acq K).app fun j k _ v=>v.Jv A
  ·rw[pq l ak];exact(h.above j b).1
  ·exact yK l ak (h.above j b).2.2
end
section
variable [aA] [aW] {P:aN} {ty:aK} {Wg:Nat} {Shun:Loc->Prop} {Q:Nat->(Nat->Prop)->an->Prop} {M old:Nat} {O0:uD} {mp:Mp} {a:bw} {w0:an} {m:Nat} {f:Nat->mu} {Ow:Nat->Nat->Prop} {q:Nat->Nat} {gs:Array bw} {w:an} {t:eW} {sl:Option (Nat×Nat)}
theorem Av.running(h:Av mp a false gs):gs[0]? =some a:=by
 rcases h with⟨_,h⟩|⟨e,_⟩
 ·exact h
 ·cases e
theorem Inv.QB(h:Inv P ty Wg Shun Q M old O0 mp a false w0 m f Ow q gs w t)(D:a.status=.running){g' w' bJ p'}(I:ir P true a w g' w' bJ)(J:∀d:eW,d.map (·.act)=bJ->(∀op∈d,op.g=0)->TC Wg (kB Ow 0 (eB (Ow 0) w w')) w'.heap.size (t++d)/\KT Shun Wg old (t++d)/\Deaf (t++d) 0=p'.jZ/\(p'=.back->Acq Wg old m (t++d)))(H:∃st r,WgAt ty Wg w' st r/\Mode m (fun i=>(f i).p) p' st r)(A:∀o:Nat->Prop,(∀b,o b->¬Ow 0 b)->(∀b,o b->b<w.heap.size)->¬o Wg->Rel ty Wg o w w'):
  ∃v z d,runT P (crowd gs w sl) 0=(.next (crowd z w' sl),d)/\Inv P ty Wg Shun Q M old O0 p' g' false w' m f v q z w' (t++d)/\v 0=eB (Ow 0) w w':=by
 have h0:=h.main.running;obtain⟨F,d,hr,hF,E,n⟩:=Te (sl:=sl) (i:=0) h0 (h.QX D) I;obtain⟨K,L,N,O⟩:=J d E n;have G:0<gs.size:=(aP.1 h0).1;have R:=h.many
 have bU:∀(j:Nat) x,0<j->((gs.map F).setIfInBounds 0 g')[j]? =some x->gs[j]? =some x:=fun j x c l=>by rw[dx ak,fj]at l;obtain⟨y,B,rfl⟩:=ep.1 l;rw[oq hF (h.status c B)];exact B
 have C:∀(j:Nat) x,0<j->gs[j]? =some x->((gs.map F).setIfInBounds 0 g')[j]? =some x:=fun j x c l=>by rw[dx ak,fj,l];simp[oq hF (h.status c l)]
 obtain⟨st,r,m1,m2⟩:=H;refine⟨kB Ow 0 (eB (Ow 0) w w'),_,d,hr,⟨h.many,by simp[h.size],h.room,K,L,⟨st,r,m1,m2,fun e=>by cases e⟩,.inl ⟨rfl,by simp[G]⟩,.refl ..,N,fun j x c u l=>?_,fun j c=>?_,fun j c=>?_,O,fun j c=>⟨?_,?_,?_⟩,fun j c u=>?_,Ni h.all (A O0.X (fun b k s=>h.all.no 0 b s k) h.all.small h.all.wg) fun b k=>k.imp id fun h=>h.1⟩,EX ..⟩
 ·rw[pq n ak];exact h.gh j x c u (bU j x c l)
 ·rw[mI Ow ak];exact⟨(h.own j c).1,C _ _ ak (h.own j c).2⟩
 ·refine(h.work j c).other n ak ((h.own j c).1▸A (Ow (old+j)) (fun b k s=>?_) (fun b k=>h.tc.lt _ b k) (h.tc.wg _));have:=h.tc.one _ _ b k s;omega
 ·rw[pq n ak];exact(h.above j c).1
 ·rw[mI Ow ak];exact(h.above j c).2.1
 ·exact yK n ak (h.above j c).2.2
 ·rw[mI Ow ak];exact h.bare j c u
theorem eR.back{O w w' p bJ}(h:eR ty Wg O w p w' bJ .back):p=.back\/(p=.sY/\bJ=#[MemAct.mark (.acquire (stA Wg))]):=by
 generalize b:Mp.back=e at h;cases h with
 |acq=>exact .inr ⟨rfl,by simp[mk,cI]⟩
 |own d=>subst b;exact .inl rfl
 |idle=>subst b;exact .inl rfl
 |gP c=>rcases c with rfl|⟨_,rfl,_⟩<;>cases b
 |_=>cases b
theorem Inv.E6(h:Inv P ty Wg Shun Q M old O0 mp a false w0 m f Ow q gs w t)(B:a.status=.running){g' w' bJ p'}(F:ir P true a w g' w' bJ)(b:eR ty Wg (Ow 0) w mp w' bJ p'):
  ∃n o d,runT P (crowd gs w sl) 0=(.next (crowd o w' sl),d)/\Inv P ty Wg Shun Q M old O0 p' g' false w' m f n q o w' (t++d)/\n 0=eB (Ow 0) w w':=by
 obtain⟨st,K,G,u,_⟩:=h.mode;have hm:m<2147483647:=by have:=h.room;omega
 have J:=h.many;refine h.QB B F (fun d g c=>⟨b.tc rfl h.tc g c,b.kt h.kt g c,b.jZ g c h.deaf0,fun D=>?_⟩) (u.main G (h.tc.wg 0) h.tc.pO b hm) fun I x y A=>b.EG x y (h.tc.wg 0) A h.tc.pO;subst D;rcases b.back with e|⟨e,v⟩
 ·exact(h.acq e).app fun i k _ j=>j.other c ak
 ·subst e v;have E:d.size=1:=by have:=dG Array.size g;simpa using this
  obtain⟨op,rfl⟩:∃op,d=#[op]:=by
   obtain⟨l⟩:=d
   match l,E with
   |[op],_=>exact⟨op,rfl⟩
  have C:op.act=.mark (.acquire (stA Wg)):=by simpa using g
  have j:=c op aq;refine⟨t.size,by simp[yd,C],by simp[uj,j],⟨0,by simp[uj,j],?_⟩,fun i s=>?_⟩
  ·rw[deaf_old (aV _)];exact h.deaf0
  ·obtain⟨r,hr⟩:=(h.work i s).rl (by have e:(f i).p=.quit:=((u.wW trivial).1) i s;rw[e];simp);refine⟨r,hr.other c ak,?_⟩;have:=hr.by_.act;unfold yd at this;obtain⟨z,H,_⟩:=ep.1 this;exact vY H
theorem Inv.take(h:Inv P ty Wg Shun Q M old O0 .reg a false w0 m f Ow q gs w t)(j:a.status=.running){st}(l:WgAt ty Wg w st 1){g'}(x:stepG P true a w=.go g' (w.setCell (smA Wg) (.int .u32 0)) (semEvents (smA Wg))):
  ∃c d b,runT P (crowd gs w sl) 0=(.next (crowd d (w.setCell (smA Wg) (.int .u32 0)) sl),b)/\Inv P ty Wg Shun Q M old O0 .woken g' false (w.setCell (smA Wg) (.int .u32 0)) m f c q d (w.setCell (smA Wg) (.int .u32 0)) (t++b)/\c 0=Ow 0:=by
 obtain⟨C,B,y,v,_⟩:=h.mode;obtain⟨rfl,rfl⟩:=l.unique y;have A:=h.many;have u:eB (Ow 0) w (w.setCell (smA Wg) (.int .u32 0))=Ow 0:=DL aq;have r:∀g∈(semEvents (smA Wg)).map cI,yx Wg g:=fun g j=>(Jn Wg g j).Ef;have:=h.QB (sl:=sl) (p':=.woken) j (.go x) (fun b p k=>⟨Ta (.inr ⟨aq,r⟩) aq rfl h.tc p k,h.kt.app (fun op s=>.inl (k op s)) fun op s=>(r _ (by grind)).rel,?_,fun e=>by cases e⟩) (v.take l) fun z n o i=>rO rfl i ⟨_,_,l.setSm _⟩
 ·obtain⟨c,d,b,n,o,i⟩:=this;exact⟨c,d,b,n,o,i.trans u⟩
 ·rw[Dv k,p,h.deaf0];simp[mY,cI,semEvents,Mp.jZ]
theorem Inv.block(h:Inv P ty Wg Shun Q M old O0 .reg a false w0 m f Ow q gs w t)(s:a.offers=none){st}(v:WgAt ty Wg w st 0)(u:stepG P true a w=.go {a with status:=.blocked} w #[]):
  ∃c l,runT P (crowd gs w sl) 0=(.next (crowd c w sl),l)/\Inv P ty Wg Shun Q M old O0 .reg a true w0 m f Ow q c w (t++l):=by
 obtain⟨B,A,d,r,_⟩:=h.mode;obtain⟨rfl,rfl⟩:=v.unique d;have h0:=h.main.running;have p:0<gs.size:=(aP.1 h0).1;have z:=h.many;have hF:woken P a {a with status:=.blocked} w=woken P a {a with status:=.blocked} w\/(woken P a {a with status:=.blocked} w=id/\False):=.inl rfl;have n:t++jq 0 a.frame.fn a.frame.place #[]=t:=by rw[GC];simp
 refine⟨_,_,(yj (P:=P) (sl:=sl) (i:=0) h0 (show stepG P (0==0) a w=_ from u)),?_⟩;rw[n];refine⟨h.many,by simp[h.size],h.room,h.tc,h.kt,⟨_,_,d,r,fun _ e=>by cases e⟩,.inr ⟨rfl,rfl,s,by simp[p]⟩,h.tG,h.deaf0,fun j x b o g=>?_,fun j b=>⟨(h.own j b).1,?_⟩,h.work,h.acq,h.above,h.bare,h.all⟩
 ·rw[dx ak,fj]at g;obtain⟨y,k,rfl⟩:=ep.1 g;rw[oq hF (h.status b k)];exact h.gh j y b o k
 ·rw[dx ak,fj,(h.own j b).2];simp[oq hF (h.status ak (h.own j b).2)]
theorem Xm{x y c j}(b:x.act=.go c)(d:y.act=.start):Deaf (t++#[x,y]) j=Deaf t j:=by rw[show(#[x,y]:Array MemOp)=[x,y].toArray from rfl,(Deaf_append t j [x,y])];simp[deafStep,b,d]
theorem Inv.fork(h:Inv P ty Wg Shun Q M old O0 .ready a false w0 m f Ow q gs w t)(J:m<M){A R}(B:∀b,A b->Ow 0 b)(hR:∀b,R b->Ow 0 b)(I:∀b,A b->¬R b)(Y:∀b,Ow 0 b->A b\/R b){g' l}(S:stepG P true a w=.spawn g' l w #[])(U:WS P ty Wg (Q m) .work A l w):
  ∃H D E ops,runT P (crowd gs w sl) 0=(.next (crowd E w sl),ops)/\Inv P ty Wg Shun Q M old O0 .opn g' false w (m+1) H D q E w (t++ops)/\D 0=R:=by
 obtain⟨st,X,T,O,_⟩:=h.mode;have h0:=h.main.running;have hr:=runT_crowd_spawn (P:=P) (sl:=sl) (i:=0) h0 (show stepG P (0==0) a w=_ from S);have N:0<gs.size:=(aP.1 h0).1;have Z:=h.many;have F:=h.size
 have K:((jq 0 a.frame.fn a.frame.place #[]).push {g:=0,fn:=a.frame.fn,pos:=a.frame.place,act:=.go gs.size}).push {g:=gs.size,fn:=l.frame.fn,pos:=a.frame.place,act:=.start}=#[{g:=0,fn:=a.frame.fn,pos:=a.frame.place,act:=.go gs.size},{g:=gs.size,fn:=l.frame.fn,pos:=a.frame.place,act:=.start}]:=by rw[GC];simp
 rw[K]at hr;generalize u:({g:=0,fn:=a.frame.fn,pos:=a.frame.place,act:=.go gs.size}:MemOp)=x at hr;generalize V:({g:=gs.size,fn:=l.frame.fn,pos:=a.frame.place,act:=.start}:MemOp)=y at hr;have p:x.g=0/\x.act=.go (old+m):=by rw[<-u,<-F];exact⟨rfl,rfl⟩
 have r:y.g=old+m/\y.act=.start:=by rw[<-V,<-F];exact⟨rfl,rfl⟩
 have v:∀j,Deaf (t++#[x,y]) j=Deaf t j:=fun j=>Xm p.2 r.2;have split:t++#[x,y]=(t++#[x])++#[y]:=by apply xz;simp
 have W:∀(j:Nat) z,j≠0->gs[j]? =some z->((gs.setIfInBounds 0 g').push l)[j]? =some z:=fun j z n o=>by have L:=(aP.1 o).1;rw[eN,aD bK,dx ak];exact o
 have G:∀(j:Nat) z,j≠0->j<gs.size->((gs.setIfInBounds 0 g').push l)[j]? =some z->gs[j]? =some z:=fun j z n L o=>by rw[eN,aD bK,dx ak]at o;exact o
 refine⟨upd f m ⟨.work,A,l,w,0⟩,kB (kB Ow 0 R) (old+m) A,_,_,hr,⟨h.many,by simp[h.size];omega,⟨h.room.1,J⟩,h.tc.fork ak B hR I (h.above _ (aV _)).2.1 p r h.deaf0 (h.above _ (aV _)).1,h.kt.app (fun op c=>?_) (fun op c=>?_),⟨st,X,T,by rw[Tq];exact O.spawn,(fun e=>by cases e)⟩,.inl ⟨rfl,?_⟩,.refl ..,?_,fun j z n C o=>?_,fun j n=>?_,fun j n=>?_,(fun e=>by cases e),fun j n=>⟨?_,?_,?_⟩,fun j n C=>?_,⟨fun j b d u=>?_,fun j b d=>?_,h.all.lt,h.all.rel,h.all.wg⟩⟩,?_⟩
 ·simp at c;rcases c with rfl|rfl
  ·exact .inl p.1
  ·exact .inr (.inl (by rw[r.1];omega))
 ·simp at c;rcases c with rfl|rfl
  ·rw[p.2];simp
  ·rw[r.2];simp
 ·rw[eN,aD bK];simp[N]
 ·rw[v];exact h.deaf0
 ·rw[v];exact h.gh j z n C (G j z ak ak o)
 ·by_cases s:j=m
  ·subst s;rw[gV,EX];refine⟨rfl,?_⟩;rw[eN,aM bK]
  ·rw[iZ f _ s,mI _ ak,mI _ ak];exact⟨(h.own j ak).1,W _ _ ak (h.own j ak).2⟩
 ·by_cases s:j=m
  ·subst s;rw[gV];refine⟨.refl ..,fun _=>⟨U,?_⟩,(fun e=>by cases e),fun e=>absurd rfl e⟩;rw[v];exact(h.above _ (aV _)).1
  ·rw[iZ f _ s,split];exact((h.work j ak).other (j:=0) (ops:=#[x]) (fun op c=>by simp at c;rw[c];exact p.1) ak (.refl ..)).other (j:=old+m) (fun op c=>by simp at c;rw[c];exact r.1) ak (.refl ..)
 ·rw[v];exact(h.above j ak).1
 ·rw[mI _ ak,mI _ ak];exact(h.above j ak).2.1
 ·rw[split];exact yK (k:=old+m) (fun op c=>by simp at c;rw[c];exact r.1) ak (yK (k:=0) (fun op c=>by simp at c;rw[c];exact p.1) ak (h.above j ak).2.2)
 ·rw[mI _ ak,mI _ ak];exact h.bare j n C
 ·rcases d with⟨_,d⟩|⟨_,⟨_,d⟩|⟨_,d⟩⟩
  ·exact h.all.no 0 b (B b d) u
  ·exact h.all.no 0 b (hR b d) u
  ·exact h.all.no j b d u
 ·rcases d with⟨_,d⟩|⟨_,⟨_,d⟩|⟨_,d⟩⟩
  ·exact h.all.old 0 b (B b d)
  ·exact h.all.old 0 b (hR b d)
  ·exact h.all.old j b d
 ·rw[mI _ ak,EX]
end
section
variable [aA] [aW] {P:aN} {ty:aK} {Wg:Nat} {Shun:Loc->Prop} {Post:Nat->(Nat->Prop)->bw->an->Prop} {Q:Nat->(Nat->Prop)->an->Prop} {M old:Nat} {O0:uD} {mp:Mp} {a:bw} {w0:an} {m:Nat}
def uu(P:aN)(ty:aK)(Wg:Nat)(Shun:Loc->Prop)(Post:Nat->(Nat->Prop)->bw->an->Prop)(Q:Nat->(Nat->Prop)->an->Prop)(M old:Nat)(O0:uD)(gs:Array bw)(w:an)(sl:Option (Nat×Nat))(t:eW):Prop:=
 ∃N a w0 m f c q d b g e,runNT P N (crowd gs w sl) t=(.next (crowd d b g),e)/\Inv P ty Wg Shun Q M old O0 .back a false w0 m f c q d b e/\Post m (c 0) a b/\gC w b
theorem uu.step{gs jI w w1 sl Fb t ops}(j:stepT P (crowd gs w sl)=(.next (crowd jI w1 Fb),ops))(k:gC w w1)(h:uu P ty Wg Shun Post Q M old O0 jI w1 Fb (t++ops)):uu P ty Wg Shun Post Q M old O0 gs w sl t:=by obtain⟨N,a,w0,m,f,b,q,c,o,l,n,d,e,g,i⟩:=h;exact⟨N+1,a,w0,m,f,b,q,c,o,l,n,by simp only[runNT,j];exact d,e,g,k.trans i⟩
theorem afp(s:mu):yC ty Wg s s:=⟨rfl,rfl,rfl,rfl,.refl ..⟩
theorem Inv.go{O}(A:a.status=.running)
  (Z:∀f b q gs w sl t,b 0=O->Inv P ty Wg Shun Q M old O0 mp a false w0 m f b q gs w t->∃s l c,runT P (crowd gs w sl) 0=(.next (crowd s l sl),c)/\gC w l/\(uu P ty Wg Shun Post Q M old O0 s l sl (t++c)\/Inv P ty Wg Shun Q M old O0 mp a true w0 m f b q s l (t++c))):
  ∀f,Acc (Down (qm P ty Wg) (yC ty Wg) m) f->∀S bl b q gs w sl t,sumTo old q<S->b 0=O->Inv P ty Wg Shun Q M old O0 mp a bl w0 m f b q gs w t->uu P ty Wg Shun Post Q M old O0 gs w sl t:=by
 intro f W;induction W with
 |intro f _ N=>
  intro S;induction S with
  |zero=>exact fun bl b q gs w sl t h=>absurd h ak
  |succ S af=>
   have down:∀{i:Nat} {D:mu},i<m->qm P ty Wg D (f i)->Down (qm P ty Wg) (yC ty Wg) m (upd f i D) f:=fun{i D} v Y=>
    ⟨i,v,by rw[gV];exact Y,fun j _ aa=>by rw[iZ f _ aa];exact afp _⟩
   have other:∀bl b q gs w sl t,sumTo old q<S+1->b 0=O->Inv P ty Wg Shun Q M old O0 mp a bl w0 m f b q gs w t->∀(k:Nat) g,0<k->gs[k]? =some g->g.status=.running->
     ∃s l c,runT P (crowd gs w sl) k=(.next (crowd s l sl),c)/\gC w l/\uu P ty Wg Shun Post Q M old O0 s l sl (t++c):=by
    intro bl b q gs w sl t hS u h k g z x L
    by_cases K:k<old
    ·obtain⟨B,n,y,c,o,r,h3,_⟩:=h.gone (sl:=sl) A z K x L;have:sumTo old (upd q k n)+q k=sumTo old q+n:=sumTo_upd q n id K;exact⟨y,w,c,o,.refl _,af B b _ y w sl _ ak u r⟩
    ·obtain⟨i,rfl⟩:∃i,k=old+i:=⟨k-old,ak⟩
     have v:i<m:=by have:=(aP.1 x).1;have:=h.size;omega
     have J:=(h.own i v).2;rw[x]at J;obtain rfl:=dm J
     by_cases C:(f i).p=.quit
     ·obtain⟨B,D,y,c,o,r,h3,_⟩:=h.leaves (sl:=sl) A v C L;exact⟨y,w,c,o,.refl _,N _ (down v h3) _ B b q y w sl _ (xS _) u r⟩
     ·obtain⟨B,D,T,y,R,c,o,r,h3,U,_,V⟩:=h.worker (sl:=sl) A v C;exact⟨y,R,c,o,U,N _ (down v h3) _ B T q y R sl _ (xS _) (V.trans u) r⟩
   have H:∀b q gs w sl t,sumTo old q<S+1->b 0=O->Inv P ty Wg Shun Q M old O0 mp a true w0 m f b q gs w t->uu P ty Wg Shun Post Q M old O0 gs w sl t:=by
    intro b q gs w sl t hS u h
    have I:mp=.reg/\gs[0]? =some {a with status:=.blocked}:=by
     rcases h.main with⟨e,_⟩|⟨_,e,_,h0⟩
     ·cases e
     ·exact⟨e,h0⟩
    obtain⟨st,sm,ah,G,X⟩:=h.mode
    obtain⟨i,v,C⟩:∃i,i<m/\(f i).p≠.quit:=by
     rw[I.1]at G;rcases G.Kr with e|⟨_,e,_⟩
     ·subst e;exact G.abA
     ·exact absurd e (X rfl)
    obtain⟨k,g,d,E,z,x,F⟩:=Gy (P:=P) (w:=w) (sl:=sl) (h.Nq A) ⟨old+i,_,(h.own i v).2,((h.work i v).ws C).1.running C⟩;rcases me k with rfl|hpos
    ·rw[I.2]at z;rw[<-dm z]at x;cases x
    ·obtain⟨s,l,c,o,r,h3⟩:=other true b q gs (w.at d) E t hS u (h.at d) k g hpos z x;exact .step (F.trans o) ((gC.at w d).trans r) h3
   intro bl b q gs w sl t hS u h;cases bl with
   |true=>exact H b q gs w sl t hS u h
   |false=>
    obtain⟨k,g,d,E,z,x,F⟩:=Gy (P:=P) (w:=w) (sl:=sl) (h.Nq A) ⟨0,a,h.main.running,A⟩;rcases me k with rfl|hpos
    ·obtain⟨s,l,c,o,r,h3⟩:=Z f b q gs (w.at d) E t u (h.at d);refine .step (F.trans o) ((gC.at w d).trans r) ?_;rcases h3 with h3|h3
     ·exact h3
     ·exact H b q s l E _ hS u h3
    ·obtain⟨s,l,c,o,r,h3⟩:=other false b q gs (w.at d) E t hS u (h.at d) k g hpos z x;exact .step (F.trans o) ((gC.at w d).trans r) h3
theorem Inv.acc{f bl Ow q gs w t}(h:Inv P ty Wg Shun Q M old O0 mp a bl w0 m f Ow q gs w t):Acc (Down (qm P ty Wg) (yC ty Wg) m) f:=
 aeZ m f fun i c=>by
  by_cases b:(f i).p=.quit
  ·exact .inl b
  ·exact .inr ((h.work i c).ws b).1
theorem phase{r p O g}(L:MS P ty Wg Post Q M r p O g w0):∀f d q gs w sl t,d 0=O->Inv P ty Wg Shun Q M old O0 p g false w0 r f d q gs w t->uu P ty Wg Shun Post Q M old O0 gs w sl t:=by
 induction L with
 |done h=>
  intro f d q gs w sl t b hI;subst b;exact⟨0,_,_,_,f,d,q,gs,w,sl,t,rfl,hI,h w hI.tG,.refl _⟩
 |@step r p O g w0 j T h k y=>
  intro f d q gs w sl t b hI;refine Inv.go j (fun f d q gs w sl t b hI=>?_) f hI.acc (sumTo old q+1) false d q gs w sl t ak b hI;obtain⟨st,S,l,z,_⟩:=hI.mode;have E:An ty Wg p w:=z.XQ l (by have:=hI.room;omega);have hrel:=hI.tG;rw[b]at hrel;obtain⟨u,B,F,i,D⟩:=h w hrel E;obtain⟨x,e,s,n,o,v⟩:=hI.E6 (sl:=sl) j i (by rw[b];exact D);rw[b]at v;exact⟨e,B,s,n,D.same,.inl (y w u B F hrel E i f x q e B sl _ v o)⟩
 |@sem r O g w0 j N K h k y=>
  intro f d q gs w sl t b hI;refine Inv.go j (fun f d q gs w sl t b hI=>?_) f hI.acc (sumTo old q+1) false d q gs w sl t ak b hI;obtain⟨st,S,l,z,_⟩:=hI.mode;have hrel:=hI.tG;rw[b]at hrel;rcases z.Kr with rfl|⟨rfl,rfl,_⟩
  ·obtain⟨e,s,n,o⟩:=hI.block (sl:=sl) N l (K w hrel ⟨_,l⟩);exact⟨e,w,s,n,.refl _,.inr o⟩
  ·obtain⟨u,i⟩:=h w hrel l;obtain⟨x,e,s,n,o,v⟩:=hI.take (sl:=sl) j l i;exact⟨e,_,s,n,.set ..,.inl (y w u hrel l i f x q e _ sl _ (v.trans b) o)⟩
 |@spawn r O A R g w0 hr j H hR I J h c k y=>
  intro f d q gs w sl t b hI;refine Inv.go j (fun f d q gs w sl t b hI=>?_) f hI.acc (sumTo old q+1) false d q gs w sl t ak b hI;have hrel:=hI.tG;rw[b]at hrel;obtain⟨u,C,i,_⟩:=h w hrel;obtain⟨G,x,e,s,n,o,v⟩:=hI.fork (sl:=sl) hr (by rw[b];exact H) (by rw[b];exact hR) I (by rw[b];exact J) i (c w u C hrel i);exact⟨e,w,s,n,.refl _,.inl (y w u C hrel i G x q e w sl _ v o)⟩
end
section
variable [aA] [aW] {P:aN} {ty:aK} {Wg:Nat} {Shun:Loc->Prop} {Q:Nat->(Nat->Prop)->an->Prop} {M old:Nat} {O0:uD} {a:bw} {w0:an} {m:Nat} {f:Nat->mu} {Ow:Nat->Nat->Prop} {q:Nat->Nat} {gs:Array bw} {w:an} {t:eW}
theorem Inv.over(h:Inv P ty Wg Shun Q M old O0 .back a false w0 m f Ow q gs w t):
  gs[0]? =some a/\(∃D,zQ P t gs D)/\Past (fun l=>Shun l\/ShN Wg l) w.heap.size t/\WgAt ty Wg w 0 0/\(∀i,i<m->Q i (Ow (old+i)) w)/\(∀i j,t.g? i=some j->j<gs.size)/\Rel ty Wg O0.X O0.W w/\(∀k b,Ow k b->b<w.heap.size)/\∀k,¬Ow k Wg:=by
 obtain⟨st,F,C,B,_⟩:=h.mode;obtain⟨u,rfl,rfl⟩:=B.wW trivial;obtain⟨s,v,x,y,z⟩:=h.acq rfl;have fM:∀i j,t.g? i=some j->j<old+m:=fun i j e=>Nat.lt_of_not_le fun A=>(h.above j A).2.2 i e;refine⟨h.main.running,⟨fun i=>if i<old then q i else(f (i-old)).n,fun i g c d=>?_,fun j e=>(h.above j (by rw[<-h.size];exact e)).1⟩,Q9 h.tc h.kt v x y (fun i g d E=>?_) h.deaf0,C,fun i c=>?_,by rw[h.size];exact fM,h.all.rel,h.tc.lt,h.tc.wg⟩
 ·by_cases p:i<old
  ·rw[aM p];exact h.gh i g c p d
  ·rw[aD p];obtain⟨k,rfl⟩:∃k,i=old+k:=⟨i-old,ak⟩
   have o:k<m:=by have:=(aP.1 d).1;have:=h.size;omega
   have r:=(h.own k o).2;rw[d]at r;obtain rfl:=dm r;rw[ue];exact((h.work k o).qu (u k o)).1
 ·obtain⟨k,rfl⟩:∃k,g=old+k:=⟨g-old,ak⟩;exact z k (by have:=fM i _ d;omega)
 ·have:=((h.work i c).qu (u i c)).2 w (h.work i c).rel;rw[(h.own i c).1]at this;exact this
theorem Inv.start{O X W}(B:∀b,O b->¬X b)(D:∀b,X b->b<W.heap.size)(E:Rel ty Wg X W w)(C:¬X Wg)(y:M<2147483647)(h0:gs[0]? =some a)(r:zQ P t gs q)(h:Past Shun Wg t)(fM:∀i j,t.g? i=some j->j<gs.size)(o:WgAt ty Wg w 0 0)(z:∀b,O b->b<w.heap.size)(A:¬O Wg)(hc:∀b,O b->∀l,kX b l->¬Shun l):
  Inv P ty Wg Shun Q M gs.size ⟨X,O,W⟩ .opn a false w 0 (fun _=>⟨.quit,fun _=>False,a,w,0⟩) (fun k b=>k=0/\O b) q gs w t:=by
 have G:0<gs.size:=(aP.1 h0).1
 have v:Wg<w.heap.size:=by unfold LJ at o;exact(aP.1 o).1
 have s:Past Shun w.heap.size t:=h.mono (mg v);refine⟨G,rfl,⟨y,eE _⟩,TC.start s hc z A v (fun op n x I H=>?_),KT.start s (fun i c=>?_),⟨0,0,o,?_,(fun e=>by cases e)⟩,.inl ⟨rfl,h0⟩,.refl ..,h.hears,fun i g c _ F=>r.old i g c F,fun i c=>absurd c (qU _),fun i c=>absurd c (qU _),(fun e=>by cases e),fun j u=>⟨r.above j u,fun b d=>?_,fun i c=>?_⟩,fun j u _ b d=>?_,⟨fun j b d=>B b d.2,fun j b d=>.inl d.2,D,E,C⟩⟩
 ·have:=Tf (h.seen op n) I;obtain⟨J,e,rfl⟩:=H;rw[e]at this;exact sB _ this
 ·unfold yd at c;obtain⟨op,n,e⟩:=ep.1 c;have:=h.seen op (lC n);rw[e]at this;exact sB _ this
 ·have e:(0:Int)=((sumTo 0 (fun i=>((fun _=>(⟨.quit,fun _=>False,a,w,0⟩:mu)) i).p.counted)+Mp.opn.pend:Nat):Int) *KK:=by simp[sumTo,Mp.pend]
  have:=Mode.opn (m:=0) (f:=fun i=>((fun _=>(⟨.quit,fun _=>False,a,w,0⟩:mu)) i).p) (p:=.opn) trivial (fun i c=>absurd c (qU _)) (fun b e=>by cases e) (fun b e=>by cases e);rw[<-e]at this;exact this
 ·obtain⟨rfl,_⟩:=d;omega
 ·have:=fM i j c;omega
 ·obtain⟨rfl,_⟩:=d;omega
end
end
section
open Go.Conc
open Go.ConcN (sumTo upd sumTo_upd upd_ne upd_same)
def zx(k:List gG)(s:String):gG:=match k[s.length]? with
 |some (.code c)=>.code c
 |some (.inLoop c)=>.inLoop c
 |_=>.code .skip
theorem aeW(k)(s:String):(∃c,zx k s=.code c)\/∃c,zx k s=.inLoop c:=by
 unfold zx;split
 ·exact .inl ⟨_,rfl⟩
 ·exact .inr ⟨_,rfl⟩
 ·exact .inl ⟨_,rfl⟩
abbrev bE(k:List gG):aW:=⟨zx k,aeW k⟩
section
variable [aA] {P:aN} {Post Mid:aJ->List aJ->an->Prop} {fr:aJ} {cs:List aJ} {u:an}
structure XF(ρ:Ren)(fr:aJ):Prop where
 tmps:bf ρ fr.tmps fr.tmps
 defers:cH (DR ρ) fr.defers fr.defers
 kind:fr.kind=.normal
 known:aA.known fr.fn
 mode:oW ρ fr.mode fr.mode
theorem XF.mono{ρ σ}(g:ρ.le σ)(h:XF ρ fr):XF σ fr:=by
 haveI:aW:=bE []
 exact⟨h.tmps.mono g,h.defers.mono fun _ _=>DR.mono g,h.kind,h.known,h.mode.mono g⟩
structure nH(ρ:Ren)(cs:List aJ):Prop where
 deep:aA.depth<=cs.length
 run:∀f∈cs,f.mode=.run
 xf:∀(i:Nat) f,cs[i]? =some f->i+aA.depth<cs.length->XF ρ f
theorem nH.mono{ρ σ}(g:ρ.le σ)(h:nH ρ cs):nH σ cs:=⟨h.deep,h.run,fun i f a b=>(h.xf i f a b).mono g⟩
theorem nH.push{ρ}(h:nH ρ cs)(b:XF ρ fr)(hm:fr.mode=.run):nH ρ (fr::cs):=by
 refine⟨by have:=h.deep;simp;omega,fun f hf=>?_,fun i f a c=>?_⟩
 ·rcases mL.1 hf with rfl|hf
  ·exact hm
  ·exact h.run f hf
 ·cases i with
  |zero=>simp at a;subst a;exact b
  |succ i=>exact h.xf i f (by grind) (by grind)
theorem nH.pop{ρ}(h:nH ρ (fr::cs))(a:aA.depth<=cs.length):XF ρ fr/\nH ρ cs:=
 ⟨h.xf 0 fr rfl bK,a,fun f b=>h.run f (jS _ b),fun i f c d=>h.xf (i+1) f (by grind) bK⟩
def nO(ρ:Ren)(Shun:Loc->Prop)(w:an):Prop:=∀b o,aA.wat b=some o->(∀x,¬ρ x b)/\w.heap[b]? =some o/\∀a:Addr,a.block=b->¬Shun (.cell a)
def oP(Shun b:Loc->Prop)(w:an):Prop:=∀a:Addr,b (.cell a)->Shun (.cell a)\/w.heap.size<=a.block
theorem oP.refl(Shun:Loc->Prop)(w):oP Shun Shun w:=fun _ h=>.inl h
theorem oP.trans{A B C w w1}(h:oP A B w)(c:w.heap.size<=w1.heap.size)(k:oP B C w1):oP A C w:=fun a b=>(k a b).elim (h a) fun e=>.inr (cS c e)
theorem nO.went{ρ σ Shun MZ w w1}(h:nO ρ Shun w)(k:eT ρ σ w w1)(c:oP Shun MZ w):nO σ MZ w1:=fun b o j=>by
 obtain⟨d,f,g⟩:=h b o j;have l:=(aP.1 f).1;refine⟨fun x n=>?_,(k.bU b l d).trans f,fun a i m=>?_⟩
 ·rcases k.news x b n with e|e
  ·exact d x e
  ·omega
 ·rcases c a m with e|e
  ·exact g a i e
  ·omega
theorem nO.at {ρ Shun w}(h:nO ρ Shun w)(d):nO ρ Shun (w.at d):=h
structure eY(P:aN)(Shun:Loc->Prop)(S:Nat->Prop)(fr:aJ)(cs:List aJ)(u:an)(ρ:Ren)(gs:Array bw)(w:an)(t:eW)(q:Nat->Nat):Prop where
 oY:gs[0]? =some (G fr cs)
 top:XF ρ fr
 below:nH ρ cs
 world:eK P ρ u w
 whole:Whole S ρ u
 gh:zQ P t gs q
 past:Past Shun w.heap.size t
 clear:Clear Shun S ρ w
 same:∀a b,ρ a b->a=b
 size:u.heap.size=w.heap.size
 fM:∀i j,t.g? i=some j->j<gs.size
 full:Full ρ u
def Reach(P:aN)(Post:aJ->List aJ->an->Prop)(fr:aJ)(cs:List aJ)(u:an):Prop:=
 ∀(a:Loc->Prop) (S:Nat->Prop) (c:Ren) (gs:Array bw) (w:an) (m:Option (Nat×Nat)) (t:eW) (q:Nat->Nat),eY P a S fr cs u c gs w t q->nO c a w->
  ∃N d k j f e i g b n h l,runNT P N (crowd gs w m) t=(.next (crowd g b n),h)/\Post f e i/\eY P d k f e i j g b h l/\eT c j w b/\oP a d w
theorem vr:∀{N:Nat} {K:Nat} {m m1:Machine} {t t1:eW},runNT P N m t=(.next m1,t1)->runNT P (N+K) m t=runNT P K m1 t1
 |0,K,m,m1,t,t1,h=>by simp only[runNT]at h;cases h;rw[fo]
 |N+1,K,m,m1,t,t1,h=>by
  rw[show N+1+K=(N+K)+1 by omega];simp only[runNT]at h⊢;cases a:stepT P m with
  |mk x b=>
   rw[a]at h;cases x with
   |next m2=>exact vr h
   |ended o w=>cases h
theorem Reach.here(h:Post fr cs u):Reach P Post fr cs u:=
 haveI:aW:=bE []
 fun a S b gs w d t q c _=>⟨0,a,S,b,fr,cs,u,gs,w,d,t,q,rfl,h,c,.refl b w,.refl a w⟩
theorem Reach.bind(h:Reach P Mid fr cs u)(k:∀fr cs u,Mid fr cs u->Reach P Post fr cs u):Reach P Post fr cs u:=fun f S J gs w D t q o b=>by
 haveI:aW:=bE []
 obtain⟨N,g,d,L,Q,O,R,m,H,E,t1,y,A,B,C,a,c⟩:=h f S J gs w D t q o b;obtain⟨K,i,e,M,l,j,G,n,I,F,t2,z,p,r,s,v,x⟩:=k _ _ _ B g d L m H E t1 y C (b.went a c);exact⟨N+K,i,e,M,l,j,G,n,I,F,t2,z,(vr A).trans p,r,s,a.trans v,c.trans a.size x⟩
theorem Reach.mono(h:Reach P Mid fr cs u)(k:∀fr cs u,Mid fr cs u->Post fr cs u):Reach P Post fr cs u:=h.bind fun fr cs u hm=>.here (k fr cs u hm)
theorem eY.at {Shun S ρ gs w t q}(h:eY P Shun S fr cs u ρ gs w t q)(d):eY P Shun S fr cs u ρ gs (w.at d) t q:=
 haveI:aW:=bE []
 ⟨h.oY,h.top,h.below,h.world.at d,h.whole,h.gh,h.past,h.clear,h.same,h.size,h.fM,h.full⟩
structure Vy(P:aN)(S:Nat->Prop)(ρ c:Ren)(u1 w w1:an)(dP:aJ)(iK:List aJ)(es:Array Event):Prop where
 went:eT ρ c w w1
 world:eK P c u1 w1
 whole:Whole S c u1
 same:∀a b,c a b->a=b
 size:u1.heap.size=w1.heap.size
 own:∀e∈es,gy S c e
 top:XF c dP
 below:nH c iK
 full:Full c u1
theorem Reach.one(h:∀f S c gs w t q,eY P f S fr cs u c gs w t q->nO c f w->∃v s u1 σ Q p,stepG P true (G fr cs) w=.go (G v s) Q p/\Vy P S c σ u1 w Q v s p/\Reach P Post v s u1):Reach P Post fr cs u:=by
 haveI:aW:=bE []
 have key:∀(n:Nat) f S c gs w sl t q,sumTo gs.size q<n->eY P f S fr cs u c gs w t q->nO c f w->
   ∃N E T R H F O I D L M V,runNT P N (crowd gs w sl) t=(.next (crowd I D L),M)/\Post H F O/\eY P E T H F O R I D M V/\eT c R w D/\oP f E w:=by
  intro n;induction n with
  |zero=>exact fun f S c gs w sl t q hS=>absurd hS ak
  |succ n ih=>
   intro f S c gs w sl t q hS m U;have h0:=m.oY;have J:=m.gh;have aB:0<gs.size:=(aP.1 h0).1
   have wL:∀g∈gs,awake g:=by
    intro g K;obtain⟨i,r,rfl⟩:=vI.1 K;rcases me i with rfl|hpos
    ·have:gs[0]=G fr cs:=by simpa[cw r]using h0
     rw[this];exact Gu (.inl rfl)
    ·exact Gu ((J.old i _ hpos (cw r)).status.elim .inl fun x=>.inr (.inr x))
   obtain⟨i,g,d,L,r,K,aC⟩:=Gy (P:=P) (w:=w) (sl:=sl) wL ⟨0,_,h0,rfl⟩;have z:=m.at d;rcases me i with rfl|hpos
   ·
    obtain rfl:g=G fr cs:=by rw[h0]at r;exact(dm r).symm
    obtain⟨v,s,u1,σ,Q,p,hs,l,hr⟩:=h f S c gs (w.at d) t q z (U.at d);have Z:=yj (P:=P) (sl:=L) (i:=0) r (show stepG P (0==0) (G fr cs) (w.at d)=_ from hs);have X:=lD 0 (G fr cs).frame.fn (G fr cs).frame.place p;have aF:(jq 0 (G fr cs).frame.fn (G fr cs).frame.place p).map (·.act)=p.map .ofEvent:=by rw[GC];simp[BA,BJ]
    have A:((gs.map (woken P (G fr cs) (G v s) Q)).setIfInBounds 0 (G v s)).size=gs.size:=aq
    obtain⟨N,E,T,R,H,F,O,I,D,xd,M,V,r1,r2,r3,r4,r5⟩:=hr f S σ ((gs.map (woken P (G fr cs) (G v s) Q)).setIfInBounds 0 (G v s)) Q L (t++jq 0 (G fr cs).frame.fn (G fr cs).frame.place p) q
     ⟨by simp[aB],l.top,l.below,l.world,l.whole,⟨fun j x o C=>by
      rw[dx ak,fj]at C;obtain⟨y,hy,rfl⟩:=ep.1 C;have B:=J.old j y o hy;rw[GJ B,nC t (g':=0) ak _ X];exact B,fun j o=>by
      rw[nC t (g':=0) (by rw[A]at o;omega) _ X];exact J.above j (by rw[A]at o;exact o)⟩,Rm z.past z.clear l.went (fun y b tB=>(l.world.lt y b tB).2) X (by rw[aF];exact Ay l.own),z.clear.went l.went,l.same,l.size,wG (by rw[A];exact m.fM) (by rw[A];exact aB) X,l.full⟩ ((U.at d).went l.went (.refl f _))
    refine⟨N+1,E,T,R,H,F,O,I,D,xd,M,V,by simp only[runNT,aC,Z];exact r1,r2,r3,(((eT.refl c w).at d).trans l.went).trans r4,fun a ha=>(r5 a ha).imp id fun e=>cS l.went.size e⟩
   ·
    have B:=J.old i g hpos r;have aH:(i==0)=false:=bK;have Y:i<gs.size:=(aP.1 r).1;cases tr:q i with
    |zero=>rw[tr]at B;rw[B.1]at K;cases K
    |succ k=>
     rw[tr]at B;rcases B with⟨hf,_⟩|⟨_,g',p,hm,tA,qx⟩
     ·rw[hf]at K;cases K
     have Z:=yj (P:=P) (sl:=L) (i:=i) r (by rw[aH];exact tA (w.at d));have A:((gs.map (woken P g g' (w.at d))).setIfInBounds i g').size=gs.size:=aq;have aQ:sumTo gs.size (upd q i k)+q i=sumTo gs.size q+k:=sumTo_upd q k id Y
     obtain⟨N,E,T,R,H,F,O,I,D,xd,M,V,r1,r2,r3,r4,r5⟩:=ih f S c ((gs.map (woken P g g' (w.at d))).setIfInBounds i g') (w.at d) L (t++jq i g.frame.fn g.frame.place p) (upd q i k) (by rw[A];omega)
      ⟨by
       have aI:i≠0:=ak;rw[dx aI,fj,h0];simp[woken_running (show(G fr cs).status=.running from rfl)],m.top,m.below,z.world,m.whole,⟨fun j x o C=>by
       by_cases W:i=j
       ·subst W;rw[xB (by simpa using Y)]at C;obtain rfl:=dm C;rw[gV,FN];exact qx
       ·rw[dx W,fj]at C;obtain⟨y,hy,rfl⟩:=ep.1 C;have uY:=J.old j y o hy;rw[GJ uY,iZ q k (cW W),nC t W _ (lD _ _ _ _)];exact uY,fun j o=>by
       rw[nC t (g':=i) (by simp at o;omega) _ (lD _ _ _ _)];exact J.above j (by simpa using o)⟩,z.past.mute ak hm,z.clear,m.same,z.size,wG (by rw[A];exact m.fM) (by rw[A];exact Y) (lD _ _ _ _),m.full⟩ (U.at d)
     exact⟨N+1,E,T,R,H,F,O,I,D,xd,M,V,by simp only[runNT,aC,Z];exact r1,r2,r3,((eT.refl c w).at d).trans r4,r5⟩
 exact fun f S c gs w sl t q m U=>key (sumTo gs.size q+1) f S c gs w sl t q ak m U
theorem Reach.ctl{dP}(h:∀w,stepG P true (G fr cs) w=.go (G dP cs) w)(c:∀b,XF b fr->XF b dP)(k:Reach P Post dP cs u):Reach P Post fr cs u:=
 haveI:aW:=bE []
 .one fun d S b gs w t q a _=>⟨dP,cs,u,b,w,#[],h w,⟨.refl b w,a.world,a.whole,a.same,a.size,aq,c b a.top,a.below,a.full⟩,k⟩
end
end
section
open Go.Conc
open Go.ConcN (ShN WgLive)
section
variable [aA] [aW] {P:aN} {main:Bool} {ty:aK} {Wg:Nat} {Stop:(Nat->Prop)->bw->an->Prop} {O:Nat->Prop} {g g':bw} {w:an} {b:aJ} {a:Act} {k:List gG} {cs:List aJ}
theorem sJ.refl(O w):sJ O w w:=⟨fun _ _ _=>rfl,aV _,rfl,rfl,rfl⟩
theorem gI.more{O' B B' x}(h:gI Wg O B x)(f:∀c,O c->O' c)(j:B<=B'):gI Wg O' B' x:=
 ⟨fun y l=>(h.touch y l).imp (fun⟨i,e,d⟩=>⟨i,e,f _ d⟩) fun h=>h.imp (fun⟨r,e,d⟩=>⟨r,e,f _ d⟩) id,h.marks,MemAct.low_mono j h.low,h.rel,h.JZ⟩
theorem CJ.quiet(m:g.status=.running)(h:∀d,Rel ty Wg O w d->∃f,stepG P main g d=.go g' d f/\∀e∈f,gI Wg O d.heap.size (.ofEvent e))(c:CJ P main ty Wg Stop O g' w):CJ P main ty Wg Stop O g w:=
 .one m fun d r=>by obtain⟨f,i,j⟩:=h d r;refine⟨g',d,_,.go i,.refl O d,fun x n=>?_,by rw[Iy];exact c.rely r⟩;obtain⟨e,l,rfl⟩:=mK.1 n;rw[Iy];exact j e l
theorem CJ.ctl(e:g.status=.running)(h:∀d,Rel ty Wg O w d->stepG P main g d=.go g' d)(c:CJ P main ty Wg Stop O g' w):CJ P main ty Wg Stop O g w:=
 .quiet e (fun d r=>⟨#[],h d r,aq⟩) c
theorem CJ.seq{x y}(c:CJ P main ty Wg Stop O (G (b.at a (.code x::.code y::k)) cs) w):CJ P main ty Wg Stop O (G (b.at a (.code (.seq x y)::k)) cs) w:=.ctl rfl (fun _ _=>stepG_seq) c
theorem CJ.skip(c:CJ P main ty Wg Stop O (G (b.at a k) cs) w):CJ P main ty Wg Stop O (G (b.at a (.code .skip::k)) cs) w:=.ctl rfl (fun _ _=>stepG_skip) c
theorem CJ.cond{x y z v}(hc:a.eval x=.bool v)(c:CJ P main ty Wg Stop O (G (b.at a (.code (if v then y else z)::k)) cs) w):CJ P main ty Wg Stop O (G (b.at a (.code (.cond x y z)::k)) cs) w:=.ctl rfl (fun _ _=>stepG_cond hc) c
theorem CJ.block{id x}(c:CJ P main ty Wg Stop O (G (b.at a (.code x::.inBlock id::k)) cs) w):CJ P main ty Wg Stop O (G (b.at a (.code (.block id x)::k)) cs) w:=.ctl rfl (fun _ _=>stepG_block) c
theorem CJ.inBlock{id}(c:CJ P main ty Wg Stop O (G (b.at a k) cs) w):CJ P main ty Wg Stop O (G (b.at a (.inBlock id::k)) cs) w:=.ctl rfl (fun _ _=>stepG_inBlock) c
theorem CJ.loop{x}(c:CJ P main ty Wg Stop O (G (b.at a (.code x::.inLoop x::k)) cs) w):CJ P main ty Wg Stop O (G (b.at a (.code (.loop x)::k)) cs) w:=.ctl rfl (fun _ _=>stepG_loop) c
theorem CJ.inLoop{x}(c:CJ P main ty Wg Stop O (G (b.at a (.code x::.inLoop x::k)) cs) w):CJ P main ty Wg Stop O (G (b.at a (.inLoop x::k)) cs) w:=.ctl rfl (fun _ _=>stepG_inLoop) c
theorem CJ.exit{id k'}(d:exitTo id k=some k')(c:CJ P main ty Wg Stop O (G (b.at a k') cs) w):CJ P main ty Wg Stop O (G (b.at a (.code (.exit id)::k)) cs) w:=.ctl rfl (fun _ _=>stepG_exit d) c
theorem CJ.region{id ops}(c:CJ P main ty Wg Stop O (G (b.at a (.inRegion ops (dM ops.size)::k)) cs) w):CJ P main ty Wg Stop O (G (b.at a (.code (.region id ops false)::k)) cs) w:=.ctl rfl (fun _ _=>stepG_region) c
theorem CJ.regionEnd{ops}(c:CJ P main ty Wg Stop O (G (b.at a k) cs) w):CJ P main ty Wg Stop O (G (b.at a (.inRegion ops []::k)) cs) w:=.ctl rfl (fun _ _=>cy) c
theorem CJ.ret(c:CJ P main ty Wg Stop O (G {b.at a (.code .ret::k)with mode:=.returning} cs) w):CJ P main ty Wg Stop O (G (b.at a (.code .ret::k)) cs) w:=.ctl rfl (fun _ _=>stepG_ret') c
theorem CJ.end_(c:CJ P main ty Wg Stop O (G {b.at a []with mode:=.returning} cs) w):CJ P main ty Wg Stop O (G (b.at a []) cs) w:=.ctl rfl (fun _ _=>stepG_end) c
theorem CJ.unwanted{ops i rest o}(d:ops[i]? =some o)(e:cL o (yielded ops a.tmps)=false)(c:CJ P main ty Wg Stop O (G (b.at (a.put o.dst undef) (.inRegion ops rest::k)) cs) w):CJ P main ty Wg Stop O (G (b.at a (.inRegion ops (i::rest)::k)) cs) w:=.ctl rfl (fun _ _=>stepG_unwanted d e) c
theorem vg{fn o e}(h:e∈listed P fn a o w):e∈(execOp a.eval o).events P w #[]:=pX h
theorem CJ.op{ops i rest o}(v)(l:ops[i]? =some o)(m:cL o (yielded ops a.tmps)=true)(j:b.kind≠.early)(hr:∀d,Rel ty Wg O w d->(execOp a.eval o).run P d=.ok (.value v) d)(f:∀d,Rel ty Wg O w d->∀e∈(execOp a.eval o).events P d #[],gI Wg O d.heap.size (.ofEvent e))(c:CJ P main ty Wg Stop O (G (b.at (a.put o.dst v) (.inRegion ops rest::k)) cs) w):CJ P main ty Wg Stop O (G (b.at a (.inRegion ops (i::rest)::k)) cs) w:=
 .quiet rfl (fun d r=>⟨_,Ai l m j (hr d r),fun e h=>f d r e (vg h)⟩) c
theorem CJ.make{ops i rest o}(v:Nat->au)(x:Obj)(n:ops[i]? =some o)(p:cL o (yielded ops a.tmps)=true)(m:b.kind≠.early)(hr:∀d,Rel ty Wg O w d->(execOp a.eval o).run P d=.ok (.value (v d.heap.size)) {d with heap:=d.heap.push x}) (l:∀d,Rel ty Wg O w d->∀e∈(execOp a.eval o).events P d #[],gI Wg (fun c=>O c\/c=d.heap.size) (d.heap.size+1) (.ofEvent e)) (c:∀d,Rel ty Wg O w d->CJ P main ty Wg Stop (fun c=>O c\/c=d.heap.size) (G (b.at (a.put o.dst (v d.heap.size)) (.inRegion ops rest::k)) cs) {d with heap:=d.heap.push x}):CJ P main ty Wg Stop O (G (b.at a (.inRegion ops (i::rest)::k)) cs) w:=
 .one rfl fun d r=>by
  have f:eB O d {d with heap:=d.heap.push x}=fun c=>O c\/c=d.heap.size:=by
   funext y
   apply propext;show(O y\/(d.heap.size<=y/\y<(d.heap.push x).size))↔_;rw[Ls];constructor
   ·rintro(h|h)
    ·exact .inl h
    ·exact .inr ak
   ·rintro(h|h)
    ·exact .inl h
    ·exact .inr ak
  refine⟨_,_,_,.go (Ai n p m (hr d r)),⟨fun y j _=>?_,aq,rfl,rfl,rfl⟩,fun y j=>?_,by rw[f];exact c d r⟩
  ·show(d.heap.push x)[y]? =_;rw[eN,aD ak]
  ·obtain⟨e,h,rfl⟩:=mK.1 j;rw[f];have:=l d r e (vg h);simpa using this
theorem CJ.enter{ops i rest o f args}(m:ops[i]? =some o)(n:cL o (yielded ops a.tmps)=true)(l:b.kind≠.early)(hr:∀d,Rel ty Wg O w d->(execOp a.eval o).run P d=.ok (.enter f args) d)(j:∀d,Rel ty Wg O w d->∀e∈(execOp a.eval o).events P d #[],gI Wg O d.heap.size (.ofEvent e))(c:CJ P main ty Wg Stop O (G (Frame.enter P f args .normal) (b.at a (.inRegion ops (i::rest)::k)::cs)) w):CJ P main ty Wg Stop O (G (b.at a (.inRegion ops (i::rest)::k)) cs) w:=
 .quiet rfl (fun d r=>⟨_,stepG_enter m n l (hr d r),fun e h=>j d r e (vg h)⟩) c
theorem CJ.call{ops i rest o f fn args ats}(n:ops[i]? =some o)(p:cL o (yielded ops a.tmps)=true)(m:b.kind≠.early)(l:o.op=.call {callee:=.value (.func f),args,argTypes:=ats}) (hf:P.funcs[f]? =some fn) (j:(fn.name== "runtime.NumGoroutine")=false) (d:fn.body.isNone=false) (c:CJ P main ty Wg Stop O (G (Frame.enter P f (args.map a.eval) .normal) (b.at a (.inRegion ops (i::rest)::k)::cs)) w):CJ P main ty Wg Stop O (G (b.at a (.inRegion ops (i::rest)::k)) cs) w:=
 .enter n p m (fun _ _=>MB l hf j d) (fun _ _ e h=>by rw[Mz l hf j d]at h;simp at h) c
theorem adA{fr c fn}(hm:fr.mode=.returning)(f:fr.defers=[])(h:fr.kind=.normal)(hf:P.funcs[fr.fn]? =some fn)(hr:fn.results=#[])(w):
  stepG P main (G fr (c::cs)) w=.go (G (c.finish (.tuple #[])) cs) w:=by
 have d:(results fn fr.tmps).run P w=.ok (.tuple #[]) w:=by simp[results,hr]
 have e:(results fn fr.tmps).events P w #[]=#[]:=events_results_none hr _ _;simp[G,stepG,unwind,doReturn,hm,f,h,hf,d,e,seen,jo]
theorem CJ.leave{fr c fn}(hm:fr.mode=.returning)(d:fr.defers=[])(e:fr.kind=.normal)(hf:P.funcs[fr.fn]? =some fn)(hr:fn.results=#[])(k:CJ P main ty Wg Stop O (G (c.finish (.tuple #[])) cs) w):CJ P main ty Wg Stop O (G fr (c::cs)) w:=
 .ctl rfl (fun f _=>adA hm d e hf hr f) k
theorem CJ.frame{X:Nat->Prop}{w0:an}(h:CJ P main ty Wg Stop O g w):(∀b,X b->b<w.heap.size/\¬O b/\w.heap[b]? =w0.heap[b]?)->¬O Wg->WgLive ty Wg w->
  CJ P main ty Wg (fun z g w=>∃m,Stop m g w/\z=(fun b=>m b\/X b)/\(∀b,X b->w.heap[b]? =w0.heap[b]?)/\¬m Wg/\WgLive ty Wg w) (fun b=>O b\/X b) g w:=by
 have p:∀{O:Nat->Prop} {w d:an},Rel ty Wg (fun b=>O b\/X b) w d->Rel ty Wg O w d:=fun r=>⟨fun b e=>r.own b (.inl e),r.size,r.live,r.os⟩;induction h with
 |@stop O g w h=>
  intro n i o;exact .stop fun d r=>⟨O,h d (p r),rfl,fun b e=>(r.own b (.inr e)).trans (n b e).2.2,i,r.live o⟩
 |@step O g w D h k H=>
  intro n i o;refine .one D fun d r=>?_;obtain⟨g',l,q,s,f,A⟩:=h d (p r);have v:=r.live o
  have E:Wg<d.heap.size:=by obtain⟨st,x,j⟩:=v;unfold LJ at j;exact(aP.1 j).1
  have t:eB (fun b=>O b\/X b) d l=fun b=>eB O d l b\/X b:=by
   funext b
   apply propext;constructor
   ·rintro((h|h)|h)
    ·exact .inl (.inl h)
    ·exact .inr h
    ·exact .inl (.inr h)
   ·rintro((h|h)|h)
    ·exact .inl (.inl h)
    ·exact .inr h
    ·exact .inl (.inr h)
  refine⟨g',l,q,s,⟨fun b e F=>f.bU b e fun G=>F (.inl G),f.size,f.os,f.output,f.tape⟩,fun a B=>?_,?_⟩
  ·rw[t];exact(A a B).more (fun c C=>.inl C) (aV _)
  ·rw[t];refine H d g' l q (p r) s (fun b e=>?_) ?_ ?_
   ·obtain⟨I,y,J⟩:=n b e;have u:b<d.heap.size:=cV I r.size;refine⟨cV u f.size,?_,(f.bU b u y).trans ((r.own b (.inr e)).trans J)⟩;rintro(h|h)
    ·exact y h
    ·omega
   ·rintro(h|h)
    ·exact i h
    ·omega
   ·obtain⟨st,x,j⟩:=v;exact⟨st,x,(f.bU Wg E i).trans j⟩
end
end
section
open Go.Conc
open Go.ConcN (WgLive)
section
variable [aA] [aW] {P:aN} {ρ:Ren} {A:Nat->Prop} {w:an}
def dL(A:Nat->Prop):Ren:=fun a b=>a=b/\A b
def mask(A:Nat->Prop)[DecidablePred A](w:an):an:={w with heap:=Array.ofFn fun i:Fin w.heap.size=>if A i.1 then w.heap[i.1]else bG}
theorem vh[DecidablePred A]:(mask A w).heap.size=w.heap.size:=by simp[mask]
theorem nX[DecidablePred A]{b}(h:A b):(mask A w).heap[b]? =w.heap[b]? :=by
 unfold mask
 by_cases a:b<w.heap.size
 ·simp[a,h]
 ·simp[a]
theorem Ek[DecidablePred A]{b}(h:¬A b)(a:b<w.heap.size):(mask A w).heap[b]? =some bG:=by unfold mask;simp[a,h]
def Closed(A:Nat->Prop)(w:an):Prop:=∀b,A b->∃o,w.heap[b]? =some o/\OR (dL A) o o
theorem TM[DecidablePred A](i:P=aA.prog)(hc:Closed A w)(j:P.globals.size<=w.heap.size):eK P (dL A) (mask A w) w:=by
 refine⟨⟨fun a b m h e=>h.1.symm.trans e.1,fun a l b h e=>h.1.trans e.1.symm⟩,?_,?_,?_,by rw[vh];exact j,?_,rfl,i⟩
 ·rintro a b ⟨rfl,h⟩;obtain⟨o,c,_⟩:=hc a h;have:=(aP.1 c).1;rw[vh];exact⟨this,this⟩
 ·rintro a b o ⟨rfl,h⟩ c;rw[nX h]at c;obtain⟨k,d,f⟩:=hc a h;rw[d]at c;obtain rfl:=dm c;exact .inr ⟨_,d,f⟩
 ·rintro a b ⟨rfl,_⟩ h;exact h
 ·rintro a b ⟨rfl,h⟩ g;rw[nX h]at g;obtain⟨k,d,f⟩:=hc a h;rw[d]at g;cases g;exact absurd rfl (fO f)
theorem TF[DecidablePred A](hc:Closed A w):Whole (fun _=>False) (dL A) (mask A w):=by refine⟨?_,fun b h=>h.elim⟩;rintro a b ⟨rfl,h⟩;obtain⟨e,c,d⟩:=hc a h;exact .inl ⟨id,e,by rw[nX h];exact c,fO d⟩
theorem Az{x a:Array au}(e:a.size=x.size)(h:∀(i:Nat) v b,x[i]? =some v->a[i]? =some b->v=b):x=a:=by apply xy e.symm;intro i c d;exact h i _ _ (cw c) (cw d)
theorem VR.eq(j:∀a b,ρ a b->a=b){v q:au}(h:VR ρ v q):v=q:=by
 have k:∀{a i:Addr},AR ρ a i->a=i:=fun{a i} h=>by obtain⟨r,n,o⟩:=h;obtain⟨x,y,z⟩:=a;obtain⟨C,D,E⟩:=i;have p:=j _ _ r;simp only at n o p;rw[n,o,p]
 induction h with
 |ptr h=>rw[k h]
 |slice l c h=>rw[k h]
 |map h=>rw[j _ _ h]
 |chan h=>rw[j _ _ h]
 |func h d _ s _ u B=>
  have e:∀{f m:Fn},FR ρ f m->f=m:=fun h=>by
   cases h with
   |func f _=>rfl
   |yield h=>rw[j _ _ h]
  rw[e h,Az d u,Az s B]
 |iface t _ g=>rw[g]
 |agg d _ g=>rw[Az d g]
 |tuple d _ g=>rw[Az d g]
 |_=>rfl
theorem bf.eq(d:∀a b,ρ a b->a=b){x c:Array au}(h:bf ρ x c):x=c:=Az h.1 fun i v e a b=>(h.2 i v e a b).eq d
def Ren.im(ρ:Ren):Nat->Prop:=fun b=>∃a,ρ a b
theorem AR.right{a a'}(h:AR ρ a a'):AR (dL ρ.im) a' a':=⟨⟨rfl,_,h.1⟩,rfl,rfl⟩
theorem FR.right{f f'}(h:FR ρ f f'):FR (dL ρ.im) f' f':=by
 cases h with
 |func f a=>exact .func f a
 |yield h=>exact .yield ⟨rfl,_,h⟩
theorem Be{x b:Array au}(e:b.size=x.size)(h:∀(i:Nat) v a,x[i]? =some v->b[i]? =some a->VR (dL ρ.im) a a):∀(i:Nat) v a,b[i]? =some v->b[i]? =some a->VR (dL ρ.im) v a:=fun i v a c d=>by grind
theorem VR.right{v e:au}(h:VR ρ v e):VR (dL ρ.im) e e:=by
 induction h with
 |bool b=>exact .bool b
 |int k n=>exact .int k n
 |string s=>exact .string s
 |gi=>exact .gi
 |ptr h=>exact .ptr h.right
 |fJ l c=>exact .fJ l c
 |slice l c h=>exact .slice l c h.right
 |lS=>exact .lS
 |map h=>exact .map ⟨rfl,_,h⟩
 |mW=>exact .mW
 |chan h=>exact .chan ⟨rfl,_,h⟩
 |func h a _ f _ g i=>exact .func h.right rfl (Be a g) rfl (Be f i)
 |nilFunc=>exact .nilFunc
 |iface t _ d=>exact .iface t d
 |nilIface=>exact .nilIface
 |agg a _ d=>exact .agg rfl (Be a d)
 |tuple a _ d=>exact .tuple rfl (Be a d)
theorem bf.right{x c:Array au}(h:bf ρ x c):bf (dL ρ.im) c c:=⟨rfl,Be h.1 fun i v d a b=>(h.2 i v d a b).right⟩
theorem OR.right{o o'}(h:OR ρ o o'):OR (dL ρ.im) o' o':=by
 cases h with
 |cells t m h=>exact .cells t m h.right
 |@map x F c h=>
  refine .map c ⟨rfl,fun i e D f g=>?_⟩;rw[f]at g;cases g;obtain⟨B,C,_⟩:=h.2 i _ _ (cw (h.1▸(aP.1 f).1)) f;exact⟨B.right,C.right,rfl⟩
 |chan j k s r t=>exact .chan j k s r t
 |loop h0 f g n p E q u v=>
  obtain⟨a,b,c,d⟩:=h0;exact .loop ⟨n▸a,q▸b,u▸c,fun x z=>d x (g▸z)⟩ rfl rfl rfl p.right rfl rfl rfl ⟨rfl,_,v⟩
 |uQ=>exact .uQ
 |rz=>exact .rz
 |number l h=>exact .number l h.right
 |view t y h=>exact .view t y h.right
theorem Qd{A B}(h:∀b,A b->B b):(dL A).le (dL B):=fun a b c=>⟨c.1,h b c.2⟩
theorem eK.closed{u}(h:eK P ρ u w)(d:Whole (fun _=>False) ρ u):Closed ρ.im w:=by
 rintro b ⟨a,c⟩;rcases d.all a b c with⟨_,o,i,g⟩|⟨f,_⟩
 ·rcases h.obj a b o c i with e|⟨l,j,k⟩
  ·exact absurd e g
  ·exact⟨l,j,k.right⟩
 ·exact f.elim
end
end
section
open Go.Conc
open Go.ConcN (ShN WgLive)
def rf(l:Nat)(b:aJ)(a:Act)(todo:List gG):aJ:={b.at a todo with roundOf:=some l}
section
variable {P:aN} {main:Bool} {w:an} {b:aJ} {a:Act} {k:List gG} {cs:List aJ} {l:Nat}
theorem aam{x y}:stepG P main (G (rf l b a (.code (.seq x y)::k)) cs) w=.go (G (rf l b a (.code x::.code y::k)) cs) w:=by simp[G,stepG,gv,rf,Frame.at]
theorem aaf{id x}:stepG P main (G (rf l b a (.code (.block id x)::k)) cs) w=.go (G (rf l b a (.code x::.inBlock id::k)) cs) w:=by simp[G,stepG,gv,rf,Frame.at]
theorem aai{id}:stepG P main (G (rf l b a (.inBlock id::k)) cs) w=.go (G (rf l b a k) cs) w:=by simp[G,stepG,gv,rf,Frame.at]
theorem aak{id ops}:stepG P main (G (rf l b a (.code (.region id ops false)::k)) cs) w=.go (G (rf l b a (.inRegion ops (dM ops.size)::k)) cs) w:=by simp[G,stepG,gv,rf,Frame.at]
theorem aal{ops}:stepG P main (G (rf l b a (.inRegion ops []::k)) cs) w=.go (G (rf l b a k) cs) w:=by simp[G,stepG,gv,rf,Frame.at]
theorem EK(ops i rest v):(rf l b a (.inRegion ops (i::rest)::k)).finish v=rf l b (a.put ((ops[i]?).bind (·.dst)) v) (.inRegion ops rest::k):=by cases h:(ops[i]?).bind (·.dst)<;>simp[Frame.finish,rf,Frame.at,Act.put,h]
theorem EL{ops i rest o}(d:ops[i]? =some o)(n:cL o (yielded ops a.tmps)=true)(f:∀c,o.op≠.defer c):
  stepG P main (G (rf l b a (.inRegion ops (i::rest)::k)) cs) w=stepG.apply P true (rf l b a (.inRegion ops (i::rest)::k)) cs none (execOp a.eval o) w:=by
 have h:(rf l b a (.inRegion ops (i::rest)::k)).eval=a.eval:=by
  rw[<-(Frame.eval_at' b a (.inRegion ops (i::rest)::k))]
  funext x
  cases x<;>rfl
 have m:(rf l b a (.inRegion ops (i::rest)::k)).oper?=some o:=by simp[Frame.oper?,rf,Frame.at,d]
 have e:stepG P main (G (rf l b a (.inRegion ops (i::rest)::k)) cs) w=Im P true (rf l b a (.inRegion ops (i::rest)::k)) cs none w:=by simp[G,stepG,gv,rf,Frame.at,d,n]
 rw[e];unfold Im;rw[m];simp only;have hr:(rf l b a (.inRegion ops (i::rest)::k)).roundOf=some l:=rfl;rw[hr,h];cases j:o.op with
 |defer c=>exact absurd j (f c)
 |_=>rfl
theorem RL{ops i rest o v w'}(d:ops[i]? =some o)(m:cL o (yielded ops a.tmps)=true)(e:∀c,o.op≠.defer c)(h:b.kind≠.early)(hr:(execOp a.eval o).run P w=.ok (.value v) w'):
  stepG P main (G (rf l b a (.inRegion ops (i::rest)::k)) cs) w=.go (G (rf l b (a.put o.dst v) (.inRegion ops rest::k)) cs) w' (listed P b.fn a o w):=by
 have f:(rf l b a (.inRegion ops (i::rest)::k)).finish v=rf l b (a.put o.dst v) (.inRegion ops rest::k):=by rw[EK,d];rfl
 have j:(b.kind==vL)=false:=by simpa using h
 rw[EL d m e,<-f];simp[stepG.apply,hr,G,rf,Frame.at,j,jo,listed]
theorem aaj{ops i rest o w'}(d:ops[i]? =some o)(m:cL o (yielded ops a.tmps)=true)(e:∀c,o.op≠.defer c)(h:b.kind≠.early)(hr:(execOp a.eval o).run P w=.ok .skip w'):
  stepG P main (G (rf l b a (.inRegion ops (i::rest)::k)) cs) w=.go (G (rf l b (a.put o.dst undef) (.inRegion ops rest::k)) cs) w' (listed P b.fn a o w):=by
 have f:(rf l b a (.inRegion ops (i::rest)::k)).finish undef=rf l b (a.put o.dst undef) (.inRegion ops rest::k):=by rw[EK,d];rfl
 have j:(b.kind==vL)=false:=by simpa using h
 rw[EL d m e,<-f];simp[stepG.apply,hr,G,rf,Frame.at,j,jo,listed]
theorem aah{ops i rest o f args w'}(h:ops[i]? =some o)(j:cL o (yielded ops a.tmps)=true)(d:∀c,o.op≠.defer c)(m:b.kind≠.early)(hr:(execOp a.eval o).run P w=.ok (.enter f args) w'):
  stepG P main (G (rf l b a (.inRegion ops (i::rest)::k)) cs) w=.go (G (Frame.enter P f args .normal) (rf l b a (.inRegion ops (i::rest)::k)::cs)) w' (listed P b.fn a o w):=by
 have e:(b.kind==vL)=false:=by grind
 rw[EL h j d];simp[stepG.apply,hr,G,rf,Frame.at,e,jo,listed]
theorem aan{ops i rest o d w' f c}(e:ops[i]? =some o)(q:cL o (yielded ops a.tmps)=true)(p:∀c,o.op≠.defer c)(m:b.kind≠.early)(hr:(execOp a.eval o).run P w=.ok (.spawn d) w')(h:d.target=.fn f c):
  stepG P main (G (rf l b a (.inRegion ops (i::rest)::k)) cs) w=.spawn (G (rf l b (a.put o.dst undef) (.inRegion ops rest::k)) cs) (born P d) w' (listed P b.fn a o w):=by
 have j:(rf l b a (.inRegion ops (i::rest)::k)).finish undef=rf l b (a.put o.dst undef) (.inRegion ops rest::k):=by rw[EK,e];rfl
 have n:(b.kind==vL)=false:=by simpa using m
 rw[EL e q p,<-j];simp[stepG.apply,hr,G,rf,Frame.at,n,jo,listed,born,h]
def fA(w:an)(l:Nat)(r:Loop):an:={w with heap:=w.heap.setIfInBounds l (.loop r)}
def jG(l:Nat):Array Event:=#[⟨.obj l,false,false⟩,⟨.obj l,true,false⟩]
theorem Ko(f)(hf:((P.funcs[f]?).any (·.norace))=false):seen P f (jG l)=jG l:=by
 cases h:P.funcs[f]? with
 |none=>simp[seen,jG,h]
 |some c=>
  rw[h]at hf;have:c.norace=false:=by grind
  simp[seen,jG,h,this]
theorem aae{r}(i:b.kind≠.early)(hf:((P.funcs[b.fn]?).any (·.norace))=false)(m:w.heap[l]? =some (.loop r))(hr:r.state=.ready):
  stepG P main (G (rf l b a (.beginRound::k)) cs) w=.go (G (rf l b a k) cs) (fA w l {r with state:=.busy}) (jG l):=by
 have j:(b.kind==vL)=false:=by simpa using i
 have c:(do zM l;pure Next.skip:Sem Next).runT P w #[]=(.ok .skip (fA w l {r with state:=.busy}),jG l):=by simp only[zM,tV,getObj,setObj,bind,cA,pure,cX,m,hr];rfl
 have d:stepG P main (G (rf l b a (.beginRound::k)) cs) w=stepG.apply P true (rf l b a (.beginRound::k)) cs none (do zM l;pure Next.skip) w:=by simp[G,stepG,gv,rf,Frame.at]
 rw[d];unfold stepG.apply;simp only[cD];rw[c];have e:((rf l b a (.beginRound::k)).kind==vL)=false:=j;have f:(rf l b a (.beginRound::k)).finish undef=rf l b a k:=rfl;simp only[e,f,eA,dy];have h:seen P (rf l b a (.beginRound::k)).fn (jG l)=jG l:=Ko _ hf;rw[h];simp[jo,G]
theorem aag{r c}(f:b.kind=.normal)(hf:((P.funcs[b.fn]?).any (·.norace))=false)(h:w.heap[l]? =some (.loop r)):
  stepG P main (G (rf l b a []) (c::cs)) w=.go (G (c.finish (.bool true)) cs) (fA w l {r with state:=.ready,pending:=none}) (jG l):=by
 have d:(rU l none).runT P w #[]=(.ok (.bool true) (fA w l {r with state:=.ready,pending:=none}),jG l):=by simp only[rU,tV,getObj,setObj,bind,cA,pure,cX,h];rfl
 have e:seen P b.fn (jG l)=jG l:=Ko _ hf;simp only[G,stepG,gv,rf,Frame.at,d];simp[doReturn,f,e,jo]
theorem adC{r}(hf:((P.funcs[b.fn]?).any (·.norace))=false)(e:w.heap[l]? =some (.loop r))(hr:r.state=.ready)(f:r.pending=none):
  stepG P main (G (b.at a (.endRangeFunc l::k)) cs) w=.go (G (b.at a k) cs) (fA w l {r with state:=.exhausted}) (jG l):=by
 have c:(xH l).runT P w #[]=(.ok none (fA w l {r with state:=.exhausted}),jG l):=by have h:(LoopState.ready==LoopState.busy)=false:=cq;simp only[xH,tV,getObj,setObj,bind,cA,pure,cX,e,hr,f,h,eA,dy];rfl
 have d:seen P b.fn (jG l)=jG l:=Ko _ hf;simp only[G,stepG,gv,Frame.at,c];simp[d,jo]
def lz(b:aJ)(a:Act)(ps:Array Tmp)(jX bd:Code)(D:Nat)(st:LoopState):Loop:={state:=st,pending:=none,fn:=b.fn,tmps:=a.tmps,params:=ps,assign:=jX,body:=bd,defers:=D}
def mS(w:an)(r:Loop):an:={w with heap:=(w.heap.push (.deferred (some []))).push (.loop r)}
theorem adB{g ps jX bd f fn caps}(t:b.kind≠.early)(s:a.eval g=.func (.func f) #[] caps)(r:P.funcs[f]? =some fn)(z:(fn.name== "runtime.NumGoroutine")=false)(i:fn.body.isNone=false):
  stepG P main (G (b.at a (.code (.rangeFunc g ps jX bd)::k)) cs) w=
   .go (G (Frame.enter P f (#[.func (.yield (w.heap.size+1)) #[] #[]]++caps) .normal) (b.at ⟨a.tmps,{target:=.collected w.heap.size,args:=#[]}::a.defers⟩ (.inRangeFunc (w.heap.size+1)::k)::cs)) (mS w (lz b a ps jX bd w.heap.size .ready)):=by
 have n:(xI b.fn a.tmps ps jX bd none).runT P w #[]=(.ok (w.heap.size+1,[{target:=.collected w.heap.size,args:=#[]}]) (mS w (lz b a ps jX bd w.heap.size .ready)),#[]):=by simp only[xI,newObj,bind,cA,pure,cX,Ls];rfl
 have v:¬fn.name= "runtime.NumGoroutine" :=by simpa using z
 obtain⟨c,q⟩:∃c,fn.body=some c:=by
  cases h:fn.body with
  |none=>rw[h]at i;cases i
  |some c=>exact⟨c,rfl⟩
 have o:∀(W:an) (y:au),(do let d <-resolve a.eval {callee:=.value g,args:=#[.const y],argTypes:=#[]} 0;invoke d.target d.args:Sem Next).runT P W #[]=(.ok (.enter f (#[y]++caps)) W,#[]):=fun W y=>by have p:a.eval (.const y)=y:=rfl;simp[resolve,Deferred.ofValue,s,p,invoke,callFunc,r,v,q]
 have j:∀m e,({b.at a (.code (.rangeFunc g ps jX bd)::k)with todo:=m,defers:=e}:aJ).eval=a.eval:=fun m e=>by
  funext x
  cases x<;>rfl
 have u:(b.kind==vL)=false:=by simpa using t
 simp only[G,stepG,gv,Frame.at]at j⊢;simp only[n,seen_none];unfold stepG.apply;simp only[cD,j,o,u,eA,dy,seen_none,jo];rfl
theorem adD{ops i rest o f tmps jX bd w'}(d:ops[i]? =some o)(e:cL o (yielded ops a.tmps)=true)(h:b.kind≠.early)(hr:(execOp a.eval o).run P w=.ok (.round l f tmps jX bd) w'):
  stepG P main (G (b.at a (.inRegion ops (i::rest)::k)) cs) w=.go (G (rf l {(default:aJ)with fn:=f,kind:=.normal} ⟨tmps,[]⟩ [.code jX,.beginRound,.code bd]) (b.at a (.inRegion ops (i::rest)::k)::cs)) w' (listed P b.fn a o w):=by
 have c:(b.kind==vL)=false:=by grind
 rw[stepG_oper d e];simp[stepG.apply,hr,G,Frame.at,c,jo,listed,rf,Frame.round]
end
section
variable [aA] [aW] {P:aN} {main:Bool} {ty:aK} {Wg:Nat} {Stop:(Nat->Prop)->bw->an->Prop} {O:Nat->Prop} {w:an} {b:aJ} {a:Act} {k:List gG} {cs:List aJ} {l:Nat} {g:bw}
theorem GW{n}(h:O l)(d:l<n)(wr):gI Wg O n (.ofEvent ⟨.obj l,wr,false⟩):=by refine⟨fun x c=>?_,by cases wr<;>simp[cI],by cases wr<;>exact d,fun _=>by cases wr<;>simp[cI],fun _=>by cases wr<;>simp[cI]⟩;cases wr<;>simp[cI,MemAct.touch?]at c<;>(subst c;exact .inr (.inl ⟨l,rfl,h⟩))
theorem VA{n}(h:O l)(d:l<n):∀e∈jG l,gI Wg O n (.ofEvent e):=fun e c=>by
 simp only[jG,gK,mL,BY,or_false]at c;rcases c with rfl|rfl
 ·exact GW h d false
 ·exact GW h d true
theorem pK{r i}(h:i≠l):(fA w l r).heap[i]? =w.heap[i]? :=dx (cW h)
theorem V3{r}(h:l<w.heap.size):(fA w l r).heap[l]? =some (.loop r):=by show(w.heap.setIfInBounds l (.loop r))[l]? =_;simp[h]
theorem wX{r}:(fA w l r).heap.size=w.heap.size:=by simp[fA]
theorem CJ.fA{g' r}(n:g.status=.running)(j:O l)(o:l<w.heap.size)(h:∀d,Rel ty Wg O w d->stepG P main g d=.go g' (Go.Proofs.YtpobhljcainmdaaGreat.fA d l r) (jG l))(c:∀d,Rel ty Wg O w d->CJ P main ty Wg Stop O g' (Go.Proofs.YtpobhljcainmdaaGreat.fA d l r)):CJ P main ty Wg Stop O g w:=
 .one n fun d f=>by have i:eB O d (Go.Proofs.YtpobhljcainmdaaGreat.fA d l r)=O:=DL wX;refine⟨g',_,_,.go (h d f),⟨fun b s p=>pK fun e=>p (e▸j),by rw[wX];exact aV _,rfl,rfl,rfl⟩,fun x q=>?_,by rw[i];exact c d f⟩;obtain⟨e,m,rfl⟩:=mK.1 q;rw[i,wX];exact VA j (cV o f.size) e m
theorem CJ.leave1{c fn t todo}(e:b.kind=.normal)(d:a.defers=[])(hf:P.funcs[b.fn]? =some fn)(hr:fn.results=#[.tmp t])(k:CJ P main ty Wg Stop O (G (c.finish (a.tmps.getD t undef)) cs) w):CJ P main ty Wg Stop O (G {b.at a todo with mode:=.returning} (c::cs)) w:=
 .ctl rfl (fun f _=>stepG_leave e d hf (by simp[results,hr]) (events_results_tmp hr _ _)) k
theorem yF{r i}(h:i<w.heap.size):(mS w r).heap[i]? =w.heap[i]? :=by show((w.heap.push _).push _)[i]? =_;rw[eN,aD bK,eN,aD ak]
theorem We{r}:(mS w r).heap[w.heap.size]? =some (.deferred (some [])):=by show((w.heap.push _).push _)[w.heap.size]? =_;rw[eN,aD aq,eN,aM rfl]
theorem Wf{r}:(mS w r).heap[w.heap.size+1]? =some (.loop r):=by show((w.heap.push _).push _)[w.heap.size+1]? =_;rw[eN,aM aq]
theorem CZ{r}:(mS w r).heap.size=w.heap.size+2:=by simp[mS]
theorem CJ.E1{x ps jX bd f fn caps}(o:b.kind≠.early)(n:a.eval x=.func (.func f) #[] caps)(m:P.funcs[f]? =some fn)(p:(fn.name== "runtime.NumGoroutine")=false)(j:fn.body.isNone=false)(c:∀d,Rel ty Wg O w d->CJ P main ty Wg Stop (fun c=>O c\/c=d.heap.size\/c=d.heap.size+1) (G (Frame.enter P f (#[.func (.yield (d.heap.size+1)) #[] #[]]++caps) .normal) (b.at ⟨a.tmps,{target:=.collected d.heap.size,args:=#[]}::a.defers⟩ (.inRangeFunc (d.heap.size+1)::k)::cs)) (mS d (lz b a ps jX bd d.heap.size .ready))):
  CJ P main ty Wg Stop O (G (b.at a (.code (.rangeFunc x ps jX bd)::k)) cs) w:=
 .one rfl fun d r=>by
  have i:eB O d (mS d (lz b a ps jX bd d.heap.size .ready))=fun c=>O c\/c=d.heap.size\/c=d.heap.size+1:=by
   funext y
   apply propext;show(O y\/(d.heap.size<=y/\y<(mS d _).heap.size))↔_;rw[CZ];constructor
   ·rintro(h|h)
    ·exact .inl h
    ·exact .inr ak
   ·rintro(h|h)
    ·exact .inl h
    ·exact .inr ak
  refine⟨_,_,_,.go (adB o n m p j),⟨fun y e _=>yF e,by rw[CZ];omega,rfl,rfl,rfl⟩,fun y e=>by simp at e,by rw[i];exact c d r⟩
theorem CJ.round{ops i rest o f tmps jX bd}(n:ops[i]? =some o)(p:cL o (yielded ops a.tmps)=true)(m:b.kind≠.early)(hr:∀d,Rel ty Wg O w d->(execOp a.eval o).run P d=.ok (.round l f tmps jX bd) d)(j:∀d,Rel ty Wg O w d->∀e∈(execOp a.eval o).events P d #[],gI Wg O d.heap.size (.ofEvent e))(c:CJ P main ty Wg Stop O (G (rf l {(default:aJ)with fn:=f,kind:=.normal} ⟨tmps,[]⟩ [.code jX,.beginRound,.code bd]) (b.at a (.inRegion ops (i::rest)::k)::cs)) w):CJ P main ty Wg Stop O (G (b.at a (.inRegion ops (i::rest)::k)) cs) w:=
 .quiet rfl (fun d r=>⟨_,adD n p m (hr d r),fun e h=>j d r e (vg h)⟩) c
theorem CJ.aav{x y}(c:CJ P main ty Wg Stop O (G (rf l b a (.code x::.code y::k)) cs) w):CJ P main ty Wg Stop O (G (rf l b a (.code (.seq x y)::k)) cs) w:=.ctl rfl (fun _ _=>aam) c
theorem CJ.V8{id x}(c:CJ P main ty Wg Stop O (G (rf l b a (.code x::.inBlock id::k)) cs) w):CJ P main ty Wg Stop O (G (rf l b a (.code (.block id x)::k)) cs) w:=.ctl rfl (fun _ _=>aaf) c
theorem CJ.aao{id}(c:CJ P main ty Wg Stop O (G (rf l b a k) cs) w):CJ P main ty Wg Stop O (G (rf l b a (.inBlock id::k)) cs) w:=.ctl rfl (fun _ _=>aai) c
theorem CJ.Ke{id ops}(c:CJ P main ty Wg Stop O (G (rf l b a (.inRegion ops (dM ops.size)::k)) cs) w):CJ P main ty Wg Stop O (G (rf l b a (.code (.region id ops false)::k)) cs) w:=.ctl rfl (fun _ _=>aak) c
theorem CJ.Kf{ops}(c:CJ P main ty Wg Stop O (G (rf l b a k) cs) w):CJ P main ty Wg Stop O (G (rf l b a (.inRegion ops []::k)) cs) w:=.ctl rfl (fun _ _=>aal) c
theorem CJ.rop{ops i rest o}(v)(n:ops[i]? =some o)(p:cL o (yielded ops a.tmps)=true)(f:∀c,o.op≠.defer c)(m:b.kind≠.early)(hr:∀d,Rel ty Wg O w d->(execOp a.eval o).run P d=.ok (.value v) d)(j:∀d,Rel ty Wg O w d->∀e∈(execOp a.eval o).events P d #[],gI Wg O d.heap.size (.ofEvent e))(c:CJ P main ty Wg Stop O (G (rf l b (a.put o.dst v) (.inRegion ops rest::k)) cs) w):CJ P main ty Wg Stop O (G (rf l b a (.inRegion ops (i::rest)::k)) cs) w:=
 .quiet rfl (fun d r=>⟨_,RL n p f m (hr d r),fun e h=>j d r e (vg h)⟩) c
theorem Po{x d}:eB O d {d with heap:=d.heap.push x}=fun c=>O c\/c=d.heap.size:=by
 funext y
 apply propext;show(O y\/(d.heap.size<=y/\y<(d.heap.push x).size))↔_;rw[Ls];constructor
 ·rintro(h|h)
  ·exact .inl h
  ·exact .inr ak
 ·rintro(h|h)
  ·exact .inl h
  ·exact .inr ak
theorem CJ.aaq{ops i rest o}(v:Nat->au)(x:Obj)(p:ops[i]? =some o)(q:cL o (yielded ops a.tmps)=true)(j:∀c,o.op≠.defer c)(n:b.kind≠.early)(hr:∀d,Rel ty Wg O w d->(execOp a.eval o).run P d=.ok (.value (v d.heap.size)) {d with heap:=d.heap.push x}) (m:∀d,Rel ty Wg O w d->∀e∈(execOp a.eval o).events P d #[],gI Wg (fun c=>O c\/c=d.heap.size) (d.heap.size+1) (.ofEvent e)) (c:∀d,Rel ty Wg O w d->CJ P main ty Wg Stop (fun c=>O c\/c=d.heap.size) (G (rf l b (a.put o.dst (v d.heap.size)) (.inRegion ops rest::k)) cs) {d with heap:=d.heap.push x}):CJ P main ty Wg Stop O (G (rf l b a (.inRegion ops (i::rest)::k)) cs) w:=
 .one rfl fun d r=>by
  refine⟨_,_,_,.go (RL p q j n (hr d r)),⟨fun y f _=>?_,aq,rfl,rfl,rfl⟩,fun y f=>?_,by rw[Po];exact c d r⟩
  ·show(d.heap.push x)[y]? =_;rw[eN,aD ak]
  ·obtain⟨e,h,rfl⟩:=mK.1 f;rw[Po];have:=m d r e (vg h);simpa using this
theorem CJ.aaw{ops i rest o ad v}(m:O ad.block)(t:ops[i]? =some o)(u:cL o (yielded ops a.tmps)=true)(n:∀c,o.op≠.defer c)(q:b.kind≠.early)(hr:∀d,Rel ty Wg O w d->(execOp a.eval o).run P d=.ok .skip (d.setCell ad v))(p:∀d,Rel ty Wg O w d->∀e∈(execOp a.eval o).events P d #[],gI Wg O d.heap.size (.ofEvent e))(c:∀d,Rel ty Wg O w d->CJ P main ty Wg Stop O (G (rf l b (a.put o.dst undef) (.inRegion ops rest::k)) cs) (d.setCell ad v)):CJ P main ty Wg Stop O (G (rf l b a (.inRegion ops (i::rest)::k)) cs) w:=
 .one rfl fun d r=>by have f:eB O d (d.setCell ad v)=O:=DL aq;refine⟨_,_,_,.go (aaj t u n q (hr d r)),⟨fun y j s=>(aside_setCell d ad v).block y fun e=>s (e▸m),aq,by simp[fD],by simp[fD],by simp[fD]⟩,fun y j=>?_,by rw[f];exact c d r⟩;obtain⟨e,h,rfl⟩:=mK.1 j;rw[f];have:=p d r e (vg h);simpa using this
theorem CJ.V9{ops i rest o f fn args ats}(q:ops[i]? =some o)(s:cL o (yielded ops a.tmps)=true)(m:∀c,o.op≠.defer c)(p:b.kind≠.early)(j:o.op=.call {callee:=.value (.func f),args,argTypes:=ats}) (hf:P.funcs[f]? =some fn) (h:(fn.name== "runtime.NumGoroutine")=false) (d:fn.body.isNone=false) (c:CJ P main ty Wg Stop O (G (Frame.enter P f (args.map a.eval) .normal) (rf l b a (.inRegion ops (i::rest)::k)::cs)) w):CJ P main ty Wg Stop O (G (rf l b a (.inRegion ops (i::rest)::k)) cs) w:=
 .quiet rfl (fun t r=>⟨_,aah q s m p (MB j hf h d),fun e n=>by have:=vg n;rw[Mz j hf h d]at this;simp at this⟩) c
end
end
section
open Go.Conc
open Go.ConcN (sumTo)
def qI:Nat->String
 |0=> ""
 |n+1=> "x" ++qI n
theorem TI:∀n,(qI n).length=n
 |0=>rfl
 |n+1=>by show("x" ++qI n).length=n+1;rw[String.length_append,TI n];show 1+n=n+1;omega
theorem QD:∀n,Jq (qI n)=true
 |0=>rfl
 |n+1=>by unfold Jq;show(match("x" ++qI n).toList with|[]=>true|c::_=>c.toNat==120)=true;rw[String.toList_append];rfl
def gF:Nat->List gG->List gG
 |_,[]=>[]
 |i,.inBlock id::k=>.inBlock id::gF (i+1) k
 |i,_::k=>.code (.refuse (qI i))::gF (i+1) k
def lG:List gG->Prop
 |[]=>True
 |.code _::k=>lG k
 |.inLoop _::k=>lG k
 |.inBlock _::k=>lG k
 |_::_=>False
section
variable [aA] {P:aN} {l:List bh} {ρ:Ren}
theorem FD(pre k x)(h:(∃c,x=.code c)\/∃c,x=.inLoop c):zx (pre++x::k) (qI pre.length)=x:=by unfold zx;rw[TI,qN (aV _)];rcases h with⟨c,rfl⟩|⟨c,rfl⟩<;>simp
theorem TE:∀(k pre:List gG),lG k->@cH _ _ (@IR (bE (pre++k)) P l ρ false) (gF pre.length k) k
 |[],pre,_=>.nil
 |x::k,pre,h=>by
  have a:∀d:lG k,@cH _ _ (@IR (bE (pre++x::k)) P l ρ false) (gF (pre.length+1) k) k:=fun d=>by have e:pre++[x]++k=pre++x::k:=aq;have b:=TE k (pre++[x]) d;rw[e,ia]at b;exact b
  cases x with
  |inBlock id=>exact .cons (@IR.inBlock (bE _) _ _ _ _ id) (a h)
  |code c=>
   have e:=FD pre k (.code c) (.inl ⟨c,rfl⟩);refine .cons ?_ (a h);have:=@IR.stop (bE (pre++.code c::k)) P l ρ false (qI pre.length)
   rwa [show @aW.wall (bE (pre++.code c::k)) (qI pre.length)=.code c from e]at this
  |inLoop c=>
   refine .cons ?_ (a h);have:=@IR.stop (bE (pre++.inLoop c::k)) P l ρ false (qI pre.length)
   rwa [show @aW.wall (bE (pre++.inLoop c::k)) (qI pre.length)=.inLoop c from(FD pre k (.inLoop c) (.inr ⟨c,rfl⟩))]at this
  |_=>exact h.elim
theorem Lh:∀(k pre:List gG) {y:List gG},lG k->@cH _ _ (@IR (bE (pre++k)) P l ρ false) (gF pre.length k) y->y=k
 |[],pre,y,_,h=>by cases h;rfl
 |x::k,pre,y,d,h=>by
  have g:∀{y:List gG},lG k->@cH _ _ (@IR (bE (pre++x::k)) P l ρ false) (gF (pre.length+1) k) y->y=k:=fun{y} i h=>by have e:pre++[x]++k=pre++x::k:=aq;refine Lh k (pre++[x]) i ?_;rw[e,ia];exact h
  cases x with
  |inBlock id=>
   cases h with
   |cons a b=>cases a;rw[g d b]
  |code c=>
   cases h with
   |cons a b=>
    cases a with
    |code f=>simp[dY,QD]at f
    |stop _=>rw[g d b];congr 1;exact FD pre k (.code c) (.inl ⟨c,rfl⟩)
  |inLoop c=>
   cases h with
   |cons a b=>
    cases a with
    |code f=>simp[dY,QD]at f
    |stop _=>rw[g d b];congr 1;exact FD pre k (.inLoop c) (.inr ⟨c,rfl⟩)
  |_=>exact d.elim
theorem Om(id):∀(k:List gG) (i:Nat) {k':List gG},lG k->exitTo id k=some k'->∃pre,k=pre++k'/\exitTo id (gF i k)=some (gF (i+pre.length) k')
 |[],i,k',_,h=>by cases h
 |x::k,i,k',a,h=>by
  have step:lG k->exitTo id k=some k'->∃pre,x::k=pre++k'/\exitTo id (gF (i+1) k)=some (gF (i+pre.length) k'):=fun g h=>by
   obtain⟨pre,d,f⟩:=Om id k (i+1) g h;refine⟨x::pre,by rw[d];rfl,?_⟩;rw[f]
   congr 2
   simp;omega
  cases x with
  |inBlock b=>
   unfold exitTo at h
   by_cases e:(b==id)=true
   ·rw[aM e]at h;cases h;exact⟨[.inBlock b],rfl,by show exitTo id (.inBlock b::gF (i+1) k)=_;unfold exitTo;rw[aM e];rfl⟩
   ·rw[aD e]at h;obtain⟨pre,d,f⟩:=step a h;exact⟨pre,d,by show exitTo id (.inBlock b::gF (i+1) k)=_;unfold exitTo;rw[aD e];exact f⟩
  |code c=>exact step a h
  |inLoop c=>exact step a h
  |_=>exact a.elim
end
section
variable [aA] {P:aN} {l:List bh} {ρ:Ren}
theorem Nh{α:Type}{R}(h:∀a b,R a b->a=b):∀{x y:List α},cH R x y->x=y:=fun k=>by
 induction k with
 |nil=>rfl
 |cons c _ d=>rw[h _ _ c,d]
theorem FR.eq(c:∀a b,ρ a b->a=b){f f'}(h:FR ρ f f'):f=f':=by
 cases h with
 |func f _=>rfl
 |yield h=>rw[c _ _ h]
theorem DR.eq(c:∀a b,ρ a b->a=b)(d d':Deferred)(h:DR ρ d d'):d=d':=by
 haveI:aW:=bE []
 obtain⟨t,x⟩:=d;obtain⟨k,m⟩:=d';obtain⟨g,i⟩:=h;have f:x=m:=bf.eq c i
 have e:t=k:=by
  cases g with
  |fn h j=>rw[FR.eq c h,bf.eq c j]
  |nil=>rfl
  |collected h=>rw[c _ _ h]
 rw[e,f]
theorem rm.eq(k:∀a b,ρ a b->a=b)(e c:PanicEntry)(h:rm ρ e c):e=c:=by
 haveI:aW:=bE []
 obtain⟨v,r,g⟩:=e;obtain⟨o,n,m⟩:=c;obtain⟨d,f,i,j⟩:=h;simp only at d f i j;rw[VR.eq k d,f,i,j]
theorem oW.eq(c:∀a b,ρ a b->a=b){m m'}(h:oW ρ m m'):m=m':=by
 cases h with
 |run=>rfl
 |returning=>rfl
 |panicking h=>rw[Nh (rm.eq c) h]
theorem bY.same[aW](d:∀a b,ρ a b->a=b){fr c}(h:bY P l ρ fr c):c={fr with todo:=c.todo}:=by
 obtain⟨f1,f2,f3,f4,f5,f6,f7⟩:=fr;obtain⟨v,w,x,y,z,A,q⟩:=c;obtain⟨e,r,f,s,g,i,j,t,k⟩:=h;simp only at e f g i j k;have m:=bf.eq d f;have n:=Nh (DR.eq d) g;have o:=oW.eq d i
 have p:f7=q:=by
  cases k with
  |none=>rfl
  |some h=>rw[d _ _ h]
 subst e m n o j p;rfl
theorem bY.xf[aW](k:∀a b,ρ a b->a=b){fr fr'}(h:bY P l ρ fr fr')(j:fr.kind=.normal):XF ρ fr':=by
 have e:=h.same k;have c:fr'.tmps=fr.tmps:=by rw[e]
 have d:fr'.defers=fr.defers:=by rw[e]
 have f:fr'.mode=fr.mode:=by rw[e]
 have g:fr'.kind=fr.kind:=by rw[e]
 have i:fr'.fn=fr.fn:=by rw[e]
 refine⟨?_,?_,g.trans j,by rw[i];exact h.ok,?_⟩
 ·have:=h.tmps;rw[c]at this⊢;exact this
 ·have:=h.defers;rw[d]at this⊢;exact this
 ·have:=h.mode;rw[f]at this⊢;exact this
end
def Vz(Q:Wx->Act->an->Prop):Prop:=∀e a u b,Q e a u->Q e a (an.tp u b)
def Arr(b:aJ)(k:List gG)(cs:List aJ):Wx->Act->aJ->List aJ->Prop
 |.normal,a,d,c=>d=b.at a k/\c=cs
 |.exit id,a,d,c=>(∃f,exitTo id k=some f/\d=b.at a f)/\c=cs
 |.ret,a,d,c=>(∃e,d={b.at a e with mode:=.returning})/\c=cs
 |.panic g,a,d,c=>(∃e,d={b.at a e with mode:=.panicking g})/\c=cs
 |_,_,_,_=>False
def qg(Q:Wx->Act->an->Prop)(k:List gG):Prop:=∀id,(∃a u,Q (.exit id) a u)->∃b,exitTo id k=some b
def yq(Q:Wx->Act->an->Prop)(b:aJ)(k:List gG)(cs:List aJ)(fr:aJ)(c:List aJ)(u:an):Prop:=∃e a,Q e a u/\Arr b k cs e a fr c
def MO(b:aJ)(k:List gG):Wx->Act->aJ->Prop
 |.normal,a,c=>c=b.at a (gF 0 k)
 |.exit id,a,c=>∃pre d,k=pre++d/\exitTo id k=some d/\c=b.at a (gF pre.length d)
 |.ret,a,c=>∃e,c={b.at a e with mode:=.returning}
 |.panic f,a,c=>∃e,c={b.at a e with mode:=.panicking f}
 |_,_,_=>False
section
variable [aA] {P:aN} {Q:Wx->Act->an->Prop} {a:Act} {u:an}
def WX(P:aN)(c:Code)(Q:Wx->Act->an->Prop)(a:Act)(u:an):Prop:=
 ∀(b:aJ) (k:List gG) (cs:List aJ),lG k->qg Q k->Reach P (yq Q b k cs) (b.at a (.code c::k)) cs u
def eI(P:aN)(f:bh)(args:Array au)(u:an)(R:Ending->an->Prop):Prop:=
 ∀(cs:List aJ),Reach P (fun b d c=>d=cs/\b.fn=f/\∃e,e≠.outgrown/\R e c/\b.leaving P c e) (Frame.enter P f args .normal) cs u
theorem DF:∀{pre k:List gG},lG (pre++k)->lG k
 |[],_,h=>h
 |x::pre,k,h=>by
  cases x with
  |code c=>exact DF (pre:=pre) h
  |inLoop c=>exact DF (pre:=pre) h
  |inBlock c=>exact DF (pre:=pre) h
  |_=>exact h.elim
end
section
variable [aA] {P:aN} {l:List bh} {Q:Wx->Act->an->Prop} {a:Act} {u:an}
theorem TD(k i):∀c j rest b,gF i k≠.inRegion c (j::rest)::b:=by
 intro c j rest b e;cases k with
 |nil=>cases e
 |cons x k=>cases x<;>cases e
theorem Nn{b k}(fr:aJ)(cs:List aJ)(u:an)(h:cs=[]/\∃e d,Q e d u/\MO b k e d fr):¬nK fr:=by
 rintro⟨hm,n,j,rest,m,f⟩;obtain⟨_,e,d,_,h⟩:=h;cases e with
 |normal=>obtain rfl:fr=b.at d (gF 0 k):=h;exact TD k 0 _ _ _ _ f
 |exit id=>obtain⟨pre,g,_,_,rfl⟩:=h;exact TD g _ _ _ _ _ f
 |ret=>obtain⟨i,rfl⟩:=h;cases hm
 |panic c=>obtain⟨i,rfl⟩:=h;cases hm
 |goto x=>exact h.elim
 |outgrown=>exact h.elim
theorem WX.lift(Y:Fit P l){c}(hc:dY P l false c=true)(hQ:Vz Q)(aG:∀x a u,¬Q (.goto x) a u)(aI:∀a u,¬Q .outgrown a u)(h:∀M,c.wp P Q a (u.tp M)):WX P c Q a u:=fun b k cs z ho F S ρ gs w sl t q d hV=>by
 letI:aW:=bE k
 have Z:bY P l ρ (b.at a (.code c::gF 0 k)) (b.at a (.code c::k)):=⟨rfl,d.top.known,d.top.tmps,.cons (.code hc) (TE k [] z),d.top.defers,.run,rfl,.inl d.top.kind,.none⟩;have af:Still cs:=fun f z=>.inl (d.below.run f z);have ay:Beside P l cs F S (b.at a (.code c::gF 0 k)) [] u ρ gs w t q:=⟨⟨_,d.oY,⟨_,[],rfl,Z,.nil⟩⟩,d.world,d.whole,d.gh,d.past,d.clear,d.same,d.size,d.fM,d.full⟩
 have hL:lH P l (b.at a (.code c::gF 0 k)) [] u:=by have:lH P l (b.at a (.code c::gF 0 k)) [] (u.tp (laid u w)):=⟨S,ρ,cs,_,w,af,⟨_,[],rfl,Z,.nil⟩,d.world.lay,d.whole⟩;exact this.tp u.tape
 have AN:nP P (fun X s j=>s=[]/\∃e i,Q e i j/\MO b k e i X) (b.at a (.code c::gF 0 k)) [] u:=by
  refine Lk Y Nn (fun X s j M _ ⟨m,e,i,v,h3⟩=>⟨m,e,i,hQ _ _ _ _ v,h3⟩) hL fun M _=>?_;obtain⟨e,i,j,m,v⟩:=h M b (gF 0 k) ([]++[bot P]);cases e with
  |normal=>
   obtain⟨n,r⟩:=v;exact⟨n,_,[],j,r,rfl,.normal,i,m,rfl⟩
  |exit id=>
   obtain⟨A,hk⟩:=ho id ⟨i,j,m⟩;obtain⟨pre,K,R⟩:=Om id k 0 z hk;obtain⟨n,r⟩:=v _ R;exact⟨n,_,[],j,r,rfl,.exit id,i,m,pre,A,K,hk,by rw[fo]⟩
  |goto x=>exact absurd m (aG _ _ _)
  |ret=>
   obtain⟨D,n,r⟩:=v;exact⟨n,_,[],j,r,rfl,.ret,i,m,D,rfl⟩
  |panic W=>
   obtain⟨D,n,r⟩:=v;exact⟨n,_,[],j,r,rfl,.panic W,i,m,D,rfl⟩
  |outgrown=>exact absurd m (aI _ _)
 obtain⟨N,C,G,s,j,H,E,U,L,T,r1,r2,⟨rfl,e,i,hq,y⟩,r4,r5⟩:=Li Y Nn af AN (sumTo gs.size q+1) ρ gs w sl t q ak ay;obtain⟨⟨g,hg,o,bk,rfl,p,aC⟩,k2,k3,k4,k5,k6,B,k8,k9,aQ⟩:=r4;cases aC;have J:=p.same B;have I:b.kind=.normal:=d.top.kind;have fin:XF C o->Arr b k cs e i o cs->∃N V S' C G s j H E U L T,runNT P N (crowd gs w sl) t=(.next (crowd H E U),L)/\yq Q b k cs G s j/\eY P V S' G s j C H E L T/\eT ρ C w E/\oP F V w:=fun hx ha=>⟨N,F,S,C,o,cs,j,H,E,U,L,T,r1,⟨e,i,hq,ha⟩,⟨hg,hx,d.below.mono r5.le,k2,k3,k4,k5,k6,B,k8,k9,aQ⟩,r5,.refl F w⟩;cases e with
 |normal=>
  obtain rfl:G=b.at i (gF 0 k):=y;have O:o.todo=k:=Lh k [] z p.todo;exact fin (p.xf B I) ⟨by rw[J,O];rfl,rfl⟩
 |exit id=>
  obtain⟨pre,A,K,R,rfl⟩:=y;have aE:lG A:=DF (pre:=pre) (K▸z)
  have O:o.todo=A:=by refine Lh (P:=P) (l:=l) (ρ:=C) A pre aE ?_;rw[<-K];exact p.todo
  exact fin (p.xf B I) ⟨⟨A,R,by rw[J,O];rfl⟩,rfl⟩
 |goto x=>exact y.elim
 |ret=>
  obtain⟨D,rfl⟩:=y;exact fin (p.xf B I) ⟨⟨o.todo,J⟩,rfl⟩
 |panic W=>
  obtain⟨D,rfl⟩:=y;exact fin (p.xf B I) ⟨⟨o.todo,J⟩,rfl⟩
 |outgrown=>exact y.elim
end
section
variable [aA] {P:aN} {l:List bh} {Q:Wx->Act->an->Prop} {a:Act} {u:an} {Post:aJ->List aJ->an->Prop} {b:aJ} {k:List gG} {cs:List aJ}
theorem XR{ρ f args}(h:bf ρ (Frame.enter P f args .normal).tmps (Frame.enter P f args .normal).tmps):bf ρ args args:=by
 refine⟨rfl,fun i v g c d=>?_⟩;rw[c]at d;cases d
 have e:(Frame.enter P f args .normal).tmps[i]? =some v:=by unfold Frame.enter;rw[FI ((aP.1 c).1)];exact c
 exact h.2 i v v e e
theorem eI.lift(j:Fit P l){f}(M:aA.ok f){args R}(hR:∀e u n,R e u->R e (an.tp u n))(s:∀e u,R e u->∃v,e=.returned v)(h:∀n,Calls P f args (u.tp n) R):eI P f args u R:=fun cs i S d gs w sl t q c hV=>by
 letI:aW:=bE []
 have r:bY P l d (Frame.enter P f args .normal) (Frame.enter P f args .normal):=Dy j M (XR c.top.tmps) (.inl rfl);have y:Still cs:=fun f I=>.inl (c.below.run f I);have F:Beside P l cs i S (Frame.enter P f args .normal) [] u d gs w t q:=⟨⟨_,c.oY,⟨_,[],rfl,r,.nil⟩⟩,c.world,c.whole,c.gh,c.past,c.clear,c.same,c.size,c.fM,c.full⟩
 have G:lH P l (Frame.enter P f args .normal) [] u:=by have:lH P l (Frame.enter P f args .normal) [] (u.tp (laid u w)):=⟨S,d,cs,_,w,y,⟨_,[],rfl,r,.nil⟩,c.world.lay,c.whole⟩;exact this.tp u.tape
 have T:=TG j G hR (fun u O=>by obtain⟨v,e⟩:=s _ _ O;cases e) h;obtain⟨N,aI,aQ,aL,B,E,w',aF,t',q',r1,r2,⟨rfl,J,e,he,o,L⟩,r4,A⟩:=Li j AT y T (sumTo gs.size q+1) d gs w sl t q ak F;obtain⟨⟨g,K,D,aO,rfl,p,H⟩,V,W,X,Y,Z,m,k8,k9,U⟩:=r4;cases H;have x:=p.same m;obtain⟨v,rfl⟩:=s e B o;obtain⟨l1,l2,z,C,l4,l5⟩:=L;refine⟨N,i,S,aI,D,cs,B,E,w',aF,t',q',r1,⟨rfl,by rw[x];exact J,.returned v,aq,o,?_⟩,⟨K,p.xf m z,c.below.mono A.le,V,W,X,Y,Z,m,k8,k9,U⟩,A,.refl i w⟩;rw[x];exact⟨l1,l2,z,C,l4,l5⟩
theorem afr{ρ k k'}(h:XF ρ (b.at a k)):XF ρ (b.at a k'):=⟨h.tmps,h.defers,h.kind,h.known,h.mode⟩
theorem Reach.at_{k'}(h:∀w,stepG P true (G (b.at a k) cs) w=.go (G (b.at a k') cs) w)(c:Reach P Post (b.at a k') cs u):Reach P Post (b.at a k) cs u:=.ctl h (fun _=>afr) c
theorem JI{x}(g:x.plain=true)(d:qg Q k):qg Q (x::k):=fun id c=>by obtain⟨e,f⟩:=d id c;exact⟨e,by cases x<;>simp_all[exitTo,Item.plain]⟩
theorem sU{x cs' e fr}(j:x.plain=true)(f:e≠.normal)(h:Arr b (x::k) cs e a fr cs'):Arr b k cs e a fr cs':=by
 cases e with
 |normal=>exact absurd rfl f
 |exit id=>
  obtain⟨⟨g,i,c⟩,d⟩:=h;exact⟨⟨g,by cases x<;>simp_all[exitTo,Item.plain],c⟩,d⟩
 |_=>exact h
theorem WX.mono{c Q'}(h:WX P c Q a u)(d:∀e a u,Q e a u->Q' e a u):WX P c Q' a u:=fun b k cs j m=>
 (h b k cs j fun id ⟨a,u,n⟩=>m id ⟨a,u,d _ _ _ n⟩).mono fun p o q ⟨e,f,g,i⟩=>⟨e,f,d _ _ _ g,i⟩
theorem eI.mono{f args R R'}(h:eI P f args u R)(hr:∀e u,R e u->R' e u):eI P f args u R':=fun cs=>
 (h cs).mono fun o n m ⟨c,d,e,g,i,j⟩=>⟨c,d,e,g,hr e m i,j⟩
theorem WX.seq{x y}(h:WX P x (Exit.then (WX P y Q) Q) a u):WX P (.seq x y) Q a u:=fun b k cs g i=>by
 refine .at_ (fun _=>stepG_seq) ?_;have n:qg (Exit.then (WX P y Q) Q) (.code y::k):=fun id m=>JI rfl i id m;refine(h b (.code y::k) cs g n).bind ?_;rintro q j o ⟨e,d,f,c⟩;cases e with
 |normal=>
  obtain⟨rfl,rfl⟩:=c;exact(show WX P y Q d o from f) b k j g i
 |exit id=>exact .here ⟨_,d,f,sU rfl aq c⟩
 |goto x=>exact c.elim
 |ret=>exact .here ⟨_,d,f,sU rfl aq c⟩
 |panic p=>exact .here ⟨_,d,f,sU rfl aq c⟩
 |outgrown=>exact c.elim
theorem WX.cond{c x y v}(hc:a.eval c=.bool v)(h:WX P (if v then x else y) Q a u):WX P (.cond c x y) Q a u:=fun b k cs d e=>.at_ (fun _=>stepG_cond hc) (h b k cs d e)
theorem WX.skip(h:Q .normal a u):WX P .skip Q a u:=fun b k cs _ _=>.at_ (fun _=>stepG_skip) (.here ⟨.normal,a,h,rfl,rfl⟩)
end
section
variable [aA] {P:aN} {l:List bh} {Q:Wx->Act->an->Prop} {a:Act} {u u1:an} {b fr:aJ} {k:List gG} {cs:List aJ} {ops:Array Oper} {i:Nat} {rest:List Nat} {o:Oper}
theorem CU{ρ}(d:Fit P l)(h:bf ρ a.tmps a.tmps):Reads l ρ a.eval a.eval:=by
 haveI:aW:=bE []
 have j:∀f,l.contains f=true->aA.ok f:=fun f e=>(d.ok f).2 e;intro x c;cases x with
 |tmp t=>exact Iw h t
 |const v=>exact Rp c ρ
 |global g=>cases c
 |func f=>exact .func (.func f (j f c)) rfl (fun i v m hv=>by simp at hv) rfl (fun i v m hv=>by simp at hv)
theorem aeR{ρ}(h:bf ρ a.tmps a.tmps){v}(hv:VR ρ v v)(d:Option Tmp):bf ρ (a.put d v).tmps (a.put d v).tmps:=by
 cases d with
 |none=>exact h
 |some d=>exact h.set hv d
theorem TP{ρ k k'}(h:XF ρ (b.at a k)){v}(hv:VR ρ v v)(d:Option Tmp):XF ρ (b.at (a.put d v) k'):=
 ⟨aeR h.tmps hv d,by cases d<;>exact h.defers,h.kind,h.known,h.mode⟩
theorem Tz{ρ}(e:Fit P l)(h:bf ρ a.tmps a.tmps){args:Array Operand}(f:args.all (cE l)=true):bf ρ (args.map a.eval) (args.map a.eval):=by refine⟨rfl,fun i v j c d=>?_⟩;rw[c]at d;cases d;rw[fj]at c;obtain⟨x,g,rfl⟩:=ep.1 c;exact CU e h x (pQ.1 f x (lC g))
theorem Ln{ρ f args fn c}(hf:P.funcs[f]? =some fn)(g:fn.body=some c)(m:aA.known f)(h:bf ρ args args):XF ρ (Frame.enter P f args .normal):=by
 haveI:aW:=bE []
 rw[enter_at args hf g];refine⟨⟨rfl,fun i v n d e=>?_⟩,.nil,rfl,m,.run⟩;rw[d]at e;cases e;change(args++Array.replicate (fn.ntmps-args.size) undef)[i]? =_ at d
 by_cases j:i<args.size
 ·rw[FI j]at d;exact h.2 i v v d d
 ·rw[gx ak,Bz]at d;split at d
  ·cases d;exact rQ ρ
  ·cases d
theorem eY.ok{Shun S ρ gs w}{t:eW}{q:Nat->Nat}(g:eY P Shun S fr cs u ρ gs w t q){α n:Type}{R:Ren->α->n->Prop}{s:Sem α}{m:Sem n}(C:SR P R ρ (fun _=>False) s m){v:α}(h:∀p,s.run P (u.tp p)=.ok v (u1.tp p)):
  ∃c j d x,m.runT P w #[]=(.ok j d,x)/\R c v j/\eT ρ c w d/\eK P c u1 d/\Whole S c u1/\(∀a b,c a b->a=b)/\u1.heap.size=d.heap.size/\(∀e∈x,gy S c e)/\Full c u1:=by
 haveI:aW:=bE []
 obtain⟨_,c,j,d,x,r,y,f,z,A⟩:=rG C (iz _) g.world.lay g.whole (h (laid u w));have E:u.heap.size=w.heap.size:=g.size;have D:u1.heap.size+w.heap.size=d.heap.size+u.heap.size:=f.yU;refine⟨c,j,d,x,r,y,f.went,?_,z,fun a b B=>?_,ak,A,f.full g.full⟩
 ·have:=f.rel.drop;exact⟨this.one,this.lt,this.obj,this.low,this.base,this.calm,this.os⟩
 ·rcases f.news a b B with h|⟨_,_,h⟩
  ·exact g.same a b h
  ·have h:a+w.heap.size=b+u.heap.size:=h;omega
theorem KL{fr c fn v w w1 x}(hm:fr.mode=.returning)(f:fr.defers=[])(g:fr.kind=.normal)(hf:P.funcs[fr.fn]? =some fn)(hr:(results fn fr.tmps).runT P w #[]=(.ok v w1,x)):
  stepG P true (G fr (c::cs)) w=.go (G (c.finish v) cs) w1 (seen P fr.fn x):=by
 have d:(Go.results fn fr.tmps).run P w=.ok v w1:=by rw[<-iW P _ w #[],hr]
 have e:(Go.results fn fr.tmps).events P w #[]=x:=by unfold Sem.events;rw[hr]
 simp[G,stepG,unwind,doReturn,hm,f,g,hf,d,e,jo]
theorem eY.results{Shun S ρ gs w t q}(c:eY P Shun S fr cs u ρ gs w t q){fn v}(h:(results fn fr.tmps).run P u=.ok v u)(d:Nat->Question->Nat):(results fn fr.tmps).run P (u.tp d)=.ok v (u.tp d):=by
 haveI:aW:=bE []
 have f:WR P ρ u (w.tp fun j q=>u.tape (u.drawn+(j-w.drawn)) q):=⟨c.world.one,c.world.lt,c.world.obj,fun i q=>by show u.tape (u.drawn+(w.drawn+i-w.drawn)) q=_;rw[ue],c.world.low,c.world.base,c.world.calm,c.world.os⟩
 obtain⟨_,e⟩:=(rG (xh (P:=P) (K:=fun _=>False) fn c.top.tmps) (iz u) f c.whole h).1;rw[<-iW P _ (u.tp d) #[],e d (fun i q a b=>by omega)]
def OX(P:aN)(ops:Array Oper)(Q:Wx->Act->an->Prop)(is:List Nat)(a:Act)(u:an):Prop:=
 ∀(b:aJ) (k:List gG) (cs:List aJ),lG k->qg Q k->Reach P (yq Q b k cs) (b.at a (.inRegion ops is::k)) cs u
theorem OX.nil(h:Q .normal a u):OX P ops Q [] a u:=fun _ _ _ _ _=>.at_ (fun _=>cy) (.here ⟨.normal,a,h,rfl,rfl⟩)
theorem OX.value(g:Fit P l)(I:ops[i]? =some o)(N:cL o (yielded ops a.tmps)=true)(J:okB P l o.op=true){v:au}(hr:∀y,(execOp a.eval o).run P (u.tp y)=.ok (.value v) (u1.tp y))(c:OX P ops Q rest (a.put o.dst v) u1):OX P ops Q (i::rest) a u:=fun b k cs m L=>by
 haveI:aW:=bE []
 exact .one fun U S V gs w t q d _=>by
  have H:∀f,l.contains f=true->aA.ok f:=fun f m=>(g.ok f).2 m;obtain⟨T,O,s,x,p,z,h,A,B,r,C,D,E⟩:=d.ok (Fg (K:=fun _=>False) g.zeros g.fns H (CU g d.top.tmps) (fun R n v=>by(subst n;rfl)) (fun R n v=>by(subst n;rfl)) J) hr;cases z with
  |@value _ O hv=>
   obtain rfl:=hv.eq r;have M:(execOp a.eval o).run P w=.ok (.value v) s:=by rw[<-iW P _ w #[],p]
   have G:b.kind≠.early:=by have:b.kind=.normal:=d.top.kind;rw[this];simp
   refine⟨_,cs,u1,T,s,_,Ai I N G M,⟨h,A,B,r,C,fun e F=>?_,TP (d.top.mono h.le) hv _,d.below.mono h.le,E⟩,c b k cs m L⟩;have j:=pX F;unfold Sem.events at j;rw[p]at j;exact D e j
theorem OX.call(R:Fit P l)(D:ops[i]? =some o)(hw:cL o (yielded ops a.tmps)=true){f fn}{body:Code}{args:Array Operand}{G:Array aK}(E:o.op=.call {callee:=.value (.func f),args,argTypes:=G}) (m:P.funcs[f]? =some fn) (C:(fn.name== "runtime.NumGoroutine")=false) (s:fn.body=some body) (X:aA.known f) (T:args.all (cE l)=true) (c:eI P f (args.map a.eval) u fun e g=>∃v,e=.returned v/\OX P ops Q rest (a.put o.dst v) g):OX P ops Q (i::rest) a u:=fun b k cs V Y=>by
 haveI:aW:=bE []
 have z:fn.body.isNone=false:=by rw[s];rfl
 have B:∀v,(b.at a (.inRegion ops (i::rest)::k)).finish v=b.at (a.put o.dst v) (.inRegion ops rest::k):=by intro v;rw[Frame.finish_at,D];rfl
 refine .one fun F S n gs w t q d _=>?_
 have W:b.kind≠.early:=by have:b.kind=.normal:=d.top.kind;rw[this];simp
 have U:=d.below.deep;refine⟨Frame.enter P f (args.map a.eval) .normal,b.at a (.inRegion ops (i::rest)::k)::cs,u,n,w,_,stepG_enter D hw W (MB E m C z),⟨.refl n w,d.world,d.whole,d.same,d.size,fun e j=>?_,Ln m s X (Tz R d.top.tmps T),d.below.push d.top rfl,d.full⟩,(c (b.at a (.inRegion ops (i::rest)::k)::cs)).bind ?_⟩
 ·have A:=pX j;rw[Mz E m C z]at A;simp at A
 ·rintro fr az g ⟨rfl,_,e,_,⟨v,rfl,Z⟩,l1,l2,l3,H,l4,l5⟩;refine .one fun F S n gs w t q d _=>?_;obtain⟨σ,v',w1,x,I,p,h,J,L,r,M,N,O⟩:=d.ok (u1:=g) (xh (P:=P) (K:=fun _=>False) H d.top.tmps) (d.results l5);obtain rfl:=VR.eq r p;have y:=d.below.pop U;refine⟨_,cs,g,σ,w1,_,KL l1 l2 l3 l4 I,⟨h,J,L,r,M,fun e j=>N e (pX j),?_,y.2.mono h.le,O⟩,?_⟩
  ·rw[B];exact TP (y.1.mono h.le) p _
  ·rw[B];exact Z b k cs V Y
theorem WX.region{id}(h:OX P ops Q (dM ops.size) a u):WX P (.region id ops false) Q a u:=fun b k cs c d=>.at_ (fun _=>stepG_region) (h b k cs c d)
end
end
section
open Go.Conc
open Go.ConcN (ShN WgLive sumTo upd sumTo_upd upd_ne upd_same)
open Go.ConcR (WgAt)
section
variable [aA] {P:aN} {l:List bh} {Post:aJ->List aJ->an->Prop} {fr:aJ} {cs:List aJ} {u w:an} {gs:Array bw} {t:eW} {q:Nat->Nat}
def CE(P:aN)(Post:aJ->List aJ->an->Prop)(ρ:Ren)(Shun:Loc->Prop)(w0:an)(gs:Array bw)(w:an)(sl:Option (Nat×Nat))(t:eW):Prop:=
 ∃N b i h d c g e a k f j,runNT P N (crowd gs w sl) t=(.next (crowd e a k),f)/\Post d c g/\eY P b i d c g h e a f j/\eT ρ h w0 a/\oP Shun b w0
theorem Reach.P0(h:∀b S a gs w t q,eY P b S fr cs u a gs w t q->nO a b w->∃o m B,stepG P true (G fr cs) w=.go (G o m) B/\∀C sl,C[0]? =some (G o m)->C.size=gs.size->zQ P t C q->CE P Post a b w C B sl t):Reach P Post fr cs u:=by
 haveI:aW:=bE []
 have key:∀(n:Nat) b S a gs w sl t q,sumTo gs.size q<n->eY P b S fr cs u a gs w t q->nO a b w->CE P Post a b w gs w sl t:=by
  intro n;induction n with
  |zero=>exact fun b S a gs w sl t q hS=>absurd hS ak
  |succ n ih=>
   intro b S a gs w sl t q hS c D;have h0:=c.oY;have s:=c.gh;have aB:0<gs.size:=(aP.1 h0).1
   have wL:∀g∈gs,awake g:=by
    intro g v;obtain⟨i,e,rfl⟩:=vI.1 v;rcases me i with rfl|hpos
    ·have:gs[0]=G fr cs:=by simpa[cw e]using h0
     rw[this];exact Gu (.inl rfl)
    ·exact Gu ((s.old i _ hpos (cw e)).status.elim .inl fun x=>.inr (.inr x))
   obtain⟨i,g,d,F,e,v,aj⟩:=Gy (P:=P) (w:=w) (sl:=sl) wL ⟨0,_,h0,rfl⟩;have A:=c.at d;rcases me i with rfl|hpos
   ·obtain rfl:g=G fr cs:=by rw[h0]at e;exact(dm e).symm
    obtain⟨o,m,B,hs,hr⟩:=h b S a gs (w.at d) t q A (D.at d);have O:=yj (P:=P) (sl:=F) (i:=0) e (show stepG P (0==0) (G fr cs) (w.at d)=_ from hs);have z:((gs.map (woken P (G fr cs) (G o m) B)).setIfInBounds 0 (G o m)).size=gs.size:=aq;have he:t++jq 0 (G fr cs).frame.fn (G fr cs).frame.place #[]=t:=by rw[GC];simp
    obtain⟨N,I,H,ah,K,J,u',L,w',Y,Z,R,T,U,V,W,X⟩:=hr ((gs.map (woken P (G fr cs) (G o m) B)).setIfInBounds 0 (G o m)) F (by simp[aB]) z
     ⟨fun j x f r=>by rw[dx ak,fj]at r;obtain⟨y,Q,rfl⟩:=ep.1 r;have p:=s.old j y f Q;rw[GJ p];exact p,fun j f=>s.above j (by rw[z]at f;exact f)⟩
    refine⟨N+1,I,H,ah,K,J,u',L,w',Y,Z,R,by simp only[runNT,aj,O];rw[he];exact T,U,V,((eT.refl a w).at d).trans W,X⟩
   ·have p:=s.old i g hpos e;have aA:(i==0)=false:=bK;have M:i<gs.size:=(aP.1 e).1;cases tr:q i with
    |zero=>rw[tr]at p;rw[p.1]at v;cases v
    |succ k=>
     rw[tr]at p;rcases p with⟨hf,_⟩|⟨_,g',es,hm,tA,qx⟩
     ·rw[hf]at v;cases v
     have O:=yj (P:=P) (sl:=F) (i:=i) e (by rw[aA];exact tA (w.at d));have z:((gs.map (woken P g g' (w.at d))).setIfInBounds i g').size=gs.size:=aq;have aG:sumTo gs.size (upd q i k)+q i=sumTo gs.size q+k:=sumTo_upd q k id M
     obtain⟨N,I,H,ah,K,J,u',L,w',Y,Z,R,T,U,V,W,X⟩:=ih b S a ((gs.map (woken P g g' (w.at d))).setIfInBounds i g') (w.at d) F (t++jq i g.frame.fn g.frame.place es) (upd q i k) (by rw[z];omega)
      ⟨by
       have aC:i≠0:=ak;rw[dx aC,fj,h0];simp[woken_running (show(G fr cs).status=.running from rfl)],c.top,c.below,A.world,c.whole,⟨fun j x f r=>by
       by_cases E:i=j
       ·subst E;rw[xB (by simpa using M)]at r;obtain rfl:=dm r;rw[gV,FN];exact qx
       ·rw[dx E,fj]at r;obtain⟨y,Q,rfl⟩:=ep.1 r;have uY:=s.old j y f Q;rw[GJ uY,iZ q k (cW E),nC t E _ (lD _ _ _ _)];exact uY,fun j f=>by
       rw[nC t (g':=i) (by simp at f;omega) _ (lD _ _ _ _)];exact s.above j (by simpa using f)⟩,A.past.mute ak hm,A.clear,c.same,A.size,wG (by rw[z];exact c.fM) (by rw[z];exact M) (lD _ _ _ _),c.full⟩ (D.at d)
     exact⟨N+1,I,H,ah,K,J,u',L,w',Y,Z,R,by simp only[runNT,aj,O];exact T,U,V,((eT.refl a w).at d).trans W,X⟩
 exact fun b S a gs w sl t q c D=>key (sumTo gs.size q+1) b S a gs w sl t q ak c D
theorem QK{Shun S Own}[DecidablePred Own](H:P=aA.prog)(h0:gs[0]? =some (G fr cs))(z:zQ P t gs q)(A:Past Shun w.heap.size t)(fM:∀i j,t.g? i=some j->j<gs.size)(k:∀b,Own b->¬S b/\∃o,w.heap[b]? =some o/\OR (dL fun b=>Own b\/S b) o o)(hS:∀b,S b->b<w.heap.size/\Calm w.heap[b]?)(D:P.globals.size<=w.heap.size)(p:XF (dL fun b=>Own b\/S b) fr)(C:nH (dL fun b=>Own b\/S b) cs)(B:∀l,Shun l->∃a:Addr,l=.cell a/\a.block<w.heap.size/\¬Own a.block):
  eY P Shun S fr cs (mask Own w) (dL fun b=>Own b\/S b) gs w t q:=by
 haveI:aW:=bE []
 have e:∀b,Own b\/S b->b<w.heap.size:=fun b c=>c.elim (fun h=>by obtain⟨_,o,d,_⟩:=k b h;exact(aP.1 d).1) fun h=>(hS b h).1;refine⟨h0,p,C,⟨⟨fun a b K h m=>h.1.symm.trans m.1,fun a J b h m=>h.1.trans m.1.symm⟩,?_,?_,?_,by rw[vh];exact D,?_,rfl,H⟩,⟨?_,?_⟩,z,A,?_,fun a b h=>h.1,vh,fM,fun a o d F=>?_⟩
 ·rintro a b ⟨rfl,h⟩;rw[vh];exact⟨e a h,e a h⟩
 ·rintro a b o ⟨rfl,h⟩ d
  by_cases c:Own a
  ·rw[nX c]at d;obtain⟨_,r,f,g⟩:=k a c;rw[f]at d;obtain rfl:=dm d;exact .inr ⟨_,f,g⟩
  ·rw[Ek c (e a h)]at d;exact .inl (dm d).symm
 ·rintro a b ⟨rfl,_⟩ h;exact h
 ·rintro a b ⟨rfl,h⟩ n
  by_cases c:Own a
  ·rw[nX c]at n;obtain⟨_,r,f,g⟩:=k a c;rw[f]at n;cases n;exact absurd rfl (fO g)
  ·exact(hS a (h.resolve_left c)).2
 ·rintro a b ⟨rfl,h⟩
  by_cases c:Own a
  ·obtain⟨I,r,f,g⟩:=k a c;exact .inl ⟨I,r,by rw[nX c];exact f,fO g⟩
  ·exact .inr ⟨h.resolve_left c,Ek c (e a h)⟩
 ·exact fun b c=>⟨b,rfl,.inr c⟩
 ·intro l E;obtain⟨a,s,v,y⟩:=B l E;exact⟨a,s,v,fun x p=>p.2.resolve_left y⟩
 ·by_cases c:Own a
  ·exact⟨a,rfl,.inl c⟩
  ·have e:a<w.heap.size:=by
    have:=(aP.1 d).1
    rwa [vh]at this
   rw[Ek c e]at d;exact absurd (dm d).symm F
end
end
end Go.Proofs.YtpobhljcainmdaaGreat
