/- Proved here: a part of what Doors keeps (Tr1, Tr2, Wk1, Wz1, Wz3). -/
import Derived.Conc.WgGenN2
import Derived.Conc.WgGenN3
import Derived.Test.YtpobhljcainmdaaGreatJ24
set_option maxRecDepth 100000
set_option maxHeartbeats 8000000
set_option linter.all false
namespace Go.Proofs.YtpobhljcainmdaaGreat
section
open Go Go.Conc
open Go.ConcN (ShN fork_knows Deaf_absent RelBy)
open Go.ConcR (stA)
def AK(b:Nat)(l:Loc):Prop:=(∃a:Addr,l=.cell a/\a.block=b)\/l=.obj b
theorem AK.one{b b':Nat}{l:Loc}(h:AK b l)(k:AK b' l):b=b':=by rcases h with⟨a,rfl,rfl⟩|rfl<;>rcases k with⟨a',e,rfl⟩|e<;>cases e<;>rfl
theorem AK.low{b B:Nat}{l:Loc}(h:AK b l)(hl:l.low B):b<B:=by rcases h with⟨a,rfl,rfl⟩|rfl<;>exact hl
theorem AK.memory{b:Nat}{l:Loc}(h:AK b l):l.isMemory=true:=by rcases h with⟨a,rfl,_⟩|rfl<;>rfl
theorem AK.sh{b Wg:Nat}{l:Loc}(h:AK b l)(hs:ShN Wg l):b=Wg:=by obtain⟨a,rfl,rfl⟩:=hs;rcases h with⟨a',e,rfl⟩|e<;>cases e;rfl
theorem yz{x:MemAct}{B:Nat}{t:Touch}(h:x.low B)(ht:x.touch?=some t):t.loc.low B:=by
 cases x with
 |access e=>cases ht;exact h
 |mark m=>cases m<;>first|(cases ht;exact h)|cases ht
 |_=>cases ht
def JJ(Wg:Nat)(O:Nat->Prop)(k:Nat)(x:Touch):Prop:=(∃b,O b/\AK b x.loc)\/x.loc.isMemory=false\/(ShN Wg x.loc/\x.kind≠.plain/\(x.kind=.said->k=0))
theorem gV.fK{Wg:Nat}{O:Nat->Prop}{B:Nat}{a:MemAct}(h:gV Wg O B a)(k:Nat){x:Touch}(hx:a.touch?=some x):JJ Wg O k x:=by
 rcases h.touch x hx with⟨ad,e,ho⟩|⟨r,e,ho⟩|e|⟨ad,e,hb,hk⟩
 ·exact .inl ⟨_,ho,.inl ⟨ad,e,rfl⟩⟩
 ·exact .inl ⟨r,ho,.inr e⟩
 ·exact .inr (.inl (by rw[e];rfl))
 ·exact .inr (.inr ⟨⟨ad,e,hb⟩,by rw[hk];simp,by rw[hk];simp⟩)
def iY(Ow:Nat->Nat->Prop)(k:Nat)(O:Nat->Prop):Nat->Nat->Prop:=fun k' b=>(k'=k/\O b)\/(k'≠k/\Ow k' b)
structure TC(Wg:Nat)(Ow:Nat->Nat->Prop)(B:Nat)(t:Trace):Prop where
 quiet:Quiet (ShN Wg) t
 own:∀k b,Ow k b->∀l,AK b l->Perm t k l
 one:∀k k' b,Ow k b->Ow k' b->k=k'
 wg:∀k,¬Ow k Wg
 lt:∀k b,Ow k b->b<B
 Jz:Wg<B
 nr:∀said,¬Race said t
 low:∀op∈t,op.act.low B
section
variable {Wg:Nat} {Ow:Nat->Nat->Prop} {B:Nat} {t u:Trace}
theorem TC.fresh(h:TC Wg Ow B t){b:Nat}(hb:B<=b)(k:Nat){l:Loc}(hl:AK b l):Perm t k l:=fun i a ha e=>by obtain⟨z,hz,MR⟩:=touch_of ha;have:=yz (h.low z (Array.mem_of_getElem? hz)) MR;rw[e]at this;have:=hl.low this;omega
theorem TC.app(h:TC Wg Ow B t){k:Nat}{O:Nat->Prop}{B':Nat}(hB:B<=B')(hO:∀b,O b->Ow k b\/B<=b)(hlt:∀b,O b->b<B')
  (hu:∀op∈u,op.g=k/\(∀x,op.act.touch?=some x->JJ Wg O k x)/\op.act.low B'):TC Wg (iY Ow k O) B' (t++u):=by
 have hW:¬O Wg:=fun ho=>(hO _ ho).elim (h.wg k) fun hb=>by have:=h.Jz;omega
 have perm:∀b,O b->∀l,AK b l->Perm t k l:=fun b hb l hl=>(hO b hb).elim (fun ho=>h.own k b ho l hl) fun hb'=>h.fresh hb' k hl;refine⟨h.quiet.app fun op hop x hx hs=>?_,fun k' b hb l hl=>?_,fun k1 k2 b h1 h2=>?_,fun k' hk'=>?_,fun k' b hb=>?_,Nat.lt_of_lt_of_le h.Jz hB,fun said=>?_,fun op hop=>?_⟩
 ·rcases(hu op hop).2.1 x hx with⟨b,ho,hb⟩|hm|⟨_,h1,h2⟩
  ·exact absurd (hb.sh hs▸ho) hW
  ·obtain⟨a,e,_⟩:=hs;rw[e]at hm;cases hm
  ·exact⟨h1,fun e=>(hu op hop).1.trans (h2 e)⟩
 ·rcases hb with⟨rfl,hb⟩|⟨hne,hb⟩
  ·exact(perm b hb l hl).app fun op hop _ _ _=>(hu op hop).1
  ·refine(h.own k' b hb l hl).app fun op hop x hx e=>?_;exfalso;rcases(hu op hop).2.1 x hx with⟨b',ho,hb'⟩|hm|⟨hs,_⟩
   ·obtain rfl:=AK.one (e▸hb') hl;rcases hO _ ho with h1|h1
    ·exact hne (h.one _ _ _ hb h1)
    ·have:=h.lt _ _ hb;omega
   ·rw[e,hl.memory]at hm;cases hm
   ·obtain rfl:=AK.sh hl (e▸hs);exact h.wg _ hb
 ·have cG:∀k',k'≠k->Ow k' b->O b->False:=fun k' hne h1 h2=>(hO b h2).elim (fun h3=>hne (h.one _ _ _ h1 h3)) fun h3=>by have:=h.lt _ _ h1;omega
  rcases h1 with⟨rfl,h1⟩|⟨n1,h1⟩<;>rcases h2 with⟨rfl,h2⟩|⟨n2,h2⟩
  ·rfl
  ·exact(cG _ n2 h2 h1).elim
  ·exact(cG _ n1 h1 h2).elim
  ·exact h.one _ _ _ h1 h2
 ·rcases hk' with⟨_,h1⟩|⟨_,h1⟩
  ·exact hW h1
  ·exact h.wg _ h1
 ·rcases hb with⟨_,h1⟩|⟨_,h1⟩
  ·exact hlt b h1
  ·exact Nat.lt_of_lt_of_le (h.lt _ _ h1) hB
 ·refine noRace_append (g:=k) (h.nr said) (fun op hop=>(hu op hop).1) fun i a ha op hop x hx hc=>?_;rcases(hu op hop).2.1 x hx with⟨b,ho,hb⟩|hm|⟨hs,h1,h2⟩
  ·exact perm b ho x.loc hb i a ha hc.1
  ·have:=hc.2.1;rw[hc.1,hm]at this;cases this
  ·exact h.quiet.known hs h1 h2 i a ha hc
 ·rcases Array.mem_append.1 hop with hop|hop
  ·exact MemAct.low_mono hB (h.low op hop)
  ·exact(hu op hop).2.2
theorem TC.fork(h:TC Wg Ow B t){c:Nat}(hc0:c≠0){A R:Nat->Prop}(hA:∀b,A b->Ow 0 b)(hR:∀b,R b->Ow 0 b)(Po:∀b,A b->¬R b)(hc:∀b,¬Ow c b){x y:MemOp}(hx:x.g=0/\x.act=.go c)(hy:y.g=c/\y.act=.start)(h0:Deaf t 0=0)(hd:Deaf t c=0):
  TC Wg (iY (iY Ow 0 R) c A) B (t++#[x,y]):=by
 have hnt:∀op∈#[x,y],∀b,op.act.touch?=some b->False:=by
  intro op hop b hb;simp only[List.mem_toArray,List.mem_cons,List.not_mem_nil,or_false]at hop;rcases hop with rfl|rfl
  ·rw[hx.2]at hb;cases hb
  ·rw[hy.2]at hb;cases hb
 have old:∀{i:Nat} {a:Touch},touchAt (t++#[x,y]) i=some a->touchAt t i=some a:=by
  intro i a ha;obtain⟨z,hz,MR⟩:=touch_of ha;rcases getElem?_append_cases hz with⟨_,Xs⟩|⟨_,hzu⟩
  ·rw[touchAt_of Xs];exact MR
  ·exact(hnt z hzu a MR).elim
 have sub:∀k b,iY (iY Ow 0 R) c A k b->Ow k b\/(k=c/\Ow 0 b/\A b):=by
  rintro k b (⟨rfl,hb⟩|⟨_,⟨rfl,hb⟩|⟨_,hb⟩⟩)
  ·exact .inr ⟨rfl,hA b hb,hb⟩
  ·exact .inl (hR b hb)
  ·exact .inl hb
 refine⟨h.quiet.app fun op hop b hb _=>(hnt op hop b hb).elim,fun k b hb l hl=>?_,fun k1 k2 b h1 h2=>?_,fun k hk=>?_,fun k b hb=>?_,h.Jz,fun said=>?_,fun op hop=>?_⟩
 ·rcases sub k b hb with h1|⟨rfl,h1,_⟩
  ·exact(h.own k b h1 l hl).app fun op hop b hb _=>(hnt op hop b hb).elim
  ·exact fun i a ha e=>fork_knows hx hy h0 hd (h.own 0 b h1 l hl i a (old ha) e)
 ·have key:∀k,iY (iY Ow 0 R) c A k b->A b->k=c:=by
   rintro k (⟨rfl,_⟩|⟨hne,⟨rfl,hb⟩|⟨hn0,hb⟩⟩) ha
   ·rfl
   ·exact absurd hb (Po b ha)
   ·exact absurd (h.one _ _ _ hb (hA b ha)) hn0
  rcases sub k1 b h1 with e1|⟨rfl,_,e1⟩<;>rcases sub k2 b h2 with e2|⟨rfl,_,e2⟩
  ·exact h.one _ _ _ e1 e2
  ·exact key _ h1 e2
  ·exact(key _ h2 e1).symm
  ·rfl
 ·rcases sub k Wg hk with h1|⟨_,h1,_⟩<;>exact h.wg _ h1
 ·rcases sub k b hb with h1|⟨_,h1,_⟩<;>exact h.lt _ _ h1
 ·have e:t++#[x,y]=(t++#[x])++#[y]:=by apply Array.ext';simp
  rw[e]
  refine noRace_append (g:=c) (noRace_append (g:=0) (h.nr said) (fun op hop=>by simp at hop;rw[hop];exact hx.1) (fun i a _ op hop b hb _=>(hnt op (by simp at hop⊢;exact .inl hop) b hb).elim))
   (fun op hop=>by simp at hop;rw[hop];exact hy.1) (fun i a _ op hop b hb _=>(hnt op (by simp at hop⊢;exact .inr hop) b hb).elim)
 ·rcases Array.mem_append.1 hop with hop|hop
  ·exact h.low op hop
  ·simp only[List.mem_toArray,List.mem_cons,List.not_mem_nil,or_false]at hop;rcases hop with rfl|rfl
   ·rw[hx.2];trivial
   ·rw[hy.2];trivial
theorem TC.mute(h:TC Wg Ow B t)(hn:∀op∈u,op.act.touch?=none)(hl:∀op∈u,op.act.low B)(hg:∃k,∀op∈u,op.g=k):TC Wg Ow B (t++u):=by
 obtain⟨k,hg⟩:=hg;have hnt:∀op∈u,∀b,op.act.touch?=some b->False:=fun op hop b hb=>by rw[hn op hop]at hb;cases hb
 refine⟨h.quiet.app fun op hop b hb _=>(hnt op hop b hb).elim,fun k b hb l hl=>(h.own k b hb l hl).app fun op hop b hb _=>(hnt op hop b hb).elim,h.one,h.wg,h.lt,h.Jz,fun said=>noRace_append (g:=k) (h.nr said) hg fun i a _ op hop b hb _=>(hnt op hop b hb).elim,fun op hop=>?_⟩;rcases Array.mem_append.1 hop with hop|hop
 ·exact h.low op hop
 ·exact hl op hop
end
end
section
open Go Go.Conc
open Go.ConcN (ShN RelBy)
open Go.ConcR (stA)
structure iT(Wg:Nat)(t:Trace)(k r:Nat):Prop where
 SJ:RelBy (stA Wg) t k r
 Wz:∀i,r<i->t.g? i=some k->∀x,touchAt t i=some x->ShN Wg x.loc/\x.kind=.atomic
structure KT(Shun:Loc->Prop)(Wg old:Nat)(t:Trace):Prop where
 known:∀i a g,touchAt t i=some a->a.loc.isMemory=true->t.g? i=some g->g<old->Knows t 0 i\/((Shun a.loc\/ShN Wg a.loc)/\a.kind=.atomic)
 over:∀i g,t.g? i=some g->g≠0->g<old->t.counts i->∃j,t.g? j=some 0/\HappensBefore t i j
 norel:∀i,t.act? i≠some (.mark (.release (stA Wg)))
section
variable {Shun:Loc->Prop} {Wg old:Nat} {t u:Trace}
theorem iA{i g:Nat}(h:(t++u).g? i=some g):(i<t.size/\t.g? i=some g)\/(t.size<=i/\∃op∈u,(t++u)[i]? =some op/\op.g=g):=by
 unfold Trace.g? at h;obtain⟨op,hop,rfl⟩:=Option.map_eq_some_iff.1 h;rcases getElem?_append_cases hop with⟨hi,h1⟩|⟨hi,h1⟩
 ·exact .inl ⟨hi,by unfold Trace.g?;rw[h1];rfl⟩
 ·exact .inr ⟨hi,op,h1,hop,rfl⟩
theorem KT.app(h:KT Shun Wg old t)(hu:∀op∈u,op.g=0\/old<=op.g\/op.act.touch?=none)(hr:∀op∈u,op.act≠.mark (.release (stA Wg))):KT Shun Wg old (t++u):=by
 refine⟨fun i a g ha hm hg hlt=>?_,fun i g hg hne hlt hc=>?_,fun i hi=>?_⟩
 ·rcases iA hg with⟨hi,h1⟩|⟨hi,op,hop,h1,rfl⟩
  ·rw[touchAt_old hi]at ha;exact(h.known i a g ha hm h1 hlt).imp (fun x=>x.app u) id
  ·rcases hu op hop with h2|h2|h2
   ·have:=knows_own h1;rw[h2]at this;exact .inl this
   ·omega
   ·rw[touchAt_of h1,h2]at ha;cases ha
 ·rcases iA hg with⟨hi,h1⟩|⟨hi,op,hop,h1,rfl⟩
  ·obtain⟨j,hj,hb⟩:=h.over i g h1 hne hlt ((counts_old hi).1 hc);refine⟨j,?_,hb_app u hb⟩;obtain⟨z,hz,hzg⟩:=Option.map_eq_some_iff.1 hj;unfold Trace.g?;rw[getElem?_append_old (lt_size_of_getElem? hz),hz];exact congrArg some hzg
  ·rcases hu op hop with h2|h2|h2
   ·exact absurd h2 hne
   ·omega
   ·obtain⟨x,hx,_⟩:=hc;have:touchAt (t++u) i=some x:=hx;rw[touchAt_of h1,h2]at this;cases this
 ·unfold Trace.act? at hi;obtain⟨op,hop,e⟩:=Option.map_eq_some_iff.1 hi;rcases getElem?_append_cases hop with⟨_,h1⟩|⟨_,h1⟩
  ·exact h.norel i (by unfold Trace.act?;rw[h1];exact congrArg some e)
  ·exact hr op h1 e
theorem iT.app{k r:Nat}(h:iT Wg t k r)(YW:∀i,t.size<=i->(t++u).g? i=some k->¬(t++u).counts i)(hu:∀op∈u,op.g=k->∀x,op.act.touch?=some x->ShN Wg x.loc/\x.kind=.atomic):iT Wg (t++u) k r:=by
 refine⟨h.SJ.app YW,fun i hi hg x hx=>?_⟩;rcases iA hg with⟨hlt,h1⟩|⟨_,op,hop,h1,h2⟩
 ·rw[touchAt_old hlt]at hx;exact h.Wz i hi h1 x hx
 ·rw[touchAt_of h1]at hx;exact hu op hop h2 x hx
theorem EA{Ow:Nat->Nat->Prop}{B q:Nat}(hT:TC Wg Ow B t)(hK:KT Shun Wg old t)(hq:t.act? q=some (.mark (.acquire (stA Wg))))(hg:t.g? q=some 0)(hh:t.heard q)(all:∀i g,t.g? i=some g->old<=g->∃r,iT Wg t g r/\r<q)(h0:Deaf t 0=0):
  Past (fun l=>Shun l\/ShN Wg l) B t:=by
 have Ua:∀{k r:Nat},iT Wg t k r->r<q->HappensBefore t r q:=fun hr hrq=>.single (.inr ⟨.marked hrq (.inr hr.SJ.act) hq (fun k _ _=>hK.norel k),hr.SJ.heard,hh⟩)
 have way:∀{i k r:Nat},t.g? i=some k->iT Wg t k r->r<q->i<=r->HappensBefore t i q:=fun{i k r} hi hr hrq hle=>by
  rcases Nat.lt_or_ge i r with hlt|hge
  ·exact .trans (.single (.inl ⟨hlt,k,hi,hr.SJ.g⟩)) (Ua hr hrq)
  ·obtain rfl:i=r:=by omega
   exact Ua hr hrq
 refine⟨hT.nr,fun i a ha hm=>?_,fun i g hi hne hc=>?_,h0,hT.low⟩
 ·obtain⟨z,hz,_⟩:=touch_of ha;have hi:t.g? i=some z.g:=by unfold Trace.g?;rw[hz];rfl
  rcases Nat.lt_or_ge z.g old with hlt|hge
  ·exact hK.known i a _ ha hm hi hlt
  ·obtain⟨r,hr,hrq⟩:=all i _ hi hge;rcases Nat.lt_or_ge r i with h1|h1
   ·obtain⟨h2,h3⟩:=hr.Wz i h1 hi a ha;exact .inr ⟨.inr h2,h3⟩
   ·obtain⟨y,hy,hyg⟩:=Option.map_eq_some_iff.1 hg;exact .inl ⟨q,y,hy,hyg,.inr (way hi hr hrq h1)⟩
 ·rcases Nat.lt_or_ge g old with hlt|hge
  ·exact hK.over i g hi hne hlt hc
  ·obtain⟨r,hr,hrq⟩:=all i g hi hge;exact⟨q,hg,way hi hr hrq (Nat.le_of_not_lt fun hlt=>hr.SJ.after i hlt hi hc)⟩
theorem TC.start{Wv:Nat->Prop}{B:Nat}(h:Past Shun B t)(hc:∀b,Wv b->∀l,AK b l->¬Shun l)(hlt:∀b,Wv b->b<B)(hw:¬Wv Wg)(hwB:Wg<B)(hn:∀op∈t,∀x,op.act.touch?=some x->¬ShN Wg x.loc):TC Wg (fun k b=>k=0/\Wv b) B t:=by refine⟨fun i op x hi hx hs=>absurd hs (hn op (Array.mem_of_getElem? hi) x hx),?_,fun k k' b h1 h2=>h1.1.trans h2.1.symm,fun k hk=>hw hk.2,fun k b hb=>hlt b hb.2,hwB,h.clean,h.seen⟩;rintro k b ⟨rfl,hb⟩ l hl i a ha e;subst e;exact(h.known i a ha hl.memory).resolve_right fun hs=>hc b hb _ hl hs.1
theorem KT.start{B:Nat}(h:Past Shun B t)(hr:∀i,t.act? i≠some (.mark (.release (stA Wg)))):KT Shun Wg old t:=
 ⟨fun i a _ ha hm _ _=>(h.known i a ha hm).imp id fun x=>⟨.inl x.1,x.2⟩,fun i g hi hne _ hc=>h.over i g hi hne hc,hr⟩
end
end
section
open Go Go.Conc
open Go.ConcN (ShN WgLive RW Has AtR0 AtK1 AtD1 AtD2 AtD3 AtD4 DWs)
open Go.ConcR (KK WgAt stA smA rd wr mk Payload DC0)
section
variable {S:Type} (r e:S->S->Prop)
def Down(n:Nat)(f' f:Nat->S):Prop:=∃i,i<n/\r (f' i) (f i)/\∀j,j<n->j≠i->e (f j) (f' j)
variable {r e}
theorem rO(he:∀s s' x,e s s'->r x s'->r x s){s s':S}(h:Acc r s)(k:e s s'):Acc r s':=.intro _ fun x hx=>h.inv (he s s' x k hx)
theorem yP(he:∀s s' x,e s s'->r x s'->r x s):∀(n:Nat) (f:Nat->S),(∀i,i<n->Acc r (f i))->Acc (Down r e n) f
 |0,f,_=>.intro _ fun f' ⟨i,hi,_⟩=>absurd hi (Nat.not_lt_zero _)
 |n+1,f,hf=>by
  have all:∀{f f':Nat->S} {m:Nat},Down r e m f' f->(∀i,i<m->Acc r (f i))->∀i,i<m->Acc r (f' i):=fun{f f' m} ⟨i,_,h1,h2⟩ h j hj=>by
   by_cases hji:j=i
   ·subst hji;exact(h j hj).inv h1
   ·exact rO he (h j hj) (h2 j hj hji)
  have key:∀a,Acc r a->∀f,Acc (Down r e n) f->(∀i,i<n->Acc r (f i))->(∀x,r x (f n)->r x a)->Acc (Down r e (n+1)) f:=by
   intro a ha;induction ha with
   |intro a _ iha=>
    intro f hf;induction hf with
    |intro f _ Xt=>
     intro hall hsub;refine .intro _ fun f' hd=>?_;obtain⟨i,hi,h1,h2⟩:=hd
     by_cases hin:i=n
     ·subst hin;have Pz:∀j,j<i->Acc r (f' j):=fun j hj=>rO he (hall j hj) (h2 j (by omega) (by omega));exact iha (f' i) (hsub _ h1) f' (yP he i f' Pz) Pz fun x hx=>hx
     ·have hd':Down r e n f' f:=⟨i,by omega,h1,fun j hj hne=>h2 j (by omega) hne⟩;exact Xt f' hd' (all hd' hall) fun x hx=>hsub x (he _ _ x (h2 n (by omega) (fun e=>hin e.symm)) hx)
  exact key (f n) (hf n (by omega)) f (yP he n f fun i hi=>hf i (by omega)) (fun i hi=>hf i (by omega)) fun x hx=>hx
end
inductive Ph|work|said|deaf|jV|nS|gF|quit
def yC(ty:TypeId)(Wg:Nat):Ph->World->Prop
 |.deaf,w=>∃v wt:Nat,wt<=1/\v<2147483647/\WgAt ty Wg w ((v+1) *KK+wt) 0
 |.jV,w=>WgAt ty Wg w 1 0
 |.nS,w=>WgAt ty Wg w 1 0
 |.gF,w=>WgAt ty Wg w 0 0
 |_,_=>True
inductive eE(ty:TypeId)(Wg:Nat)(O:Nat->Prop)(w:World):Ph->World->Array MemAct->Ph->Prop
 |own {w':World} {aD:Array MemAct} (h:MV O w w') (k:∀a∈aD,gV Wg (dQ O w w') w'.heap.size a):eE ty Wg O w .work w' aD .work
 |rel:eE ty Wg O w .work w #[.mark (.releaseMerge (stA Wg))] .said
 |idle {p:Ph} (hp:p≠.work) (hq:p≠.quit):eE ty Wg O w p w #[] p
 |DC:eE ty Wg O w .said w #[.mark .disable] .deaf
 |add {v wt:Nat} (h:WgAt ty Wg w ((v+1) *KK+wt) 0) (hw:wt<=1) (hv:v<2147483647) {q:Ph} (hq:(v=0/\wt=1/\q=.jV)\/(¬(v=0/\wt=1)/\q=.quit)):eE ty Wg O w .deaf (w.setCell (stA Wg) (.int .u64 (v*KK+wt))) (#[rd (stA Wg),wr (stA Wg)].map .ofEvent) q
 |look:eE ty Wg O w .jV w (#[rd (stA Wg)].map .ofEvent) .nS
 |zero:eE ty Wg O w .nS (w.setCell (stA Wg) (.int .u64 0)) (#[wr (stA Wg)].map .ofEvent) .gF
 |post:eE ty Wg O w .gF (w.setCell (smA Wg) (.int .u32 1)) ((semEvents (smA Wg)).map .ofEvent) .quit
inductive WS(P:Program)(ty:TypeId)(Wg:Nat)(Q:(Nat->Prop)->World->Prop):Ph->(Nat->Prop)->Goroutine->World->Prop
 |quit {O:Nat->Prop} {g:Goroutine} {w:World} {n:Nat} (h:QuitsD P n 1 g) (hq:∀w₁,Rel ty Wg O w w₁->Q O w₁):WS P ty Wg Q .quit O g w
 |step {p:Ph} {O:Nat->Prop} {g:Goroutine} {w:World} (hp:p≠.quit) (hg:g.status=.running) (q:World->Ph)
   (h:∀w₁,Rel ty Wg O w w₁->yC ty Wg p w₁->∃g' w' aD,iU P false g w₁ g' w' aD/\eE ty Wg O w₁ p w' aD (q w₁))
   (Wk:∀w₁,Rel ty Wg O w w₁->yC ty Wg p w₁->p=.gF->q w₁=.quit->mayWake P g=true/\∃g' w' es,stepG P false g w₁=.go g' w' es)
   (k:∀w₁ g' w' aD,Rel ty Wg O w w₁->yC ty Wg p w₁->iU P false g w₁ g' w' aD->WS P ty Wg Q (q w₁) (dQ O w₁ w') g' w'):WS P ty Wg Q p O g w
section
variable [aR] [aB] {P:Program} {ty:TypeId} {Wg:Nat} {Q:(Nat->Prop)->World->Prop}
theorem gy{O':Nat->Prop}{w:World}{a:Addr}{v:Value}(ha:a.block=Wg)(hn:¬O' Wg)(hl:WgLive ty Wg (w.setCell a v)):Rel ty Wg O' w (w.setCell a v):=
 ⟨fun b hb=>(aside_setCell w a v).block b fun e=>hn (by rw[<-ha,<-e];exact hb),by simp,fun _=>hl,by simp[World.setCell]⟩
theorem mU{main:Bool}{g g1 g2:Goroutine}{w w1 w2:World}{es:Array Event}{aD:Array MemAct}(h:stepG P main g w=.go g1 w1 es)(k:iU P main g w g2 w2 aD):g2=g1/\w2=w1/\aD=es.map .ofEvent:=by obtain⟨a,b,c⟩:=wo k (.go h);exact⟨a,b,c⟩
theorem MG{Stop:(Nat->Prop)->Goroutine->World->Prop}{O:Nat->Prop}{g:Goroutine}{w:World}(h:CJ P false ty Wg Stop O g w)(hs:∀O g w,(∀w₁,Rel ty Wg O w w₁->Stop O g w₁)->WS P ty Wg Q .work O g w):WS P ty Wg Q .work O g w:=by
 induction h with
 |stop h=>exact hs _ _ _ h
 |step hg h _ ih=>
  refine .step (by simp) hg (fun _=>.work) (fun w₁ r _=>?_) (fun _ _ _ e=>by cases e) fun w₁ g' w' aD r _ ht=>ih w₁ g' w' aD r ht;obtain⟨g',w',aD,h1,h2,h3⟩:=h w₁ r;exact⟨g',w',aD,h1,.own h2 h3⟩
theorem qT(O:Nat->Prop)(w:World):dQ O w w=O:=by
 funext b
 apply propext;constructor
 ·rintro(h|⟨h1,h2⟩)
  ·exact h
  ·omega
 ·exact .inl
theorem gv{R:World->World->Prop}{Stop:Goroutine->World->Prop}{p:Ph}(hp:p≠.work)(hq:p≠.quit){O:Nat->Prop}(hR:∀a b,Rel ty Wg O a b->R a b){wb:World}(hs:∀g w,Rel ty Wg O wb w->(∀w₁,Rel ty Wg O w w₁->Stop g w₁)->WS P ty Wg Q p O g w):
  ∀(m:Nat) (g:Goroutine) (w:World),Rel ty Wg O wb w->Goes P false R DC0 Stop m g w->WS P ty Wg Q p O g w
 |0,g,w,hb,h=>hs g w hb fun w₁ r=>h w₁ (hR _ _ r)
 |m+1,g,w,hb,h=>by
  rcases h with h|⟨hg,h⟩
  ·exact hs g w hb fun w₁ r=>h w₁ (hR _ _ r)
  have one:∀w₁,Rel ty Wg O w w₁->∃g',stepG P false g w₁=.go g' w₁ #[]/\Goes P false R DC0 Stop m g' w₁:=fun w₁ r=>by
   have:=h w₁ (hR _ _ r);revert this;cases hst:stepG P false g w₁ with
   |go g' w' es=>
    rintro⟨⟨rfl,rfl⟩,h2⟩;exact⟨g',rfl,h2⟩
   |_=>intro h;exact h.elim
  refine .step hq hg (fun _=>p) (fun w₁ r _=>?_) (fun w₁ _ _ e1 e2=>absurd e2 hq) fun w₁ g' w' aD r _ ht=>?_
  ·obtain⟨g',h1,_⟩:=one w₁ r;exact⟨g',w₁,#[],by have:=iU.go h1;simpa using this,.idle hp hq⟩
  ·obtain⟨g2,h1,h2⟩:=one w₁ r;obtain⟨rfl,rfl,rfl⟩:=mU h1 ht;rw[qT];exact gv hp hq hR hs m _ _ (hb.trans r) h2
end
end
section
open Go Go.Conc Go.ConcN Go.RowKit Go.Conc.Lib Go.ConcR.Gen Go.ConcN.Gen
open Go.ConcR (KK wgBlock WgAt stA smA rd wr mk Payload Aside2 DC0)
def DZ(Wg:Nat)(w w':World)(es:Array Event):Prop:=w'=w/\∀e∈es,e=⟨.mark (.read (smA Wg)),false,true⟩\/e=⟨.mark (.write (smA Wg)),false,true⟩
theorem lr{ty:TypeId}{Wg:Nat}{O:Nat->Prop}{w w₁:World}(h:WgLive ty Wg w)(r:Rel ty Wg O w w₁):WgLive ty Wg w₁:=r.live h
section
variable (P:Program) (ty:TypeId) (Wg:Nat) (O:Nat->Prop) (Fin:Goroutine->World->Prop)
def ZA3(g:Goroutine)(w:World):Prop:=g.status=.running/\∃g',stepG P true g w=.go g' w #[mk .enable]/\∃m,Goes P true (Rel ty Wg O) (DZ Wg) Fin m g' w
def ZA2(g:Goroutine)(w:World):Prop:=g.status=.running/\∀v:Nat,v<2147483647->WgAt ty Wg w (v*KK) 0->
 ∃g',stepG P true g w=.go g' (w.setCell (stA Wg) (.int .u64 ((v+1) *KK))) #[rd (stA Wg),wr (stA Wg)]/\∃m,Goes P true (Rel ty Wg O) (DZ Wg) (ZA3 P ty Wg O Fin) m g' (w.setCell (stA Wg) (.int .u64 ((v+1) *KK)))
def ZA1(g:Goroutine)(w:World):Prop:=g.status=.running/\∃g',stepG P true g w=.go g' w #[mk .disable]/\∃m,Goes P true (Rel ty Wg O) (DZ Wg) (ZA2 P ty Wg O Fin) m g' w
end
section
variable {P:Program} {R:World->World->Prop} {Wg:Nat} {Stop:Goroutine->World->Prop}
theorem xG{D:World->World->Array Event->Prop}{n:Nat}{g:Goroutine}{w:World}(h:Goes P true R D Stop n g w):∀k,Goes P true R D Stop (n+k) g w
 |0=>h
 |k+1=>(xG h k).more
theorem cg:∀{n:Nat} {g:Goroutine} {w:World},Goes P true R DC0 Stop n g w->Goes P true R (DZ Wg) Stop n g w
 |0,_,_,h=>h
 |n+1,_,_,h=>h.imp id fun⟨h1,h2⟩=>⟨h1,fun w₁ r=>by have:=h2 w₁ r;revert this;cases stepG P true _ w₁<;>simp only[GStep.goes]<;>first|exact id|exact fun⟨h3,h4⟩=>⟨⟨h3.1,by rw[h3.2];simp⟩,cg h4⟩⟩
theorem xI(hR:∀w,R w w){m:Nat}:∀{n:Nat} {g:Goroutine} {w:World},Goes P true R DC0 (fun g w=>g.status=.running/\∃g' e,stepG P true g w=.go g' w #[e]/\(e=⟨.mark (.read (smA Wg)),false,true⟩\/e=⟨.mark (.write (smA Wg)),false,true⟩)/\Goes P true R (DZ Wg) Stop m g' w) n g w->Goes P true R (DZ Wg) Stop (m+1+n) g w:=by
 have one:∀{g:Goroutine} {w:World},(∀w₁,R w w₁->(g.status=.running/\∃g' e,stepG P true g w₁=.go g' w₁ #[e]/\(e=⟨.mark (.read (smA Wg)),false,true⟩\/e=⟨.mark (.write (smA Wg)),false,true⟩)/\Goes P true R (DZ Wg) Stop m g' w₁))->Goes P true R (DZ Wg) Stop (m+1) g w:=fun{g w} h=>.inr ⟨(h w (hR w)).1,fun w₁ r=>by obtain⟨_,g',e,h1,h2,h3⟩:=h w₁ r;rw[h1];exact⟨⟨rfl,fun x hx=>by rw[Array.mem_singleton]at hx;rw[hx];exact h2⟩,h3⟩⟩
 intro n;induction n with
 |zero=>exact fun h=>one h
 |succ n ih=>
  intro g w h;rcases h with h|⟨h1,h2⟩
  ·exact xG (one h) (n+1)
  ·refine .inr ⟨h1,fun w₁ r=>?_⟩;have:=h2 w₁ r;revert this;cases stepG P true g w₁<;>simp only[GStep.goes]<;>first|exact id|exact fun⟨h3,h4⟩=>⟨⟨h3.1,by rw[h3.2];simp⟩,ih h4⟩
end
section
variable {L:WgLink} {Wg:Nat} {O:Nat->Prop} {c₀:Frame} {cs:List Frame} {Fin:Goroutine->World->Prop}
theorem AX{P:Program}(H:WgLib P L)(hT:∀w,WgLive L.tWg Wg w->Fin (G (c₀.finish (.tuple #[])) cs) w)(w:World)(hK:WgLive L.tWg Wg w):
  Goes P true (Rel L.tWg Wg O) (DZ Wg) (ZA1 P L.tWg Wg O Fin) 100 (G ((base L.add).at ⟨#[.pointer (some ⟨Wg,0,none⟩),.int .i64 1,undef,undef,undef,undef,undef,undef,undef,undef,undef,undef,undef,undef,undef,undef,undef,undef,undef,undef,undef,undef,undef,undef,undef,undef,undef,undef,undef,undef,undef,undef,undef,undef,undef,undef,undef,undef,undef,undef,undef,undef,undef,undef,undef,undef,undef,undef,undef,undef,undef,undef,undef,undef,undef,undef,undef,undef,undef,undef,undef,undef,undef,undef,undef,undef,undef,undef,undef,undef,undef,undef,undef,undef,undef,undef,undef,undef,undef,undef,undef,undef,undef,undef,undef,undef,undef,undef,undef,undef,undef,undef,undef,undef,undef,undef,undef,undef,undef,undef,undef,undef,undef,undef,undef,undef,undef,undef,undef,undef,undef,undef,undef,undef,undef,undef,undef],[]⟩ [.code (body_add L)]) (c₀::cs)) w:=by
 lib_facts
 simp only[body_add,addFn,Option.getD_some];refine cg ?_;u_c stepG_seq lr hK;u_cond true lr hK;u_c stepG_seq lr hK;u_c stepG_seq lr hK;u_reg lr hK;u_op lr hK;u_op lr hK;u_c stepG_region_end lr hK;u_cond false lr hK;u_c stepG_skip lr hK;u_c stepG_seq lr hK;u_reg lr hK;refine Goes.stop (fun _ hr=>?_);replace hK:=lr hK hr;clear hr;refine⟨rfl,_,stepG_mark0 .disable (by simp) rfl rfl (by k_ne) rfl H.f_disable (x_disable_n L) (x_disable_b L) (x_disable_x L) (x_disable_f L),100,?_⟩;refine cg ?_
 walk_nrm
 u_c stepG_region_end lr hK;u_reg lr hK;u_defer lr hK;u_c stepG_region_end lr hK;u_c stepG_seq lr hK;u_reg lr hK;u_op lr hK;u_c stepG_region_end lr hK;u_c stepG_seq lr hK;u_c stepG_seq lr hK;u_reg lr hK;u_bub lr hK;u_c stepG_region_end lr hK;u_cond false lr hK;u_c stepG_skip lr hK;u_c stepG_seq lr hK;u_reg lr hK;u_op lr hK;u_op lr hK;u_op lr hK;u_op lr hK;u_op lr hK;u_op lr hK;u_call H.f_uAdd (nm_uAdd L) uAddFn lr hK;u_c stepG_seq lr hK;u_reg lr hK;u_op lr hK;u_c stepG_region_end lr hK;u_c stepG_seq lr hK;u_reg lr hK;u_op lr hK;u_op lr hK;u_op lr hK;u_op lr hK;refine Goes.stop (fun _ hr=>?_);replace hK:=lr hK hr;clear hr;refine⟨rfl,fun v hv hw=>?_⟩;rcases Nat.eq_zero_or_pos v with rfl|hvp
 ·replace hw:=show WgAt L.tWg Wg _ 0 0 from by simpa using hw
  have z:(((0:Nat):Int)+1) *KK=KK:=by simp
  rw[z];have e0:IntKind.u64.wrap (0+4294967296)=KK:=by decide
  refine⟨_,(stepG_add_atomic rfl rfl (by k_ne) rfl H.f_addU64 (x_addU64_n L) (x_addU64_b L) (x_addU64_x L) .u64 (x_addU64_f L) rfl rfl hw.cellSt (hw.thaw 0)).trans (by rw[e0];rfl),120,?_⟩
  replace hK:WgLive L.tWg Wg (World.setCell _ (stA Wg) (.int .u64 KK)):=⟨_,_,hw.setSt _⟩
  clear hw;simp only[KK]at hK⊢;refine xI (n:=70) (m:=49) (fun _=>⟨fun _ _=>rfl,Nat.le_refl _,id,rfl⟩) ?_
  walk_nrm
  u_op lr hK;u_c stepG_region_end lr hK;u_c stepG_ret' lr hK;u_leave1 H.f_uAdd lr hK;u_op lr hK;u_c stepG_region_end lr hK;u_c stepG_seq lr hK;u_c stepG_seq lr hK;u_reg lr hK;u_op lr hK;u_op lr hK;u_op lr hK;u_op lr hK;u_skip lr hK;u_skip lr hK;u_op lr hK;u_c stepG_region_end lr hK;u_cond false lr hK;u_c stepG_skip lr hK;u_c stepG_seq lr hK;u_reg lr hK;u_op lr hK;u_op lr hK;u_op lr hK;u_op lr hK;u_c stepG_region_end lr hK;u_c stepG_seq lr hK;u_reg lr hK;u_op lr hK;u_op lr hK;u_op lr hK;u_op lr hK;u_c stepG_region_end lr hK;u_c stepG_seq lr hK;u_c stepG_seq lr hK;u_reg lr hK;u_op lr hK;u_op lr hK;u_op lr hK;u_op lr hK;u_op lr hK;u_op lr hK;u_op lr hK;u_op lr hK;u_op lr hK;u_op lr hK;u_c stepG_region_end lr hK;u_cond true lr hK;u_reg lr hK;u_op lr hK;u_op lr hK;u_op lr hK
  u_conv H.underlying_tPU32 H.room_tU32 (WgLive.cell1 hK).choose_spec lr hK
  refine Goes.stop (fun _ hr=>?_);replace hK:=lr hK hr;clear hr;refine⟨rfl,_,_,stepG_markAt .read (by simp) rfl rfl (by k_ne) rfl H.f_raceRead (x_raceRead_n L) (x_raceRead_b L) (x_raceRead_x L) (x_raceRead_f L) (ad:=⟨Wg,1,none⟩) (by simp[Act.eval]),.inl rfl,?_⟩;refine cg ?_
  walk_nrm
  u_c stepG_region_end lr hK;u_c stepG_seq lr hK;u_c stepG_seq lr hK;u_reg lr hK;u_op lr hK;u_op lr hK;u_c stepG_region_end lr hK;u_cond false lr hK;u_c stepG_skip lr hK;u_c stepG_seq lr hK;u_c stepG_seq lr hK;u_reg lr hK;u_op lr hK;u_op lr hK;u_op lr hK;u_skip lr hK;u_skip lr hK;u_op lr hK;u_op lr hK;u_skip lr hK;u_skip lr hK;u_skip lr hK;u_skip lr hK;u_op lr hK;u_c stepG_region_end lr hK;u_cond false lr hK;u_c stepG_skip lr hK;u_c stepG_seq lr hK;u_c stepG_seq lr hK;u_reg lr hK;u_op lr hK;u_op lr hK;u_op lr hK;u_skip lr hK;u_skip lr hK;u_op lr hK;u_c stepG_region_end lr hK;u_cond true lr hK;u_c stepG_ret' lr hK;refine Goes.stop (fun _ hr=>?_);replace hK:=lr hK hr;clear hr;refine⟨rfl,_,stepG_unwind_entry (v:=.tuple #[]) (evs:=#[mk .enable]) rfl H.f_enable (x_enable_n L) (x_enable_b L) (x_enable_x L) (x_enable_f L) (by simp[Extern.Race.none_]) (by simp[mk]) (by simp[mk]),2,?_⟩;refine cg ?_
  u_in lr hK
  rw[stepG_leave rfl rfl H.f_add (results_none rfl _ P _) (events_results_none rfl _ _)];simp only[goes_go];refine⟨by u_nil,?_⟩;exact Goes.stop fun w₁ r=>hT _ (lr hK r)
 ·obtain⟨V,hV⟩:∃V:Int,V=(v:Int)+1:=⟨_,rfl⟩;obtain⟨S,hS⟩:∃S:Int,S=V*KK:=⟨_,rfl⟩;have eS:IntKind.u64.wrap ((v:Int) *KK+4294967296)=S:=by rw[IntKind.wrap_u64,hS,hV];simp only[KK];omega
  rw[<-hV,<-hS];have a1:S / 4294967296=V:=by rw[hS];simp only[KK];omega
  have b1:bits .and .u64 S 2147483648=0:=by rw[hS,hV];have:=st_flag (v+1) 0 (by omega) (by omega);simpa[KK]using this
  have b2:bits .and .u64 S 2147483647=0:=by rw[hS,hV];have:=st_waiters (v+1) 0 (by omega) (by omega);simpa[KK]using this
  have c1:IntKind.i32.wrap V=V:=by rw[IntKind.wrap_i32];omega
  have hV1:1<V:=by omega
  have hV2:V<2147483648:=by omega
  have q1:(V==1)=false:=by simp;omega
  have q2:decide (V=1)=false:=decide_eq_false (by omega);have q3:decide (V<0)=false:=decide_eq_false (by omega);have q4:decide (0<V)=true:=decide_eq_true (by omega);have q5:(V==0)=false:=by simp;omega
  have q6:decide (V=0)=false:=decide_eq_false (by omega);refine⟨_,(stepG_add_atomic rfl rfl (by k_ne) rfl H.f_addU64 (x_addU64_n L) (x_addU64_b L) (x_addU64_x L) .u64 (x_addU64_f L) rfl rfl hw.cellSt (hw.thaw 0)).trans (by rw[eS];rfl),120,?_⟩
  replace hK:WgLive L.tWg Wg (World.setCell _ (stA Wg) (.int .u64 S)):=⟨_,_,hw.setSt _⟩
  clear hw hS hV eS;refine cg ?_
  walk_nrm
  u_op lr hK;u_c stepG_region_end lr hK;u_c stepG_ret' lr hK;u_leave1 H.f_uAdd lr hK;u_op lr hK;u_c stepG_region_end lr hK;u_c stepG_seq lr hK;u_c stepG_seq lr hK;u_reg lr hK;u_op lr hK;u_op lr hK;u_op lr hK;u_op lr hK;u_skip lr hK;u_skip lr hK;u_op lr hK;u_c stepG_region_end lr hK;u_cond false lr hK;u_c stepG_skip lr hK;u_c stepG_seq lr hK;u_reg lr hK;u_op lr hK;u_op lr hK;u_op lr hK;u_op lr hK;u_c stepG_region_end lr hK;u_c stepG_seq lr hK;u_reg lr hK;u_op lr hK;u_op lr hK;u_op lr hK;u_op lr hK;u_c stepG_region_end lr hK;u_c stepG_seq lr hK;u_c stepG_seq lr hK;u_reg lr hK;u_op lr hK;u_op lr hK;u_op lr hK;u_op lr hK;u_op lr hK;u_op lr hK;u_op lr hK;u_op lr hK;u_op lr hK;u_op lr hK;u_c stepG_region_end lr hK;u_cond false lr hK;u_c stepG_skip lr hK;u_c stepG_seq lr hK;u_c stepG_seq lr hK;u_reg lr hK;u_op lr hK;u_op lr hK;u_c stepG_region_end lr hK;u_cond false lr hK;u_c stepG_skip lr hK;u_c stepG_seq lr hK;u_c stepG_seq lr hK;u_reg lr hK;u_op lr hK;u_op lr hK;u_op lr hK;u_skip lr hK;u_skip lr hK;u_op lr hK;u_op lr hK;u_skip lr hK;u_skip lr hK;u_skip lr hK;u_skip lr hK;u_op lr hK;u_c stepG_region_end lr hK;u_cond false lr hK;u_c stepG_skip lr hK;u_c stepG_seq lr hK;u_c stepG_seq lr hK;u_reg lr hK;u_op lr hK;u_op lr hK;u_op lr hK;u_skip lr hK;u_skip lr hK;u_op lr hK;u_c stepG_region_end lr hK;u_cond true lr hK;u_c stepG_ret' lr hK;refine Goes.stop (fun _ hr=>?_);replace hK:=lr hK hr;clear hr;refine⟨rfl,_,stepG_unwind_entry (v:=.tuple #[]) (evs:=#[mk .enable]) rfl H.f_enable (x_enable_n L) (x_enable_b L) (x_enable_x L) (x_enable_f L) (by simp[Extern.Race.none_]) (by simp[mk]) (by simp[mk]),2,?_⟩;refine cg ?_
  u_in lr hK
  rw[stepG_leave rfl rfl H.f_add (results_none rfl _ P _) (events_results_none rfl _ _)];simp only[goes_go];refine⟨by u_nil,?_⟩;exact Goes.stop fun w₁ r=>hT _ (lr hK r)
end
end
section
open Go Go.Conc Go.ConcN Go.RowKit Go.Conc.Lib Go.ConcR.Gen Go.ConcN.Gen
open Go.ConcR (KK wgBlock WgAt stA smA rd wr mk Payload Aside2 DC0)
section
variable (P:Program) (ty:TypeId) (Wg:Nat) (O:Nat->Prop)
def ZR2(g:Goroutine)(w:World):Prop:=g.status=.running/\∃g',stepG P false g w=.go g' w #[mk .disable]
def XM(g:Goroutine)(w:World):Prop:=g.status=.running/\∃g',stepG P false g w=.go g' w #[mk (.releaseMerge (stA Wg))]/\∃m,Goes P false (Rel ty Wg O) DC0 (ZR2 P) m g' w
end
section
variable {L:WgLink} {Wg:Nat} {O:Nat->Prop} {c:Frame} {cs:List Frame}
theorem yL{P:Program}(H:WgLib P L)(w:World)(hK:WgLive L.tWg Wg w):
  Goes P false (Rel L.tWg Wg O) DC0 (XM P L.tWg Wg O) 60 (G ((baseD L.done).at ⟨#[.pointer (some ⟨Wg,0,none⟩),undef,undef,undef],[]⟩ [.code (body_done L)]) (c::cs)) w:=by
 lib_facts
 simp only[body_done,doneFn,Option.getD_some];u_reg lr hK;u_op lr hK
 u_in lr hK
 refine goes_call rfl rfl (by k_ne) rfl H.f_add (nm_add L) rfl ⟨by u_nil,?_⟩
 walk_nrmf addFn
 u_c stepG_seq lr hK;u_cond true lr hK;u_c stepG_seq lr hK;u_c stepG_seq lr hK;u_reg lr hK;u_op lr hK;u_op lr hK;u_c stepG_region_end lr hK;u_cond true lr hK;u_reg lr hK;u_op lr hK
 u_conv H.underlying_tWgP H.room_tWg (WgLive.cell0 hK).choose_spec lr hK
 refine Goes.stop (fun _ hr=>?_);replace hK:=lr hK hr;clear hr;refine⟨rfl,_,stepG_markAt .releaseMerge (by simp) rfl rfl (by k_ne) rfl H.f_relMerge (x_relMerge_n L) (x_relMerge_b L) (x_relMerge_x L) (x_relMerge_f L) (by simp[Act.eval,stA]),40,?_⟩
 walk_nrm
 u_c stepG_region_end lr hK;u_c stepG_seq lr hK;u_reg lr hK;refine Goes.stop (fun _ hr=>?_);replace hK:=lr hK hr;clear hr;exact⟨rfl,_,stepG_mark0 .disable (by simp) rfl rfl (by k_ne) rfl H.f_disable (x_disable_n L) (x_disable_b L) (x_disable_x L) (x_disable_f L)⟩
end
end
end Go.Proofs.YtpobhljcainmdaaGreat
