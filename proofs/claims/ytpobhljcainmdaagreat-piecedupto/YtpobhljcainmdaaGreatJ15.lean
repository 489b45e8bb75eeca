/- Parts of the proof. -/
import Derived.Test.YtpobhljcainmdaaGreatJ14
set_option maxRecDepth 100000
set_option maxHeartbeats 8000000
set_option linter.all false
namespace Go.Proofs.YtpobhljcainmdaaGreat
open _root_.List renaming replicate->lZ,pairwise_append->UI,takeWhile_cons->UK,range->dM
open Go.World renaming ownsRow_nil->um,putObj_heap_other->eX
open Go renaming World->an,Value->au,FuncId->bh
open _root_.Classical renaming axiomOfChoice->Ud
open Go.Maps renaming keyOf_int_inv->UO
open _root_.List.Pairwise renaming nil->UB
open Go.WideElems renaming rd_key->Vd,rd_val->Ve
open _root_.Array renaming replicate->pR
open Go.RowKit renaming wrap64->Aj
open Go.Region renaming wanted->cL
open Go.ConcR renaming Payload->Ch
section
open Classical
open Go.Conc Go.RowKit
open Go.Proofs.Tryz
theorem ay.WU{W W' f xb L}(h:ay W f xb L){j d bR}(D:j.length=f.K.length)(C:∀b,b<W.heap.size->(∀s,L.own b≠7+2*s)->W'.heap[b]? =W.heap[b]?)(z:∀b,b<W.heap.size->bR b=L.own b)(B:vZ W' bR f.g j d)(hc:(d.map fun l=>l.map Lc.c)=L.as):
  ay W' {f with K:=j} xb {L with cs:=d,own:=bR}:=by
 have a:eH W W' L.own bR fun t=>∃s,t=7+2*s:=⟨fun b A E=>C b A fun s e=>E ⟨s,e⟩,z⟩;have b1:=a.blk h.box h.dX ak;have m:=a.blk h.dA h.gT ak;have p:=a.row h.bL h.kg ak;have r:=a.row h.log h.lu ak;have x:=a.ey h.ey h.iw ak;refine⟨?_,b1.2,?_,m.2,B,a.js h.js (fun s lc F=>?_) (fun n=>by rintro⟨s,e⟩;omega),a.nS h.fl ak,p.1,p.2,r.1,r.2,x.1,x.2⟩
 ·have e:=b1.1;simp only[kr,D]at e⊢;exact e
 ·show wu W' L.sb (d.map fun l=>l.map Lc.c);rw[hc];exact m.1
 ·have i:(d.map fun l=>l.map Lc.c)[s]? =some (some lc.c):=by rw[hc,kO,F];rfl
  rw[kO]at i;cases y:d[s]? with
  |none=>rw[y]at i;cases i
  |some o=>
   rw[y]at i;cases o with
   |none=>cases i
   |some G=>exact⟨G,rfl,by simpa using i⟩
def Lc.Mine(l:Lc)(b:Nat):Prop:=b=l.c\/b=l.rb\/b=l.mb\/b=l.ch\/l.q.ownBlock=some b\/l.v.ownBlock=some b
theorem Lc.gw.mine{l:Lc}{P:Nat->Prop}(h:l.gw P){b:Nat}(a:l.Mine b):P b:=by
 rcases a with rfl|rfl|rfl|rfl|e|e
 ·exact h.1
 ·exact h.2.1
 ·exact h.2.2.1
 ·exact h.2.2.2.1
 ·exact h.2.2.2.2.1 b e
 ·exact h.2.2.2.2.2 b e
theorem Lc.mine(l:Lc):l.gw l.Mine:=⟨.inl rfl,.inr (.inl rfl),.inr (.inr (.inl rfl)),.inr (.inr (.inr (.inl rfl))),fun _ e=>.inr (.inr (.inr (.inr (.inl e)))),fun _ e=>.inr (.inr (.inr (.inr (.inr e))))⟩
section
variable [aA] {ρ:Ren} {P:Program} {u w:an}
theorem Yx{v v'}(hf:kW v)(h:VR ρ v v'):v'=v:=by cases h<;>first|rfl|exact hf.elim
theorem Yy{v}(hf:kW v):VR ρ v v:=by cases v<;>first|exact hf.elim|constructor
theorem Yz{x x'}(hf:∀u∈x.toList,kW u)(h:bf ρ x x'):x'=x:=by
 apply Bx;intro i;cases b:x[i]? with
 |none=>
  have a:=xA.1 b;exact qJ (by rw[h.1];exact a)
 |some v=>
  have a:i<x'.size:=by rw[h.1];exact(aP.1 b).1
  have hv:v∈x.toList:=by have:=lC b;exact tQ.2 this
  rw[cw a,Yx (hf v hv) (h.2 i v _ b (cw a))]
theorem OM{x}(hf:∀u∈x.toList,kW u):bf ρ x x:=⟨rfl,fun i v d a b=>by rw[a]at b;cases b;exact Yy (hf v (tQ.2 (lC a)))⟩
theorem RQ(G:eK P ρ u w){T k n v v' xs}(hr:u.ownsRow 0 T k v n xs)(F:mq u v)(hv:VR ρ v v'):w.ownsRow 0 T k v' n xs/\mq w v'/\∀g,v'.ownBlock=some g->ρ.im g:=by
 rcases hr.2 with⟨e,s⟩|⟨g,r,a,e,K,i,x,A,B,C⟩
 ·subst e;have:=aeN hv;subst this;exact⟨⟨hr.1,.inl ⟨rfl,s⟩⟩,zn w,fun g E=>by cases E⟩
 ·subst e;cases hv with
  |@slice _ p _ _ D=>
   obtain⟨f,m,o⟩:=D;obtain⟨b,y,z⟩:=p;simp only at f m o;subst m o;have j:∀u∈a.toList,kW u:=Fz F i
   have l:w.heap[b]? =some (.cells a T (0,0)):=by
    rcases G.obj g b _ f i with h|⟨L,I,J⟩
    ·cases h
    ·cases J with
     |cells _ _ H=>rw[I,Yz j H]
   refine⟨⟨hr.1,.inr ⟨b,r,a,rfl,eE _,l,x,A,B,C⟩⟩,fun t d=>?_,fun t d=>?_⟩
   ·cases d;exact⟨a,T,l,j⟩
   ·cases d;exact⟨_,f⟩
theorem aew(C:eK P ρ u w){mb us}(hm:ρ mb mb)(h:Uses u mb us):Uses w mb us:=by
 obtain⟨f,s,t,e,A,B⟩:=h;rcases C.obj mb mb _ hm t with h|⟨L,F,G⟩
 ·cases h
 ·cases G with
  |@map _ a _ d=>
   have:a=f:=by
    apply Bx;intro i;cases b:f[i]? with
    |none=>exact qJ (by rw[d.1];exact xA.1 b)
    |some m=>
     have l:i<a.size:=by rw[d.1];exact(aP.1 b).1
     obtain⟨o,p,r⟩:=d.2 i m _ b (cw l);obtain⟨y,n⟩:=e.reads m (tQ.2 (lC b));obtain⟨x,j,_,_⟩:=UO (q:=.i64) aI (Vd n);obtain⟨z,D,_⟩:=Ve n;obtain⟨hv,_⟩:=unitElem_inv D;rw[cw l];generalize a[i]=E at*;obtain⟨a1,I,a3⟩:=m;obtain⟨b1,J,K⟩:=E;simp only at o p r j hv;subst j hv r;rw[Bt o];cases p with
     |@agg _ a H M=>
      have:a=#[]:=FG H;rw[this]
   subst this;exact⟨_,s,F,e,A,B⟩
variable {c rb mb ch:Nat} {g:Cf} {k:Ck} {q v:au}
theorem bM.AZ(d:eK P ρ u w)(hc:ρ c c)(hr:ρ rb rb)(hm:ρ mb mb)(l:ρ ch ch)(h:bM u c rb mb ch q v g k):∃f b,bM w c rb mb ch f b g k/\(⟨c,rb,mb,ch,f,b⟩:Lc).gw ρ.im:=by
 obtain⟨e,r,z,A⟩:=NB d hc h.p.box;have key:=A;obtain⟨f,x,M⟩:=key 13 q rfl;obtain⟨b,y,N⟩:=key 16 v rfl
 have m:e=iJ g k rb f b ch:=by
  have num:∀(i:Nat) (o:IntKind) (n:Int),(iJ g k rb q v ch)[i]? =some (.int o n)->e[i]? =some (.int o n):=fun i o n C=>by obtain⟨b,a1,a⟩:=key i _ C;rw[a1,Bt a]
  apply Bx;intro i
  match i with
  |0=>exact num 0 _ _ rfl
  |1=>exact num 1 _ _ rfl
  |2=>exact num 2 _ _ rfl
  |3=>exact num 3 _ _ rfl
  |4=>exact num 4 _ _ rfl
  |5=>exact num 5 _ _ rfl
  |6=>exact num 6 _ _ rfl
  |7=>exact num 7 _ _ rfl
  |8=>exact num 8 _ _ rfl
  |9=>exact num 9 _ _ rfl
  |10=>exact num 10 _ _ rfl
  |11=>obtain⟨b,a1,a⟩:=key 11 _ rfl;rw[a1,aeM d.one hr a];rfl
  |12=>obtain⟨b,a1,a⟩:=key 12 _ rfl;rw[a1,aeO a];rfl
  |13=>exact x
  |14=>exact num 14 _ _ rfl
  |15=>exact num 15 _ _ rfl
  |16=>exact y
  |17=>exact num 17 _ _ rfl
  |18=>exact num 18 _ _ rfl
  |19=>exact num 19 _ _ rfl
  |20=>obtain⟨b,a1,a⟩:=key 20 _ rfl;rw[a1,aeJ d.one l a];rfl
  |n+21=>
   have B:e.size=21:=z;rw[qJ ak];rfl
 rw[m]at r;obtain⟨D,E,F⟩:=RQ d h.p.row h.p.tq M;obtain⟨G,H,I⟩:=RQ d h.p.out h.p.tv N;obtain⟨t,s,L⟩:=h.rd;refine⟨f,b,⟨⟨r,D,G,E,H,?_⟩,t,⟨?_,aew d hm s.uses⟩,L⟩,⟨_,hc⟩,⟨_,hr⟩,⟨_,hm⟩,⟨_,l⟩,F,I⟩
 ·rcases d.obj ch ch _ l h.p.chan with h|⟨O,J,K⟩
  ·cases h
  ·cases K;exact J
 ·obtain⟨e,m1,m2,j⟩:=NB d hr s.box
  have m:e=#[aj g.sz,aj g.mx,aj t,.map (some mb)]:=by
   apply Bx;intro i
   match i with
   |0=>obtain⟨b,a1,a⟩:=j 0 _ rfl;rw[a1,Bt a];rfl
   |1=>obtain⟨b,a1,a⟩:=j 1 _ rfl;rw[a1,Bt a];rfl
   |2=>obtain⟨b,a1,a⟩:=j 2 _ rfl;rw[a1,Bt a];rfl
   |3=>obtain⟨b,a1,a⟩:=j 3 _ rfl;rw[a1,aeL d.one hm a];rfl
   |n+4=>
    have B:e.size=4:=m2;rw[qJ ak];rfl
  rw[m]at m1;exact m1
theorem RR{C T k n v xs}(hr:u.ownsRow 0 T k v n xs)(a:∀b,v.ownBlock=some b->C b):VR (dL C) v v:=by
 rcases hr.2 with⟨e,h⟩|⟨g,d,f,e,i⟩
 ·subst e;exact .fJ _ _
 ·subst e;exact .slice _ _ ⟨⟨rfl,a g rfl⟩,rfl,rfl⟩
theorem Lc.At.closed{l:Lc}(h:l.At u g k):Closed l.Mine u:=by
 have f:=l.mine;have hv:=RR (C:=l.Mine) h.p.out f.2.2.2.2.2;obtain⟨K,r,J⟩:=h.rd;rintro b (rfl|rfl|rfl|rfl|e|e)
 ·refine⟨_,h.p.box,.cells _ _ ⟨rfl,fun i x D a d=>?_⟩⟩;rw[a]at d;cases d;have j:i<21:=(aP.1 a).1
  match i,j,a with
  |0,_,a=>cases a;exact .int _ _
  |1,_,a=>cases a;exact .int _ _
  |2,_,a=>cases a;exact .int _ _
  |3,_,a=>cases a;exact .int _ _
  |4,_,a=>cases a;exact .int _ _
  |5,_,a=>cases a;exact .int _ _
  |6,_,a=>cases a;exact .int _ _
  |7,_,a=>cases a;exact .int _ _
  |8,_,a=>cases a;exact .int _ _
  |9,_,a=>cases a;exact .int _ _
  |10,_,a=>cases a;exact .int _ _
  |11,_,a=>cases a;exact .ptr ⟨⟨rfl,f.2.1⟩,rfl,rfl⟩
  |12,_,a=>cases a;exact .string _
  |13,_,a=>cases a;exact(RR (C:=l.Mine) h.p.row f.2.2.2.2.1)
  |14,_,a=>cases a;exact .int _ _
  |15,_,a=>cases a;exact .int _ _
  |16,_,a=>cases a;exact hv
  |17,_,a=>cases a;exact .int _ _
  |18,_,a=>cases a;exact .int _ _
  |19,_,a=>cases a;exact .int _ _
  |20,_,a=>cases a;exact .chan ⟨rfl,f.2.2.2.1⟩
  |n+21,j,_=>omega
 ·refine⟨_,r.box,.cells _ _ ⟨rfl,fun i x D a d=>?_⟩⟩;rw[a]at d;cases d;have j:i<4:=(aP.1 a).1
  match i,j,a with
  |0,_,a=>cases a;exact .int _ _
  |1,_,a=>cases a;exact .int _ _
  |2,_,a=>cases a;exact .int _ _
  |3,_,a=>cases a;exact .map ⟨rfl,f.2.2.1⟩
  |n+4,j,_=>omega
 ·obtain⟨H,E,s,t,F,G⟩:=r.uses;refine⟨_,s,.map _ ⟨rfl,fun i m I a d=>?_⟩⟩;rw[a]at d;cases d;obtain⟨y,o⟩:=t.reads m (tQ.2 (lC a));obtain⟨x,A,_,_⟩:=UO (q:=.i64) aI (Vd o);obtain⟨z,B,_⟩:=Ve o;obtain⟨hv,_⟩:=unitElem_inv B;rw[A,hv];exact⟨.int _ _,.agg rfl (fun i v L h=>by simp at h),rfl⟩
 ·exact⟨_,h.p.chan,.chan _ _ _ _ _⟩
 ·obtain⟨x,T,t1,t2⟩:=h.p.tq b e;exact⟨_,t1,.cells _ _ (OM t2)⟩
 ·obtain⟨x,T,t1,t2⟩:=h.p.tv b e;exact⟨_,t1,.cells _ _ (OM t2)⟩
end
end
section
open Classical
open Go.Conc Go.RowKit
open Go.ConcR (Payload)
open Go.Proofs.Tryz
def Ck.yZ(g:Cf)(k:Ck):Ck:=Ck.read g (k.aO.size+1) k
def Fx.readAll(f:Fx):Fx:={f with K:=f.K.map fun o=>o.map (Ck.yZ f.g)}
section
variable {u:an} {f:Fx} {xb:Nat} {L:cQ}
theorem ay.tp(h:ay u f xb L)(a:Tape):ay (u.tp a) f xb L:=h.old fun _ _=>rfl
theorem ay.RV(h:ay u f xb L){s a:Nat}{l l':Lc}(g:L.cs[s]? =some (some l))(i:L.cs[a]? =some (some l'))(e:l.c=l'.c):s=a:=by obtain⟨j,b⟩:=h.Kl;have a1:=b s l.c (by grind);have d:=b a l'.c (by grind);rw[e]at a1;omega
theorem ay.who(h:ay u f xb L):∃F:Nat->Lc×Ck×Nat,∀(s:Nat) l,L.cs[s]? =some (some l)->(F l.c).1=l/\(F l.c).2.2=s/\f.K[s]? =some (some (F l.c).2.1)/\l.At u f.g (F l.c).2.1/\l.gw fun b=>L.own b=7+2*s:=by
 have n:∀c:Nat,∃x:Lc×Ck×Nat,∀(s:Nat) l,L.cs[s]? =some (some l)->l.c=c->x.1=l/\x.2.2=s/\f.K[s]? =some (some x.2.1)/\l.At u f.g x.2.1/\l.gw fun b=>L.own b=7+2*s:=fun c=>by
  by_cases e:∃(s:Nat) (l:Lc),L.cs[s]? =some (some l)/\l.c=c
  ·obtain⟨s,l,a,d⟩:=e;obtain⟨t,k,j,w,o,p,q⟩:=h.Bf (s:=s) (c:=c) (by rw[kO,a];show some (some l.c)=_;rw[d]);rw[a]at j;cases j;refine⟨⟨l,k,s⟩,fun v r i m=>?_⟩;obtain rfl:=h.RV a i (d.trans m.symm);rw[a]at i;cases i;exact⟨rfl,rfl,o,p,q⟩
  ·exact⟨⟨⟨0,0,0,0,.slice none 0 0,.slice none 0 0⟩,⟨0,0,0,⟨#[]⟩,[],0,0,⟨#[]⟩,0,0,0,[]⟩,0⟩,fun s l a d=>absurd ⟨s,l,a,d⟩ e⟩
 obtain⟨F,hF⟩:=Ud n;exact⟨F,fun s l a=>hF l.c s l a rfl⟩
end
section
variable [aA] [Ch] {l:List bh} {u:an} {f:Fx} {xb:Nat} {L:cQ} {F:Nat->Lc×Ck×Nat}
def MY(g:Cf)(F:Nat->Lc×Ck×Nat)(c:Nat)(e:Ending)(u:an):Prop:=
 e=.returned (.tuple #[])/\∃q v,bM u c (F c).1.rb (F c).1.mb (F c).1.ch q v g (Ck.yZ g (F c).2.1)
abbrev Who(u:an)(f:Fx)(L:cQ)(F:Nat->Lc×Ck×Nat):Prop:=∀(s:Nat) l,L.cs[s]? =some (some l)->(F l.c).1=l/\(F l.c).2.2=s/\f.K[s]? =some (some (F l.c).2.1)/\l.At u f.g (F l.c).2.1/\l.gw fun b=>L.own b=7+2*s
theorem ay.enters(h:ay u f xb L)(hF:Who u f L F)(A:Fit prog l)(C:aA.ok 100)(D:aA.ok 96)(B:aA.known 61)(t:f.K.length<=65535)(r:∀(s:Nat) k,f.K[s]? =some (some k)->k.Ak f.g):
  Enters l (fun c=>(F c).1.Mine) (MY f.g F) u L.as xb L.sb f.K.length:=by
 letI:aW:=bE []
 have hS:=h.ER t
 have mine:∀{s c b:Nat},L.as[s]? =some (some c)->(F c).1.Mine b->L.own b=7+2*s:=fun{s c b} d a=>by obtain⟨l,j,rfl⟩:=yD d;obtain⟨i,_,_,_,p⟩:=hF s l j;rw[i]at a;exact p.mine a
 refine⟨A,C,D,B,hS.2.1,ak,hS.1,hS.2.2,⟨_,h.dA,by simp[bG]⟩,fun s c d=>?_,fun s O c J d E N b a y=>?_,fun s c d=>⟨fun a=>?_,fun a=>?_⟩,fun c e u n hr=>⟨hr.1,?_⟩,fun c e u hr=>⟨_,hr.1⟩,fun s c d w G _ _ n=>?_⟩
 ·obtain⟨l,j,rfl⟩:=yD d;obtain⟨i,_,_,m,_⟩:=hF s l j;rw[i];exact⟨m.closed,.inl rfl⟩
 ·have:=mine d a;have:=mine E y;omega
 ·have:=mine d a;have:=h.dX;omega
 ·have:=mine d a;have:=h.gT;omega
 ·obtain⟨q,v,hr⟩:=hr.2;exact⟨q,v,hr.keep ⟨trivial,trivial,trivial,trivial,fun _ _=>trivial,fun _ _=>trivial⟩ fun _ _ _=>rfl⟩
 ·obtain⟨l,j,rfl⟩:=yD d;obtain⟨i,M,o,m,_⟩:=hF s l j
  have x:bM ((mask (F l.c).1.Mine w).tp n) l.c l.rb l.mb l.ch l.q l.v f.g (F l.c).2.1:=by rw[i];exact m.keep l.mine fun b a _=>(nX a).trans (G b (by rw[i];exact a))
  refine callsIn_wide.1 ((yZ l.c _ _ _ _ _ f.g _ _ x (r s _ o)).mono ?_);rintro e P ⟨z,H,I,hr⟩;refine⟨z,H,I,?_⟩;rw[i];exact hr
structure Vv(u c:an)(f:Fx)(xb:Nat)(L a:cQ):Prop where
 at_:ay c f.readAll xb a
 own:∀b,b<u.heap.size->a.own b=L.own b
 new:∀b,c.heap.size<=b->a.own b=0
 sb:a.sb=L.sb
theorem YV{i:an}{B Wg B2 D:Nat}(h:ay u f xb L)(hF:Who u f L F)(r:After (fun c=>(F c).1.Mine) (MY f.g F) L.as u i xb B Wg B2 D):
  ∃H,Vv u i f xb L H/\H.own B=0/\H.own D=0/\aG (fun b=>L.own b≠0) u i:=by
 letI:aW:=bE []
 obtain⟨p,i1,Q,i3⟩:=r.reads
 have key:∀c:Nat,∃x:au×au,c∈sat L.as->bM i c (F c).1.rb (F c).1.mb (F c).1.ch x.1 x.2 f.g (Ck.yZ f.g (F c).2.1)/\(⟨c,(F c).1.rb,(F c).1.mb,(F c).1.ch,x.1,x.2⟩:Lc).gw fun b=>p c b/\b<i.heap.size:=fun c=>by
  by_cases t:c∈sat L.as
  ·obtain⟨uc,aU,v,⟨_,q0,v0,j⟩,m,S,h4,h5⟩:=i3 c t;obtain⟨s,O⟩:=Em.1 t;obtain⟨l,y1,rfl⟩:=yD O;obtain⟨w,_,_,_,_⟩:=hF s l y1;have I:=(F l.c).1.mine;have J:(F l.c).1.Mine l.c:=by rw[w];exact .inl rfl
   obtain⟨q',v',m1,m2⟩:=bM.AZ S (m _ _ ⟨rfl,J⟩) (m _ _ ⟨rfl,I.2.1⟩) (m _ _ ⟨rfl,I.2.2.1⟩) (m _ _ ⟨rfl,I.2.2.2.1⟩) j;exact⟨(q',v'),fun _=>⟨m1,m2.mono fun b ⟨a,T⟩=>⟨h5 a b T,(S.lt a b T).2⟩⟩⟩
  ·exact⟨(undef,undef),fun h=>absurd h t⟩
 obtain⟨G,aC⟩:=Ud key
 let E:Nat->Nat:=fun b=>if b<u.heap.size then L.own b else if e:∃(s:Nat) (l:Lc),L.cs[s]? =some (some l)/\p l.c b/\b<i.heap.size then 7+2*e.choose else 0
 have A:∀{s:Nat} {l:Lc},L.cs[s]? =some (some l)->l.c∈sat L.as:=fun{s l} n=>Em.2 ⟨s,by rw[kO,n];rfl⟩
 have mine:∀{s:Nat} {l:Lc} {b:Nat},L.cs[s]? =some (some l)->(F l.c).1.Mine b->L.own b=7+2*s:=fun{s l b} n d=>by obtain⟨w,_,_,_,e5⟩:=hF s l n;rw[w]at d;exact e5.mine d
 have aB:∀{s:Nat} {l:Lc} {b:Nat},L.cs[s]? =some (some l)->p l.c b->b<i.heap.size->E b=7+2*s:=fun{s l b} n d aA=>by
  by_cases P:b<u.heap.size
  ·show(if b<u.heap.size then L.own b else _)=_;rw[aM P];exact mine n ((Q _ b (A n) d).2.2.2 P)
  ·have e:∃(s:Nat) (l:Lc),L.cs[s]? =some (some l)/\p l.c b/\b<i.heap.size:=⟨s,l,n,d,aA⟩;show(if b<u.heap.size then L.own b else if e:∃(s:Nat) (l:Lc),L.cs[s]? =some (some l)/\p l.c b/\b<i.heap.size then 7+2*e.choose else 0)=_;rw[aD P,qW e];obtain⟨l',j,m,_⟩:=e.choose_spec
   have J:l'.c=l.c:=by
    by_cases W:l'.c=l.c
    ·exact W
    ·exact absurd d (i1 _ _ b (A j) (A n) W m)
   rw[h.RV j n J]
 have U:∀b,b<u.heap.size->(∀s,L.own b≠7+2*s)->i.heap[b]? =u.heap[b]? :=fun b d M=>r.kept b d fun s c O hm=>by obtain⟨l,j,rfl⟩:=yD O;exact M s (mine j hm)
 have az:vZ i E f.g (f.K.map fun o=>o.map (Ck.yZ f.g)) (L.cs.map fun o=>o.map fun l=>{l with q:=(G l.c).1,v:=(G l.c).2}):=by
  refine⟨by rw[pV,pV];exact h.cs.len,fun s x y X Z=>?_⟩;rw[kO,ep]at X Z;obtain⟨x0,Y,rfl⟩:=X;obtain⟨y0,C,rfl⟩:=Z;have:=h.cs.at_ s _ _ Y C;cases x0 with
  |none=>cases y0 with
   |none=>trivial
   |some l=>exact this.elim
  |some k=>cases y0 with
   |none=>exact this.elim
   |some l=>
    obtain⟨w,_,R,_,_⟩:=hF s l C;rw[Y]at R;have wE:k=(F l.c).2.1:=by simpa using R
    have N:=aC l.c (A C);rw[w]at N;refine⟨?_,?_⟩
    ·rw[wE];exact N.1
    ·exact N.2.mono fun b d=>aB C d.1 d.2
 have V:∀b,u.heap.size<=b->(∀c,c∈sat L.as->¬p c b)->E b=0:=fun b d z=>by show(if b<u.heap.size then L.own b else if e:∃(s:Nat) (l:Lc),L.cs[s]? =some (some l)/\p l.c b/\b<i.heap.size then 7+2*e.choose else 0)=0;rw[aD ak,hO];rintro⟨s,l,j,m,_⟩;exact z l.c (A j) m
 refine⟨{L with cs:=L.cs.map fun o=>o.map fun l=>{l with q:=(G l.c).1,v:=(G l.c).2},own:=E},⟨?_,fun b d=>aM d,fun b d=>?_,rfl⟩,?_,?_,⟨r.os,r.size,fun b d M=>?_⟩⟩
 ·refine h.WU (by rw[pV]) U (fun b d=>aM d) az ?_;rw[List.map_map]
  congr 1
  funext o
  cases o<;>rfl
 ·show(if b<u.heap.size then L.own b else if e:∃(s:Nat) (l:Lc),L.cs[s]? =some (some l)/\p l.c b/\b<i.heap.size then 7+2*e.choose else 0)=0;have:=r.size;rw[aD ak,hO];rintro⟨s,l,j,_,m⟩;omega
 ·exact V B r.news.1 fun c t z=>(Q c B t z).1 rfl
 ·exact V D r.news.2.2.2 fun c t z=>(Q c D t z).2.2.1 rfl
 ·refine U b d fun s e=>M ?_;rw[e];omega
theorem ay.WC(h:ay u f xb L)(M:Fit prog l)(Q:dY prog l false (vE f61)=true)(O:aA.ok 100)(P:aA.ok 96)(N:aA.known 61)(t:f.K.length<=65535)(I:∀(s:Nat) k,f.K[s]? =some (some k)->k.Ak f.g)(R:∀(s:Nat) k,f.readAll.K[s]? =some (some k)->k.q.length<=1048576)(J:0<=f.acc/\f.acc<=140737488355328)(_hnew:∀x,u.heap.size<=x->L.own x=0):
  eI prog 61 #[pt xb] u fun e i=>e=.returned (.tuple #[])/\∃c,ay i f.readAll.pI xb c/\(∀b,b<u.heap.size->c.own b=L.own b)/\aG (fun b=>L.own b≠0) u i:=by
 obtain⟨F,hF⟩:=h.who;refine WG (h.enters hF M O P N t I) Q ?_ (fun e u hr=>⟨_,hr.1⟩) fun i w z y D j m=>?_
 ·rintro e i m ⟨d,c,o,p,a⟩;exact⟨d,c,o.tp m,p,⟨a.os,a.size,a.block⟩⟩
 ·obtain⟨c,d,o,p,a⟩:=YV h hF j;have S:=adK xb w z y D f.readAll c (i.tp m) (d.at_.tp m) (by show(f.K.map _).length<=_;rw[pV];exact t) R J d.new j.b1 o j.df p;obtain⟨e,T,H,⟨A,B,n⟩,C,E,G⟩:=WZ (b:=dK) func61 rfl rfl rfl S [bot prog];refine⟨e,T,H,⟨A,c,B,d.own,⟨n.os.trans a.os,cS a.size n.size,fun b r v=>(n.block b (cV r a.size) ?_).trans (a.block b r v)⟩⟩,C,E,G⟩;rintro(rfl|e)
  ·have:=j.news.2.2.2;omega
  ·rw[d.own b r]at e;exact v e
end
end
section
attribute [local go_sem ↓] Go.wp_at_zero Go.wp_at_succ
attribute [local go_sem] bq bg
open Go.Conc Go.RowKit
open Go.ConcR (Payload)
open Go.Proofs.Tryz
abbrev Tb(xb:Nat)(a:Int)(b D:Nat)(stop:Bool):Act:=⟨#[pt xb,undef,undef,pt xb,pt xb,.pointer (some (aa xb 13)),aj a,aj (a+1),pt xb,.pointer (some (aa xb 13)),pt xb,.func (.func 96) #[] #[pt b],undef,undef,undef,pt xb,pt xb,.pointer (some (aa xb 14)),.bool stop,.bool !stop,undef,undef,undef,undef,undef,undef,undef,undef],[{target:=.collected D,args:=#[]}]⟩
abbrev KQ(xb:Nat)(a:Int)(b D:Nat)(stop:Bool)(c d e f:au):Act:=⟨#[pt xb,undef,undef,pt xb,pt xb,.pointer (some (aa xb 13)),aj a,aj (a+1),pt xb,.pointer (some (aa xb 13)),pt xb,.func (.func 96) #[] #[pt b],undef,undef,undef,pt xb,pt xb,.pointer (some (aa xb 14)),.bool stop,.bool !stop,c,d,e,f,undef,undef,undef,undef],[{target:=.collected D,args:=#[]}]⟩
section
variable [aA]
end
end
section
open Go.Conc Go.RowKit
open Go.ConcR (Payload)
open Go.Proofs.Tryz
def opsOf:Code->Array Oper|.region _ a _=>a|_=>#[]
section
variable [aA] {l:List bh}
theorem WX.Wy{P Q a u ops id d f o0 o1 ats fn body v}(b:Fit P l)(hr:dM ops.size=[0,1])(h0:ops[0]? =some o0)(hm:o0.op=.move (.tmp 0))(m:o0.dst=some d)(o:o0.guard=none)(j:ops[1]? =some o1)(t:o1.op=.call {callee:=.value (.func f),args:=#[.tmp d],argTypes:=ats}) (p:o1.guard=none) (n:P.funcs[f]? =some fn) (s:(fn.name== "runtime.NumGoroutine")=false) (k:fn.body=some body) (q:aA.known f) (hv:a.eval (.tmp 0)=v) (w:(a.put (some d) v).eval (.tmp d)=v) (c:eI P f #[v] u fun e g=>∃r,e=.returned r/\Q .normal ((a.put (some d) v).put o1.dst r) g):WX P (.region id ops false) Q a u:=by
 refine WX.region ?_;rw[hr];refine OX.value (v:=v) (u1:=u) b h0 (by simp[cL,o]) (by rw[hm];rfl) (fun x=>?_) ?_
 ·unfold execOp;rw[hm];simp[hv]
 ·rw[m];refine OX.call b j (by simp[cL,p]) t n s k q (by simp[cE]) ?_;have:(#[Operand.tmp d].map (a.put (some d) v).eval)=#[v]:=by rw[qQ];simp only[rZ,vQ,w]
  rw[this];refine c.mono fun e g ⟨r,h,i⟩=>⟨r,h,OX.nil i⟩
variable [Ch]
end
end
section
attribute [local go_sem ↓] Go.wp_at_zero Go.wp_at_succ
attribute [local go_sem] bq bg
open Go.Conc Go.RowKit
open Go.ConcR (Payload)
open Go.Proofs.Tryz
def Bo(fn:Func):Code:=gY (gY (gY (fn.body.getD .skip)))
def Fx.goes(f:Fx):Fx:=if f.stop then f else f.readAll.pI
def Fx.ends(f:Fx):Fx:=Fx.fin f.fl.length f
def Fx.takes(f:Fx):Fx:=Fx.turns (f.fuel 0) 0 f
def Fx.lets(f:Fx):Fx:=f.cO f.K.length
def Fx.early(f:Fx):Fx:={f with clock:=f.clock+1}.AE
def Fx.tick(f:Fx):Fx:=f.early.goes.ends.takes.lets
section
variable {u w:an} {f:Fx} {xb:Nat} {L L0:cQ}
theorem aX.tp(h:aX w L u L0)(a:Tape):aX w L (u.tp a) L0:=⟨h.own,⟨h.bS.os,h.bS.size,h.bS.block⟩⟩
theorem aX.base{τ}(h:aX (w.tp τ) L u L0):aX w L u L0:=⟨h.own,⟨h.bS.os,h.bS.size,h.bS.block⟩⟩
theorem ay.norm(h:ay u f xb L)(hf:aX w L0 u L):∃c,ay u f xb c/\aX w L0 u c/\∀x,u.heap.size<=x->c.own x=0:=by refine⟨{L with own:=fun b=>if b<u.heap.size then L.own b else 0},h.owns _ fun b a=>aM a,⟨fun b a=>?_,hf.bS⟩,fun x d=>aD ak⟩;show(if b<u.heap.size then L.own b else 0)=L0.own b;rw[aM (cV a hf.bS.size)];exact hf.own b a
end
theorem adV{u f xb L}(h:ay u f xb L)(j:0<=f.clock/\f.clock<=281474976710656):
  (tkZ f26).wp prog (fun e a d=>e=.normal/\a=KO xb f.clock/\ay d {f with clock:=f.clock+1} xb L/\aX u L d L) ⟨#[pt xb,undef,undef,undef,undef,undef,undef,undef,undef,undef,undef,undef,undef,undef,undef,undef,undef,undef,undef,undef,undef,undef,undef,undef,undef,undef,undef,undef],[]⟩ u:=by
 have m:=aE u xb 13 (aj f.clock) h.box;have f13:=aS h.box 13;have b:Aj (f.clock+1)=f.clock+1:=by unfold Aj;omega
 have c:aG (fun i=>i=xb) u (u.setCell (aa xb 13) (aj (Aj (f.clock+1)))):=(aG.refl (fun i=>i=xb) u).set (p:=aa xb 13) rfl _
 have g:Hid (Aj (f.clock+1)=f.clock+1/\ay (u.setCell (aa xb 13) (aj (Aj (f.clock+1)))) {f with clock:=f.clock+1} xb L/\aX u L (u.setCell (aa xb 13) (aj (Aj (f.clock+1)))) L):=
  ⟨b,by rw[b];exact h.put 13 _ _ rfl rfl rfl rfl rfl rfl ⟨rfl,rfl,rfl⟩,⟨fun _ _=>rfl,c.mono fun k _ e=>by rw[e,h.dX];omega⟩⟩
 clear h c b j;generalize f.clock=n at*;simp only[tkZ,mV,mj,f26];go_wp2;exact g.out
theorem adT{u f xb L Dp N0 D}(h:ay u f xb L):
  (tk4 f26).wp prog (fun e a b=>e=.normal/\a=Tb xb Dp N0 D f.stop/\b=u) (KP xb Dp N0 D) u:=by
 have c:=aE u xb 14 (.bool f.stop) h.box;generalize f.stop=stop at*;simp only[tk4,mV,gY,mj,f26];go_wp2
theorem adU(Z:qY)(P Q:Fx->Prop)(x:Ao P)(p:Abides Q)(hS:∀f,Q f->f.uE){u f xb L Dp N0 D st v20 v21}(h:ay u f xb L)(y:P f)(hPQ:P f.ends->Q f.ends):
  (Bo f26).wp prog (fun e a q=>e=.normal/\a.defers=[{target:=.collected D,args:=#[]}]/\Q f.ends.takes/\∃b,ay q f.ends.takes.lets xb b/\aX u L q b) (KQ xb Dp N0 D st v20 v21 undef undef) u:=by
 have r:Hid (Calls prog 62 #[aF xb] u fun e d=>e=.returned (.tuple #[])/\Hid (P f.ends/\∃b,ay d f.ends xb b/\aX u L d b)):=YU Z P x u f xb L h y
 have t:Hid (∀c,(P f.ends/\∃b,ay c f.ends xb b/\aX u L c b)->Calls prog 63 #[aF xb] c fun e d=>e=.returned (.tuple #[])/\Hid (Q f.ends.takes/\∃b,ay d f.ends.takes xb b/\aX u L d b)):=fun c ⟨g,k,j,i⟩=>
  (Zc Q p c f.ends xb k j (hPQ g)).mono fun e d ⟨m,v,b,n,o⟩=>⟨m,v,b,n,i.trans o⟩
 have s:Hid (∀c,(Q f.ends.takes/\∃b,ay c f.ends.takes xb b/\aX u L c b)->Calls prog 64 #[aF xb] c fun e d=>e=.returned (.tuple #[])/\Hid (Q f.ends.takes/\∃b,ay d f.ends.takes.lets xb b/\aX u L d b)):=fun c ⟨g,k,j,i⟩=>
  (OY c f.ends.takes xb k j (hS _ g) (p.zq _ g).2.2.2.1).mono fun e d ⟨m,b,n,o⟩=>⟨m,g,b,n,i.trans o⟩
 simp only[Bo,mV,gY,mj,f26];go_wp2_with (first|(go_at_call 62;refine r.out.mono ?_;rintro e c ⟨rfl,g⟩)|(go_at_call 63;refine(t.out _ g.out).mono ?_;rintro e z ⟨rfl,j⟩)|(go_at_call 64;refine(s.out _ j.out).mono ?_;rintro e A ⟨rfl,i⟩));exact⟨i.out.1,i.out.2⟩
structure Fx.Nd(P:Fx->Prop)(f:Fx):Prop where
 clock:0<=f.clock/\f.clock<=281474976710656
 len:f.K.length<=65535
 rt:0<=f.g.rt/\f.g.rt<=65535
 bu:0<=f.g.bu/\f.g.bu<=65535
 tok:∀(s:Nat) k,f.K[s]? =some (some k)->0<=k.tok/\k.tok<=65535
 GU:∀(s:Nat) k,f.early.K[s]? =some (some k)->k.Ak f.early.g
 q:∀(s:Nat) k,f.early.readAll.K[s]? =some (some k)->k.q.length<=1048576
 acc:0<=f.early.acc/\f.early.acc<=140737488355328
 C3:f.early.K.length<=65535
 next:P f.early.goes
section
variable [aA] {l:List bh}
structure Ar(l:List bh):Prop where
 fit:Fit prog l
 tail:dY prog l false (vE f61)=true
 oR:aA.ok 100
 oS:aA.ok 96
 kR:aA.known 61
 t0:dY prog l false (tkZ f26)=true
 t1:dY prog l false (tk1 f26)=true
 t4:dY prog l false (tk4 f26)=true
 t67:dY prog l false (Bo f26)=true
variable [Ch] {u:an} {f:Fx} {xb:Nat} {L:cQ}
theorem ay.WE(Z:qY)(P Q:Fx->Prop)(hE:Ao P)(ah:Abides Q)(hS:∀f,Q f->f.uE)(h:ay u f xb L)(G:Ar l)(p:f.Nd P)(hPQ:P f.early.goes.ends->Q f.early.goes.ends):
  eI prog 26 #[pt xb] u fun e d=>e=.returned (.tuple #[])/\Q f.early.goes.ends.takes/\∃m,ay d f.tick xb m/\aX u L d m:=by
 have az:(⟨#[pt xb]++pR (f26.ntmps - #[pt xb].size) undef,[]⟩:Act)=⟨#[pt xb,undef,undef,undef,undef,undef,undef,undef,undef,undef,undef,undef,undef,undef,undef,undef,undef,undef,undef,undef,undef,undef,undef,undef,undef,undef,undef,undef],[]⟩:=aI;have e5:tk5 f26=.region 5 (opsOf (tk5 f26)) false:=aI;refine eI.O7 (n:=1) G.fit func26 (c:=.seq (tkZ f26) (.seq (tk1 f26) (.seq (.seq (tk4 f26) (.cond (.tmp 19) (tk5 f26) .skip)) (Bo f26)))) rfl ?_ (fun e u hr=>⟨_,hr.1⟩) ?_
 ·rintro e d g ⟨i,j,m,k,o⟩;exact⟨i,j,m,k.tp g,o.tp g⟩
 rw[az];refine WX.seq ((WX.lift (Q:=fun e a d=>e=.normal/\a=KO xb f.clock/\ay d {f with clock:=f.clock+1} xb L/\aX u L d L) G.fit G.t0 ?_ ?_ ?_ fun g=>?_).mono ?_)
 ·rintro e a d g ⟨i,j,k,o⟩;exact⟨i,j,k.tp g,o.tp g⟩
 ·rintro x a d ⟨h,_⟩;cases h
 ·rintro a d ⟨h,_⟩;cases h
 ·exact wp_mono (adV (h.tp g) p.clock) fun e a d ⟨i,j,k,o⟩=>⟨i,j,k,o.base⟩
 rintro e a M ⟨rfl,rfl,aF,aO⟩;obtain⟨z,m1,t1,J⟩:=aF.norm aO;refine WX.seq ((WX.lift (Q:=fun e a d=>e=.normal/\∃r D,a=KP xb f.clock r D/\M.heap.size<=D/\d.heap[D]? =some (.deferred (some []))/\ay d f.early xb z/\aX u L d z/\M.heap.size<=d.heap.size) G.fit G.t1 ?_ ?_ ?_ fun g=>?_).mono ?_)
 ·rintro e a d g ⟨i,r,D,j,k,o,y,A,h7⟩;exact⟨i,r,D,j,k,o,y.tp g,A.tp g,h7⟩
 ·rintro x a d ⟨h,_⟩;cases h
 ·rintro a d ⟨h,_⟩;cases h
 ·refine wp_mono (XP xb {f with clock:=f.clock+1} z f.clock (M.tp g) (m1.tp g) p.len p.rt p.bu p.tok J) ?_;rintro e a d ⟨i,r,D,j,k,o,y,A⟩;exact⟨i,r,D,j,k,o,y,t1.trans ⟨fun _ _=>rfl,⟨A.os,A.size,A.block⟩⟩,A.size⟩
 rintro e a N ⟨rfl,r,D,rfl,aj,F,m2,t2,fN⟩;have n2:∀x,N.heap.size<=x->z.own x=0:=fun x hx=>J x (cS fN hx);have K:z.own D=0:=J D aj;have V:D<N.heap.size:=(aP.1 F).1;have aS:=t1.bS.size;refine WX.seq (WX.seq ((WX.lift (Q:=fun e a d=>e=.normal/\a=Tb xb f.clock r D f.early.stop/\∃g,d=N.tp g) G.fit G.t4 ?_ ?_ ?_ fun g=>?_).mono ?_))
 ·rintro e a d g ⟨i,j,Y,rfl⟩;exact⟨i,j,g,rfl⟩
 ·rintro x a d ⟨h,_⟩;cases h
 ·rintro a d ⟨h,_⟩;cases h
 ·exact wp_mono (adT (m2.tp g)) fun e a d ⟨i,j,k⟩=>⟨i,j,g,k⟩
 rintro e a u3 ⟨rfl,rfl,g,rfl⟩;have X:=m2.tp g;have t3:=t2.tp g
 have rest:∀(O R:au) (s:an) (t:cQ),ay s f.early.goes xb t->aX u L s t->t.own D=0->s.heap[D]? =some (.deferred (some []))->WX prog (Bo f26) (fun e a d=>e=.normal/\∀g,LeavesInM Fence.wide 1 prog f26 a.tmps (fun e d=>e=.returned (.tuple #[])/\Q f.early.goes.ends.takes/\∃m,ay d f.tick xb m/\aX u L d m) a.defers .returning (an.tp d g)) (KQ xb f.clock r D f.early.stop O R undef undef) s:=fun O R s t I t4 C d4=>by
  refine(WX.lift (a:=KQ xb f.clock r D f.early.stop O R undef undef) (Q:=fun e a d=>e=.normal/\a.defers=[{target:=.collected D,args:=#[]}]/\Q f.early.goes.ends.takes/\∃m,ay d f.early.goes.ends.takes.lets xb m/\aX s t d m) G.fit G.t67 ?_ ?_ ?_ fun Y=>?_).mono ?_
  ·rintro e a d g ⟨i,j,k,m,o,y⟩;exact⟨i,j,k,m,o.tp g,y.tp g⟩
  ·rintro x a d ⟨h,_⟩;cases h
  ·rintro a d ⟨h,_⟩;cases h
  ·exact wp_mono (adU Z P Q hE ah hS (I.tp Y) p.next hPQ) fun e a d ⟨i,j,k,m,o,y⟩=>⟨i,j,k,m,o,y.base⟩
  ·rintro e a u6 ⟨rfl,hd,hp,T,m6,t6⟩;refine⟨rfl,fun S=>?_⟩;rw[hd];have U:D<s.heap.size:=(aP.1 d4).1;have aB:(u6.tp S).heap[D]? =some (.deferred (some [])):=(t6.bS.block D U (by simp[C])).trans d4;have o6:T.own D=0:=(t6.own D U).trans C;refine⟨aq,.inl ⟨_,_,rfl,run_takeDeferred aB,.tuple #[],by simp[results,results26],rfl,hp,T,(m6.tp S).sZ fun b W H=>eX fun e=>H (by rw[e];exact o6),?_⟩⟩;have t7:=(t4.trans t6).tp S;have hu:=t7.bS.size;refine⟨t7.own,t7.bS.os,by simpa using t7.bS.size,fun b W H=>?_⟩;rw[eX ak];exact t7.bS.block b W H
 refine WX.cond (v:=!f.early.stop) rfl ?_;cases E:f.early.stop with
 |true=>
  rw[E]at rest;refine WX.skip ?_;have B:f.early.goes=f.early:=by unfold Fx.goes;rw[E];rfl
  rw[B]at rest;rw[show f.tick=f.early.ends.takes.lets by unfold Fx.tick;rw[B]]at rest⊢;have:=rest undef undef _ z X t3 K F;rw[B];exact this
 |false=>
  rw[E]at rest;have B:f.early.goes=f.early.readAll.pI:=by unfold Fx.goes;rw[E];rfl
  show WX _ (tk5 f26) _ _ _;rw[e5];refine WX.Wy (f:=61) (v:=pt xb) G.fit rfl rfl rfl rfl rfl rfl rfl rfl func61 rfl rfl G.kR rfl rfl ?_;refine(X.WC G.fit G.tail G.oR G.oS G.kR p.C3 p.GU p.q p.acc n2).mono ?_;rintro e s ⟨rfl,t,I,C,t4⟩;refine⟨_,rfl,rest (pt xb) (.tuple #[]) s t (by rw[B];exact I) (t3.trans ⟨C,t4⟩) ((C D V).trans K) ?_⟩;exact(t4.block D V (by simp[K])).trans F
end
end
section
open Go.Proofs.Tryz
structure Cf.Is(g:Cf):Prop where
 sz:4<=g.sz/\g.sz<=256/\g.sz %4=0
 cl:1<=g.cl/\g.cl<=8
 qu:1<=g.qu/\g.qu<=8
 mx:4<=g.mx/\g.mx<=32/\g.mx %4=0
 qn:g.mx<=g.qn/\g.qn<=64
 rt:1<=g.rt/\g.rt<=16
 bu:1<=g.bu/\g.bu<=32
 wk:1<=g.wk/\g.wk<=8
 ou:g.mx+4<=g.ou/\g.ou<=256
structure Rq.Gd(g:Cf)(r:Rq):Prop where
 kd:0<=r.m.kd/\r.m.kd<=4
 ck:0<=r.m.ck/\r.m.ck<=65535
 of:0<=r.m.of/\0<=r.m.ln/\r.m.of+r.m.ln<=g.sz/\r.m.ln<=g.mx/\r.m.ln %4=0
 ln:r.m.kd≠2->0<r.m.ln
 z:r.m.kd=2->r.m.of=0/\r.m.ln=0
 dt:r.m.kd=1->(r.m.dt.size:Int)=r.m.ln
theorem Rq.Gd.ok{g}{r:Rq}(a:g.Is)(h:r.Gd g):r.Ok:=by have:=h.of;have:=a.sz;exact⟨ak,ak,ak,ak⟩
theorem Rq.Gd.size{g}{r:Rq}(a:g.Is)(h:r.Gd g):4<=sizeOf' r.m/\sizeOf' r.m<=36:=by have:=h.of;have:=a.mx;unfold sizeOf';split<;>omega
theorem Rq.Gd.cost{g}{r:Rq}(a:g.Is)(h:r.Gd g):1<=cJ r.m/\cJ r.m<=g.mx:=by have:=h.of;have:=a.mx;have:=h.ln;unfold cJ;split<;>omega
structure Ck.In(g:Cf)(c:Int)(k:Ck):Prop where
 ph:0<=k.ph/\k.ph<=4
 wt:1<=k.wt/\k.wt<=4
 aO:k.aO.size<=1024
 q:∀r∈k.q,r.Gd g
 len:(k.q.length:Int)<=g.qu
 out:(k.out.size:Int)+k.prom<=g.ou
 tok:0<=k.tok/\k.tok<=32
 de:0<=k.de
 sv:0<=k.sv/\k.sv+32*k.tok<=1024*(c+1)
 us:qi k.us
theorem aeB{sz kd fl of ln}(h:verdict sz kd fl of ln=0):kd<=5/\(kd≠0/\kd≠3/\kd≠1/\kd≠4->of=0/\ln=0)/\((kd=0\/kd=3\/kd=1\/kd=4)->ln≠0/\ln %4=0/\of %4=0/\of+ln<=sz):=by
 unfold verdict at h;split at h
 ·omega
 ·split at h
  ·omega
  ·split at h
   ·split at h<;>omega
   ·split at h
    ·omega
    ·split at h
     ·split at h<;>omega
     ·omega
theorem Yp{g}(r:g.Is){ph us s}(h:accepted (first g.sz g.mx ph us s).1=true):(⟨(first g.sz g.mx ph us s).1,-1⟩:Rq).Gd g/\(first g.sz g.mx ph us s).1.ck∉us:=by
 have a:(first g.sz g.mx ph us s).1.wh=3/\(first g.sz g.mx ph us s).1.er=0/\(first g.sz g.mx ph us s).1.kd≠5:=by simpa[accepted]using h
 have A:=r.sz
 have key:∀d:ByteArray,(bt s 1=1->(d.size:Int)=two s 7)->verdict g.sz (bt s 1) (bt s 2) (two s 5) (two s 7)=0->bt s 1≠5->¬(bt s 0≠81\/g.mx<two s 7\/two s 3∈us)->(⟨(mG s d (verdict g.sz (bt s 1) (bt s 2) (two s 5) (two s 7))),-1⟩:Rq).Gd g/\two s 3∉us:=fun d q hv y k=>by
  have w:=nR s 1;have x:=kG s 5;have p:=kG s 7;obtain⟨B,C,D⟩:=aeB hv
  have z:two s 7<=g.mx:=by
   rcases Int.lt_or_le g.mx (two s 7)with u|hge
   ·exact absurd (.inr (.inl u)) k
   ·exact hge
  have t:¬two s 3∈us:=fun e=>k (.inr (.inr e));refine⟨⟨?_,(kG s 3),?_,?_,?_,?_⟩,t⟩
  ·show 0<=bt s 1/\bt s 1<=4;omega
  ·show 0<=two s 5/\0<=two s 7/\two s 5+two s 7<=g.sz/\two s 7<=g.mx/\two s 7%4=0;omega
  ·show bt s 1≠2->0<two s 7;omega
  ·show bt s 1=2->two s 5=0/\two s 7=0;omega
  ·exact q
 unfold first at a⊢
 split at a
 ·rename_i e;exfalso;rw[mC]at a
  have:∀f i,(cP s f i).1.wh≠3:=by
   intro f;induction f with
   |zero=>intro i;unfold cP;split<;>simp[aQ.zero]
   |succ f v=>
    intro i;unfold cP;split
    ·simp[aQ.zero]
    ·split
     ·exact v _
     ·simp[aQ.closing]
  exact this 5 0 a.1
 ·rename_i l;split at a
  ·rename_i j;exfalso;unfold opt at a;split at a
   ·simp[aQ.zero]at a
   ·split at a
    ·simp[aQ.closing]at a
    ·simp at a
  ·rename_i j;split at a
   ·rename_i m;rw[aD l,aD j,aM m];unfold lA at a⊢;split at a
    ·simp[aQ.zero]at a
    ·rename_i n;split at a
     ·simp[aQ.closing]at a
     ·rename_i c;rw[aD n,aD c];split at a
      ·rename_i b;rw[aM b];split at a
       ·simp[aQ.zero]at a
       ·rename_i o;rw[aD o];refine key _ (fun _=>?_) a.2.1 a.2.2 c;have p:=kG s 7
        have:(s.extract 9 (9+two s 7).toNat).size=(9+two s 7).toNat-9:=by rw[kL];omega
        omega
      ·rename_i b;rw[aD b];exact key _ (fun e=>absurd e b) a.2.1 a.2.2 c
   ·simp[aQ.zero]at a
theorem RF(er:UInt8)(ck d):(mF er ck d).size=4+d.size:=by unfold mF;simp;rfl
theorem VU{g ph us s}:(jd g (first g.sz g.mx ph us s).1).size<=6:=by
 unfold jd;split
 ·split
  ·exact eE _
  ·rw[RF];exact(by decide:4+0<=6)
 ·unfold answer;split
  ·split<;>exact(by decide:1<=6)
  ·split
   ·rename_i a;split
    ·simp;exact(by decide:1+2+2<=6)
    ·split
     ·exact(by decide:1<=6)
     ·simp;have:=OI g.sz g.mx ph us s;have e:(⟨#[85]⟩:ByteArray).size=1:=rfl;omega
   ·exact eE _
section
variable {g:Cf} {c:Int} {k:Ck}
theorem I1{g}(a:g.Is){q}(h:∀r∈q,r.Gd g):6<=needs q:=by
 unfold needs;cases q with
 |nil=>exact lW _
 |cons r t=>
  have:=(h r iU).size a;show 6<=6+sizeOf' r.m;omega
theorem VF{ph}(h:0<=ph/\ph<=4)(m):0<=after ph m/\after ph m<=4:=by
 unfold after;split
 ·omega
 ·split
  ·omega
  ·split
   ·omega
   ·split<;>omega
theorem Ck.In.hear(i:g.Is)(h:k.In g c)(hm:k.may g):(k.hear g (first g.sz g.mx k.ph k.us k.aO)).In g c:=by
 have j:=I1 i h.q;have p:(jd g (first g.sz g.mx k.ph k.us k.aO).1).size<=6:=VU;have d:=fun e=>Yp (ph:=k.ph) (us:=k.us) (s:=k.aO) i e;have o:=hm.2.2;have n:=hm.2.1;generalize first g.sz g.mx k.ph k.us k.aO=x at*
 refine⟨VF h.ph _,h.wt,?_,?_,?_,?_,h.tok,h.de,h.sv,?_⟩
 ·show(k.aO.extract x.2.toNat k.aO.size).size<=1024;rw[kL];have:=h.aO;omega
 ·show ∀r∈(if accepted x.1 then k.q++[⟨x.1,-1⟩]else k.q),r.Gd g;split
  ·rename_i e;intro r hr;rcases kU.1 hr with hr|hr
   ·exact h.q r hr
   ·rw[mM.1 hr];exact(d e).1
  ·exact h.q
 ·show((if accepted x.1 then k.q++[⟨x.1,-1⟩]else k.q).length:Int)<=g.qu;split
  ·rw[ia];simp;omega
  ·exact h.len
 ·show((k.out++jd g x.1).size:Int)+k.prom<=g.ou;rw[ot];omega
 ·show qi (if accepted x.1 then k.us++[x.1.ck]else k.us);split
  ·rename_i e;have j:=(d e).2;refine⟨List.nodup_append.2 ⟨h.us.1,aq,fun a l b m f=>?_⟩,fun y hy=>?_⟩
   ·rw[mM.1 m]at f;exact j (f▸l)
   ·rcases kU.1 hy with hy|hy
    ·exact h.us.2 y hy
    ·rw[mM.1 hy];exact((d e).1.ck)
  ·exact h.us
theorem Ck.In.shut(a:g.Is)(h:k.In g c):k.shut.In g c:=by
 refine⟨⟨by show(0:Int)<=4;omega,by show(4:Int)<=4;omega⟩,h.wt,by show(0:Nat)<=1024;omega,fun r hr=>(by cases hr),?_,?_,h.tok,h.de,h.sv,h.us⟩
 ·have:=a.qu;show((0:Nat):Int)<=g.qu;omega
 ·have:=h.out;show((0:Nat):Int)+k.prom<=g.ou;omega
theorem Ck.In.read(a:g.Is):∀(f:Nat) (k:Ck),k.In g c->(Ck.read g f k).In g c
 |0,k,h=>h
 |f+1,k,h=>by
  unfold Ck.read;split
  ·rename_i hm;dsimp only;split
   ·exact h
   ·split
    ·exact h.shut a
    ·exact Ck.In.read a f _ (h.hear a hm)
  ·exact h
theorem Rz(g):∀(f:Nat) (k:Ck),(Ck.read g f k).no=k.no/\(Ck.read g f k).wt=k.wt/\(Ck.read g f k).aZ=k.aZ/\(Ck.read g f k).prom=k.prom/\(Ck.read g f k).de=k.de/\(Ck.read g f k).tok=k.tok/\(Ck.read g f k).sv=k.sv
 |0,k=>⟨rfl,rfl,rfl,rfl,rfl,rfl,rfl⟩
 |f+1,k=>by
  unfold Ck.read;split
  ·dsimp only;split
   ·exact⟨rfl,rfl,rfl,rfl,rfl,rfl,rfl⟩
   ·split
    ·exact⟨rfl,rfl,rfl,rfl,rfl,rfl,rfl⟩
    ·exact Rz g f _
  ·exact⟨rfl,rfl,rfl,rfl,rfl,rfl,rfl⟩
theorem JD:∀(l:List Rq) (n:Int),∀r∈(cg n l).1,∃b∈l,r.m=b.m
 |[],_,r,hr=>by cases hr
 |a::l,n,r,hr=>by
  unfold cg at hr;split at hr
  ·rcases mL.1 hr with rfl|hr
   ·exact⟨a,iU,rfl⟩
   ·obtain⟨b,d,e⟩:=JD l _ r hr;exact⟨b,jS _ d,e⟩
  ·rcases mL.1 hr with rfl|hr
   ·exact⟨r,iU,rfl⟩
   ·obtain⟨b,d,e⟩:=JD l _ r hr;exact⟨b,jS _ d,e⟩
theorem Rq.Gd.same{r a:Rq}(h:a.Gd g)(e:r.m=a.m):r.Gd g:=by obtain⟨b,d,f,i,j,l⟩:=h;exact⟨by rw[e];exact b,by rw[e];exact d,by rw[e];exact f,by rw[e];exact i,by rw[e];exact j,by rw[e];exact l⟩
theorem Ck.In.num(h:k.In g c)(n):(k.num n).In g c:=by
 refine⟨h.ph,h.wt,h.aO,fun r hr=>?_,?_,h.out,h.tok,h.de,h.sv,h.us⟩
 ·obtain⟨d,a,b⟩:=JD k.q n r hr;exact(h.q d a).same b
 ·show((cg n k.q).1.length:Int)<=g.qu;rw[yR];exact h.len
theorem Ck.In.mA(a:g.Is)(h:k.In g c):(k.mA g).In g (c+1):=by
 have b:=h.tok;have d:=h.sv;have e:=a.bu;have f:=a.rt;refine⟨h.ph,h.wt,h.aO,h.q,h.len,h.out,?_,h.de,?_,h.us⟩
 ·show 0<=min (k.tok+g.rt) g.bu/\min (k.tok+g.rt) g.bu<=32;omega
 ·show 0<=k.sv/\k.sv+32*min (k.tok+g.rt) g.bu<=1024*(c+1+1);omega
theorem Ox:∀(n:Nat) (l:List Nat),l.Nodup->(∀x∈l,x<n)->l.length<=n
 |0,l,_,h=>by
  cases l with
  |nil=>exact aV _
  |cons a l=>exact absurd (h a iU) (qU _)
 |n+1,l,b,h=>by
  have d:(l.erase n).length<=n:=Ox n (l.erase n) (b.erase n) fun x e=>by grind
  have:=List.length_erase (a:=n) (l:=l);split at this<;>omega
theorem Yg{us}(h:qi us):us.length<=65536:=by
 have:=Ox 65536 (us.map Int.toNat) ?_ ?_
 ·rwa [pV]at this
 ·refine BZ.2 ?_;refine(List.Pairwise.and_mem.1 h.1).imp ?_;rintro a b ⟨d,f,i⟩ e;have:=h.2 a d;have:=h.2 b f;exact i ak
 ·intro x j;obtain⟨a,d,rfl⟩:=iV.1 j;have:=h.2 a d;omega
theorem Ck.In.GU(a:g.Is)(h:k.In g c)(b:0<=k.prom):k.Ak g:=by have:=a.sz;have:=a.mx;have:=a.qu;have:=a.ou;have:=h.out;have:=h.aO;have:=h.len;have:=Yg h.us;exact⟨ak,ak,fun r hr=>(h.q r hr).ok a,ak,ak,ak,ak,ak,ak,ak⟩
end
def fG:List Jb->Nat->Int
 |[],_=>0
 |b::l,s=>(if b.s=s then(b.rs.length:Int)else 0)+fG l s
def gS:List Rq->Int
 |[]=>0
 |r::l=>sizeOf' r.m+gS l
def qB:List Rq->Int
 |[]=>0
 |r::l=>r.m.ln+qB l
def iA:List Jb->Nat->Int
 |[],_=>0
 |b::l,s=>(if b.s=s then gS b.rs else 0)+iA l s
theorem Ip(s):∀a b:List Jb,fG (a++b) s=fG a s+fG b s
 |[],b=>by simp[fG]
 |x::a,b=>by simp only[jR,fG,Ip s a b];omega
theorem JO(s):∀a b:List Jb,iA (a++b) s=iA a s+iA b s
 |[],b=>by simp[iA]
 |x::a,b=>by simp only[jR,iA,JO s a b];omega
theorem JQ:∀a b:List Rq,gS (a++b)=gS a+gS b
 |[],b=>by simp[gS]
 |x::a,b=>by simp only[jR,gS,JQ a b];omega
theorem Qz:∀a b:List Rq,qB (a++b)=qB a+qB b
 |[],b=>by simp[qB]
 |x::a,b=>by simp only[jR,qB,Qz a b];omega
theorem YB(b l s):fG (fy b l) s=(if b.s=s then(b.rs.length:Int)else 0)+fG l s:=by unfold fy iB;have:=Ip s (l.take (nh b l)) (l.drop (nh b l));rw[oH]at this;rw[Ip,this];simp only[fG];omega
theorem U5(b l s):iA (fy b l) s=(if b.s=s then gS b.rs else 0)+iA l s:=by unfold fy iB;have:=JO s (l.take (nh b l)) (l.drop (nh b l));rw[oH]at this;rw[JO,this];simp only[iA];omega
theorem Ez{g}(a:g.Is):∀{l:List Rq},(∀r∈l,r.Gd g)->0<=gS l
 |[],_=>lW 0
 |r::l,h=>by have c:=(h r iU).size a;have d:=Ez a fun x b=>h x (jS _ b);show 0<=sizeOf' r.m+gS l;omega
structure CL(g:Cf)(rs:List Rq):Prop where
 ne:rs≠[]
 end_:(rs[0]?.getD rL).m.of+qB rs=(rs[rs.length-1]?.getD rL).m.of+(rs[rs.length-1]?.getD rL).m.ln
 gd:∀r∈rs,r.Gd g
structure Fx.Core(f:Fx):Prop where
 g:f.g.Is
 len:(f.K.length:Int)=f.g.cl
 az:f.az<f.K.length
 cl:∀(s:Nat) k,f.K[s]? =some (some k)->k.In f.g f.clock/\k.aZ=fG f.fl s/\k.prom=iA f.fl s
 de:∀(s:Nat) k,f.K[s]? =some (some k)->k.de<=(if s=f.az/\f.opn=true then 288 else 32)
 pH:∀(s:Nat) k,f.K[s]? =some (some k)->0<=k.no/\k.no<f.dw
 one:∀(s t:Nat) k c,f.K[s]? =some (some k)->f.K[t]? =some (some c)->k.no=c.no->s=t
 jb:∀b∈f.fl,CL f.g b.rs/\b.rs.length<=8/\(0<=b.ft.part/\b.ft.part<=9223372036854775807)/\∃k,f.K[b.s]? =some (some k)
 sorted:f.fl.Pairwise fun a b=>dF a.key b.key=true
 nZ:f.fl.Pairwise fun a b=>a.order≠b.order
 fresh:∀b∈f.fl,b.order<f.bF
 ku:(f.fl.length:Int)<=f.g.wk
 clock:0<=f.clock
 B:(f.B.size:Int)=f.g.sz
 bL:f.bL.length<=1048576/\∀t∈f.bL,(0<=t.delay/\t.delay<=65535)/\(0<=t.part/\t.part<=9223372036854775807)
 acc:0<=f.acc
 dw:0<=f.dw
section
variable {f:Fx}
theorem DH:∀(l:List Jb) (s:Nat),0<=fG l s
 |[],_=>lW 0
 |b::l,s=>by have:=DH l s;show 0<=(if b.s=s then(b.rs.length:Int)else 0)+fG l s;split<;>omega
theorem OO:∀{l:List Jb} {b:Jb},b∈l->(b.rs.length:Int)<=fG l b.s
 |a::l,b,h=>by
  show _<=(if a.s=b.s then(a.rs.length:Int)else 0)+fG l b.s;rcases mL.1 h with rfl|h
  ·have:=DH l b.s;rw[aM rfl];omega
  ·have:=OO h;split<;>omega
theorem ON(n):∀(l:List Jb) (s:Nat),(∀b∈l,b.rs.length<=n)->fG l s<=n*l.length
 |[],_,_=>by simp[fG]
 |b::l,s,h=>by
  have c:=ON n l s fun x a=>h x (jS _ a);have d:=h b iU;show(if b.s=s then(b.rs.length:Int)else 0)+fG l s<=n*((l.length+1:Nat):Int);have e:(n:Int) *((l.length+1:Nat):Int)=n*(l.length:Int)+n:=by grind
  split<;>omega
theorem JP{g}(a:g.Is):∀{l:List Jb} (s:Nat),(∀b∈l,∀r∈b.rs,r.Gd g)->0<=iA l s
 |[],_,_=>lW 0
 |b::l,s,h=>by have d:=JP a s fun x c=>h x (jS _ c);have e:=Ez a (h b iU);show 0<=(if b.s=s then gS b.rs else 0)+iA l s;split<;>omega
theorem Fx.Core.prom(h:f.Core)(s):0<=iA f.fl s:=JP h.g s fun b a=>(h.jb b a).1.gd
theorem Fx.Core.aZ(h:f.Core)(s):0<=fG f.fl s/\fG f.fl s<=64:=by refine⟨DH _ _,?_⟩;have c:=ON 8 f.fl s fun b a=>(h.jb b a).2.1;have d:=h.ku;have e:=h.g.wk;have:((8:Nat):Int)=8:=rfl;omega
theorem Fx.Core.small(h:f.Core):f.K.length<=8:=by have:=h.len;have:=h.g.cl;omega
theorem Fx.Core.stay(h:f.Core):f.uE:=fun b a k d=>by have g:=(h.cl _ k d).2.1;have i:=OO a;obtain⟨r,-,-,-⟩:=h.jb b a;have j:b.rs.length≠0:=fun e=>r.ne (BT.1 e);have c:k.aZ≠0:=ak;unfold Ck.gone;simp[c]
theorem Fx.Core.map(h:f.Core){f':Fx}(i:f'.g=f.g)(hf:f'.fl=f.fl)(q:f'.az=f.az)(C:f'.opn=f.opn)(hc:f'.dw=f.dw)(y:f'.bF=f.bF)(v:f'.B.size=f.B.size)(z:f'.bL=f.bL)(w:0<=f'.acc)(x:0<=f'.clock)(p:f'.K.length=f.K.length)
  (j:∀(s:Nat) a,f'.K[s]? =some (some a)->∃k,f.K[s]? =some (some k)/\a.In f.g f'.clock/\a.aZ=k.aZ/\a.prom=k.prom/\a.de=k.de/\a.no=k.no)
  (A:∀(s:Nat) k,f.K[s]? =some (some k)->∃a,f'.K[s]? =some (some a)):f'.Core:=by
 refine⟨by rw[i];exact h.g,by rw[i,p];exact h.len,by rw[q,p];exact h.az,fun s a l=>?_,fun s a l=>?_,fun s a l=>?_,fun s t D E r u e=>?_,fun b o=>?_,by rw[hf];exact h.sorted,by rw[hf];exact h.nZ,by rw[hf,y];exact h.fresh,by rw[hf,i];exact h.ku,x,by rw[v,i];exact h.B,by rw[z];exact h.bL,w,by rw[hc];exact h.dw⟩
 ·obtain⟨k,a1,c,a3,d,m,n⟩:=j s a l;rw[i,hf,a3,d];exact⟨c,(h.cl s k a1).2⟩
 ·obtain⟨k,a1,c,a3,d,m,n⟩:=j s a l;rw[q,C,m];exact h.de s k a1
 ·obtain⟨k,a1,c,a3,d,m,n⟩:=j s a l;rw[hc,n];exact h.pH s k a1
 ·obtain⟨k,a1,c,a3,d,m,n⟩:=j s D r;obtain⟨a,b1,F,G,H,I,J⟩:=j t E u;exact h.one s t k a a1 b1 ak
 ·rw[hf]at o;obtain⟨a1,c,a3,k,d⟩:=h.jb b o;rw[i];exact⟨a1,c,a3,A _ k d⟩
end
section
variable {f:Fx}
theorem Of(f):∀m,m<=f.K.length->∃K,(dM m).foldl Fx.fF f={f with K:=K}/\K.length=f.K.length/\∀(s:Nat),K[s]? =if s<m then(f.K[s]?).map (Option.map (Ck.mA f.g))else f.K[s]?
 |0,_=>⟨f.K,rfl,rfl,fun s=>by rw[aD (qU s)]⟩
 |m+1,hm=>by
  obtain⟨K,l,c,d⟩:=Of f m ak;rw[xP,zU,l];show ∃o,Fx.fF {f with K:=K} m=_/\_;have h:K[m]? =f.K[m]? :=by grind
  have n:m<f.K.length:=ak;have a:=dN n;cases i:f.K[m]with
  |none=>
   rw[i]at a;rw[Od (.inl (h.trans a))];refine⟨K,rfl,c,fun s=>?_⟩;rw[d s]
   by_cases e:s=m
   ·subst e;rw[aD (sB s),aM (xS s),a];rfl
   ·by_cases b:s<m
    ·rw[aM b,aM ak]
    ·rw[aD b,aD ak]
  |some k=>
   rw[i]at a;rw[Oe (h.trans a)];refine⟨K.set m (some (k.mA f.g)),rfl,by simp[c],fun s=>?_⟩;rw[kQ]
   by_cases e:s=m
   ·subst e;rw[aM rfl,aM ak,aM (xS s),a];rfl
   ·rw[aD (fun j=>e j.symm),d s]
    by_cases b:s<m
    ·rw[aM b,aM ak]
    ·rw[aD b,aD ak]
theorem XN(f:Fx):f.AE={f with K:=f.K.map fun o=>o.map (Ck.mA f.g)}:=by
 obtain⟨K,a,c,b⟩:=Of f f.K.length (aV _);unfold Fx.AE;rw[a]
 have:K=f.K.map fun o=>o.map (Ck.mA f.g):=by
  apply tY;intro s;rw[b s,kO];split
  ·rfl
  ·rename_i e;rw[xO ak];rfl
 rw[this]
theorem Dw(f:Fx):f.early={f with clock:=f.clock+1,K:=f.K.map fun o=>o.map (Ck.mA f.g)}:=XN _
theorem map_some{K:List (Option Ck)}{b:Ck->Ck}{s:Nat}{k':Ck}(h:(K.map fun o=>o.map b)[s]? =some (some k')):∃k,K[s]? =some (some k)/\k'=b k:=by rw[kO,ep]at h;obtain⟨o,c,a⟩:=h;rw[ep]at a;obtain⟨k,rfl,d⟩:=a;exact⟨k,c,d.symm⟩
theorem So{K:List (Option Ck)}{a:Ck->Ck}{s:Nat}{k:Ck}(h:K[s]? =some (some k)):(K.map fun o=>o.map a)[s]? =some (some (a k)):=by rw[kO,h];rfl
theorem Fx.Core.early(h:f.Core):f.early.Core:=by rw[Dw];refine h.map rfl rfl rfl rfl rfl rfl rfl rfl h.acc (by have:=h.clock;show 0<=f.clock+1;omega) aq (fun s c a=>?_) (fun s k a=>⟨_,So a⟩);obtain⟨k,b,rfl⟩:=map_some a;exact⟨k,b,(h.cl s k b).1.mA h.g,rfl,rfl,rfl,rfl⟩
theorem Fx.Core.readAll(h:f.Core):f.readAll.Core:=by refine h.map rfl rfl rfl rfl rfl rfl rfl rfl h.acc h.clock (by simp[Fx.readAll]) (fun s n a=>?_) (fun s k a=>⟨_,So a⟩);obtain⟨k,b,rfl⟩:=map_some a;obtain⟨c,j,d,e,i,l,m⟩:=Rz f.g (k.aO.size+1) k;exact⟨k,b,Ck.In.read h.g _ k (h.cl s k b).1,d,e,i,c⟩
theorem Ra(f:Fx)(n:Nat)(l:∀(s:Nat) k,f.K[s]? =some (some k)->k.q.length<=n):∀m,m<=f.K.length->∃K a,(dM m).foldl Fx.ff f={f with K:=K,acc:=a}/\K.length=f.K.length/\(f.acc<=a/\a<=f.acc+n*m)/\∀(s:Nat),(f.K[s]? =none->K[s]? =none)/\(f.K[s]? =some none->K[s]? =some none)/\∀k,f.K[s]? =some (some k)->(m<=s->K[s]? =some (some k))/\∃i,K[s]? =some (some (k.num i))\/K[s]? =some (some k)
 |0,_=>⟨f.K,f.acc,rfl,rfl,⟨lW _,aq⟩,fun s=>⟨id,id,fun k g=>⟨fun _=>g,0,.inr g⟩⟩⟩
 |m+1,hm=>by
  obtain⟨K,a,r,j,t,b⟩:=Ra f n l m ak;rw[xP,zU,r];show ∃w x,Fx.ff {f with K:=K,acc:=a} m=_/\_;have v:m<f.K.length:=ak;have d:=dN v;have z:(n:Int) *((m+1:Nat):Int)=n*(m:Int)+n:=by grind
  cases o:f.K[m]with
  |none=>
   rw[o]at d;rw[Ep (.inl ((b m).2.1 d))];refine⟨K,a,rfl,j,⟨t.1,ak⟩,fun s=>⟨(b s).1,(b s).2.1,fun k g=>⟨fun c=>((b s).2.2 k g).1 ak,((b s).2.2 k g).2⟩⟩⟩
  |some k=>
   rw[o]at d;rw[JB (((b m).2.2 k d).1 (aV m))];have y:=JC k.q a;have A:=l m k d;refine⟨K.set m (some (k.num a)),(cg a k.q).2,rfl,by simp[j],⟨ak,ak⟩,fun s=>⟨fun c=>?_,fun c=>?_,fun p h=>⟨fun c=>?_,?_⟩⟩⟩
   ·rw[kQ];split
    ·rename_i e;subst e;rw[d]at c;cases c
    ·exact(b s).1 c
   ·rw[kQ];split
    ·rename_i e;subst e;rw[d]at c;cases c
    ·exact(b s).2.1 c
   ·rw[kQ,aD ak];exact((b s).2.2 p h).1 ak
   ·by_cases e:m=s
    ·subst e;rw[d]at h;cases h;exact⟨a,.inl (by grind)⟩
    ·obtain⟨i,u⟩:=((b s).2.2 p h).2;refine⟨i,?_⟩;rw[kQ,aD e];exact u
theorem Fx.Core.pI(h:f.Core):f.pI.Core/\(f.acc<=f.pI.acc/\f.pI.acc<=f.acc+64)/\∃K a,f.pI={f with K:=K,acc:=a}:=by
 have t:=h.g.qu;obtain⟨K,a,m,n,q,d⟩:=Ra f 8 (fun s k p=>by have:=(h.cl s k p).1.len;omega) f.K.length (aV _);have e:f.pI={f with K:=K,acc:=a}:=m;have j:=h.small;refine⟨?_,?_,K,a,e⟩
 ·rw[e];refine h.map (f':={f with K:=K,acc:=a}) rfl rfl rfl rfl rfl rfl rfl rfl (by have:=h.acc;show 0<=a;omega) h.clock n (fun s l j=>?_) (fun s k j=>?_)
  ·have b:K[s]? =some (some l):=j;cases c:f.K[s]? with
   |none=>rw[(d s).1 c]at b;cases b
   |some o=>
    cases o with
    |none=>rw[(d s).2.1 c]at b;cases b
    |some k=>
     obtain⟨i,hi⟩:=((d s).2.2 k c).2;rcases hi with hi|hi
     ·rw[b]at hi;cases hi;exact⟨k,rfl,(h.cl s k c).1.num i,rfl,rfl,rfl,rfl⟩
     ·rw[b]at hi;cases hi;exact⟨l,rfl,(h.cl s l c).1,rfl,rfl,rfl,rfl⟩
  ·obtain⟨i,hi⟩:=((d s).2.2 k j).2;rcases hi with hi|hi
   ·exact⟨_,hi⟩
   ·exact⟨_,hi⟩
 ·rw[e];show f.acc<=a/\a<=f.acc+64;have r:((8:Nat):Int) *(f.K.length:Int)<=64:=ak;omega
theorem Fx.Core.goes(h:f.Core):f.goes.Core/\(f.goes.acc<=f.acc+64)/\∃K a,f.goes={f with K:=K,acc:=a}:=by
 unfold Fx.goes;split
 ·exact⟨h,ak,f.K,f.acc,rfl⟩
 ·obtain⟨b,c,K,a,d⟩:=h.readAll.pI;refine⟨b,c.2,K,a,d⟩
end
theorem aea(B no r b)(h:0<=r.m.ln):((mJ B (pz no r b)).size:Int)+4<=sizeOf' r.m:=by
 unfold mJ sizeOf'
 by_cases e:r.m.kd=0
 ·rw[aM e];split
  ·show((B.extract r.m.of.toNat (r.m.of.toNat+r.m.ln.toNat)).size:Int)+4<=_;rw[Array.size_extract];omega
  ·show((0:Nat):Int)+4<=_;omega
 ·rw[aD e,aD (fun h=>e h.1)];show((0:Nat):Int)+4<=_;omega
theorem aek{us}(h:qi us)(c):qi (freed us c):=⟨h.1.sublist List.filter_sublist,fun x a=>h.2 x (vR.1 a).1⟩
structure uF(k k':Ck)(n:Nat)(p:Int):Prop where
 no:k'.no=k.no
 ph:k'.ph=k.ph
 wt:k'.wt=k.wt
 aO:k'.aO=k.aO
 q:k'.q=k.q
 tok:k'.tok=k.tok
 de:k'.de=k.de
 sv:k'.sv=k.sv
 aZ:k'.aZ=k.aZ-n
 prom:k'.prom=k.prom-p
 out:(k'.out.size:Int)+k'.prom<=k.out.size+k.prom
 us:qi k.us->qi k'.us
theorem ZV{g}(B)(ft:Ft)(k r)(h:r.Gd g):uF k (k.hrd B ft r) 1 (sizeOf' r.m):=by
 have b:=aea B k.no r ft.cM h.of.2.1;unfold Ck.hrd Ck.uK;split
 ·refine⟨rfl,rfl,rfl,rfl,rfl,rfl,rfl,rfl,rfl,rfl,?_,id⟩;show(k.out.size:Int)+(k.prom-sizeOf' r.m)<=k.out.size+k.prom;omega
 ·refine⟨rfl,rfl,rfl,rfl,rfl,rfl,rfl,rfl,rfl,rfl,?_,fun a=>aek a _⟩;show((k.out++mF (wF ft) r.m.ck (mJ B (pz k.no r ft.cM))).size:Int)+(k.prom-sizeOf' r.m)<=k.out.size+k.prom;rw[ot,RF];omega
theorem uF.trans{a b c n m p q}(h:uF a b n p)(k:uF b c m q):uF a c (n+m) (p+q):=
 ⟨k.no.trans h.no,k.ph.trans h.ph,k.wt.trans h.wt,k.aO.trans h.aO,k.q.trans h.q,k.tok.trans h.tok,k.de.trans h.de,k.sv.trans h.sv,by rw[k.aZ,h.aZ];omega,by rw[k.prom,h.prom];omega,by have:=h.out;have:=k.out;omega,fun d=>k.us (h.us d)⟩
theorem GZ{g}(B)(ft:Ft):∀(a:List Rq) (k:Ck),(∀r∈a,r.Gd g)->uF k (k.answers B ft a) a.length (gS a)
 |[],k,_=>⟨rfl,rfl,rfl,rfl,rfl,rfl,rfl,rfl,by show k.aZ=k.aZ-((0:Nat):Int);omega,by show k.prom=k.prom-0;omega,lW _,id⟩
 |r::a,k,h=>by have b:=ZV B ft k r (h r iU);have c:=b.trans (GZ B ft a (k.hrd B ft r) fun x d=>h x (jS _ d));have e:a.length+1=1+a.length:=ak;show uF k ((k.hrd B ft r).answers B ft a) (a.length+1) (sizeOf' r.m+gS a);rw[e];exact c
theorem U6{g}(a:g.Is){rs}(h:∀r∈rs,r.Gd g)(i):0<=gS (rs.take i)/\gS (rs.take i)<=gS rs:=by have c:=Ez a (l:=rs.take i) fun r hr=>h r (oF hr);have d:=Ez a (l:=rs.drop i) fun r hr=>h r (vS hr);have b:=JQ (rs.take i) (rs.drop i);rw[oH]at b;omega
theorem S8{g}{r:Rq}(h:r.Gd g):(r.piece.length:Int)<=r.m.ln/\r.piece.length %4=0:=by
 have b:=h.of;unfold Rq.piece;split
 ·rename_i e;have c:=h.dt e;have a:r.m.dt.data.toList.length=r.m.dt.size:=rfl;omega
 ·split
  ·rw[Lib.repeatL_length];simp;omega
  ·show((0:Nat):Int)<=r.m.ln/\0%4=0;omega
theorem Ht{g:Cf}:∀{a:List Rq},(∀r∈a,r.Gd g)->((dc a).length:Int)<=qB a/\(dc a).length %4=0
 |[],_=>⟨lW 0,rfl⟩
 |r::a,h=>by
  have c:=S8 (h r iU);have d:=Ht fun x b=>h x (jS _ b)
  have e:(dc (r::a)).length=r.piece.length+(dc a).length:=by unfold dc;rw[vO,ia]
  rw[e];show((r.piece.length+(dc a).length:Nat):Int)<=r.m.ln+qB a/\_;omega
theorem CL.fits{g a}(h:CL g a):∃r t,a=r::t/\r.Gd g/\r.m.of+qB a<=g.sz:=by
 have b:=h.end_;have c:=h.gd;cases a with
 |nil=>exact absurd rfl h.ne
 |cons r t=>
  refine⟨r,t,rfl,c r iU,?_⟩;have e:((r::t)[0]?.getD rL)=r:=rfl;rw[e]at b;have d:(r::t).length-1<(r::t).length:=aq;have hm:=c _ (UF d);rw[(dN d)]at b;simp only[mj]at b;have:=hm.of;omega
theorem aaM(o s q):(secs o s q).length=q:=by simp[secs]
theorem WL(d:Dk)(a)(ft:Ft):(d.change a ft).C.length<=d.C.length+(dc a).length / 4:=by
 unfold Dk.change;cases a with
 |nil=>exact Nat.le_add_right _ _
 |cons r t=>
  dsimp only;split
  ·exact eE _
  ·split
   ·show(stay _ _ d.C).length<=_;have:(stay r.m.of.toNat (r.m.of.toNat+(cY (r::t) ft).length) d.C).length<=d.C.length:=List.length_filter_le _ _;omega
   ·show(d.C++secs _ _ _).length<=_;rw[ia,aaM];have:=TO (r::t) ft;omega
theorem Bh{K:List (Option Ck)}{s t:Nat}{k' x:Ck}(h:(K.set s (some k'))[t]? =some (some x)):(t=s/\x=k')\/(t≠s/\K[t]? =some (some x)):=by
 rw[kQ]at h;split at h
 ·rename_i e;split at h
  ·cases h;exact .inl ⟨e.symm,rfl⟩
  ·cases h
 ·rename_i e;exact .inr ⟨fun a=>e a.symm,h⟩
theorem EY{K:List (Option Ck)}{s t:Nat}{k' x:Ck}(h:K[t]? =some (some x)):∃y,(K.set s (some k'))[t]? =some (some y):=by
 rw[kQ];split
 ·rename_i e;subst e;rw[aM (ed.1 h).1];exact⟨_,rfl⟩
 ·exact⟨_,h⟩
section
variable {f:Fx}
theorem Fx.Core.does(h:f.Core){b:Jb}{r:List Jb}(o:f.fl=b::r):∃k,f.K[b.s]? =some (some k)/\({f with fl:=r}.does b).Core:=by
 obtain⟨S,T,U,k,j⟩:=h.jb b (by grind);refine⟨k,j,?_⟩
 obtain⟨m,l,M,E,R,a⟩:∃(m:Dk) (l:Ck) (M:List En),({f with fl:=r}:Fx).does b={f with fl:=r,K:=f.K.set b.s (some l),B:=m.B,D:=m.D,C:=m.C,log:=M}/\m.B.size=f.B.size/\uF k l b.rs.length (gS b.rs):=
  ⟨({f with fl:=r}:Fx).dk.change b.rs b.ft,k.answers (({f with fl:=r}:Fx).dk.change b.rs b.ft).B b.ft (b.rs.take b.rs.length),_,wD j,Dl _ _ _,by rw[vT];exact GZ _ _ _ _ S.gd⟩
 rw[E];have I:∀x∈r,x∈f.fl:=fun x d=>by grind
 have G:∀s,fG f.fl s=(if b.s=s then(b.rs.length:Int)else 0)+fG r s:=fun s=>by rw[o];rfl
 have H:∀s,iA f.fl s=(if b.s=s then gS b.rs else 0)+iA r s:=fun s=>by rw[o];rfl
 have n:∀(s:Nat) x,(f.K.set b.s (some l))[s]? =some (some x)->(s=b.s/\x=l)\/(s≠b.s/\f.K[s]? =some (some x)):=fun s x d=>Bh d;refine⟨h.g,?_,?_,fun s x d=>?_,fun s x d=>?_,fun s x d=>?_,fun s t x y d L e=>?_,fun c u=>?_,?_,?_,fun c u=>h.fresh c (I c u),?_,h.clock,?_,h.bL,h.acc,h.dw⟩
 ·show((f.K.set b.s (some l)).length:Int)=f.g.cl;rw[oz];exact h.len
 ·show f.az<(f.K.set b.s (some l)).length;rw[oz];exact h.az
 ·show x.In f.g f.clock/\x.aZ=fG r s/\x.prom=iA r s;rcases n s x d with⟨rfl,rfl⟩|⟨p,d⟩
  ·obtain⟨i,w,z⟩:=h.cl _ k j;rw[G,aM rfl]at w;rw[H,aM rfl]at z;refine⟨⟨by rw[a.ph];exact i.ph,by rw[a.wt];exact i.wt,by rw[a.aO];exact i.aO,by rw[a.q];exact i.q,by rw[a.q];exact i.len,by have:=a.out;have:=i.out;omega,by rw[a.tok];exact i.tok,by rw[a.de];exact i.de,by rw[a.sv,a.tok];exact i.sv,a.us i.us⟩,by rw[a.aZ];omega,by rw[a.prom];omega⟩
  ·obtain⟨i,w,z⟩:=h.cl _ x d;rw[G,aD (fun e=>p e.symm)]at w;rw[H,aD (fun e=>p e.symm)]at z;exact⟨i,ak,ak⟩
 ·rcases n s x d with⟨rfl,rfl⟩|⟨p,d⟩
  ·rw[a.de];exact h.de _ k j
  ·exact h.de s x d
 ·rcases n s x d with⟨rfl,rfl⟩|⟨p,d⟩
  ·rw[a.no];exact h.pH _ k j
  ·exact h.pH s x d
 ·rcases n s x d with⟨P,Q⟩|⟨_,J⟩
  ·rcases n t y L with⟨A,F⟩|⟨_,v⟩
   ·omega
   ·rw[Q,a.no]at e;rw[P];exact h.one _ _ k y j v e
  ·rcases n t y L with⟨A,F⟩|⟨_,v⟩
   ·rw[F,a.no]at e;rw[A];exact h.one _ _ x k J j e
   ·exact h.one _ _ x y J v e
 ·obtain⟨a1,N,a3,V,O⟩:=h.jb c (I c u);exact⟨a1,N,a3,EY O⟩
 ·have:=h.sorted;rw[o]at this;exact(sn.1 this).2
 ·have:=h.nZ;rw[o]at this;exact(sn.1 this).2
 ·have:=h.ku;rw[o,eD]at this;show(r.length:Int)<=f.g.wk;omega
 ·show(m.B.size:Int)=f.g.sz;rw[R];exact h.B
theorem Fx.Core.XC(h:f.Core){b r}(j:f.fl=b::r){k}(w:f.K[b.s]? =some (some k))(q:f.C.length+1048576<=1099511627776):Cy {f with fl:=r} b k:=by
 have u:b∈f.fl:=by rw[j];exact iU
 obtain⟨a,M,E,_⟩:=h.jb b u;obtain⟨l,t,p,g0,T⟩:=a.fits;have v:=Ht a.gd;have H:=h.B;have S:=h.g.sz;have D:=g0.of;have F:=g0.z;have A:=g0.ln;refine⟨⟨l,t,p,ak,?_,?_⟩,ak,⟨ak,v.2⟩,fun x d=>?_,E,q,fun i L=>?_⟩
 ·show l.m.of.toNat<f.B.size
  by_cases e:l.m.kd=2
  ·have:=F e;omega
  ·have:=A e;omega
 ·show l.m.of.toNat+(dc b.rs).length<=f.B.size;omega
 ·have n:=a.gd x d;refine⟨n.ok h.g,n.ck,fun _=>?_⟩;have:=n.of;show x.m.of+x.m.ln<=f.B.size;omega
 ·have c:=GZ (({f with fl:=r}:Fx).dk.change b.rs b.ft).B b.ft (b.rs.take i) k fun x d=>a.gd x (oF d);obtain⟨o,U,V⟩:=h.cl _ k w;have P:=U6 h.g a.gd i;have J:fG f.fl b.s=(b.rs.length:Int)+fG r b.s:=by rw[j];show(if b.s=b.s then _ else _)+_=_;rw[aM rfl]
  have R:iA f.fl b.s=gS b.rs+iA r b.s:=by rw[j];show(if b.s=b.s then _ else _)+_=_;rw[aM rfl]
  have I:=DH r b.s;have Q:=JP h.g b.s fun x d=>(h.jb x (by rw[j];exact jS _ d)).1.gd;have G:=(h.aZ b.s).2;have O:=h.g.ou;have D:=o.out;have N:=c.out;have y:(b.rs.take i).length=i:=by rw[qP];omega
  refine⟨c.us o.us,?_,?_,?_⟩
  ·rw[c.aZ,y];omega
  ·rw[c.prom];omega
  ·have:=c.prom;omega
end
structure Fx.Due(f:Fx):Prop where
 core:f.Core
 clock:f.clock<=1073741824
 bF:(f.bF:Int)<=8*(f.clock-1)
 log:(f.log.length:Int)+8*f.fl.length<=64*f.clock
 C:(f.C.length:Int)+64*f.fl.length<=512*f.clock
 acc:f.acc<=64*f.clock
theorem XI:Ao Fx.Due:=by
 refine⟨fun f b r h c=>?_,fun f b r h c w=>?_⟩
 ·have d:=h.core.sorted;have i:=h.core.nZ;have j:=h.core.ku;have q:=h.core.g.wk;rw[c]at d i j;rw[eD]at j;exact⟨(sn.1 d).1,fun x o e=>(sn.1 i).1 x o e.symm,ak⟩
 ·obtain⟨k,a,n⟩:=h.core.does c;have s:=h.C;have u:=h.log;have v:=h.clock;have z:(f.fl.length:Int)=r.length+1:=by grind
  have m:b∈f.fl:=by grind
  obtain⟨l,A,_,_⟩:=h.core.jb b m;obtain⟨F,t,p,g0,E⟩:=l.fits;have y:=Ht l.gd;have D:=h.core.g.sz;have B:=g0.of;refine⟨⟨k,a,h.core.XC c a ak⟩,ak,⟨n,?_,?_,?_,?_,?_⟩⟩
  ·rw[wD (f:={f with fl:=r}) a];exact h.clock
  ·rw[wD (f:={f with fl:=r}) a];exact h.bF
  ·rw[wD (f:={f with fl:=r}) a];show((f.log++mB b k b.rs.length).length:Int)+8*r.length<=64*f.clock;rw[ia,pV,vT];omega
  ·rw[wD (f:={f with fl:=r}) a];show(((({f with fl:=r}:Fx).dk.change b.rs b.ft).C.length:Nat):Int)+64*r.length<=512*f.clock;have:=WL ({f with fl:=r}:Fx).dk b.rs b.ft;have e:({f with fl:=r}:Fx).dk.C.length=f.C.length:=rfl;omega
  ·rw[wD (f:={f with fl:=r}) a];exact h.acc
structure uy(g:Cf)(c:Int)(k0 k:Ck)(rs:List Rq):Prop where
 in_:k.In g c
 aZ:k.aZ=k0.aZ+rs.length
 prom:k.prom=k0.prom+gS rs
 len:rs.length+k.q.length=k0.q.length
 no:k.no=k0.no
 de:k.de<=k0.de
 run:CL g rs
section
variable {g:Cf} {c:Int} {k k0:Ck} {rs:List Rq}
theorem Ck.In.bF(b:g.Is)(h:k.In g c){r l}(a:k.q=r::l)(p:0<k.tok)(o:(k.out.size:Int)+k.prom+sizeOf' r.m<=g.ou)(hc:cJ r.m<=k.de):(k.bF r l).In g c:=by
 have hr:=h.q r (by rw[a];exact iU);have f:=hr.cost b;have i:=h.tok;have j:=h.sv;have n:=b.mx;have d:=h.len;rw[a,eD]at d;refine⟨h.ph,h.wt,h.aO,fun x e=>h.q x (by rw[a];exact jS _ e),?_,?_,?_,?_,?_,h.us⟩
 ·show(l.length:Int)<=g.qu;omega
 ·show(k.out.size:Int)+(k.prom+sizeOf' r.m)<=g.ou;omega
 ·show 0<=k.tok-1/\k.tok-1<=32;omega
 ·show 0<=k.de-cJ r.m;omega
 ·show 0<=k.sv+cJ r.m/\k.sv+cJ r.m+32*(k.tok-1)<=1024*(c+1);omega
theorem QV{r l}(a:k.q=r::l):k.fst=r/\k.next=k.bF r l:=by
 have e:k.fst=r:=by unfold Ck.fst;rw[a]
 refine⟨e,?_⟩;unfold Ck.next
 rw[e,a];rfl
theorem uy.first (d:g.Is)(h:k.In g c)(hr:k.gl g=true)(hc:cJ k.fst.m<=k.de):uy g c k k.next [k.fst]:=by
 obtain⟨r,l,a,p,-,j,i⟩:=yY hr;obtain⟨b,f⟩:=QV a;rw[f,b];rw[b]at hc;have e:=h.q r (by grind);have o:=e.cost d;refine⟨h.bF d a j i hc,rfl,?_,?_,rfl,?_,⟨aq,?_,fun x n=>?_⟩⟩
 ·show k.prom+sizeOf' r.m=k.prom+(sizeOf' r.m+0);omega
 ·rw[a];show 1+l.length=l.length+1;omega
 ·show k.de-cJ r.m<=k.de;omega
 ·show r.m.of+(r.m.ln+0)=r.m.of+r.m.ln;omega
 ·rw[mM.1 n];exact e
theorem uy.step(d:g.Is)(h:uy g c k0 k rs)(hr:k.gl g=true)(hc:cJ k.fst.m<=k.de)(n:k.fst.m.of=(rs[rs.length-1]?.getD rL).m.of+(rs[rs.length-1]?.getD rL).m.ln):uy g c k0 k.next (rs++[k.fst]):=by
 obtain⟨r,l,a,v,-,o,j⟩:=yY hr;obtain⟨b,f⟩:=QV a;rw[f,b];rw[b]at hc n;have e:=h.in_.q r (by grind);have t:=e.cost d;have i:=h.len;rw[a,eD]at i;refine⟨h.in_.bF d a o j hc,?_,?_,?_,h.no,?_,⟨aq,?_,fun x hx=>?_⟩⟩
 ·show k.aZ+1=k0.aZ+((rs++[r]).length:Int);rw[ia,h.aZ];simp;omega
 ·show k.prom+sizeOf' r.m=k0.prom+gS (rs++[r]);rw[JQ,h.prom];show _=k0.prom+(gS rs+(sizeOf' r.m+0));omega
 ·rw[ia];show rs.length+1+l.length=_;omega
 ·show k.de-cJ r.m<=k0.de;have:=h.de;omega
 ·have u:=h.run.end_;have w:=h.run.ne;have p:(rs++[r])[0]? =rs[0]? :=by grind
  have s:(rs++[r])[(rs++[r]).length-1]? =some r:=by grind
  rw[p,s,Qz];simp;show _+(qB rs+(r.m.ln+0))=_;omega
 ·rcases kU.1 hx with hx|hx
  ·exact h.run.gd x hx
  ·rw[mM.1 hx];exact e
theorem VK{f:Fx}{s:Nat}(h:f.along s k rs=true):k.gl f.g=true/\cJ k.fst.m<=k.de/\k.fst.m.of=(rs[rs.length-1]?.getD rL).m.of+(rs[rs.length-1]?.getD rL).m.ln:=by unfold Fx.along at h;rw[cm,cm,uo]at h;obtain⟨a,d,b⟩:=h;unfold Fx.free at a;rw[cm]at a;refine⟨a.1,d,?_⟩;unfold rA at b;simp at b;exact b.2.2.2.1
theorem Pb{f:Fx}{s:Nat}(a:f.g.Is):∀(n:Nat) (k:Ck) (rs:List Rq),uy f.g c k0 k rs->uy f.g c k0 (f.jH s n k rs).1 (f.jH s n k rs).2
 |0,k,rs,h=>h
 |n+1,k,rs,h=>by
  unfold Fx.jH;split
  ·rename_i e;obtain⟨a1,b,a3⟩:=VK e;exact Pb a n _ _ (h.step a a1 b a3)
  ·exact h
end
theorem Wc{a b c}(d:dF a b=true)(e:dF b c=true):dF a c=true:=by unfold dF at*;simp at*;omega
theorem Jd{b x l}:x∈fy b l↔x=b\/x∈l:=by
 unfold fy iB;rw[kU,mL];constructor
 ·rintro(h|h|h)
  ·exact .inr (oF h)
  ·exact .inl h
  ·exact .inr (vS h)
 ·rintro(h|h)
  ·exact .inr (.inl h)
  ·rw[<-oH (nh b l) l]at h;rcases kU.1 h with h|h
   ·exact .inl h
   ·exact .inr (.inr h)
theorem Qi(b l):(fy b l).length=l.length+1:=by unfold fy iB;have:=dG List.length (oH (nh b l) l);rw[ia]at this⊢;rw[eD];omega
theorem n8{b l}(h:l.Pairwise fun a b=>a.order≠b.order)(e:∀x∈l,x.order<b.order):(fy b l).Pairwise fun a b=>a.order≠b.order:=by
 unfold fy iB;rw[<-oH (nh b l) l]at h;obtain⟨f,i,j⟩:=UI.1 h;refine UI.2 ⟨f,sn.2 ⟨fun x d=>?_,i⟩,fun x d y hy=>?_⟩
 ·have:=e x (vS d);omega
 ·rcases mL.1 hy with rfl|hy
  ·have:=e x (oF d);omega
  ·exact j x d y hy
theorem Qj{b}:∀{l:List Jb},(l.Pairwise fun a b=>dF a.key b.key=true)->(∀x∈l,x.order<b.order)->(fy b l).Pairwise fun a b=>dF a.key b.key=true
 |[],_,_=>List.pairwise_singleton _ _
 |a::l,h,i=>by
  obtain⟨f,m⟩:=sn.1 h;cases d:dF a.key b.key with
  |true=>
   have e:fy b (a::l)=a::fy b l:=by unfold fy iB nh;rw[UK,aM d];rfl
   rw[e];refine sn.2 ⟨fun x hx=>?_,Qj m fun x hx=>i x (jS _ hx)⟩;rcases Jd.1 hx with rfl|hx
   ·exact d
   ·exact f x hx
  |false=>
   have e:fy b (a::l)=b::a::l:=by unfold fy iB nh;rw[UK,aD (by rw[d];simp)];rfl
   rw[e]
   have j:dF b.key a.key=true:=by have:=i a iU;unfold dF Jb.key at*;simp at d;simp;omega
   refine sn.2 ⟨fun x hx=>?_,h⟩;rcases mL.1 hx with rfl|hx
   ·exact j
   ·exact Wc j (f x hx)
section
variable {f:Fx}
theorem Fx.Core.put(h:f.Core){s k k' o}(d:f.K[s]? =some (some k))(F:k'.In f.g f.clock)(A:k'.aZ=k.aZ)(C:k'.prom=k.prom)(i:k'.no=k.no)(E:k'.de<=(if s=f.az/\o=true then 288 else 32))(G:∀(t:Nat) x,t≠s->f.K[t]? =some (some x)->x.de<=(if t=f.az/\o=true then 288 else 32)):({f.at s k' with opn:=o}:Fx).Core:=by
 have b:∀(t:Nat) x,(f.K.set s (some k'))[t]? =some (some x)->(t=s/\x=k')\/(t≠s/\f.K[t]? =some (some x)):=fun t x a=>Bh a;refine⟨h.g,?_,?_,fun t x a=>?_,fun t x a=>?_,fun t x a=>?_,fun t r x y a q e=>?_,fun c D=>?_,h.sorted,h.nZ,h.fresh,h.ku,h.clock,h.B,h.bL,h.acc,h.dw⟩
 ·show((f.K.set s (some k')).length:Int)=f.g.cl;rw[oz];exact h.len
 ·show f.az<(f.K.set s (some k')).length;rw[oz];exact h.az
 ·rcases b t x a with⟨rfl,rfl⟩|⟨j,a⟩
  ·rw[A,C];exact⟨F,(h.cl _ k d).2⟩
  ·exact h.cl t x a
 ·rcases b t x a with⟨rfl,rfl⟩|⟨j,a⟩
  ·exact E
  ·exact G t x j a
 ·rcases b t x a with⟨rfl,rfl⟩|⟨j,a⟩
  ·rw[i];exact h.pH _ k d
  ·exact h.pH t x a
 ·rcases b t x a with⟨w,z⟩|⟨_,p⟩
  ·rcases b r y q with⟨m,n⟩|⟨_,l⟩
   ·omega
   ·rw[z,i]at e;rw[w];exact h.one _ _ k y d l e
  ·rcases b r y q with⟨m,n⟩|⟨_,l⟩
   ·rw[n,i]at e;rw[m];exact h.one _ _ x k p d e
   ·exact h.one _ _ x y p l e
 ·obtain⟨a1,u,a3,H,v⟩:=h.jb c D;exact⟨a1,u,a3,EY v⟩
theorem Fx.Core.KV(h:f.Core){k}(c:f.K[f.az]? =some (some k)):(f.aU k).In f.g f.clock/\(f.aU k).de<=288/\(f.aU k).aZ=k.aZ/\(f.aU k).prom=k.prom/\(f.aU k).no=k.no/\(f.aU k).wt=k.wt/\(f.aU k).q=k.q:=by
 have a:=(h.cl _ k c).1;have b:=h.de _ k c;unfold Fx.aU;split
 ·rename_i e;rw[aM ⟨rfl,e⟩]at b;exact⟨a,b,rfl,rfl,rfl,rfl,rfl⟩
 ·rename_i e;rw[aD (fun x=>e x.2)]at b;have j:=h.g.qn;have hm:=h.g.mx;have l:=a.wt;have h0:=a.de
  have i:0<=k.wt*f.g.qn/\k.wt*f.g.qn<=256:=by have d:k.wt=1\/k.wt=2\/k.wt=3\/k.wt=4:=ak;rcases d with e|e|e|e<;>rw[e]<;>omega
  refine⟨⟨a.ph,a.wt,a.aO,a.q,a.len,a.out,a.tok,?_,a.sv,a.us⟩,?_,rfl,rfl,rfl,rfl,rfl⟩
  ·show 0<=k.de+k.wt*f.g.qn;omega
  ·show k.de+k.wt*f.g.qn<=288;omega
theorem Fx.Core.turned(h:f.Core){k}(a:f.K[f.az]? =some (some k)):(f.turned k).Core:=by obtain⟨a1,i,a3,c,d,_⟩:=h.KV a;refine h.put a a1 a3 c d (by grind) fun t x b g=>?_;have:=h.de t x g;rw[aD (fun e=>b e.1)]at this;rw[aD (fun e=>b e.1)];exact this
theorem Fx.Core.fU(h:f.Core)(A:f.opn=true){k}(l:f.K[f.az]? =some (some k))(hr:k.gl f.g=true)(hc:cJ k.fst.m<=k.de)(O:(f.fl.length:Int)<f.g.wk):(f.fU f.az k).Core:=by
 obtain⟨E,P,Q⟩:=h.cl _ k l;have b:=Pb (s:=f.az) (f:=f) h.g k.next.q.length k.next [k.fst] (uy.first h.g E hr hc)
 have H:f.fU f.az k={f.at f.az (f.jH f.az k.next.q.length k.next [k.fst]).1 with bL:=f.bL.tail,bF:=f.bF+1,fl:=fy ⟨f.az,(f.jH f.az k.next.q.length k.next [k.fst]).2,f.eu,f.clock+f.eu.delay,f.bF⟩ f.fl}:=rfl;rw[H];generalize (f.jH f.az k.next.q.length k.next [k.fst]).1=d at*;generalize (f.jH f.az k.next.q.length k.next [k.fst]).2=v at*
 have I:0<=f.eu.part/\f.eu.part<=9223372036854775807:=by
  unfold Fx.eu;split
  ·exact⟨lW 0,cq⟩
  ·rename_i t r e;exact(h.bL.2 t (by rw[e];exact iU)).2
 have i:∀(t:Nat) x,(f.K.set f.az (some d))[t]? =some (some x)->(t=f.az/\x=d)\/(t≠f.az/\f.K[t]? =some (some x)):=fun t x a=>Bh a;have N:=h.g.qu;refine⟨h.g,?_,?_,fun t x a=>?_,fun t x a=>?_,fun t x a=>?_,fun t F x y a D e=>?_,fun c hc=>?_,Qj h.sorted h.fresh,n8 h.nZ h.fresh,fun c hc=>?_,?_,h.clock,h.B,⟨?_,fun t J=>h.bL.2 t (List.mem_of_mem_tail J)⟩,h.acc,h.dw⟩
 ·show((f.K.set f.az (some d)).length:Int)=f.g.cl;rw[oz];exact h.len
 ·show f.az<(f.K.set f.az (some d)).length;rw[oz];exact h.az
 ·show x.In f.g f.clock/\x.aZ=fG (fy _ f.fl) t/\x.prom=iA (fy _ f.fl) t;rw[YB,U5];rcases i t x a with⟨rfl,rfl⟩|⟨p,a⟩
  ·rw[aM rfl,aM rfl];have a1:=b.aZ;have n:=b.prom;exact⟨b.in_,by show x.aZ=(v.length:Int)+_;omega,by show x.prom=gS v+_;omega⟩
  ·rw[aD (fun e=>p e.symm),aD (fun e=>p e.symm)];obtain⟨b1,L,M⟩:=h.cl t x a;exact⟨b1,ak,ak⟩
 ·rcases i t x a with⟨o,j⟩|⟨p,a⟩
  ·have a1:=b.de;have n:=h.de _ k l;rw[aM ⟨rfl,A⟩]at n;show x.de<=(if t=f.az/\f.opn=true then 288 else 32);rw[aM ⟨o,A⟩,j];omega
  ·exact h.de t x a
 ·rcases i t x a with⟨o,j⟩|⟨p,a⟩
  ·rw[j,b.no];exact h.pH _ k l
  ·exact h.pH t x a
 ·rcases i t x a with⟨o,j⟩|⟨_,C⟩
  ·rcases i F y D with⟨w,z⟩|⟨_,u⟩
   ·omega
   ·rw[j,b.no]at e;rw[o];exact h.one _ _ k y l u e
  ·rcases i F y D with⟨w,z⟩|⟨_,u⟩
   ·rw[z,b.no]at e;rw[w];exact h.one _ _ x k C l e
   ·exact h.one _ _ x y C u e
 ·rcases Jd.1 hc with rfl|hc
  ·refine⟨b.run,?_,I,d,?_⟩
   ·show v.length<=8;have:=b.len;have:=E.len;omega
   ·show(f.K.set f.az (some d))[f.az]? =some (some d);rw[kQ,aM rfl,aM h.az]
  ·obtain⟨a1,n,a3,R,G⟩:=h.jb c hc;exact⟨a1,n,a3,EY G⟩
 ·show c.order<f.bF+1;rcases Jd.1 hc with rfl|hc
  ·exact xS _
  ·have:=h.fresh c hc;omega
 ·show((fy _ f.fl).length:Int)<=f.g.wk;rw[Qi];omega
 ·show f.bL.tail.length<=1048576;have:=h.bL.1;rw[List.length_tail];omega
end
structure Fx.uG(f:Fx):Prop where
 core:f.Core
 clock:f.clock<=1073741824
 bF:(f.bF:Int)<=8*(f.clock-1)+f.fl.length
 log:(f.log.length:Int)<=64*f.clock
 C:(f.C.length:Int)<=512*f.clock
 acc:f.acc<=64*f.clock
section
variable {f:Fx}
theorem Q7{l:List Jb}(h:l.Pairwise fun a b=>a.order≠b.order):∀(i j:Nat) (b c:Jb),l[i]? =some b->l[j]? =some c->b.order=c.order->i=j:=by
 induction l with
 |nil=>intro i j b c d;simp at d
 |cons a l o=>
  obtain⟨m,n⟩:=sn.1 h;intro i j b c d k e
  match i,j with
  |0,0=>rfl
  |0,j+1=>
   have g:a=b:=by simpa using d
   exact absurd (g▸e) (m c (iG (by simpa using k)))
  |i+1,0=>
   have g:a=c:=by simpa using k
   exact absurd (g▸e.symm) (m b (iG (by simpa using d)))
  |i+1,j+1=>
   have:=o n i j b c (by simpa using d) (by simpa using k) e;omega
theorem Fx.Core.eu(h:f.Core):0<=f.eu.delay/\f.eu.delay<=65535:=by
 unfold Fx.eu;split
 ·exact⟨cq,cq⟩
 ·rename_i t r e;exact(h.bL.2 t (by grind)).1
theorem Ck.In.go{g}{c:Int}{k:Ck}(a:g.Is)(h:k.In g c)(hc:c<=1073741824)(o:0<=k.prom)(hf:0<=k.aZ/\k.aZ<=64)(n:k.de<=288):k.Go:=by have b:=h.out;have d:=a.ou;have e:=h.tok;have i:=h.de;have j:=h.sv;have l:=h.len;have m:=a.qu;exact⟨ak,ak,fun r hr=>(h.q r hr).ok a,ak,ak,ak,ak⟩
theorem Fx.uG.zq(h:f.uG):f.yA/\(∀k,f.K[f.az]? =some (some k)->k.q.length<=1048576)/\f.g.cl=f.K.length/\f.K.length<=65535/\1<=f.g.wk:=by
 have a:=h.core;have c:=a.g;have M:=a.small;have G:=a.ku;have t:=c.wk;have L:=c.qu;have J:=c.qn;have H:=c.mx;have I:=c.ou;have E:=a.clock;have o:=h.clock;have F:=h.bF;refine⟨⟨⟨⟨fun k d=>?_,fun b n=>?_,ak,ak,Q7 a.nZ⟩,ak,a.fresh,ak,ak,a.bL.1,a.eu,ak⟩,a.az,ak,fun k d=>?_⟩,fun k d=>?_,a.len.symm,ak,t.1⟩
 ·obtain⟨s,p⟩:=sj.1 d;obtain⟨e,v,w⟩:=a.cl s k p;have j:=e.out;have l:=a.prom s;exact⟨ak,ak,fun r hr=>(e.q r hr).ok c⟩
 ·obtain⟨a1,i,_⟩:=a.jb b n;exact⟨fun x u=>(a1.gd x u).ok c,ak⟩
 ·obtain⟨e,v,w⟩:=a.cl _ k d;obtain⟨a1,i,a3,y,z,A,B⟩:=a.KV d;have j:=a.de _ k d;have l:=e.wt;have m:=e.de;have C:=a.prom f.az;have D:=a.aZ f.az;refine⟨ak,⟨m,by split at j<;>omega⟩,a1.go c o ak ak i⟩
 ·have:=(a.cl _ k d).1.len;omega
theorem Ts{k}(a:f.K[f.az]? =some (some k)):f.bC=if(f.turned k).free (f.aU k)then(if cJ (f.aU k).fst.m<=(f.aU k).de then((f.turned k).fU f.az (f.aU k),true)else(f.turned k,false))else((f.turned k).at f.az (f.aU k).lose,false):=by unfold Fx.bC;rw[a]
theorem Tr(a:∀k,f.K[f.az]? ≠some (some k)):f.bC=(f,false):=by
 unfold Fx.bC;split
 ·rename_i k e;exact absurd e (a k)
 ·rfl
theorem KW{k}(h:f.Core):(f.turned k).K[(f.turned k).az]? =some (some (f.aU k)):=by show(f.K.set f.az (some (f.aU k)))[f.az]? =_;rw[kQ,aM rfl,aM h.az]
theorem Fx.Core.pass(h:f.Core)(b:∀k,f.K[f.az]? =some (some k)->k.de<=32):f.pass.Core:=by
 refine⟨h.g,h.len,?_,h.cl,fun s k c=>?_,h.pH,h.one,h.jb,h.sorted,h.nZ,h.fresh,h.ku,h.clock,h.B,h.bL,h.acc,h.dw⟩
 ·show(f.az+1)%f.K.length<f.K.length;have:=h.az;exact xT _ ak
 ·have a:f.K[s]? =some (some k):=c;show k.de<=(if s=(f.az+1)%f.K.length/\false=true then 288 else 32);rw[aD aq]
  by_cases e:s=f.az
  ·rw[e]at a;exact b k a
  ·have:=h.de s k a;rw[aD (fun x=>e x.1)]at this;exact this
theorem Fx.Core.lose(h:f.Core){k}(b:f.K[f.az]? =some (some k)):(f.at f.az k.lose).Core:=by obtain⟨a,d,e⟩:=h.cl _ k b;refine h.put b ⟨a.ph,a.wt,a.aO,a.q,a.len,a.out,a.tok,lW 0,a.sv,a.us⟩ rfl rfl rfl ?_ fun t x _ c=>h.de t x c;show(0:Int)<=_;split<;>omega
end
theorem aec:Abides Fx.uG:=by
 refine⟨fun f h=>h.zq,fun f h t b=>?_,fun f h b=>?_⟩
 ·by_cases e:∃k,f.K[f.az]? =some (some k)
  ·obtain⟨k,a⟩:=e;rw[Ts a]at b⊢;split at b
   ·rename_i c;rw[aM c];split at b
    ·rename_i d;rw[aM d]
     have j:(f.aU k).gl (f.turned k).g=true:=by unfold Fx.free at c;rw[cm]at c;exact c.1
     refine⟨((h.core.turned a).fU rfl (KW h.core) j d t),h.clock,?_,h.log,h.C,h.acc⟩;show((f.bF+1:Nat):Int)<=8*(f.clock-1)+((fy _ f.fl).length:Int);rw[Qi];have:=h.bF;omega
    ·cases b
   ·cases b
  ·rw[Tr (fun k a=>e ⟨k,a⟩)]at b;cases b
 ·by_cases e:∃k,f.K[f.az]? =some (some k)
  ·obtain⟨k,a⟩:=e;rw[Ts a]at b⊢;split at b
   ·rename_i c;rw[aM c];split at b
    ·cases b
    ·rename_i d;rw[aD d];refine⟨(h.core.turned a).pass fun x m=>?_,h.clock,h.bF,h.log,h.C,h.acc⟩;have n:=(KW (k:=k) h.core).symm.trans m;cases n
     have j:(f.aU k).gl f.g=true:=by unfold Fx.free at c;rw[cm]at c;exact c.1
     obtain⟨r,l,s,o,_⟩:=yY j;have p:=(h.core.KV a).1.q r (by rw[s];exact iU);have:=p.cost h.core.g;have:=h.core.g.mx;rw[o]at d;omega
   ·rename_i c;rw[aD c];refine⟨((h.core.turned a).lose (KW h.core)).pass fun x m=>?_,h.clock,h.bF,h.log,h.C,h.acc⟩;have n:((f.K.set f.az (some (f.aU k))).set f.az (some (f.aU k).lose))[f.az]? =some (some x):=m;rcases Bh n with⟨_,i⟩|⟨i,_⟩
    ·rw[i];show(0:Int)<=32;omega
    ·exact absurd rfl i
  ·rw[Tr (fun k a=>e ⟨k,a⟩)];refine⟨h.core.pass fun k a=>absurd ⟨k,a⟩ e,h.clock,h.bF,h.log,h.C,h.acc⟩
structure Fx.Rest(f:Fx):Prop where
 core:f.Core
 bF:(f.bF:Int)<=8*f.clock
 log:(f.log.length:Int)<=64*f.clock
 C:(f.C.length:Int)<=512*f.clock
 acc:f.acc<=64*f.clock
section
variable {f:Fx}
theorem zc{K:List (Option Ck)}{j t:Nat}{x:Ck}(h:(K.set j none)[t]? =some (some x)):t≠j/\K[t]? =some (some x):=by
 rw[kQ]at h;split at h
 ·split at h<;>cases h
 ·rename_i e;exact⟨fun a=>e a.symm,h⟩
theorem Fx.Core.leave(h:f.Core){j:Nat}{o:Bool}(n:∀b∈f.fl,b.s≠j)(p:o=f.opn\/f.az=j):({f with K:=f.K.set j none,opn:=o}:Fx).Core:=by
 refine⟨h.g,?_,?_,fun s k a=>h.cl s k (zc a).2,fun s k a=>?_,fun s k a=>h.pH s k (zc a).2,fun s t k r a q e=>h.one s t k r (zc a).2 (zc q).2 e,fun b d=>?_,h.sorted,h.nZ,h.fresh,h.ku,h.clock,h.B,h.bL,h.acc,h.dw⟩
 ·show((f.K.set j none).length:Int)=f.g.cl;rw[oz];exact h.len
 ·show f.az<(f.K.set j none).length;rw[oz];exact h.az
 ·have c:=h.de s k (zc a).2;rcases p with rfl|e
  ·exact c
  ·have i:=(zc a).1;rw[aD (fun x=>i (x.1.trans e))];rw[aD (fun x=>i (x.1.trans e))]at c;exact c
 ·obtain⟨a1,l,a3,k,m⟩:=h.jb b d;refine⟨a1,l,a3,k,?_⟩;rw[kQ,aD (fun e=>n b d e.symm)];exact m
theorem Fx.Core.fZ(h:f.Core)(j):(f.fZ j).Core:=by
 unfold Fx.fZ;split
 ·rename_i k d;split
  ·rename_i c;refine h.leave (fun b a e=>?_) ?_
   ·have:=h.stay b a k (by grind);rw[c]at this;cases this
   ·by_cases e:f.az=j
    ·exact .inr e
    ·rw[aD e];exact .inl rfl
  ·exact h
 ·exact h
theorem Zo(f:Fx)(j:Nat):(f.fZ j).clock=f.clock/\(f.fZ j).bF=f.bF/\(f.fZ j).log=f.log/\(f.fZ j).C=f.C/\(f.fZ j).acc=f.acc/\(f.fZ j).stop=f.stop/\(f.fZ j).dw=f.dw/\(f.fZ j).g=f.g/\(f.fZ j).B=f.B:=by
 unfold Fx.fZ;split
 ·split<;>exact⟨rfl,rfl,rfl,rfl,rfl,rfl,rfl,rfl,rfl⟩
 ·exact⟨rfl,rfl,rfl,rfl,rfl,rfl,rfl,rfl,rfl⟩
theorem Fx.Core.cO(h:f.Core):∀n,(f.cO n).Core/\(f.cO n).clock=f.clock/\(f.cO n).bF=f.bF/\(f.cO n).log=f.log/\(f.cO n).C=f.C/\(f.cO n).acc=f.acc/\(f.cO n).stop=f.stop/\(f.cO n).dw=f.dw/\(f.cO n).g=f.g/\(f.cO n).B=f.B
 |0=>⟨h,rfl,rfl,rfl,rfl,rfl,rfl,rfl,rfl,rfl⟩
 |n+1=>by obtain⟨a1,b,a3,c,d,e,i,j,k,a⟩:=Fx.Core.cO h n;obtain⟨m,o,p,q,r,s,t,u,l⟩:=Zo (f.cO n) n;rw[AJ];exact⟨a1.fZ n,m.trans b,o.trans a3,p.trans c,q.trans d,r.trans e,s.trans i,t.trans j,u.trans k,l.trans a⟩
theorem Fx.Rest.cO(h:f.Rest)(n):(f.cO n).Rest:=by obtain⟨a1,a,a3,b,c,d,_⟩:=h.core.cO n;exact⟨a1,by rw[a,a3];exact h.bF,by rw[a,b];exact h.log,by rw[a,c];exact h.C,by rw[a,d];exact h.acc⟩
theorem Oy:∀(n:Nat) (f:Fx),(Fx.fin n f).clock=f.clock
 |0,f=>rfl
 |n+1,f=>by
  unfold Fx.fin;split
  ·rfl
  ·split
   ·exact(Oy n _).trans (Hv _ _).2.1
   ·rfl
theorem Tt(f:Fx):f.bC.1.clock=f.clock:=by
 unfold Fx.bC;split
 ·split
  ·split<;>rfl
  ·rfl
 ·rfl
theorem KY:∀(n p:Nat) (f:Fx),(Fx.turns n p f).clock=f.clock
 |0,_,f=>rfl
 |n+1,p,f=>by
  unfold Fx.turns;split
  ·split
   ·exact(KY n _ _).trans (Tt f)
   ·exact(KY n _ _).trans (Tt f)
  ·rfl
theorem Fx.Rest.early(h:f.Rest)(hc:f.clock<1073741824):f.early.goes.Due:=by
 obtain⟨l,n,K,a,d⟩:=h.core.early.goes;have b:=Dw f;have s:=h.core.ku;have t:=h.core.g.wk;have o:=h.bF;have p:=h.log;have q:=h.C;have r:=h.acc;have c:f.early.goes.clock=f.clock+1:=by rw[d,b]
 have i:f.early.goes.bF=f.bF:=by rw[d,b]
 have j:f.early.goes.log=f.log:=by rw[d,b]
 have k:f.early.goes.C=f.C:=by rw[d,b]
 have e:f.early.goes.fl=f.fl:=by rw[d,b]
 have m:f.early.acc=f.acc:=by rw[b]
 exact⟨l,by rw[c];omega,by rw[c,i];omega,by rw[c,j,e];omega,by rw[c,k,e];omega,by rw[c];omega⟩
theorem Fx.Rest.ok(h:f.Rest)(hc:f.clock<1073741824):f.Nd Fx.Due:=by
 have c:=h.core.g;have u:=h.core.small;have q:=h.core.clock;have a:=h.core.early;have r:=c.qu;have t:=c.rt;have p:=c.bu;have n:=h.core.acc;have o:=h.acc;have d:f.early.acc=f.acc:=by rw[Dw]
 refine⟨ak,ak,ak,ak,fun s k b=>?_,fun s k b=>?_,fun s k b=>?_,by rw[d];omega,by have:=a.small;omega,h.early hc⟩
 ·have:=(h.core.cl s k b).1.tok;omega
 ·obtain⟨j,v,l⟩:=a.cl s k b;exact j.GU a.g (by rw[l];exact a.prom s)
 ·have e:=(a.readAll.cl s k b).1.len;have m:=a.g.qu;have i:f.early.readAll.g=f.early.g:=rfl;rw[i]at e;omega
theorem Fx.Due.trn(h:f.Due):f.uG:=by have a:=h.bF;have b:=h.log;have c:=h.C;exact⟨h.core,h.clock,ak,ak,ak,h.acc⟩
theorem Fx.uG.rest(h:f.uG):f.Rest:=by have a:=h.bF;have b:=h.core.ku;have c:=h.core.g.wk;exact⟨h.core,ak,h.log,h.C,h.acc⟩
theorem adR(h:f.Rest)(b:f.early.goes.ends.takes.uG):f.tick.Rest/\f.tick.clock=f.clock+1:=by
 obtain⟨e,g,K,a,d⟩:=h.core.early.goes;have c:f.early.goes.clock=f.clock+1:=by rw[d,Dw]
 refine⟨b.rest.cO _,?_⟩;show(f.early.goes.ends.takes.cO _).clock=_;rw[(b.core.cO _).2.1];show(Fx.turns _ _ (Fx.fin _ f.early.goes)).clock=_;rw[KY,Oy,c]
end
end
section
open Go.Conc
open Go.Proofs.Tryz
def mZ:List bh:=[66,36,37,33,34,20,59,60,100,102,62,63,64,304,81,111,71,72,73,68,74,69,70,54,96,151,152,153,103,104,105,106,77,107,108,109,119,120,115,112,116,117,113,114,188,189,75,192,193,159,160,161,162,163,164,165,166,167,168,169,172,171,170,78,201,225,190,191,202,232,233,195,196,197,198,199,200,203,204,205,206,207,208,209,210,211,212,226,228,229,230,231,237,238,224,234,235,236,239,240,241,242,243,244,245,227,260,261,262,263,264,265,266,267,268,269,270,273,274,275,276,277,278,279,280,281,282,284,285,286,287,28,21,29,67,30,31]
def tD:List bh:=[61,26,98,12]
theorem afw:Lo prog=true:=aI
theorem okP:mZ.all (okF prog mZ)=true:=aI
theorem A3:tD.all (knF prog)=true:=aI
theorem AF(d:Nat)(t:Nat->Option Obj):@Fit (rB prog mZ tD d t) prog mZ:=Yr afw okP A3
theorem Zk(d:Nat)(t:Nat->Option Obj):@Ar (rB prog mZ tD d t) mZ:=by
 letI:aA:=rB prog mZ tD d t
 exact⟨AF d t,aI,((AF d t).ok _).2 aI,((AF d t).ok _).2 aI,.inr aI,aI,aI,aI,aI⟩
end
section
open Go.Conc Go.RowKit
open Go.ConcR (Payload)
open Go.Proofs.Tryz
section
variable {f:Fx}
theorem Fx.Rest.put(h:f.Rest){s k k'}(a:f.K[s]? =some (some k))(i:k'.In f.g f.clock)(b:k'.aZ=k.aZ)(c:k'.prom=k.prom)(d:k'.no=k.no)(e:k'.de=k.de):(f.at s k').Rest:=by refine⟨h.core.put a i b c d (by rw[e];exact h.core.de s k a) fun t x _ j=>h.core.de t x j,h.bF,h.log,h.C,h.acc⟩
theorem Fx.Rest.send(h:f.Rest){s k}(b:f.K[s]? =some (some k))(x):(f.send s k x).1.Rest:=by
 unfold Fx.send;split
 ·exact h
 ·split
  ·exact h
  ·rename_i c d;have a:=(h.core.cl s k b).1;refine h.put b ⟨a.ph,a.wt,?_,a.q,a.len,a.out,a.tok,a.de,a.sv,a.us⟩ rfl rfl rfl rfl;show(k.aO++x).size<=1024;rw[ot];omega
theorem Fx.Rest.take(h:f.Rest){s k}(c:f.K[s]? =some (some k))(n):(f.at s (k.takes n)).Rest/\(f.take s k n).Rest:=by
 have b:=(h.core.cl s k c).1
 have a:(f.at s (k.takes n)).Rest:=by
  unfold Ck.takes;split
  ·exact h.put c b rfl rfl rfl rfl
  ·refine h.put c ⟨b.ph,b.wt,b.aO,b.q,b.len,?_,b.tok,b.de,b.sv,b.us⟩ rfl rfl rfl rfl;have:=b.out;show((k.take (k.much n)).out.size:Int)+k.prom<=f.g.ou
   have e:(k.take (k.much n)).out.size<=k.out.size:=by show(k.out.extract _ _).size<=_;rw[kL];omega
   omega
 exact⟨a,a.cO _⟩
theorem YC{l s}(h:∀b∈l,b.s≠s):fG l s=0/\iA l s=0:=by
 induction l with
 |nil=>exact⟨rfl,rfl⟩
 |cons b l g=>
  obtain⟨c,d⟩:=g fun x e=>h x (jS _ e);have a:=h b iU;refine⟨?_,?_⟩
  ·show(if b.s=s then(b.rs.length:Int)else 0)+fG l s=0;rw[aD a,c];rfl
  ·show(if b.s=s then gS b.rs else 0)+iA l s=0;rw[aD a,d];rfl
end
section
variable [aA] [Ch] {l:List bh} {u:an} {f:Fx} {xb:Nat} {L:cQ}
theorem ay.ticks(Z:qY)(h:ay u f xb L)(G:Ar l)(hR:f.Rest)(hc:f.clock<1073741824):
  eI prog 26 #[pt xb] u fun e b=>e=.returned (.tuple #[])/\(f.tick.Rest/\f.tick.clock=f.clock+1)/\∃a,ay b f.tick xb a/\aX u L b a:=
 (h.WE Z Fx.Due Fx.uG XI aec (fun _ h=>h.core.stay) G (hR.ok hc) (fun h=>h.trn)).mono fun _ _ ⟨c,d,g⟩=>⟨c,adR hR d,g⟩
end
end
section
open Go.Proofs.Tryz
section
variable {f:Fx}
theorem Fx.Rest.vu(h:f.Rest){j wt}(J:f.K[j]? =some none)(L:1<=wt/\wt<=4):(f.vu j wt).Rest:=by
 have m:=h.core.g;have O:=m.bu;have S:=m.qu;have R:=m.ou;have Q:=m.mx;have G:=h.core.clock;have P:=h.core.dw
 have H:∀b∈f.fl,b.s≠j:=fun b E e=>by obtain⟨_,_,_,k,u⟩:=h.core.jb b E;rw[e,J]at u;cases u
 obtain⟨M,N⟩:=YC H
 have I:(Ck.fresh f.dw wt f.g.bu).In f.g f.clock:=by
  refine⟨⟨lW 0,by show(0:Int)<=4;omega⟩,L,by show(0:Nat)<=1024;omega,fun r hr=>(by cases hr),?_,?_,?_,lW 0,?_,⟨List.nodup_nil,fun x a=>(by cases a)⟩⟩
  ·show((0:Nat):Int)<=f.g.qu;omega
  ·show((0:Nat):Int)+0<=f.g.ou;omega
  ·show 0<=f.g.bu/\f.g.bu<=32;omega
  ·show(0:Int)<=0/\0+32*f.g.bu<=1024*(f.clock+1);omega
 have l:∀(t:Nat) x,(f.K.set j (some (Ck.fresh f.dw wt f.g.bu)))[t]? =some (some x)->(t=j/\x=Ck.fresh f.dw wt f.g.bu)\/(t≠j/\f.K[t]? =some (some x)):=fun t x a=>Bh a;refine⟨⟨m,?_,?_,fun t x a=>?_,fun t x a=>?_,fun t x a=>?_,fun t o x y a v e=>?_,fun c F=>?_,h.core.sorted,h.core.nZ,h.core.fresh,h.core.ku,G,h.core.B,h.core.bL,h.core.acc,by show 0<=f.dw+1;omega⟩,h.bF,h.log,h.C,h.acc⟩
 ·show((f.K.set j _).length:Int)=f.g.cl;rw[oz];exact h.core.len
 ·show f.az<(f.K.set j _).length;rw[oz];exact h.core.az
 ·show x.In f.g f.clock/\x.aZ=fG f.fl t/\x.prom=iA f.fl t;rcases l t x a with⟨n,i⟩|⟨_,d⟩
  ·rw[n,i,M,N];exact⟨I,rfl,rfl⟩
  ·exact h.core.cl t x d
 ·rcases l t x a with⟨n,i⟩|⟨_,d⟩
  ·rw[i];show(0:Int)<=_;split<;>omega
  ·exact h.core.de t x d
 ·show 0<=x.no/\x.no<f.dw+1;rcases l t x a with⟨n,i⟩|⟨_,d⟩
  ·rw[i];show 0<=f.dw/\f.dw<f.dw+1;omega
  ·have:=h.core.pH t x d;omega
 ·rcases l t x a with⟨n,i⟩|⟨_,d⟩
  ·rcases l o y v with⟨D,q⟩|⟨_,p⟩
   ·omega
   ·have:=h.core.pH o y p;rw[i]at e;have A:f.dw=y.no:=e;omega
  ·rcases l o y v with⟨D,q⟩|⟨_,p⟩
   ·have:=h.core.pH t x d;rw[q]at e;have A:x.no=f.dw:=e;omega
   ·exact h.core.one t o x y d p e
 ·obtain⟨a1,w,a3,k,z⟩:=h.core.jb c F;exact⟨a1,w,a3,EY z⟩
theorem Fx.Core.is(h:f.Core){s k}(a:f.K[s]? =some (some k)):f.Is k.no s k:=⟨a,rfl,fun t c b e=>h.one t s c k b a e⟩
end
end
section
attribute [local go_sem ↓] Go.wp_at_zero Go.wp_at_succ
attribute [local go_sem] bq bg
open Go.Proofs.Tryz
open Go.RowKit
abbrev oh(n:Nat):Array UInt8:=pR n 0
def tF(n:Nat):Array au:=(oh n).map bN
theorem E4(n):madeCells (Value.int .u8 0).cells n=tF n:=by apply xz;rw[show(Value.int .u8 0).cells=#[.int .u8 0] from rfl,toList_madeCells_one];simp[tF,oh]
theorem G1(n:Nat)(e:n<=65535)(W:an):(Instr.makeSlice 158 (aj (n:Int)) (aj (n:Int))).run prog W=.ok (.slice (some (aa W.heap.size 0)) n n) (W.alloc (.cells (tF n) 5)):=by obtain⟨d,a,b,c,f⟩:=info_parts infoByte;have h:=run_make W 158 5 d (.int .u8 0) underlying158 a b .i64 .i64 (n:Int) (n:Int) ak ak (by grind) ak;rw[c]at h;simp at h;rw[E4]at h;exact h
def yp(w w':an)(n d:Nat):Prop:=∃a b,cZ w' d a b (.slice none 0 0) n (oh n) (oh n) []/\w.heap.size<=d/\w.heap.size<=a/\w.heap.size<=b
theorem NY{w n b0 b1}(a:n<=65535)(h:(b0=w.heap.size/\b1=w.heap.size+1)\/(b1=w.heap.size/\b0=w.heap.size+1)):
  yp w ((((w.alloc (.cells (tF n) 5)).alloc (.cells (tF n) 5)).alloc (.cells #[.slice (some (aa b0 0)) n n,.slice (some (aa b1 0)) n n,.slice none 0 0] 161)).drew) n (w.heap.size+2):=by
 refine⟨b0,b1,⟨new1 aq,?_,?_,um _ _ _ _,by simp[oh],aq,ak,ak⟩,ak,ak,ak⟩
 ·rcases h with h|h
  ·exact fI (fI (new1 h.1))
  ·exact fI (new1 (by simp;exact h.2))
 ·rcases h with h|h
  ·exact fI (new1 (by simp;exact h.2))
  ·exact fI (fI (new1 h.1))
theorem XA{w n}(a:n<=65535):yp w ((((w.alloc (.cells (tF n) 5)).alloc (.cells (tF n) 5)).alloc (.cells #[.slice (some (aa w.heap.size 0)) n n,.slice (some (aa (w.heap.size+1) 0)) n n,.slice none 0 0] 161)).drew) n (w.heap.size+2):=NY a (.inl ⟨rfl,rfl⟩)
theorem XB{w n}(a:n<=65535):yp w ((((w.alloc (.cells (tF n) 5)).alloc (.cells (tF n) 5)).alloc (.cells #[.slice (some (aa (w.heap.size+1) 0)) n n,.slice (some (aa w.heap.size 0)) n n,.slice none 0 0] 161)).drew) n (w.heap.size+2):=NY a (.inr ⟨rfl,rfl⟩)
theorem NW(n:Nat)(c:n<=65535)(w:an):
  Calls prog 111 #[aj (n:Int)] w fun e d=>∃b,e=.returned (aF b)/\aB w d/\yp w d n b:=by
 have m:=G1 n c;go_enter func111,ntmps111
 go_upto_region 1 with fail
 refine dR (S:=fun _=>True) trivial fun l=>?_;refine tk 0 ?_;refine tk 2 ?_;refine aH [1,3] (.cons rfl (fun K a=>?_) ?_)
 ·go_simp;refine a.out _ _ (trivial) (fun f=>?_);clear a K;refine rH 3 fun K a=>?_;go_simp;refine a.out _ _ (trivial) (fun g=>?_);clear a K;refine tk 4 ?_;refine rH 5 fun K a=>?_;go_simp;refine a.out _ _ (trivial) (fun h=>?_);clear a K;refine tk 6 ?_;refine cK ?_
  (go_wp2_with fail;go_ret;exact⟨_,rfl,((aR.alloc aq _).alloc bK _).drew,XA c⟩)
 refine .cons rfl (fun K a=>?_) .nil;go_simp;refine a.out _ _ (trivial) (fun i=>?_);clear a K;refine rH 1 fun K a=>?_;go_simp;refine a.out _ _ (trivial) (fun j=>?_);clear a K;refine tk 4 ?_;refine rH 5 fun K a=>?_;go_simp;refine a.out _ _ (trivial) (fun k=>?_);clear a K;refine tk 6 ?_;refine cK ?_
 (go_wp2_with fail;go_ret;exact⟨_,rfl,((aR.alloc aq _).alloc bK _).drew,XB c⟩)
def GN(w:an)(a N:Nat)(l i k rt h m j:Int)(e:Ending)(w':an):Prop:=
 ∃c b d f g,e=.returned (.tuple #[aF c,aj 0])/\Vu w' c a N l i k rt h m j b N 0 0 false 0 (some (aa d 0))/\wu w' b (lZ N none)/\cZ w' d f g (.slice none 0 0) a (oh a) (oh a) []/\aB w w'/\w.heap.size<=c/\w.heap.size<=b/\w.heap.size<=d/\w.heap.size<=f/\w.heap.size<=g
theorem cZ.old{W W' d bb db n B D}(h:cZ W d bb db (.slice none 0 0) n B D [])(a:∀(b:Nat) (x:Obj),W.heap[b]? =some x->W'.heap[b]? =some x):cZ W' d bb db (.slice none 0 0) n B D []:=
 ⟨a _ _ h.box,a _ _ h.bytes,a _ _ h.fL,um _ _ _ _,h.sizes,h.fits,h.apart,h.small⟩
theorem I4{w w1 w2 S0 N b qu mx qn rt bu wk ou}(c:aB w w1)(d:Below (w1.alloc (.cells (ni (lZ N none)) 119)).drew.heap.size (w1.alloc (.cells (ni (lZ N none)) 119)).drew w2)(k:yp (w1.alloc (.cells (ni (lZ N none)) 119)).drew w2 S0 b):
  GN w S0 N qu mx qn rt bu wk ou (.returned (.tuple #[aF w2.heap.size,aj 0])) (w2.alloc (.cells (feL S0 N qu mx qn rt bu wk ou w1.heap.size N 0 0 false 0 (some (aa b 0))) 112)):=by
 have f:=c.size;have a:=((c.alloc f _).drew).trans (d.mono bK);obtain⟨g,i,j,l,m,n⟩:=k;have e:(w1.alloc (.cells (ni (lZ N none)) 119)).drew.heap.size=w1.heap.size+1:=aq;exact⟨w2.heap.size,w1.heap.size,b,g,i,rfl,new1 rfl,fI (bD d (new1 rfl)),j.old fun _ _ h=>fI h,a.alloc a.size _,a.size,f,ak,ak,ak⟩
theorem I5{w w1 w2 S0 N b qu mx qn rt bu wk ou}(a:aB w w1)(i:aB w1.drew w2)(k:yp w1.drew w2 S0 b):
  GN w S0 N qu mx qn rt bu wk ou (.returned (.tuple #[aF (w2.heap.size+1),aj 0])) ((w2.alloc (.cells (ni (lZ N none)) 119)).alloc (.cells (feL S0 N qu mx qn rt bu wk ou w2.heap.size N 0 0 false 0 (some (aa b 0))) 112)):=by
 have l:=a.size;have c:=(a.drew).trans (i.mono l);have d:=c.size;obtain⟨f,g,j,m,n,o⟩:=k;have e:w1.drew.heap.size=w1.heap.size:=rfl;exact⟨w2.heap.size+1,w2.heap.size,b,f,g,rfl,new1 aq,fI (new1 rfl),j.old fun _ _ h=>fI (fI h),(c.alloc d _).alloc bK _,ak,d,ak,ak,ak⟩
theorem I6(c N:Nat)(j g i rt f k h:Int)(w:an)(r:c<=65535)(y:N<=65535)(hc:pg c N j g i rt f k h=true):
  Calls prog 66 #[.agg (fc c N j g i rt f k h)] w (GN w c N j g i rt f k h):=by
 have C:=G3 N y;go_enter func66,ntmps66
 go_upto_region 4 with(go_at_call 81;refine(WM c N j g i rt f k h _).mono ?_;rw[hc];rintro e s ⟨rfl,m⟩)
 have p:aB w s:=aR.trans (m.mono aq);have d:s.heap[w.heap.size]? =some (.cells (fc c N j g i rt f k h) 35 (0,0)):=(m.block _ aq).trans (heap_alloc_new w _);have o:=aL p;clear m p;refine dR (S:=gJ w.heap.size c N j g i rt f k h) ⟨av d rfl,av d rfl,av d rfl,av d rfl,av d rfl,av d rfl,av d rfl,av d rfl,av d rfl⟩ fun q=>?_;refine tk 0 ?_;refine tk 1 ?_;refine tk 2 ?_;refine tk 4 ?_;refine tk 5 ?_;refine aH [3,6] (.cons rfl (fun K a=>?_) ?_)
 ·go_simp;refine a.out _ _ (gJ.a1 q) (fun t=>?_);clear a K;refine rH 6 fun K a=>?_;go_simp
  (refine(NW c r _).mono ?_;rintro e z ⟨b,rfl,l,n⟩)
  go_wp2_with fail;refine a.out _ _ (gJ.later t l) (fun u=>?_);clear a K;refine tk 7 ?_;refine rH 8 fun K a=>?_;go_simp;refine a.out _ _ (gJ.a1 u) (fun A=>?_);clear a K;refine tk 9 ?_;refine tk 10 ?_;refine cK ?_
  (go_wp2_with fail;go_ret2;exact I4 o.out l n)
 refine .cons rfl (fun K a=>?_) .nil;go_simp
 (refine(NW c r _).mono ?_;rintro e z ⟨b,rfl,l,n⟩)
 go_wp2_with fail;refine a.out _ _ (gJ.later q l) (fun v=>?_);clear a K;refine rH 3 fun K a=>?_;go_simp;refine a.out _ _ (gJ.a1 v) (fun x=>?_);clear a K;refine tk 7 ?_;refine rH 8 fun K a=>?_;go_simp;refine a.out _ _ (gJ.a1 x) (fun B=>?_);clear a K;refine tk 9 ?_;refine tk 10 ?_;refine cK ?_
 (go_wp2_with fail;go_ret2;exact I5 o.out l n)
end
section
open Go.Proofs.Tryz
open Go.RowKit
abbrev gO(g:Cf):Array au:=fc g.sz g.cl g.qu g.mx g.qn g.rt g.bu g.wk g.ou
def Fx.new(g:Cf):Fx:={g:=g,K:=lZ g.cl.toNat none,dw:=0,acc:=0,bF:=0,clock:=0,stop:=false,az:=0,opn:=false,bL:=[],fl:=[],B:=oh g.sz.toNat,D:=oh g.sz.toNat,C:=[],log:=[]}
theorem Cf.Is.Rf{g:Cf}(h:pg g.sz g.cl g.qu g.mx g.qn g.rt g.bu g.wk g.ou=true):g.Is:=by unfold pg sV wC at h;simp[iD,rN]at h;refine⟨?_,?_,?_,?_,?_,?_,?_,?_,?_⟩<;>omega
theorem EI{N s:Nat}{x:Ck}(h:(lZ N (none:Option Ck))[s]? =some (some x)):False:=by rw[BR]at h;split at h<;>cases h
theorem Fx.Rest.new{g:Cf}(h:g.Is):(Fx.new g).Rest:=by have e:=h.cl;have f:=h.sz;have i:=h.wk;exact⟨⟨h,by simp[Fx.new];omega,by simp[Fx.new];omega,fun s k a=>(EI a).elim,fun s k a=>(EI a).elim,fun s k a=>(EI a).elim,fun s t k j a=>(EI a).elim,fun b c=>(by cases c),UB,UB,fun b c=>(by cases c),by simp[Fx.new];omega,lW 0,by simp[Fx.new,oh];omega,⟨by simp[Fx.new],fun t d=>(by cases d)⟩,lW 0,lW 0⟩,by simp[Fx.new],by simp[Fx.new],by simp[Fx.new],by simp[Fx.new]⟩
theorem uM{W:an}{a b t s:Nat}{x y:Array au}(c:W.heap[a]? =some (.cells x t (0,0)))(d:W.heap[b]? =some (.cells y s (0,0)))(f:t≠s):a≠b:=fun e=>by grind
theorem YW(g)(h:pg g.sz g.cl g.qu g.mx g.qn g.rt g.bu g.wk g.ou=true)(w):
  Calls prog 66 #[.agg (gO g)] w fun e u=>∃m L,e=.returned (.tuple #[jp m,aj 0])/\ay u (Fx.new g) m L/\(∀b,b<w.heap.size->L.own b=0)/\aB w u:=by
 have hI:=Cf.Is.Rf h;have R:=hI.cl;have S:=hI.sz;obtain⟨k,hS⟩:∃n:Nat,g.sz=n:=⟨g.sz.toNat,ak⟩;obtain⟨N,v⟩:∃n:Nat,g.cl=n:=⟨g.cl.toNat,ak⟩;have C:g.sz.toNat=k:=ak;have D:g.cl.toNat=N:=ak;have E:=h;rw[hS,v]at E;rw[show gO g=fc k N g.qu g.mx g.qn g.rt g.bu g.wk g.ou from by unfold gO;rw[hS,v]];refine(I6 k N g.qu g.mx g.qn g.rt g.bu g.wk g.ou w ak ak E).mono ?_;rintro e u ⟨m,q,d,r,o,rfl,p,hR,f,c,T,U,V,W,X⟩;have J:=uM p f.box cq;have K:=uM p f.bytes cq;have M:=uM p f.fL cq;have O:=uM hR f.box cq;have P:=uM hR f.bytes cq;have Q:q≠o:=uM hR f.fL cq;refine⟨m,⟨q,lZ N none,[],.slice none 0 0,fun _=>0,fun _=>(0,0),.slice none 0 0,.slice none 0 0,d,r,o,.slice none 0 0,fun x=>if x=m then 1 else if x=q then 2 else if x=d\/x=r\/x=o then 6 else 0⟩,rfl,⟨?_,aq,?_,by simp[(uM p hR cq).symm],⟨by simp[Fx.new,D],fun s a b F c=>?_⟩,⟨rfl,fun i b l c=>?_⟩,⟨um _ _ _ _,fun b c=>(by cases c),fun x A=>absurd A (qU _),fun i l H=>?_,fun x y A=>absurd A (qU _),fun i b l c=>?_,?_⟩,um _ _ _ _,fun b c=>(by cases c),um _ _ _ _,fun b c=>(by cases c),?_,⟨by simp[J.symm,O.symm],by simp[K.symm,P.symm],by simp[M.symm,Q.symm],fun b c=>(by cases c)⟩⟩,fun b c=>?_,c⟩
 ·rw[show kr (Fx.new g) _=feL k N g.qu g.mx g.qn g.rt g.bu g.wk g.ou q N 0 0 false 0 (some (aa d 0)) from by simp[kr,feL,Fx.new,hS,v]];exact p
 ·rw[List.map_replicate];exact hR
 ·have t:(lZ N (none:Option Ck))[s]? =some a:=by rw[<-D];exact F
  rw[BR]at t;have z:(lZ N (none:Option Lc))[s]? =some b:=c;rw[BR]at z;split at t
  ·rename_i I;rw[aM I]at z;cases t;cases z;trivial
  ·cases t
 ·cases c
 ·cases H
 ·cases c
 ·exact fun j h0 G=>absurd G (qU _)
 ·have:(Fx.new g).B.size=k:=by simp[Fx.new,oh,C]
  rw[this];show cZ u d r o _ k (oh g.sz.toNat) (oh g.sz.toNat) [];rw[C];exact f
 ·have:b≠m/\b≠q/\b≠d/\b≠r/\b≠o:=⟨ak,ak,ak,ak,ak⟩;simp[this]
end
section
attribute [local go_sem ↓] Go.wp_at_zero Go.wp_at_succ
attribute [local go_sem] bq bg
open Go.Proofs.Tryz
open Go.RowKit
abbrev crL(g:Cf)(xb:Nat)(lv:au):Array au:=#[aj g.sz,aj g.cl,aj g.qu,aj g.mx,aj g.qn,aj g.rt,aj g.bu,aj g.wk,aj g.ou,jp xb,lv,.slice none 0 0,aj 0,aj 1,aj 0]
abbrev lF(W:an)(a:Nat)(g:Cf)(xb:Nat)(lv:au):Prop:=W.heap[a]? =some (.cells (crL g xb lv) 40 (0,0))
theorem S7(n w)(h0:0<n):fE 21 #[aj 0,aj n] w (aj 0):=by have a:¬n=0:=ak;go_enter func21,ntmps21;go_wp2;go_ret;exact⟨by first|rfl|simp,rfl⟩
theorem D6(cb xb g w)(h:lF w cb g xb (.slice none 0 0)):fE 67 #[jp cb] w (aj 0):=by
 have c:=aE w cb 10 (.slice none 0 0) h;go_enter func67,ntmps67;go_wp2
 go_loopw [3,4] (fun b a wr=>b=aj 0/\a=aj 0/\wr=w) (fun _ _ _=>0)
 case atStart=>exact⟨rfl,rfl,rfl⟩
 case round=>
  obtain⟨rfl,rfl,rfl⟩:=hrel;go_wp2;go_ret;exact⟨rfl,rfl⟩
theorem Nf(g)(h:pg g.sz g.cl g.qu g.mx g.qn g.rt g.bu g.wk g.ou=true)(w):
  Calls prog 30 #[.agg (gO g)] w fun e l=>∃i f L,e=.returned (jp i)/\lF l i g f (.slice none 0 0)/\ay l (Fx.new g) f L/\(∀b,b<w.heap.size->L.own b=0)/\L.own i=0/\w.heap.size<=i/\(∀b,l.heap.size<=b->L.own b=0)/\aB w l:=by
 have o:=aL h;clear h;go_enter func30,ntmps30;go_wp2_with (go_at_call 66;refine(YW g o.out _).mono ?_;rintro e a ⟨f,L,rfl,hF,j,d⟩;have c:a.heap[w.heap.size]? =some (.cells (gO g) 35 (0,0)):=bD d (heap_alloc_new w _);have q:=aE a w.heap.size 0 (aj g.sz) c;have r:=aE a w.heap.size 1 (aj g.cl) c;have s:=aE a w.heap.size 2 (aj g.qu) c;have t:=aE a w.heap.size 3 (aj g.mx) c;have u:=aE a w.heap.size 4 (aj g.qn) c;have v:=aE a w.heap.size 5 (aj g.rt) c;have x:=aE a w.heap.size 6 (aj g.bu) c;have y:=aE a w.heap.size 7 (aj g.wk) c;have z:=aE a w.heap.size 8 (aj g.ou) c;have p:Hid (ay a (Fx.new g) f L/\(∀b,b<(w.alloc (.cells (gO g) 35)).heap.size->L.own b=0)/\aB (w.alloc (.cells (gO g) 35)) a):=⟨hF,j,d⟩;clear hF j d c);go_ret;obtain⟨hF,j,d⟩:=p.out;have m:aB w a:=aR.trans (d.mono aq);have n:=m.size;refine⟨a.heap.size,f,{L with own:=fun b=>if b<a.heap.size then L.own b else 0},rfl,new1 rfl,(hF.owns _ fun b k=>aM k).below ((Below.refl _ a).alloc (aV _) _),fun b k=>?_,aD (sB _),n,fun b k=>aD ?_,m.alloc n _⟩
 ·show(if b<a.heap.size then L.own b else 0)=0;rw[aM ak];exact j b bK
 ·simp at k;omega
end
end Go.Proofs.YtpobhljcainmdaaGreat
