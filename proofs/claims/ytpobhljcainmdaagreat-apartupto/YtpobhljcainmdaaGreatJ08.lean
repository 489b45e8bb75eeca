/- Parts of the proof. -/
import Derived.Test.YtpobhljcainmdaaGreatJ07
set_option maxRecDepth 100000
set_option maxHeartbeats 16000000
set_option linter.all false
namespace Go.Proofs.YtpobhljcainmdaaGreat
open Go.Proofs.Tryz renaming prog->ai
open Go Go.Conc Go.RowKit
open Go.ConcR (Payload)
open Go.Proofs.Tryz
open _root_.Or renaming inl->aA,inr->az
open _root_.Option renaming map_none->iA
attribute [local go_sem ↓] Go.wp_at_zero Go.wp_at_succ
attribute [local go_sem] cz cE Dj Dl vB 
open _root_.List renaming length->pA
open _root_.Array renaming size->pB
open _root_.ByteArray renaming size->pC
open _root_.Int renaming toNat->pD
open Go renaming World->aq,Value->aB,Calls->ax
open Go.RowKit renaming Below->ca,Hid->bc
open _root_.Option renaming some->Z,none->aj
open Go.Ending renaming returned->aG
open Go.Value renaming bool->ω,pointer->π,slice->ζ
open GO renaming nil->cc
open Go.Obj renaming cells->au
open _root_.Bool renaming true->M,false->aa
open FE FX Fx
variable {a b a' b' D G a0 f f' E O t fb':Fx} {j s i n n' C J d A q:Nat} {o:aV Ck} {v B R x ys z zf:Int} {k e:Ck} {g:Cf} {c p N c2:Cw} {kb:Nat->aV Obj} {u r w:aq} {lh H La' L:cZ} {ma V ma' m:Cm} {T:Obj} {W:Nat->Int}
def cq(s:ByteArray):Prop:=∀i,i<pC s->bt s i≠81
def kV(s:ByteArray)(p i:Nat)(h:p+i<pC s):bt (s.extract p s.size) i=bt s (p+i):=by
 let a:i<pC (s.extract p s.size):=by simp[oH];omega
 rw[<-pV _ i a,<-pV _ (p+i) h]
 congr 2
 exact ByteArray.getElem_extract ..
def cq.rest{s:ByteArray}(h:cq s)(p:Nat):cq (s.extract p s.size):=λi b=>by
 let a:p+i<pC s:=by simp[oH]at b;omega
 rw[kV s p i a];exact h _ a
def kZ(sz a b:Int)(c:av Int)(s:ByteArray)(h:cq s):(first sz a b c s).2=0\/(first sz a b c s).1.1=1\/(first sz a b c s).1.1=2\/(first sz a b c s).1=.closing:=by
 rw[first]
 split
 ·obtain h|h|h:=acf s 5 0
  ·exact aA h.2
  ·exact az (aA h)
  ·exact az (az (az h))
 ·split
  ·rw[CK];grind
  ·split
   ·rw[mH];split
    ·grind
    ·rw[aO (aA (h 0 Y))];simp
   ·grind
def lz{sz a b:Int}{c:av Int}{s:ByteArray}(h:cq s)(d:(first sz a b c s).2≠0):ta (first sz a b c s).1=aa:=by
 rw[ta];obtain h|h|h|h:=kZ sz a b c s h
 ·grind
 ·simp[h]
 ·simp[h]
 ·simp[h,bh.closing]
def Fx.nobody(f:Fx)(u:Int):Prop:=∀(s:Nat) k,f.K[s]? =Z (Z k)->k.1≠u
def lB(h:aE w f A L)(s:pA f.K<=65535){u:Int}(x:f.nobody u):ax ai 68 #[jp A,I u] w λe m=>e=aG (π aj)/\ca w.1.size w m:=by
 obtain⟨i,a⟩:=h.names;let n:yq w A L.1 (pA f.K) (L.2.map λl=>l.map Lc.c):=⟨aD h.1 rfl,by simp[h.5.1],s,λj v q=>aD h.3 (xA q),⟨_,h.3⟩⟩;refine(aaT A L.1 (pA f.K) _ u i w n λc r=>?_).V ?_
 ·obtain⟨t,k,b,rfl⟩:=za.1 r;obtain⟨d,g,_⟩:=h.aC b;grind
 ·rintro e m ⟨rfl,p⟩;refine⟨?_,p⟩;cases e:(cI (L.2.map λl=>l.map Lc.c)).find? λc=>decide (i c=u)with
  |none=>rfl
  |some c=>
   let o:i c=u:=by grind
   obtain⟨t,k,b,rfl⟩:=za.1 (List.mem_of_find?_eq_some e);obtain⟨d,g,_⟩:=h.aC b;exact absurd ((a t k d b g).1.y.E o) (x t d g)
def lD(w:aq)(f:Fx)(A:Nat)(L:cZ)(h:aE w f A L)(p:pA f.K<=65535)(u:Int)(s:Nat)(k:Ck)(i:f.Is u s k)(q:(f.at s k.jd).sn):ax ai 39 #[jp A,I u] w λe b=>e=aG (I 0)/\∃a,aE b (f.oX s k) A a/\bE w L b a:=by
 obtain⟨l,j,z,B⟩:=h.sat i.1;have r:bc (ax ai 68 #[jp A,I u] w λe b=>e=aG (jp l.c)/\ca w.1.size w b):=Mw h p i j
 have t:bc (∀W,ca w.1.size w W->ax ai 75 #[jp l.c] W λe b=>e=aG (.tuple #[])/\∃a,aE b (f.at s k.jd) A a/\bE w L b a):=λW g=>by refine(abu (h.below g) i.1 j).V ?_;rintro e b ⟨rfl,a,d,m⟩;exact⟨rfl,a,d,bE.E ⟨λ_ _=>rfl,.below g⟩ m⟩
 have v:bc (∀W,(∃a,aE W (f.at s k.jd) A a/\bE w L W a)->ax ai 64 #[jp A] W λe b=>e=aG (.tuple #[])/\∃a,aE b (f.oX s k) A a/\bE w L b a):=λW ⟨D,E,G⟩=>by
  have e:pA (f.at s k.jd).K=pA f.K:=by grind
  refine(Mx W _ A D E q (by grind)).V ?_;rintro H b ⟨rfl,a,d,m⟩;rw[e]at d;exact⟨rfl,a,d,G.E m⟩
 generalize f.oX s k=R at*;generalize f.at s k.jd=rd at*;generalize l.c=c at*;clear h i z B j q;go_enter Tryz.func39,Tryz.ntmps39;go_wp2_with (first|(go_at_call 68;refine r.H.V ?_;rintro e J ⟨rfl,g⟩)|(go_at_call 75;refine(t.H _ g).V ?_;rintro e n ⟨rfl,o⟩;have x:bc (∃a,aE n rd A a/\bE w L n a):=o;clear o)|(go_at_call 64;refine(v.H _ x.H).V ?_;rintro e K ⟨rfl,C⟩));go_ret;exact⟨rfl,C⟩
def lE(w:aq)(f:Fx)(A:Nat)(L:cZ)(h:aE w f A L)(i:pA f.K<=65535)(u:Int)(c:f.nobody u):ax ai 39 #[jp A,I u] w λe a=>e=aG (I 2)/\aE a f A L/\bE w L a L:=by
 have d:bc (ax ai 68 #[jp A,I u] w λe a=>e=aG (π aj)/\aE a f A L/\bE w L a L):=by refine(lB h i c).V ?_;rintro e a ⟨rfl,b⟩;exact⟨rfl,h.below b,⟨λ_ _=>rfl,.below b⟩⟩
 clear h c;go_enter Tryz.func39,Tryz.ntmps39;go_wp2_with (go_at_call 68;refine d.H.V ?_;rintro e j ⟨rfl,g⟩);go_ret;exact⟨rfl,g⟩
def hY(w:aq)(f:Fx)(A:Nat)(L:cZ)(h:aE w f A L)(b:f.g.1=pB f.B):ax ai 20 #[jp A] w λe a=>e=aG (.string ⟨f.B⟩)/\∃m,a=w.drewN m:=by
 have c:w.cell? (F A 19)=Z (jp L.d):=aD h.1 rfl;have c0:w.cell? (F A 0)=Z (I f.B.size):=by rw[<-b];exact aD h.1 rfl
 have d:bc (∀n,ax ai 54 #[jp L.d,I 0,I f.B.size] (w.drewN n) λe a=>e=aG (.string ⟨f.B⟩)/\a=w.drewN n):=λn=>by
  have:=aaj L.d L.bb L.db f.B.size 0 f.B.size L.cv f.B f.D f.C (w.drewN n) (h.drewN n).fG Y;have e:f.B.extract 0 (0+pB f.B)=f.B:=by grind
  grind
 clear h b;go_enter Tryz.func20,Tryz.ntmps20;go_wp2
 go_quiet ((go_at_call 54;exact ax.quiet_of_same (d.H _)))
 go_wp2;go_ret;exact⟨rfl,_,rfl⟩
structure Ck.Mute(B:Int)(e:Ck):Prop where
 no:e.no=B
 q:e.q=[]
 hush:cq e.aN
def bW(B:Int)(o:aV Ck):Prop:=∀e,o=Z e->e.Mute B
abbrev Fx.plus(a:Fx)(j:Nat)(o:aV Ck)(v:Int):Fx:={a with K:=a.K.set j o,bF:=v}
structure Fx.Hole(a:Fx)(j:Nat):Prop where
 hole:a.K[j]? =Z aj
 turn:a.aC=j->a.opn=aa
def lF(h:e.Mute B):∀n,(Ck.read g n e).Mute B:=by
 intro n;induction n generalizing e with
 |zero=>exact h
 |succ n ih=>
  rw[Ck.read];split
  ·dsimp only;split
   ·exact h
   ·rename_i a;split
    ·exact⟨h.1,rfl,λi b=>absurd b (rR _)⟩
    ·refine ih ⟨h.1,?_,h.3.rest _⟩;show(if ta _=M then _ else e.q)=[];rw[aI (by rw[lz h.3 a];decide)];exact h.q
  ·exact h
def eR(b:s≠j)(k:Ck):(a.plus j o v).at s k=(a.at s k).plus j o v:=by show({a with K:=(a.K.set j o).set s (Z k),bF:=v}:Fx)={a with K:=(a.K.set s (Z k)).set j o,bF:=v};rw[List.set_comm _ _ (dB b)]
def cA(b:s≠j):(a.plus j o v).K[s]? =a.K[s]? :=gQ (dB b)
def dn(h:a.K[j]? =Z aj):(a.plus j o v).K[j]? =Z o:=by grind
def iq{p:aV Ck->Bool}:∀{K:av (aV Ck)} {j:Nat},K[j]? =Z aj->p aj=aa->p o=aa->(K.set j o).any p=K.any p
 |[],j,h,_,_=>by simp at h
 |x::K,0,h,h1,h2=>by
  grind
 |x::K,j+1,h,h1,h2=>by
  have h:K[j]? =Z aj:=by grind
  simp[iq (K:=K) h h1 h2]
def iC(h:e.q=[])(g:Cf):e.eM g=aa:=by rw[Ck.eM];rw[h]
def lG(h:a.K[j]? =Z aj)(b:bW B o)(r:Rq):(a.plus j o v).held r=a.held r:=by
 rw[held]
 congr 1
 refine iq h rfl ?_;cases o with
 |none=>rfl
 |some e=>
  show(e.eM a.g&&_)=aa;rw[iC (b e rfl).q];rfl
def iK(h:a.K[j]? =Z aj)(b:bW B o)(k:Ck):(a.plus j o v).qm k=a.qm k:=by unfold qm;rw[lG h b]
def iS(b:s≠j)(h:a.K[j]? =Z aj)(k:Ck):(a.at s k).K[j]? =Z aj:=(gQ b).E h
def je(c:s≠j)(h:a.K[j]? =Z aj)(d:bW B o):∀n k b,(a.plus j o v).eK s n k b=a.eK s n k b
 |0,k,b=>rfl
 |n+1,k,b=>by
  let e:(a.plus j o v).along s k b=a.along s k b:=by unfold along;rw[eR c,iK (iS c h k) d]
  unfold eK;rw[e,je c h d n]
def lJ(b:s≠j)(h:a.K[j]? =Z aj)(c:bW B o)(k:Ck):(a.plus j o v).gN s k=(a.gN s k).plus j o v:=by rw[gN];rw[je b h c];dsimp only;show({a with K:=(a.K.set j o).set s _,bF:=v,bD:=_,bO:=_,fl:=_}:Fx)={a with K:=(a.K.set s _).set j o,bF:=v,bD:=_,bO:=_,fl:=_};rw[List.set_comm _ _ (dB b)];rfl
def fY{b:Fx->Nat->Fx}{P:Fx->Prop}(f:∀a s,P a->P (b a s))(g:∀a s o,P a->bW B o->∃c,bW B c/\b (a.plus j o v) s=(b a s).plus j c v):∀(l:av Nat) (a:Fx) (o:aV Ck),P a->bW B o->P (l.foldl b a)/\∃c,bW B c/\l.foldl b (a.plus j o v)=(l.foldl b a).plus j c v
 |[],a,o,h,ho=>⟨h,o,ho,rfl⟩
 |s::l,a,o,h,ho=>by obtain⟨c,d,e⟩:=g a s o h ho;show P (l.foldl b (b a s))/\∃c,bW B c/\l.foldl b (b (a.plus j o v) s)=_;rw[e];exact fY f g l _ c (f a s h) d
def lP(h:a.Hole j):a.early.Hole j:=by rw[Dh];exact⟨by show(a.K.map _)[j]? =_;rw[qC,h.1];rfl,h.2⟩
def mw(c:bW B o):∃b,bW B b/\(a.plus j o v).early=a.early.plus j b v:=by
 refine⟨o.map (Ck.dh a.g),λe h=>?_,?_⟩
 ·cases o with
  |none=>cases h
  |some x=>
   cases h;have:=c x rfl;exact⟨this.1,this.q,this.3⟩
 ·rw[Dh,Dh];show({a with ol:=a.6+1,K:=(a.K.set j o).map _,bF:=v}:Fx)={a with ol:=a.6+1,K:=(a.K.map _).set j _,bF:=v};rw[Fj]
def jH(s:Nat)(h:a.Hole j):(a.eV s).Hole j:=by refine⟨((WA a s).2.2 j).2 h.1,?_⟩;rw[eV];split<;>exact h.2
def ng(h:a.Hole j)(f:bW B o)(s:Nat):∃d,bW B d/\(a.plus j o v).eV s=(a.eV s).plus j d v:=by
 refine⟨o,f,?_⟩
 by_cases c:s=j
 ·subst c;rw[AT (aA h.1)];cases o with
  |none=>exact AT (aA (dn h.1))
  |some e=>
   let b:=(f e rfl).q;rw[DS (dn h.1),b]
   let g:e.num a.4=e:=by unfold Ck.num;rw[b];show({e with q:=[]}:Ck)=e;rw[<-b]
   show({a with K:=(a.K.set s (Z e)).set s (Z (e.num a.4)),bF:=v,acc:=a.4}:Fx)=_;rw[g,pK]
 ·unfold eV;rw[cA c];split
  ·rw[eR c]
  ·rfl
def nh(h:a.Hole j):a.se.Hole j:=by
 rw[se];split
 ·exact h
 ·let c:a.po.Hole j:=⟨by show(a.K.map _)[j]? =_;rw[qC,h.1];rfl,h.2⟩;exact uU (P:=λb:Fx=>b.Hole j) (λb s d=>jH s d) _ _ c
def ni(h:a.Hole j)(d:bW B o):∃k,bW B k/\(a.plus j o v).se=a.se.plus j k v:=by
 unfold se
 by_cases c:a.7=M
 ·grind
 ·rw[aI c,aI c];have l:a.po.Hole j:=⟨by show(a.K.map _)[j]? =_;rw[qC,h.1];rfl,h.2⟩
  let e:(a.plus j o v).po=a.po.plus j (o.map (Ck.dQ a.g)) v:=by show({a with K:=(a.K.set j o).map _,bF:=v}:Fx)={a with K:=(a.K.map _).set j _,bF:=v};rw[Fj]
  let f:bW B (o.map (Ck.dQ a.g)):=λx i=>by
   cases o with
   |none=>cases i
   |some ys=>
    cases i;exact lF (d ys rfl) _
  rw[mG];rw[e,show(a.po.plus j (o.map (Ck.dQ a.g)) v).K.length=pA a.po.K from jB ..];exact(fY (P:=λb:Fx=>b.Hole j) (λb s g=>jH s g) (λb s o g d=>ng g d s) _ _ _ l f).2
def nq{b:Jb}(c:b.s≠j):(a.plus j o v).does b=(a.does b).plus j o v:=by
 unfold Fx.does;rw[cA c];split
 ·show({a with K:=(a.K.set j o).set b.s _,bF:=v,B:=_,D:=_,C:=_,rh:=_}:Fx)={a with K:=(a.K.set b.s _).set j o,bF:=v,B:=_,D:=_,C:=_,rh:=_};rw[List.set_comm _ _ (dB c)]
 ·rfl
def nv{b:Jb}(c:b.s≠j)(h:a.Hole j):(a.does b).Hole j:=by
 rw[Fx.does];split
 ·exact⟨(gQ c).E h.1,h.2⟩
 ·exact h
def jP:∀(n:Nat) (a:Fx),a.Hole j->(∀b∈a.fl,b.s≠j)->fin n (a.plus j o v)=(fin n a).plus j o v/\(fin n a).Hole j/\∀b∈(fin n a).fl,b.s≠j
 |0,a,h,hf=>⟨rfl,h,hf⟩
 |n+1,a,h,hf=>by
  unfold fin;cases e:a.fl with
  |nil=>exact⟨rfl,h,by rw[e];intro b c;cases c⟩
  |cons b r=>
   have c:b.s≠j:=hf b (by grind);dsimp only;split
   ·let f:({a with fl:=r}:Fx).Hole j:=⟨h.1,h.2⟩;let g:({a.plus j o v with fl:=r}:Fx).does b=(({a with fl:=r}:Fx).does b).plus j o v:=nq (a:={a with fl:=r}) c;rw[g];exact jP n _ (nv c f) λx d=>hf x (by rw[(uR _ b).1]at d;grind)
   ·grind
def nK(h:a.Hole j)(c:a.8=j)(l:bW B o):∃i,bW B i/\a.bg=(a,aa)/\(a.plus j o v).bg.2=aa/\(a.plus j o v).bg.1.pass=a.pass.plus j i v:=by
 have f:a.bg=(a,aa):=Js λk b=>by rw[c,h.1]at b;cases b
 have m:pA (a.plus j o v).K=pA a.K:=jB ..;cases o with
 |none=>
  have e:(a.plus j aj v).bg=(a.plus j aj v,aa):=Js λk b=>by have b:(a.plus j aj v).K[a.8]? =Z (Z k):=b;rw[c,dn h.1]at b;cases b
  refine⟨aj,l,f,by rw[e],?_⟩;rw[e];unfold pass;rw[m]
 |some x=>
  have d:=l x rfl
  have b:(a.plus j (Z x) v).K[(a.plus j (Z x) v).8]? =Z (Z x):=by show(a.plus j (Z x) v).K[a.8]? =_;rw[c,dn h.1]
  let g:(a.plus j (Z x) v).aT x=x.open a.g:=by rw[aT];rw[aI (by show ¬a.9=M;rw[h.2 c];decide)]
  let n:((a.plus j (Z x) v).om x).qm (x.open a.g)=aa:=by rw[qm];rw[iC (e:=x.open a.g) d.q];rfl
  have e:=Bs b;rw[g,n,aI aM]at e;refine⟨Z (x.open a.g).px,λys p=>by cases p;exact⟨d.1,d.q,d.3⟩,f,by rw[e],?_⟩;rw[e];rw[om];rw[g];show({a with K:=((a.K.set j (Z x)).set a.8 (Z (x.open a.g))).set a.8 (Z (x.open a.g).px),bF:=v,aC:=(a.8+1)%pA (((a.K.set j (Z x)).set a.8 (Z (x.open a.g))).set a.8 (Z (x.open a.g).px)),opn:=aa}:Fx)={a with K:=a.K.set j (Z (x.open a.g).px),bF:=v,aC:=(a.8+1)%pA a.K,opn:=aa};rw[c,pK,pK,jB]
def nQ(h:a.Hole j)(d:a.8≠j)(l:bW B o):(a.plus j o v).bg=(a.bg.1.plus j o v,a.bg.2)/\(a.bg.1.Hole j/\a.bg.1.8=a.8)/\∀b∈a.bg.1.fl,b∈a.fl\/b.s=a.8:=by
 by_cases f:∃k,a.K[a.8]? =Z (Z k)
 ·obtain⟨k,f⟩:=f;let i:(a.plus j o v).K[(a.plus j o v).8]? =Z (Z k):=(cA d).E f;let m:(a.plus j o v).aT k=a.aT k:=rfl
  let n:(a.plus j o v).om k=(a.om k).plus j o v:=by show({a with K:=(a.K.set j o).set a.8 (Z (a.aT k)),bF:=v,opn:=M}:Fx)={a with K:=(a.K.set a.8 (Z (a.aT k))).set j o,bF:=v,opn:=M};rw[List.set_comm _ _ (dB d)]
  let g:(a.om k).K[j]? =Z aj:=(gQ d).E h.1;rw[Bs f,Bs i,m,n,iK g l];split
  ·split
   ·refine⟨?_,⟨⟨?_,λe=>absurd e d⟩,rfl⟩,λb c=>?_⟩
    ·show((Fx.plus (a.om k) j o v).gN a.8 _,M)=_;rw[lJ d g l]
    ·show((a.om k).K.set a.8 _)[j]? =Z aj;grind
    ·have c:b∈fP _ a.fl:=c;unfold fP jw at c;grind
   ·exact⟨rfl,⟨⟨g,λe=>absurd e d⟩,rfl⟩,λb c=>aA c⟩
  ·refine⟨?_,⟨⟨(gQ d).E g,λe=>absurd e d⟩,rfl⟩,λb c=>aA c⟩;show((Fx.plus (a.om k) j o v).at a.8 _,aa)=_;rw[eR d]
 ·let p:a.bg=(a,aa):=Js λk e=>f ⟨k,e⟩;let q:(a.plus j o v).bg=(a.plus j o v,aa):=Js λk e=>f ⟨k,(cA d).y.E e⟩;grind
def jR(h:a.K[j]? =Z aj):a.pass.Hole j:=⟨h,λ_=>rfl⟩
def fR:∀(n p:Nat) (a:Fx) (o:aV Ck),a.Hole j->bW B o->(∀b∈a.fl,b.s≠j)->(∃d,bW B d/\rn n p (a.plus j o v)=(rn n p a).plus j d v)/\(rn n p a).Hole j/\∀b∈(rn n p a).fl,b.s≠j
 |0,p,a,o,h,ho,hf=>⟨⟨o,ho,rfl⟩,h,hf⟩
 |n+1,p,a,o,h,ho,hf=>by
  unfold rn;split
  ·by_cases g:a.8=j
   ·obtain⟨d,i,k,f,l⟩:=nK (v:=v) h g ho;rw[k,f,aI Bool.false_ne_true,aI Bool.false_ne_true,l];exact fR n (p+1) a.pass d (jR h.1) i hf
   ·obtain⟨k,⟨f,l⟩,q⟩:=nQ (v:=v) h g ho;have c:∀b∈a.bg.1.fl,b.s≠j:=λb r=>(q b r).e (hf b) λe=>e▸g;rw[k];dsimp only;split
    ·exact fR n 0 _ o f ho c
    ·have m:(a.bg.1.plus j o v).pass=a.bg.1.pass.plus j o v:=by
      unfold pass;grind
     rw[m];exact fR n (p+1) _ o (jR f.1) ho c
  ·grind
def nR(s:Nat)(h:a.Hole j):(a.dP s).Hole j:=by
 rw[dP];split
 ·split
  ·rename_i k b _;let c:s≠j:=λe=>by rw[e,h.1]at b;cases b
   refine⟨(gQ c).E h.1,λe=>?_⟩;show(if a.8=s then aa else a.9)=aa;rw[h.2 e];grind
  ·exact h
 ·exact h
def nW(h:a.Hole j)(c:bW B o)(s:Nat):∃d,bW B d/\(a.plus j o v).dP s=(a.dP s).plus j d v:=by
 by_cases b:s=j
 ·subst b
  let f:a.dP s=a:=by rw[dP];rw[h.1]
  rw[f];cases o with
  |none=>
   refine⟨aj,c,?_⟩;unfold dP;grind
  |some x=>
   unfold dP;rw[dn h.1];dsimp only;split
   ·refine⟨aj,λ_ e=>(by cases e),?_⟩;show({a with K:=(a.K.set s (Z x)).set s aj,bF:=v,opn:=if a.8=s then aa else a.9}:Fx)={a with K:=a.K.set s aj,bF:=v};rw[pK]
    by_cases e:a.8=s
    ·rw[aO e,h.2 e]
    ·grind
   ·grind
 ·refine⟨o,c,?_⟩;unfold dP;rw[cA b];split
  ·split
   ·show({a with K:=(a.K.set j o).set s aj,bF:=v,opn:=_}:Fx)={a with K:=(a.K.set s aj).set j o,bF:=v,opn:=_};rw[List.set_comm _ _ (dB b)]
   ·rfl
  ·rfl
def fZ(h:a.Hole j)(d:bW B o)(n:Nat):(∃f,bW B f/\(a.plus j o v).bQ n=(a.bQ n).plus j f v)/\(a.bQ n).Hole j:=
 let e:=fY (v:=v) (P:=λb:Fx=>b.Hole j) (λb s c=>nR s c) (λb s o c d=>nW c d s) (List.range n) a o h d
 ⟨e.2,e.1⟩
def nY(h:a.Hole j)(K:bW B o)(L:∀b∈a.fl,b.s≠j):(∃k,bW B k/\(a.plus j o v).qk=a.qk.plus j k v)/\a.qk.Hole j/\∀b∈a.qk.fl,b.s≠j:=by
 obtain⟨N,p,q⟩:=mw (a:=a) (j:=j) (v:=v) K;let g:=lP h;let l:a.early.fl=a.fl:=by rw[Dh]
 obtain⟨c,r,t⟩:=ni (v:=v) g p;let m:=nh g
 let n:a.early.se.fl=a.fl:=by
  rw[<-l];rw[se];split
  ·rfl
  ·exact uU (P:=λb:Fx=>b.fl=a.early.fl) (λb s d=>by rw[eV];split<;>exact d) _ _ rfl
 obtain⟨u,w,x⟩:=jP (o:=c) (v:=v) (pA a.early.se.fl) a.early.se m (by grind);obtain⟨⟨i,z,A⟩,C,D⟩:=fR (v:=v) (a.early.se.pw.qf 0) 0 a.early.se.pw c w r x;obtain⟨⟨E,G,H⟩,J⟩:=fZ (v:=v) C z (pA a.early.se.pw.pl.K);refine⟨⟨E,G,?_⟩,J,?_⟩
 ·rw[Fx.qk];rw[q,t];show(pw (a.early.se.plus j c v)).pl.lets=_;let e:pw (a.early.se.plus j c v)=a.early.se.pw.plus j c v:=u;let f:pl (a.early.se.pw.plus j c v)=a.early.se.pw.pl.plus j i v:=A;rw[e,f];rw[Fx.lets];rw[show(a.early.se.pw.pl.plus j i v).K.length=pA a.early.se.pw.pl.K from jB ..];exact H
 ·intro b d;have:a.qk.fl=a.early.se.pw.pl.fl:=(aqI _ _).1;rw[this]at d;exact D b d
def gx{W:av Wi}{u:Nat}(i:mA W):∀(d a:av Tk),(∀t∈d,mU u W t)->(∀t∈a,mU u W t)->d.flatMap (iY W)=a.flatMap (iY W)->d=a
 |[],[],_,_,_=>rfl
 |[],t::a,_,_,e=>by obtain b|⟨j,q,s⟩:=t<;>simp[iY]at e
 |t::d,[],_,_,e=>by obtain b|⟨j,q,s⟩:=t<;>simp[iY]at e
 |t::d,t'::a,h1,h2,e=>by
  have n:=h1 t fJ;have o:=h2 t' fJ;let p:=gx i d a (λx k=>h1 x (gC _ k)) (λx k=>h2 x (gC _ k));rw[pH,pH]at e;obtain b|⟨j,q,s⟩:=t<;>obtain b'|⟨l,J,K⟩:=t'
  ·have e:b::d.flatMap (iY W)=b'::a.flatMap (iY W):=e;grind
  ·have e:b::d.flatMap (iY W)=82::_:=e;injection e with c _;obtain h|h:=n<;>rw[h]at c<;>exact absurd c aM
  ·have e:(82:UInt8)::_=b'::a.flatMap (iY W):=e;injection e with c _;rcases o with h|h<;>rw[h]at c<;>exact absurd c aM
  ·obtain⟨r,D,G,_,_,A⟩:=n;obtain⟨g,f,B,_,_,C⟩:=o;have N:iW W j=r.2:=by unfold iW;rw[D]
   have c2:iW W l=g.2:=by unfold iW;rw[f]
   simp only[iY,N,c2,cu,lT,jZ,lS]at e;injection e with _ e;injection e with c e;injection e with m e;injection e with L e;have v:=Nl r.2 (i.2 j r D).1;have w:=Nl g.2 (i.2 l g f).1;rw[m,L,w]at v;have z:=i.3 j l r g D f (G.E B.y) Y;subst z;rw[D]at f;cases f;subst c;obtain⟨E,H⟩:=List.append_inj e (A.E C.y);grind
structure bw(B:Int)(j:Nat)(a b:Fx):Prop where
 plus:∃o v,bW B o/\b=a.plus j o v
 hole:a.Hole j
 fl:∀x∈a.fl,x.s≠j
def bw.qk(S:bw B j a b):bw B j a.qk b.qk:=by obtain⟨o,v,d,rfl⟩:=S.1;obtain⟨⟨f,c,e⟩,g,h⟩:=nY (v:=v) S.2 d S.3;exact⟨⟨f,v,c,e⟩,g,h⟩
def bw.ne(S:bw B j a b)(c:a.K[s]? =Z (Z k)):s≠j:=λe=>by rw[e,S.2.1]at c;cases c
def bw.isB(S:bw B j a b)(l:(i:Int)≠B)(h:a.Is i s k):b.Is i s k:=by
 obtain⟨o,v,g,rfl⟩:=S.1;let f:=S.ne h.1;refine⟨(cA f).E h.1,h.2,λt x c e=>?_⟩
 by_cases d:t=j
 ·subst d;rw[dn S.2.1]at c;exact absurd (e.y.E (g x (ey c)).1) l
 ·exact h.3 t x ((cA d).y.E c) e
def bw.isA(S:bw B j a b)(m:(i:Int)≠B)(h:b.Is i s k):a.Is i s k:=by
 obtain⟨o,v,g,rfl⟩:=S.1
 let f:s≠j:=λe=>by subst e;have c:=h.1;rw[dn S.2.1]at c;exact m (h.2.y.E (g k (ey c)).1)
 refine⟨(cA f).y.E h.1,h.2,λt x d l=>h.3 t x ((cA (S.ne d)).E d) l⟩
def bw.at (S:bw B j a b)(c:s≠j)(k:Ck):bw B j (a.at s k) (b.at s k):=by obtain⟨o,v,d,rfl⟩:=S.1;exact⟨⟨o,v,d,eR c k⟩,⟨iS c S.2.1 k,S.2.2⟩,S.3⟩
def bw.bQ(S:bw B j a b)(n:Nat):bw B j (a.bQ n) (b.bQ n):=by obtain⟨o,v,f,rfl⟩:=S.1;obtain⟨⟨g,c,e⟩,h⟩:=fZ (v:=v) S.2 f n;exact⟨⟨g,v,c,e⟩,h,λx d=>S.3 x (by rw[(aqI _ _).1]at d;exact d)⟩
def bw.len(S:bw B j a b):pA b.K=pA a.K:=by obtain⟨o,v,c,rfl⟩:=S.1;grind
def bw.sp(S:bw B j a b)(c:s≠j)(k:Ck)(t:ByteArray):(b.sp s k t).2=(a.sp s k t).2/\bw B j (a.sp s k t).1 (b.sp s k t).1:=by
 unfold Fx.sp;split
 ·grind
 ·split
  ·grind
  ·exact⟨rfl,S.at c _⟩
def bw.take(S:bw B j a b)(c:s≠j)(k:Ck)(n:Int):bw B j (a.take s k n) (b.take s k n):=by unfold Fx.take;rw[S.len];exact(S.at c _).bQ _
def bw.sI(S:bw B j a b)(t:Ft):bw B j (a.sI t) (b.sI t):=by obtain⟨o,v,c,rfl⟩:=S.1;exact⟨⟨o,v,c,rfl⟩,⟨S.2.1,S.2.2⟩,S.3⟩
def bw.dG(S:bw B j a b)(x ys z d:Int):bw B j (aFF a x ys z) (aFF b x ys z)/\aFD b d x=aFD a d x:=by
 let e:b.bD=a.bD:=by obtain⟨o,v,c,rfl⟩:=S.1;rfl
 unfold aFF aFD;rw[e];refine⟨?_,rfl⟩;split
 ·exact S
 ·exact S.sI _
def oh(S:bw B j a b)(E:(pA c.S:Int)<=B)(C:mA c.W)(D:aDd g R x ys z a c a' p)(f:aDd g R x ys z b {c with ks:=kb} b' c2):bw B j a' b'/\c2={p with ks:=kb}:=by
 let l:∀{i:Nat} {s:Sl},c.S[i]? =Z s->(i:Int)≠B:=λh=>by have:=(bY.1 h).1;omega
 cases D with
 |tick h=>cases f with
  |tick _=>exact⟨S.qk,rfl⟩
  |_=>exfalso;omega
 |fate h=>cases f with
  |fate _=>
   obtain⟨v,w⟩:=S.dG x ys z c.4;grind
  |_=>exfalso;omega
 |none h hn=>cases f with
  |none _ _=>exact⟨S,rfl⟩
  |other _=>exact⟨S,rfl⟩
  |ask _ hi hs ha=>exact absurd (hn _ _ hi hs) (by grind)
  |full _ hi hs ha=>exact absurd (hn _ _ hi hs) (by grind)
  |take _ hi hs ha=>exact absurd (hn _ _ hi hs) (by grind)
  |_=>exfalso;omega
 |other h=>cases f with
  |none _ _=>exact⟨S,rfl⟩
  |other _=>exact⟨S,rfl⟩
  |_=>exfalso;omega
 |full h hi hs ha hck=>cases f with
  |full _ _ _ _ _=>exact⟨S,rfl⟩
  |none _ hn=>exact absurd (hn _ _ hi hs) (by grind)
  |ask _ _ _ _ _ d=>
   grind
  |_=>exfalso;omega
 |@ask i sx s k bb f1 N r h hi hs ha hu hck A hr=>cases f with
  |@ask o sx' s' k' bb' f2 c3 r' h' hi' hs' ha' hu' d A' hr'=>
   let q:(o:Int)=eX x (pA c.S):=hi';obtain rfl:i=o:=by omega
   let e:=S.isA (l hs) hu';obtain rfl:=hu.3 _ _ e.1 e.2;have m:=hu.1;rw[e.1]at m;cases m;have n:r'=aWF g i (c.5+1) (c.3+1) ys z:=hr';rw[<-hr]at n;subst n;obtain⟨t,u⟩:=S.sp (S.ne hu.1) k r'.dV;obtain⟨p1,_,rfl,rfl⟩|⟨p1,_,rfl,rfl⟩:=A.H<;>obtain⟨p2,_,rfl,rfl⟩|⟨p2,_,rfl,rfl⟩:=A'.H
   ·grind
   ·grind
   ·grind
   ·grind
  |none _ hn=>exact absurd (hn _ _ hi hs) (by grind)
  |full _ _ _ _ d=>
   grind
  |_=>exfalso;omega
 |@take i sx s k ts h hi hs ha hu ht hk=>cases f with
  |@take o sx' s' k' ts' h' hi' hs' ha' hu' ht' hk'=>
   let q:(o:Int)=eX x (pA c.S):=hi';obtain rfl:i=o:=by omega
   let e:=S.isA (l hs) hu';obtain rfl:=hu.3 _ _ e.1 e.2;have m:=hu.1;rw[e.1]at m;cases m;obtain rfl:ts=ts':=gx C ts ts' hk hk' (ht.y.E ht');exact⟨S.take (S.ne hu.1) k _,rfl⟩
  |none _ hn=>exact absurd (hn _ _ hi hs) (by grind)
  |_=>exfalso;omega
structure eo(B:Int)(j:Nat)(g:Cf)(n t:Nat)(b:Fx)(c:Cw):Prop where
 cru:∃a,bw B j a b/\cR g n t a c
 rest:b.Rest
 len:(c.S.length:Int)=B
def bw.same(S:bw B j a b):b.g=a.g/\b.6=a.6/\b.7=a.7/\b.bD=a.bD/\b.rh=a.rh/\b.B=a.B:=by obtain⟨o,v,c,rfl⟩:=S.1;grind
def Fx.Rest.fatedAs{u:Ft}(h:a.Rest)(e:b.bD=a.bD)(f:(b.sI u).Rest):(a.sI u).Rest:=by let c:=h.1;refine⟨⟨c.g,c.2,c.3,c.4,c.5,c.6,c.7,c.8,c.9,c.pq,c.11,c.kA,c.ol,c.B,?_,c.16,c.bF⟩,h.2,h.3,h.C,h.5⟩;have d:=f.1.bD;unfold Fx.sI at d⊢;grind
def ox(H:g.Is)(W:g.1=4*(n:Int))(B:Int)(j:Nat):tI g (eo B j g n):=
 let S:=N4 H W
 let z:∀{c:Cw} {i:Nat} {s:Sl},(pA c.S:Int)=B->c.S[i]? =Z s->(i:Int)≠B:=λh m=>by have:=(bY.1 m).1;omega
 {is:=H
  run:=λh=>by obtain⟨a,s,d⟩:=h.1;obtain⟨_,K,L⟩:=S.2 d;exact⟨h.2,s.same.1.E K,s.same.2.2.1.E L⟩
  dO:=λh=>by obtain⟨a,s,d⟩:=h.1;rw[s.same.2.1];exact S.3 d
  wo:=λh=>by obtain⟨a,s,d⟩:=h.1;exact S.4 d
  aC:=λh m v=>by obtain⟨a,s,d⟩:=h.1;obtain⟨w,q,k,x⟩:=S.5 d m v;exact⟨w,q,k,s.isB (z h.3 m) x⟩
  stay:=λh=>by obtain⟨a,s,d⟩:=h.1;exact⟨⟨a,s,S.6 d⟩,h.2,h.3⟩
  qk:=fun{t f c} h ht=>by obtain⟨a,s,d⟩:=h.1;have w:=(S.3 d).1;exact⟨⟨_,s.qk,S.7 d ht⟩,(Xu h.2 (by rw[s.same.2.1];omega)).1,h.3⟩
  dG:=λh hr w x=>by
   obtain⟨a,s,d⟩:=h.1;obtain rfl|⟨u,rfl,V⟩:=w
   ·exact⟨⟨a,s,S.8 d (S.2 d).1 (aA rfl) x⟩,hr,h.3⟩
   ·exact⟨⟨_,s.sI u,S.8 d ((S.2 d).1.fatedAs s.same.2.2.2.1 hr) (az ⟨u,rfl,V⟩) x⟩,hr,h.3⟩
  ask:=fun{t f c i q s k b f' p r} h m v hu hck A=>by
   obtain⟨a,o,d⟩:=h.1;let l:=o.isA (z h.3 m) hu;obtain⟨E,N⟩:=o.sp (o.ne l.1) k r.dV;let C:f'=(f.sp q k r.dV).1/\p.S=c.S:=by obtain⟨_,_,e,e2⟩|⟨_,_,e,e2⟩:=A.H<;>exact⟨e,by rw[e2]⟩
   let J:CI g a c.pv i q k b (a.sp q k r.dV).1 p r:=⟨A.1,A.2,by
    obtain⟨p1,p2,_,p4⟩|⟨p1,p2,_,p4⟩:=A.H
    ·grind
    ·exact az ⟨λe=>p1 (E.E e),by rw[p2,E],rfl,p4⟩⟩
   obtain⟨O,P⟩:=S.9 d m v l hck J;refine⟨O,⟨_,?_,P⟩,?_,?_⟩
   ·grind
   ·rw[C.1];exact h.2.sp hu.1 _
   ·rw[C.2];exact h.3
  take:=fun{t f c i q s k} h m v hu=>by obtain⟨a,o,d⟩:=h.1;let l:=o.isA (z h.3 m) hu;obtain⟨Q,D,G,R,T⟩:=S.10 d m v l;exact⟨Q,D,G,R,⟨_,o.take (o.ne l.1) k _,T⟩,(h.2.take hu.1 _).2,h.3⟩}
def oD(B:Int)(j:Nat):aShd B (bw B j):=
 ⟨λh=>h.same.2.1,λh=>h.qk,λh c a=>h.isB Y a,λh b=>h.take (h.ne b) _ _⟩
def oL(h:aTk a c i D N):∀{G c2},aTk a {c with ks:=kb} i G c2->G=D/\c2={N with ks:=kb}:=by
 induction h with
 |zero=>
  intro G c2 d;cases d;grind
 |@skip i D N s h hs ha ih=>
  intro G c2 d;cases d with
  |skip h2 b ha2=>exact ih h2
  |take h2 b ha2 _ _ _ _=>
   grind
 |@take i sx D N s k ts h hs ha hu hW ht hk ih=>
  intro G c2 d;cases d with
  |skip h2 b ha2=>
   grind
  |@take _ sx' _ _ s' k' ts' h2 b ha2 hu2 hW2 ht2 hk2=>
   obtain⟨rfl,rfl⟩:=ih h2;obtain rfl:=hu.3 _ _ hu2.1 hu2.2;have e:=hu.1;rw[hu2.1]at e;cases e;obtain rfl:ts=ts':=gx hW ts ts' hk hk2 (ht.y.E ht2);grind
def gL(h:aRn a c n D N):∀{G c2},aRn a {c with ks:=kb} n G c2->G=D/\c2={N with ks:=kb}:=by
 induction h with
 |zero=>
  intro G c2 b;cases b;grind
 |@succ n D a3 N c3 h ho ht ih=>
  intro G c2 b;cases b with
  |succ h2 ho2 ht2=>
   obtain⟨rfl,rfl⟩:=ih h2;exact oL ht ht2
def jS(h:aRn a c n D N):∀k,k<n->∃a' p,aRn a c k a' p/\Sh p:=by
 induction h with
 |zero=>exact λk b=>absurd b (rR _)
 |@succ n D a3 N c3 h ho ht ih=>
  intro k b
  by_cases e:k=n
  ·grind
  ·exact ih k Y
def oY(h:aRn a c n D N)(g:¬Sh N)(d:aRn a {c with ks:=kb} n' G c2) (f:¬Sh c2):G=D/\c2={N with ks:=kb}:=by
 have e:n=n':=by
  obtain b|b|b:=Nat.lt_trichotomy n n'
  ·obtain⟨a',p,r,o⟩:=jS d n b;obtain⟨rfl,rfl⟩:=gL h r;exact absurd o g
  ·exact b
  ·obtain⟨a',p,r,o⟩:=jS h n' b;obtain⟨rfl,rfl⟩:=gL r d;exact absurd o f
 subst e;exact gL h d
def cj(d:Nat)(L:cZ)(m:Cm)(x:Nat):Prop:=L.13 x≠0\/¬apO d m x
def dr(u:aq)(a:Nat->Prop):∃K:Nat->aV Obj,∀x o,K x=Z o<->a x/\u.1[x]? =Z o:=by classical exact⟨λx=>if a x then u.1[x]? else aj,λx o=>by dsimp only;split<;>simp_all⟩
def bz.footLt{x:Nat}(T:bz u g d A O c H V)(h:cj d H V x):x<pB u.1:=by
 let f:∀{b:Nat} {o:Obj},u.1[b]? =Z o->b<pB u.1:=λh=>(bf.1 h).1;refine Nat.lt_of_not_le λl=>?_;obtain h|h:=h
 ·exact h (T.9 x l)
 ·refine h ⟨λe=>?_,λe=>?_,λe=>?_,λe=>?_,λe=>?_⟩
  ·have:=f T.2;omega
  ·have:=jJ T.3 x e;omega
  ·have:=jJ T.4 x e;omega
  ·obtain⟨i,a⟩:=pJ.1 e;let k:=T.NQ;let j:=(bY.1 a).1;have:=f (T.5 i x _ a (dj Y)).1;omega
  ·obtain⟨i,a⟩:=pJ.1 e;let k:=T.Od;let j:=(bY.1 a).1;have:=f (T.6 i x _ a (dj Y)).1;omega
def bz.other{t:Fx}{La':cZ}{ma':Cm}(j:bz u g d A O c H V)(K:bz r g C J t N La' ma')(L:∀x o,cj d H V x->u.1[x]? =Z o->N.6 x=Z o):bz r g d A O {c with ks:=λ_=>aj} H V:=by
 let q:∀{x:Nat} {o:Obj},cj d H V x->u.1[x]? =Z o->r.1[x]? =Z o/\La'.13 x=0/\apO C ma' x:=λm D=>K.kp _ _ (L _ _ m D)
 let k:∀{x:Nat},cj d H V x->r.1[x]? =u.1[x]? :=fun{x} m=>by let a:=j.footLt m;let l:u.1[x]? =Z u.1[x]:=gi a;rw[l];exact(q m l).1
 let f:∀{x:Nat},¬apO d V x->cj d H V x:=λh=>az h
 refine⟨j.1.yE λb n E=>k (aA E),(k (f λh=>h.1 rfl)).E j.2,eF j.3 λb n=>k (f λh=>h.2.1 n),eF j.4 λb n=>k (f λh=>h.2.2.1 n),λi p s v w=>?_,λi p s v w=>?_,j.7,j.8,λb n=>ny λh=>?_,λb o h=>by cases h⟩
 ·let a:=j.5 i p s v w;exact⟨(k (f λh=>h.2.2.2.1 (jC v))).E a.1,a.2⟩
 ·let a:=j.6 i p s v w;exact⟨(k (f λh=>h.2.2.2.2 (jC v))).E a.1,a.2⟩
 ·let a:=j.footLt (aA h);let l:=k (aA h);grind
def ko{s t:ByteArray}(h:cq s)(c:cq t):cq (s++t):=λi b=>by
 rw[bt];rw[show(s++t).1=s.1++t.1 from zB ..,ue,Array.getElem?_append]
 by_cases e:i<pB s.1
 ·rw[aO e];have:=h i e;rw[bt]at this;rw[ue]at this;grind
 ·rw[aI e]
  let a:i-pC s<pC t:=by rw[qB]at b;have e:¬i<pC s:=e;omega
  have:=c (i-pC s) a;rw[bt]at this;rw[ue]at this;exact this
def pX{s:ByteArray}{i:Nat}(h:bt s i≠81):cq (s.extract i (i+1)):=λx b=>by
 let a:x<1:=by rw[oH]at b;omega
 obtain rfl:x=0:=by omega
 unfold bt at h⊢;rw[ue]at h⊢;rw[rE,Array.getElem?_extract];grind
def uW(s:ByteArray)(w:aq)(E:pC s<=9223372036854775807):
  ax ai 38 #[.string s] w λe A=>∃t:ByteArray,e=aG (.string t)/\(cq t/\pC t<=200)/\A=w:=by
 go_enter Tryz.func38,Tryz.ntmps38;go_wp2
 go_loopw [3,4] (λB k wr=>∃(i:Nat) (t:ByteArray),(i<=pC s/\i<=200)/\k=I i/\B=.string t/\bc (cq t/\pC t<=i)/\wr=w) (λ_ k _=>200-pD (intOf k))
 case atStart=>exact⟨0,⟨#[]⟩,⟨cO _,cO _⟩,rfl,rfl,⟨λi f=>absurd f (rR _),aR _⟩,rfl⟩
 case round=>
  obtain⟨i,t,f,rfl,rfl,a,rfl⟩:=hrel;have l:bc (i<=pC s/\i<=200):=f
  by_cases j:i<pC s
  ·have b:decide ((i:Int)<(pC s:Int))=M:=by grind
   by_cases q:i<200
   ·have c:decide ((i:Int)<(200:Int))=M:=by grind
    have g:(i:Int)+1<=9223372036854775807:=by omega
    have h:0<=(i:Int)/\(i:Int)<(pC s:Int):=by omega
    have r:=pV s i j;have u:=nU s i;have v:(i:Int)<pC s:=by omega
    by_cases d:bt s i=81
    ·have m:(bt s i !=81)=aa:=by grind
     clear d f;go_wp2;exact⟨⟨i+1,t,by have:=l.H;omega,by go_num,rfl,⟨a.H.1,by have:=a.H.2;omega⟩,trivial⟩,by simp[intOf];omega⟩
    ·have x:bc (¬bt s i=81):=d;have m:(bt s i !=81)=M:=by grind
     go_upto_region 6 with fail
     have n:bc (i<200):=q;clear r u m b c v g q h;have C:0<=(i:Int)/\(i:Int)<=(i:Int)+1/\(i:Int)+1<=pC s:=by omega
     have D:IntKind.i64.wrap ((i:Int)+1)=(i:Int)+1:=dI Y Y;have o:¬9223372036854775807<pC t+pC (s.extract i (i+1)):=by rw[oH];have:=a.H.2;grind
     generalize z:s.extract i (i+1)=X at*;have p:=Dv z;clear d f;go_wp2;refine⟨⟨i+1,t++X,by have:=n.H;omega,by go_num,rfl,⟨ko a.H.1 ?_,?_⟩,trivial⟩,by have:=n.H;simp[intOf];omega⟩
     ·rw[<-p.H];exact pX x.H
     ·rw[qB,<-p.H,oH];have:=a.H.2;omega
   ·have c:decide ((i:Int)<(200:Int))=aa:=by grind
    go_wp2;go_ret;exact⟨t,rfl,⟨a.H.1,by have:=a.H.2;omega⟩,rfl⟩
  ·have b:decide ((i:Int)<(pC s:Int))=aa:=by grind
   go_wp2;go_ret;exact⟨t,rfl,⟨a.H.1,by have:=a.H.2;omega⟩,rfl⟩
def gT(w:aq)(d:Nat)(W:av Wi)(i:Nat)(r:Wi):Prop:=∃b a q,w.cell? (F d 11)=Z (ζ (Z (F b 0)) (pA W) a)/\w.cell? (F b i)=Z (jp q)/\w.cell? (F q 8)=Z (I r.9)/\w.cell? (F q 9)=Z (I r.er)/\w.cell? (F q 10)=Z (.string r.tx)
def bz.sees{w:aq}{g:Cf}{d A:Nat}{f:Fx}{c:Cw}{L:cZ}{m:Cm}(T:bz w g d A f c L m){i:Nat}{r:Wi}(hr:c.W[i]? =Z r):gT w d c.W i r:=by obtain⟨e,a,q,h,_,j,b⟩:=T.spot hr;exact⟨e,a,q,by rw[<-h];exact aD T.2 rfl,j,aD b rfl,aD b rfl,aD b rfl⟩
def kH{w:aq}{c:aV Addr}{N h p:Nat}{d:av En}{e:En}(l:w.ownsRow 0 96 7 (ζ c N h) N (d.flatMap mX))(he:d[p]? =Z e)(i:p<N):∃a,c=Z (F a 0)/\w.cell? (F a (p*7))=Z (I e.1)/\w.cell? (F a (p*7+1))=Z (I e.2)/\w.cell? (F a (p*7+6))=Z (I e.7):=by obtain⟨a,f,g,b⟩:=yV l Y;cases g;let k:=A0 he;exact⟨a,rfl,b _ _ (k 0 Y),b _ _ (k 1 Y),b _ _ (k 6 Y)⟩
def pZ(C J d A:Nat)(g:Cf)(E O:Fx)(c c2:Cw)(lh H:cZ)(ma V:Cm)(w:aq)(f:bz w g C J E c lh ma)(l:bz w g d A O c2 H V)(h1:c2.W=c.W)(h2:c2.3=c.3)(h3:O.rh=E.rh)(h4:O.B=E.B)(ha:E.g.1=pB E.B)(hb:O.g.1=pB O.B)(n B:Nat)(X:Nat->Nat->Nat->av ByteArray)(hn:g.1=4*(n:Int))(R:r3 n B c.W E.rh X)(hnow:dy c.3):
  ax ai 40 #[jp C,jp d] w λe w'=>e=aG (ω M):=by
 have hWl:pA c.W<=65535:=R.1.1;have L:pA E.rh<=1099511627776:=R.1.2.1;have HA:bc (∀W,ca w.1.size w W->bz W g C J E c lh ma):=λW a=>f.below a;have HB:bc (∀W,ca w.1.size w W->bz W g d A O c2 H V):=λW a=>l.below a;have H1:bc (∀W,ca w.1.size w W->ax ai 50 #[jp J] W (p8 96 7 (pA E.rh) (E.rh.flatMap mX) W)):=λW a=>aru J E lh W (f.below a).1 L;have H2:bc (∀W,ca w.1.size w W->ax ai 50 #[jp A] W (p8 96 7 (pA E.rh) (E.rh.flatMap mX) W)):=λW a=>h3▸aru A O H W (l.below a).1 (by rw[h3];exact L);have H3:bc (∀W,ca w.1.size w W->ax ai 20 #[jp J] W λe w'=>e=aG (.string ⟨E.B⟩)/\∃m,w'=W.drewN m):=λW a=>hY W E J lh (f.below a).1 ha;have hD:bc (∀W,ca w.1.size w W->ax ai 20 #[jp A] W λe w'=>e=aG (.string ⟨E.B⟩)/\∃m,w'=W.drewN m):=λW a=>h4▸hY W O A H (l.below a).1 hb;have H5:bc (∀W,ca w.1.size w W->ax ai 18 #[jp C] W (arE W n (X (pA E.rh)))):=λW a=>arw C J g E c lh ma W (f.below a) n B X hn R;obtain⟨oa,oca,eva⟩:=gP f.4;obtain⟨T,ocb,u⟩:=gP l.4;rw[h1]at u
 have K:bc (∀W,ca w.1.size w W->W.cell? (F C 9)=Z (jp J)/\W.cell? (F d 9)=Z (jp A)/\W.cell? (F C 11)=Z (ζ oa (pA c.W) oca)/\W.cell? (F d 11)=Z (ζ T (pA c.W) ocb)/\W.cell? (F C 12)=Z (I c.3)/\W.cell? (F d 12)=Z (I c.3)):=λW a=>
  ⟨aD (f.below a).2 rfl,aD (l.below a).2 rfl,by rw[<-eva];exact aD (f.below a).2 rfl,by rw[<-u];exact aD (l.below a).2 rfl,aD (f.below a).2 rfl,by rw[<-h2];exact aD (l.below a).2 rfl⟩
 have HS:bc (∀W,ca w.1.size w W->∀(i:Nat) r,c.W[i]? =Z r->gT W C c.W i r/\gT W d c.W i r):=λW a i r hr=>⟨(f.below a).sees hr,h1▸(l.below a).sees (i:=i) (r:=r) (by rw[h1];exact hr)⟩;have P:bc (ca w.1.size w w):=ca.refl _ _;have Q:bc (∀(W:aq) (k:Nat),ca w.1.size w W->ca w.1.size w (W.drewN k)):=λW k h=>⟨h.1,h.2,h.3,h.4,h.5⟩;obtain⟨x9,yt,-,-,-,-⟩:=K.H w P.H;clear f l h1 h2 h3 h4 ha hb R eva u;go_enter Tryz.func40,Tryz.ntmps40
 go_upto_region 2 with(go_at_call 50;refine(H1.H _ P.H).V ?_;rintro e w1 ⟨lv,rfl,l1,l2,l3⟩)
 have B1:ca w.1.size w w1:=l2;obtain⟨-,yt,-,-,-,-⟩:=K.H w1 B1;obtain⟨la,lc,elv⟩:=gP l1;subst elv;have S:bc (w1.ownsRow 0 96 7 (ζ la (pA E.rh) lc) (pA E.rh) (E.rh.flatMap mX)):=l1;have q:bc (ca w.1.size w w1):=B1;clear l1 l2 l3 B1 x9
 go_upto_region 3 with(go_at_call 50;refine(H2.H _ q.H).V ?_;rintro e j ⟨lv2,rfl,m1,m2,m3⟩)
 obtain⟨lb,lc2,elv2⟩:=gP m1;subst elv2;have B2:ca w.1.size w j:=q.H.E (m2.V q.H.4);have r1:j.ownsRow 0 96 7 (ζ la (pA E.rh) lc) (pA E.rh) (E.rh.flatMap mX):=eF S.H λb hb=>m2.5 b (jJ S.H b hb);have HR2:bc (j.ownsRow 0 96 7 (ζ la (pA E.rh) lc) (pA E.rh) (E.rh.flatMap mX)/\j.ownsRow 0 96 7 (ζ lb (pA E.rh) lc2) (pA E.rh) (E.rh.flatMap mX)):=⟨r1,m1⟩;obtain⟨x9,yt,x11,y11,x12,y12⟩:=K.H j B2;have HB2:bc (ca w.1.size w j):=B2;clear r1 m1 m2 m3 B2;generalize hN:pA c.W=N at*;generalize hLn:pA E.rh=o at*
 go_quiet (fail)
 go_wp2
 go_loopw [7,8,9] (λz _ _ wr=>∃i:Nat,i<=N/\z=I i/\bc (wr.1=j.1/\ca w.1.size w wr)) (λz _ _ _=>N-pD (intOf z))
 case atStart=>exact⟨0,cO _,rfl,rfl,Q.H _ _ HB2.H⟩
 case round=>
  obtain⟨i,hi,rfl,HX⟩:=hrel
  by_cases hlt:i<N
  ·have s:(i:Int)<(N:Int):=by omega
   have hpp:0<=(i:Int)/\(i:Int)<(N:Int):=by omega
   obtain⟨r,hr⟩:∃r,c.W[i]? =Z r:=⟨_,dj Y⟩;obtain⟨s1,s2⟩:=HS.H wr HX.H.2 i r hr;obtain⟨gh,cpa,qe,D,G,a3,a4,a5⟩:=s1;obtain⟨gb,cpb,qf,b1,b2,b3,b4,b5⟩:=s2;rw[hN]at D b1;clear hr
   go_upto_region 10 with fail
   go_quiet (fail)
   go_wp2;exact⟨⟨i+1,by omega,by go_num,HX.H.1,Q.H _ _ HX.H.2⟩,by simp[intOf];omega⟩
  ·have s:¬(i:Int)<(N:Int):=by omega
   obtain⟨-,-,x11,y11,-,-⟩:=K.H wr HX.H.2;go_wp2
   go_loopw [10] (λz wr2=>∃p:Nat,p<=o/\z=I p/\bc (wr2.1=j.1/\ca w.1.size w wr2)) (λz _=>o-pD (intOf z))
   case atStart=>exact⟨0,cO _,rfl,HX⟩
   case round=>
    obtain⟨p,hp,rfl,x⟩:=hrel
    by_cases hlp:p<o
    ·have s:(p:Int)<(o:Int):=by omega
     have hpp:0<=(p:Int)/\(p:Int)<(o:Int):=by omega
     obtain⟨e,he⟩:∃e,E.rh[p]? =Z e:=⟨_,dj Y⟩;have k:∀{v:aB},j.ownsRow 0 96 7 v o (E.rh.flatMap mX)->wr.ownsRow 0 96 7 v o (E.rh.flatMap mX):=λh=>eF h λb _=>by rw[x.H.1]
     obtain⟨be,ea,D,G,a3⟩:=kH (k HR2.H.1) he hlp;obtain⟨bb,eb,b1,b2,b3⟩:=kH (k HR2.H.2) he hlp;subst ea eb;clear he k
     go_upto_region 15 with fail
     go_quiet (fail)
     go_wp2;exact⟨⟨p+1,by omega,by go_num,x.H.1,Q.H _ _ x.H.2⟩,by simp[intOf];omega⟩
    ·have s:¬(p:Int)<(o:Int):=by omega
     obtain⟨x9,yt,-,-,-,-⟩:=K.H wr x.H.2
     go_upto_region 18 with(go_at_call 20;refine(H3.H _ x.H.2).V ?_;rintro e w3 ⟨rfl,k3,rfl⟩)
     have t:bc (ca w.1.size w (wr.drewN k3)):=Q.H _ _ x.H.2;obtain⟨-,yt,-,-,-,-⟩:=K.H _ t.H;generalize wr.drewN k3=w3 at*;clear x9 H3 x
     go_wp2_with (first
      |(go_at_call 20;refine(hD.H _ t.H).V ?_;rintro e w4 ⟨rfl,k4,rfl⟩)
      |(go_at_call 18;refine(H5.H _ (Q.H _ _ t.H)).V ?_;rintro e w5 ⟨sb,rv,rfl,-,-⟩))
     go_ret;rfl
abbrev Cw.bare(c:Cw):Cw:={c with ks:=λ_=>aj}
def cR.kept{g:Cf}{n t:Nat}{f:Fx}{c:Cw}(h:cR g n t f c)(ks:Nat->aV Obj):cR g n t f {c with ks:=ks}:=by obtain⟨⟨⟨⟩,v⟩,d⟩:=h;exact⟨⟨by constructor<;>assumption,v⟩,d⟩
def qh(D:aDd g R x ys z f c f' p):p.6=c.6:=by
 cases D with
 |ask _ _ _ _ _ _ A=>obtain⟨_,_,_,e⟩|⟨_,_,_,e⟩:=A.H<;>rw[e]
 |_=>rfl
def ql{a a':Fx}{c p:Cw}{i:Nat}(h:aTk a c i a' p):p.6=c.6:=by
 induction h with
 |zero=>rfl
 |skip _ _ _ ih=>exact ih
 |take _ _ _ _ _ _ _ ih=>exact ih
def qq{a a':Fx}{c p:Cw}{n:Nat}(h:aRn a c n a' p):p.6=c.6:=by
 induction h with
 |zero=>rfl
 |succ _ _ ht ih=>exact(ql ht).E ih
def bz.bare(T:bz u g d A O c H V):bz u g d A O c.bare H V:=⟨T.1,T.2,T.3,T.4,T.5,T.6,T.7,T.8,T.9,λb o h=>by cases h⟩
def aL(u:aq)(g:Cf)(C J:Nat)(E:Fx)(c:Cw)(d A:Nat)(O:Fx)(p:Cw)(q:Nat)(T:Obj):Prop:=∃lh ma H V,bz u g C J E c.bare lh ma/\bz u g d A O p.bare H V/\(∀x,cj C lh ma x->¬cj d H V x)/\u.1[q]? =Z T/\¬cj C lh ma q/\¬cj d H V q
def aL.swap(h:aL u g C J E c d A O p q T):aL u g d A O p C J E c q T:=by obtain⟨lh,ma,H,V,a,b,e,f,i,j⟩:=h;exact⟨H,V,lh,ma,b,a,λx k l=>e x l k,f,j,i⟩
def aL.at (h:aL u g C J E c d A O p q T):u.1[q]? =Z T:=by obtain⟨lh,ma,H,V,b,e,f,a,i,j⟩:=h;exact a
def aL.crA(h:aL u g C J E c d A O p q T):∃m,fj u g C J E c.bare m:=by obtain⟨lh,ma,H,V,a,_⟩:=h;exact⟨ma,lh,a⟩
def aL.old(h:aL u g C J E c d A O p q T)(a:∀b,b<pB u.1->r.1[b]? =u.1[b]?):aL r g C J E c d A O p q T:=by obtain⟨lh,ma,H,V,f,i,j,e,k⟩:=h;exact⟨lh,ma,H,V,f.old a,i.old a,j,(a q (bf.1 e).1).E e,k⟩
def aL.same(h:aL u g C J E c d A O p q T)(a:r.1=u.1):aL r g C J E c d A O p q T:=h.old λb _=>by rw[a]
def aL.tp(h:aL u g C J E c d A O p q T)(τ:Tape):aL (u.tp τ) g C J E c d A O p q T:=h.same rfl
def aL.open(h:aL u g C J E c d A O p q T):∃K lh ma H V,(∀x o,cj d H V x\/x=q->u.1[x]? =Z o->K x=Z o)/\bz u g C J E {c with ks:=K} lh ma/\bz u g d A O p.bare H V/\u.1[q]? =Z T/\¬cj d H V q:=by
 obtain⟨lh,ma,H,V,b,f,i,j,k,l⟩:=h;obtain⟨K,e⟩:=dr u λx=>cj d H V x\/x=q;exact⟨K,lh,ma,H,V,λx o m n=>(e x o).2 ⟨m,n⟩,⟨b.1,b.2,b.3,b.4,b.5,b.6,b.7,b.8,b.9,λx o h=>by obtain⟨m,d⟩:=(e x o).1 h;let n:¬cj C lh ma x:=λa=>m.e (λe=>i x a e) λe=>k (e▸a);exact⟨d,ny λe=>n (aA e),ny λe=>n (az e)⟩⟩,f,j,l⟩
def aL.close{K}(y:∀x o,cj d H V x\/x=q->u.1[x]? =Z o->K x=Z o)(i:bz u g d A O p.bare H V)(w:u.1[q]? =Z T)(z:¬cj d H V q)(a:bz r g C J t N La' ma')(j:N.6=K):aL r g C J t N d A O p q T:=by
 subst j;let b:=a.kp q T (y _ _ (az rfl) w);refine⟨La',ma',H,V,a.bare,i.other a λx o n=>y x o (aA n),λx v f=>?_,b.1,λh=>h.e (λe=>e b.2.1) λe=>e b.2.2,z⟩;let k:=i.footLt f;obtain⟨_,l,m⟩:=a.kp x _ (y x _ (aA f) (gi k));exact v.e (λe=>e l) λe=>e m
def bz.newFoot{W:Nat->Int}{f0:Fx}(h:bz r g d A f0 (nV W 0) H ⟨ζ aj 0 0,ζ aj 0 0,[],[]⟩)(i:pB u.1<=d)(c:∀b,b<pB u.1->H.13 b=0){x:Nat}(f:x<pB u.1):¬cj d H ⟨ζ aj 0 0,ζ aj 0 0,[],[]⟩ x:=λa=>
 a.e (λe=>e (c x f)) λe=>e ⟨λe=>Y,λe=>(by cases e),λe=>(by cases e),λe=>(by cases e),λe=>(by cases e)⟩
def aL.first {W:Nat->Int}{f0:Fx}(h:bz u g C J E c lh ma)(i:u.1[q]? =Z T)(e:¬cj C lh ma q)(f:bz r g d A f0 (nV W 0) H ⟨ζ aj 0 0,ζ aj 0 0,[],[]⟩)(j:pB u.1<=d)(k:∀b,b<pB u.1->H.13 b=0)(l:∀b,b<pB u.1->r.1[b]? =u.1[b]?):aL r g C J E c d A f0 (nV W 0) q T:=by let a:=(bf.1 i).1;exact⟨lh,ma,H,_,(h.old l).bare,f,λx m=>f.newFoot j k (h.footLt m),(l q a).E i,e,f.newFoot j k a⟩
def Fx.Stays(f:Fx):Prop:=∀(s:Nat) k,f.K[s]? =Z (Z k)->k.gone=aa
def qz(h:f.Stays)(j:Nat):f.dP j=f:=by
 rw[dP];split
 ·rename_i k a;rw[h j k a];rfl
 ·rfl
def kI(h:f.Stays):∀n,f.bQ n=f
 |0=>rfl
 |n+1=>by rw[uV,kI h n,qz h n]
def qU(f:Fx)(j:Nat):pA (f.dP j).K=pA f.K:=by
 rw[dP];grind
def kP(f:Fx):∀n,pA (f.bQ n).K=pA f.K
 |0=>rfl
 |n+1=>by rw[uV,qU,kP f n]
def fX(f:Fx):∀(n s:Nat) k,s<n->(f.bQ n).K[s]? =Z (Z k)->k.gone=aa
 |0,s,k,h,_=>absurd h (rR _)
 |n+1,s,k,h,a=>by
  rw[uV]at a;rw[dP]at a;split at a
  ·rename_i k0 b;split at a
   ·have a:((f.bQ n).K.set n aj)[s]? =Z (Z k):=a;rw[rM]at a;split at a
    ·grind
    ·exact fX f n s k Y a
   ·rename_i c
    by_cases e:s=n
    ·grind
    ·exact fX f n s k Y a
  ·rename_i d
   by_cases e:s=n
   ·grind
   ·exact fX f n s k Y a
def kR(f:Fx):(f.bQ (pA f.K)).Stays:=λs k a=>fX f _ s k (by have:=(bY.1 a).1;rw[kP]at this;grind) a
def qX(f:Fx)(s:Nat)(k:Ck)(n:Int):(f.take s k n).Stays:=by have h:=kR (f.at s (k.pl n));let e:pA (f.at s (k.pl n)).K=pA f.K:=jB ..;rw[e]at h;exact h
def rA(D:aDd g R x ys z f c f' p)(h:f.Stays):f'.Stays:=by
 cases D with
 |tick=>exact kR _
 |fate=>
  rw[aFF];split<;>exact h
 |none=>exact h
 |@ask i sx s k b _ _ r _ _ _ _ hu _ A=>
  let e:f'=(f.sp sx k r.dV).1:=by obtain⟨_,_,e,_⟩|⟨_,_,e,_⟩:=A.H<;>exact e
  rw[e];rw[Fx.sp];split
  ·exact h
  ·split
   ·exact h
   ·intro d j a;have a:(f.K.set sx (Z (k.sp r.dV)))[d]? =Z (Z j):=a;rw[rM]at a;split at a
    ·split at a
     ·cases a;exact h sx k hu.1
     ·cases a
    ·exact h d j a
 |full=>exact h
 |take=>exact qX _ _ _ _
 |other=>exact h
def sv(h:f.Host g W n):f.Stays:=λs k a=>by
 by_cases b:s<n
 ·rw[h.6 s b]at a;cases a;rfl
 ·rw[h.H s Y (bY.1 a).1]at a;cases a
def sG{t:ByteArray}(h:f.Host g W n)(m:(n:Int)<g.2)(q:cq t/\pC t<=200):(f.jV n 1).Is n n (Ck.fresh f.3 1 f.g.7)/\((f.jV n 1).sp n (Ck.fresh f.3 1 f.g.7) t).2=0/\bw n n f ((f.jV n 1).sp n (Ck.fresh f.3 1 f.g.7) t).1/\((f.jV n 1).sp n (Ck.fresh f.3 1 f.g.7) t).1.Rest:=by
 let c:=h.qm m;let d:=h.at m (x:=1);let hr:=h.1.jV (wt:=1) c Y
 let j:(f.jV n 1).sp n (Ck.fresh f.3 1 f.g.7) t=((f.jV n 1).at n ((Ck.fresh f.3 1 f.g.7).sp t),0):=by rw[Fx.sp];rw[aI (by simp[Ck.fresh]),aI (by show ¬1024<pC (⟨#[]⟩:ByteArray)+pC t;have:pC (⟨#[]⟩:ByteArray)=0:=rfl;omega)]
 refine⟨⟨d,h.5,λs k a b=>?_⟩,by rw[j],?_,hr.sp d t⟩
 ·by_cases e:s=n
  ·exact e
  ·have a:(f.K.set n (Z (Ck.fresh f.3 1 f.g.7)))[s]? =Z (Z k):=a;rw[gQ (dB e)]at a
   by_cases o:s<n
   ·rw[h.6 s o]at a;cases a;have b:(s:Int)=n:=b;omega
   ·rw[h.H s Y (bY.1 a).1]at a;cases a
 ·rw[j];refine⟨⟨Z ((Ck.fresh f.3 1 f.g.7).sp t),f.3+1,λe he=>?_,?_⟩,⟨c,λ_=>h.8.2.2.2.2⟩,λx l=>?_⟩
  ·cases he;refine⟨h.5,rfl,?_⟩;exact ko (λi p=>absurd p (rR _)) q.1
  ·show({f with K:=(f.K.set n _).set n _,bF:=f.3+1}:Fx)=_;rw[pK]
  ·rw[h.8.2.1]at l;cases l
def sH(S:bw B j a b)(m:a.Stays)(z:a.nobody B)(hr:b.Rest):b.nobody B\/∃k,b.Is B j k/\(b.at j k.jd).sn/\bw B j a (b.oX j k)/\(b.oX j k).Rest:=by
 obtain⟨o,v,p,rfl⟩:=S.1;let f:∀(s:Nat) k,s≠j->(a.plus j o v).K[s]? =Z (Z k)->k.1≠B:=λs k r d=>z s k ((cA r).y.E d);cases o with
 |none=>
  refine aA λs k d=>?_
  grind
 |some k=>
  let d:=p k rfl;let l:(a.plus j (Z k) v).K[j]? =Z (Z k):=dn S.2.1;refine az ⟨k,⟨l,d.1,λs h c t=>ny λe=>f s h e c t⟩,λx u h c=>?_,?_,(hr.oX l).2⟩
  ·have e:=S.3 x u;have c:((a.K.set j (Z k)).set j (Z k.jd))[x.s]? =Z (Z h):=c;rw[gQ (dB e),gQ (dB e)]at c;exact m _ _ c
  ·let n:bW B (Z k.jd):=λe he=>by
    cases he;rw[Ck.jd];split
    ·exact d
    ·exact⟨d.1,rfl,λi w=>absurd w (rR _)⟩
   obtain⟨⟨q,g,e⟩,_⟩:=fZ (v:=v) S.2 n (pA (a.plus j (Z k) v).K);refine⟨⟨q,v,g,?_⟩,S.2,S.3⟩;rw[kI m]at e;rw[<-e];show Fx.bQ {a with K:=(a.K.set j (Z k)).set j (Z k.jd),bF:=v} _=_;rw[pK]
variable [an] [Payload] {l:av FuncId}
def sJ(B:Int):aShd B (λa f=>f=a):=⟨λh=>by rw[h],λh=>by rw[h],λh _ b=>by rw[h];exact b,λh _=>by rw[h]⟩
def kU{g:Cf}(W:Nat->Int)(w:vb ai l)(m:an.ok 30)(z:sB g.1 g.2 g.3 g.4 g.5 g.6 g.7 g.8 g.9=M):
  dX ai 30 #[.agg (oU g)] u λe r=>∃d A L,e=aG (pt d)/\bz r g d A (new g) (nV W 0) L ⟨ζ aj 0 0,ζ aj 0 0,[],[]⟩/\pB u.1<=d/\(∀b,b<pB u.1->L.13 b=0)/\∀b,b<pB u.1->r.1[b]? =u.1[b]? :=by
 refine dX.lift w m (λe u τ ⟨C,J,L,c,f,j⟩=>⟨C,J,L,c,f.tp τ,j⟩) (λe u ⟨C,J,L,h,_⟩=>⟨_,h⟩) λτ=>?_;refine(K6 g z (u.tp τ)).V ?_;rintro e B ⟨C,J,L,rfl,c,f,j,n,o,q,t⟩;exact⟨C,J,L,rfl,⟨f,c,World.ownsRow_nil _ _ _ _,World.ownsRow_nil _ _ _ _,λi p s k=>(by cases k),λi p s k=>(by cases k),⟨xS,xS⟩,⟨n,λb a=>(by cases a),λb a=>(by cases a)⟩,q,λb x v=>(by cases v)⟩,o,j,λb a=>t.5 b a⟩
def sL{g:Cf}{d A n:Nat}{f:Fx}{W:Nat->Int}{m:Cm}{K:Nat->aV Obj}(J:vb ai l)(t:an.ok 31)(h:f.Host g W n)(v:(n:Int)<g.2)(B:fj u g d A f {nV W n with ks:=K} m) (x:Int) (N:dy x):
  dX ai 31 #[pt d,I x] u λe r=>e=aG (ω M)/\(f.ku n (1+eX x 4)).Host g (LE W n (1+eX x 4)) (n+1)/\∃b,fj r g d A (f.ku n (1+eX x 4)) {nV (LE W n (1+eX x 4)) (n+1)with ks:=K} b:=by
 refine dX.lift J t (λe u τ ⟨a,D,b,E⟩=>⟨a,D,b,E.tp τ⟩) (λe u h=>⟨_,h.1⟩) λτ=>?_;obtain⟨L,T⟩:=B.tp τ;let z:=h.1.1.pu;have c:=h.1.1.g.2;rw[h.2]at c;let j:pA (nV W n).S=n:=by simp
 refine(YU d A g f {nV W n with ks:=K} L m (u.tp τ) T x N Y h.3 n (h.qm v) (λi G=>by rw[h.6 i G];simp) (by grind) (by show(gU (nV W n).S:Int)<g.2;rw[adk];exact v) (by show f.3=(pA (nV W n).S:Int);rw[j];exact h.5) λs k H=>?_).V ?_
 ·have:=(h.1.1.6 s k H).2;omega
 ·rintro e C ⟨rfl,k,⟨o,p,q⟩,w,b,a,_⟩;have a:bz C g d A (f.ku n k) {(⟨(nV W n).S++[⟨k,⟨#[]⟩,aa⟩],[],0,1,0,λ_=>aj⟩:Cw)with ks:=K} w b:=a;rw[Y8]at a;subst q;exact⟨rfl,h.ku v ⟨o,p⟩,b,w,a⟩
def aL.callA{j:FuncId}{a:aF aB}{v:aB}(B:vb ai l)(k:an.ok j)(D:aL u g C J E c d A O p q T)(G:∀(w:aq) (L:cZ),aE w E J L->ax ai j a w λe f=>e=aG v/\∃i,aE f t J i/\bE w L f i):dX ai j a u λe r=>e=aG v/\aL r g C J t c d A O p q T:=by refine dX.lift B k (λe u τ h=>⟨h.1,h.2.tp τ⟩) (λe u h=>⟨_,h.1⟩) λτ=>?_;obtain⟨K,lh,ma,H,V,y,m,n,o,b⟩:=(D.tp τ).open;refine(G _ _ m.1).V ?_;rintro e f ⟨rfl,i,x,z⟩;obtain⟨_,s⟩:=m.go x z;exact⟨rfl,aL.close (N:={c with ks:=K}) y n o b s rfl⟩
def aL.Sr{b:FuncId}{a:aF aB}{v:aB}(k:vb ai l)(f:an.ok b)(D:aL u g C J E c d A O p q T)(m:∀(w:aq) (L:cZ),aE w O A L->ax ai b a w λe i=>e=aG v/\∃j,aE i fb' A j/\bE w L i j):dX ai b a u λe r=>e=aG v/\aL r g C J E c d A fb' p q T:=
 (D.swap.callA k f m).V λe u h=>⟨h.1,h.2.swap⟩
def aL.ku(o:vb ai l)(b:an.ok 31)(h:E.Host g W n)(s:(n:Int)<g.2)(D:aL u g C J E (nV W n) d A O p q T)(x:Int)(t:dy x):
  dX ai 31 #[pt C,I x] u λe r=>e=aG (ω M)/\(E.ku n (1+eX x 4)).Host g (LE W n (1+eX x 4)) (n+1)/\aL r g C J (E.ku n (1+eX x 4)) (nV (LE W n (1+eX x 4)) (n+1)) d A O p q T:=by
 obtain⟨K,lh,ma,H,V,y,c,f,i,a⟩:=D.open;refine(sL o b h s ⟨lh,c⟩ x t).V ?_;rintro e r ⟨j,k,v,w,m⟩;exact⟨j,k,aL.close (N:={nV (LE W n (1+eX x 4)) (n+1)with ks:=K}) y f i a m rfl⟩
def aL.does{t:Nat}{a:Nat->Fx->Cw->Prop}(G:wH l)(S:tI g a)(s:∀t f c ks,a t f c->a t f {c with ks:=ks}) (h:a t E c) (v:t<1073741824) (D:aL u g C J E c d A O p q T) (w:R≠5) (B:R≠6) (L:dy x) (P:dy ys) (Q:dy z):
  iT dR ai 22 #[pt C,.agg (stA R x ys z)] u λe r=>e=aG (ω M)/\∃K f' N,a (t+1) f' N/\aDd g R x ys z E {c with ks:=K} f' N/\aL r g C J f' N d A O p q T:=by
 obtain⟨K,lh,ma,H,V,y,j,k,m,b⟩:=D.open;refine(Tn G S (s _ _ _ _ h) v ⟨lh,j⟩ R x ys z L P Q w B).V ?_;rintro e r ⟨rfl,f',N,n,i,W,X,o,_⟩;exact⟨rfl,_,f',N,n,i,aL.close y k m b o (qh i)⟩
def aL.settle{t:Nat}{R:Fx->Fx->Prop}(B:aShd zf R)(hr:R a0 E)(L:E.Rest)(P:(pA c.S:Int)<=zf)(G:wH l)(Q:an.ok 25/\an.known 25)(S:g.1=4*(n:Int))(W:t<=536870912)(h:cR g n t a0 c)(D:aL u g C J E c d A O p q T):
  iT dR ai 17 #[pt C] u λe r=>e=aG (ω M)/\∃K a a' f' N k,a<=t+296082/\(cR g n a a' N/\R a' f'/\f'.Rest/\aRn a0 {c with ks:=K} k a' N/\¬Sh N)/\aL r g C J f' N d A O p q T:=by
 obtain⟨K,lh,ma,H,V,y,i,j,m,b⟩:=D.open;refine(aqR (c:={c with ks:=K}) B hr L P G Q S W (h.kept _) ⟨lh,i⟩).V ?_;rintro e r ⟨rfl,a,a',f',N,X,k,o,⟨s,v,w,f,x⟩,L',z⟩;exact⟨rfl,_,a,a',f',N,k,o,⟨s,v,w,f,x⟩,aL.close y j m b z (qq f)⟩
def eo.kept{t:Nat}(h:eo B j g n t O c)(ks:Nat->aV Obj):eo B j g n t O {c with ks:=ks}:=by obtain⟨⟨a,b,d⟩,e,f⟩:=h;exact⟨⟨a,b,d.kept ks⟩,e,f⟩
def aL.alike(j:vb ai l)(b:an.ok 40)(D:aL u g C J E c d A O p q T)(k:p.W=c.W)(m:p.3=c.3)(o:O.rh=E.rh)(s:O.B=E.B)(t:E.g.1=pB E.B)(v:O.g.1=pB O.B){B:Nat}{X:Nat->Nat->Nat->av ByteArray}(w:g.1=4*(n:Int))(x:r3 n B c.W E.rh X)(a:dy c.3):
  dX ai 40 #[pt C,pt d] u λe r=>e=aG (ω M):=by
 refine dX.lift j b (λe u τ h=>h) (λe u h=>⟨_,h⟩) λτ=>?_;obtain⟨lh,ma,H,V,f,i,_⟩:=D.tp τ;exact pZ C J d A g E O c.bare p.bare lh H ma V _ f i k m o s t v n B X w x a
variable {al ab:aV Addr} {X ch S c9:Nat} {ns:ByteArray} {wn:Int}
section
variable {P:Program} {Q:Exit->Act->aq->Prop} {a:Act} {K:aF Oper} {i n:Nat} {rest:av Nat} {Lf:FuncId->av Nat} {f0:FuncId} {L:av (Nat×aB)} {ty:TypeId} {ps:String} {af:aF Edge} {gd:aV (Nat×Bool)}
def FE.sa{t e f b:Nat}{x d:aF aB}{T:TypeId}(E:Fa n a L)(B:u.1[b]? =Z (au x T (0,0)))(c:∀g:aq,g.1[b]? =Z (au d T (0,0))->(∀b',b'≠b->g.1[b']? =u.1[b']?)->pB g.1=pB u.1->FO Lf f0 P K Q rest a g)(m:K[i]? =Z ⟨aj,.store t (.tmp e) (.tmp f),ty,ps,af,gd⟩:=by rfl) (o:lk L e=Z (π (Z (F b 0))):=by rfl) (p:lk L f=Z (.agg d):=by rfl) (q:pB x=pB d:=by rfl) (r:(P.info? t).map (·.size)=Z d.size:=by kernel_rfl) (s:d.all (·.oneCell')=M:=by simp[Value.oneCell']) (v:(iu K L gd&&iH K n gd)=M:=by rfl) (w:mE (Lf f0) 1 0 L (.store t (.tmp e) (.tmp f))=M:=by rfl) (z:vb P l:=by assumption):FO Lf f0 P K Q (i::rest) a u:=by
 let j:gS L (.tmp e)=π (Z (F b 0)):=by show(lk L e).getD undef=_;grind
 let k:gS L (.tmp f)=.agg d:=by show(lk L f).getD undef=_;grind
 refine vo E (u.setRow b d) (c _ (setRow_heap u b x d T _ B) (λb' h=>setRow_other u b b' d h) (setRow_size ..)) m v rfl w (λτ=>?_) z;have:=run_storeVar_row (P:=P) (u.tp τ) b T t x d B r q s;rw[execOp];simp[j,k,Instr.storeAt,Instr.sureAddr,Sem.run_bind,Sem.run_pure,Result.andThen,this];rfl
def FE.cstA{t d b j:Nat}{x:aF aB}{T:TypeId}{v v0:aB}(E:Fa n a L)(B:u.1[b]? =Z (au x T (0,0)))(c:∀f:aq,f.1[b]? =Z (au (x.setIfInBounds j v) T (0,0))->FO Lf f0 P K Q rest a f)(k:K[i]? =Z ⟨aj,.store t (.tmp d) (.const v),ty,ps,af,gd⟩:=by rfl) (r:lk L d=Z (π (Z (F b j))):=by rfl) (m:x[j]? =Z v0:=by rfl) (o:(iu K L gd&&iH K n gd)=M:=by rfl) (e:yn P l (.store t (.tmp d) (.const v))=M:=by kernel_rfl) (p:mE (Lf f0) 1 0 L (.store t (.tmp d) (.const v))=M:=by rfl)
  (hr:∀w:aq,w.cell? (F b j)=Z v0->w.frozen? (F b j)=aa->(execOp (gS L) ⟨aj,.store t (.tmp d) (.const v),ty,ps,af,gd⟩).run P w=.ok .skip (w.setCell (F b j) v):=by(intro w g h;go_simp)) (q:vb P l:=by assumption):FO Lf f0 P K Q (i::rest) a u:=by
 refine vo E (u.setCell (F b j) v) (c _ (bG B j v)) k o e p (λτ=>?_) q;rw[hr _ (aD (show(u.tp τ).1[b]? =_ from B) m) (bp (show(u.tp τ).1[b]? =_ from B) j)];exact cG _ (IU _ _ _ _)
end
abbrev cy(al ab:aV Addr)(X ch S c9:Nat)(ns:ByteArray)(wn:Int)(r:av (Nat×aB)):av (Nat×aB):=(0,ζ al X ch)::(1,ζ ab S c9)::(2,.string ns)::(3,I wn)::r
def hU(al ab:aV Addr)(X ch S c9:Nat)(ns:ByteArray)(wn:Int)(g:Cf)(C J d A q:Nat)(a:Act)(u:aq):Prop:=∃(i:Nat) (f:Fx) (W:Nat->Int),Fa 158 a (cy al ab X ch S c9 ns wn [(9,pt q),(10,pt C),(11,pt d),(12,I (i:Int))])/\(i<=3/\(i:Int)+1<=g.2)/\f.Host g W i/\aL u g C J f (nV W i) d A f (nV W i) q (au (oU g) 35 (0,0))
def tV{x:Nat->Int}(G:wH l)(h:X<=maxLen)(j:aRZ x al X)(z:g.Is){Q:Exit->Act->aq->Prop}{a:Act}(B:∀a u,hU al ab X ch S c9 ns wn g C J d A q a u->Q .normal a u)(s:hU al ab X ch S c9 ns wn g C J d A q a u):
  FX dR 11 ai (dg (kv (dg (dg (dg (dg (dg (dg (nS Tryz.f11))))))))) Q a u:=by
 let r:=G.x.1;let t:=z.2;refine bk 0 (lp (hU al ab X ch S c9 ns wn g C J d A q) (λa _=>yb 3 12 a) s ?_);clear s;rintro a u ⟨i,f,W,E,⟨w,c⟩,m,D⟩;let k:=tP (n:=3) (E.3 12 _ rfl);let b:∀a u,Fa 158 a (cy al ab X ch S c9 ns wn [(9,pt q),(10,pt C),(11,pt d),(12,I (i:Int))])->aL u g C J f (nV W i) d A f (nV W i) q (au (oU g) 35 (0,0))->Q .normal a u:=λa u E D=>B a u ⟨i,f,W,E,⟨w,c⟩,m,D⟩;refine sq (sq (reg [0,1,2,3,4,5,6,7,8] ?_));refine ow E λa _ E=>?_;refine ar E λa _ E=>?_;refine ow E λa _ E=>?_;refine FE.lc E D.at λa _ E=>?_
 by_cases H:(i:Int)+1<g.2
 ·refine ow (v:=ω M) E λa _ E=>?_
  iterate 2 refine ow E λa _ E=>?_
  by_cases K:(i:Int)<3
  ·refine ow (v:=ω M) E λa _ E=>?_;refine ow E λa _ E=>cc ?_;refine cT E (sk ?_)
   replace E:Fa 158 a (cy al ab X ch S c9 ns wn [(9,pt q),(10,pt C),(11,pt d),(12,I (i:Int))]):=E.to
   refine sq (bk 1 (sq (reg [0,1,2,3,4,5,6] ?_)));refine ow E λa _ E=>?_;refine bl E λa _ E=>?_;refine ow E λa _ E=>?_;refine ar E λa _ E=>?_;refine FE.rz G.k h j E λa p _ E=>?_;refine cx E (G.o _ aM).2 ((D.ku r (G.o _ aM).1 m Y _ p).V ?_);rintro e u ⟨rfl,o,D⟩;refine⟨_,rfl,λa _ E=>?_⟩;refine ow E λa _ E=>cc ?_;refine sq (reg [0,1,2,3,4,5,6] ?_);refine ow E λa _ E=>?_;refine bl E λa _ E=>?_;refine ow E λa _ E=>?_;refine ar E λa _ E=>?_;refine FE.rz G.k h j E λa p _ E=>?_;refine cx E (G.o _ aM).2 ((D.swap.ku r (G.o _ aM).1 m Y _ p).V ?_);rintro e u ⟨rfl,_,D⟩;refine⟨_,rfl,λa _ E=>?_⟩;refine ow E λa _ E=>cc ?_;refine sq (reg [0,1,2,3,4,5] ?_)
   iterate 1 refine ow E λa _ E=>?_
   refine ow (v:=ω aa) E λa _ E=>?_
   iterate 2 refine ow E λa _ E=>?_
   refine ow (v:=ω aa) E λa _ E=>?_;refine ow E λa _ E=>cc ?_;refine cF E (sk ?_)
   replace E:Fa 158 a (cy al ab X ch S c9 ns wn [(9,pt q),(10,pt C),(11,pt d),(12,I (i:Int))]):=E.to
   refine reg [0,1,2] ?_;refine ow E λa _ E=>?_;refine ar E λa _ E=>?_;refine ow E λa _ E=>cc ?_;rw[show(i:Int)+1=((i+1:Nat):Int) by simp]at E;refine⟨⟨i+1,_,_,E.to,⟨by omega,by omega⟩,o,D.swap⟩,?_⟩;rw[k,tP (n:=3) (E.3 12 _ rfl)];omega
  ·refine ow (v:=ω aa) E λa _ E=>?_;refine ow E λa _ E=>cc ?_;exact cF E (ex 0 (b a u E.to D))
 ·refine ow (v:=ω aa) E λa _ E=>?_;refine ow E λa _ E=>?_;refine FE.gh E λa _ E=>?_;refine FE.gh E λa _ E=>?_;refine ow E λa _ E=>cc ?_;exact cF E (ex 0 (b a u E.to D))
structure dH(B:Int)(j:Nat)(g:Cf)(n t:Nat)(f b:Fx)(c:Cw):Prop where
 one:cR g n t f c
 tT:eo B j g n t b c
 ag:bw B j f b
 st:f.Stays
def dH.deed{t:Nat}{K a:Nat->aV Obj}(h:dH B j g n t f b c)(d:cR g n (t+1) f' N)(D:aDd g R x ys z f {c with ks:=K} f' N) (e:eo B j g n (t+1) b' c2) (i:aDd g R x ys z b {c with ks:=a} b' c2):dH B j g n (t+1) f' b' N/\c2={N with ks:=a}:=by obtain⟨ab,G⟩:=oh (c:={c with ks:=K}) h.3 (Int.le_of_eq h.2.3) h.1.1.1.wo D i;subst G;exact⟨⟨d,e.kept N.6,ab,rA D h.4⟩,rfl⟩
def dH.oX{t:Nat}(u:g.Is)(v:g.1=4*(n:Int))(h:dH B j g n t f b c):b.nobody B\/∃k,b.Is B j k/\(b.at j k.jd).sn/\dH B j g n t f (b.oX j k) c:=by
 let d:f.nobody B:=λs k i e=>by let p:=(h.1.1.1.2.1.6 s k i).2;let q:=h.1.1.1.5;let r:=h.2.3;omega
 obtain e|⟨k,l,m,a,o⟩:=sH h.3 h.4 d h.2.2
 ·grind
 ·exact az ⟨k,l,m,⟨h.1,⟨⟨f,a,h.1⟩,o,h.2.3⟩,a,h.4⟩⟩
def eE(al ab:aV Addr)(X ch S c9:Nat)(ns:ByteArray)(wn:Int)(g:Cf)(C J d A q:Nat)(T:Obj)(n j:Nat)(B:Int)(r:av (Nat×aB))(i t:Nat)(a:Act)(u:aq):Prop:=∃(f b:Fx) (c:Cw),Fa 158 a (cy al ab X ch S c9 ns wn ((10,pt C)::(11,pt d)::(15,I B)::(18,I (i:Int))::r))/\dH B j g n t f b c/\aL u g C J f c d A b c q T
def tY(G:wH l)(kf:an.known 22)(og:an.ok 39/\an.known 39)(hI:g.Is)(hn:g.1=4*(n:Int))(hst:wN ab S)(hn1:S<=1048576)(hw:dy wn){Q:Exit->Act->aq->Prop}{a:Act}(hQ:∀a u,(∃i t,i<=S/\t<=i/\eE al ab X ch S c9 ns wn g C J d A q T n j B [] i t a u)->Q .normal a u)(h0:∃i t,i<=S/\t<=i/\eE al ab X ch S c9 ns wn g C J d A q T n j B [] i t a u):
  FX dR 11 ai (dg (kv (dg (dg (dg (dg (dg (dg (dg (dg (dg (dg (dg (nS Tryz.f11)))))))))))))) Q a u:=by
 let hT:=G.x.1;refine bk 2 (lp (λa u=>∃i t,i<=S/\t<=i/\eE al ab X ch S c9 ns wn g C J d A q T n j B [] i t a u) (λa _=>yb S 18 a) h0 ?_);clear h0;rintro a u ⟨i,t,hi,ht,f,b,c,E,o,D⟩;let hl0:=tP (n:=S) (E.3 18 _ rfl);let O:∀a u,eE al ab X ch S c9 ns wn g C J d A q T n j B [] i t a u->Q .normal a u:=λa u h=>hQ a u ⟨i,t,hi,ht,h⟩;refine sq (sq (reg [0,1,2,3] ?_));refine ow E λa _ E=>?_;refine bl E λa _ E=>?_;refine ln E λa _ E=>?_
 by_cases P:i<S
 ·let hh:(i:Int)<(S:Int):=by omega
  refine ow (v:=ω M) E λa _ E=>cc ?_;refine cT E (sk ?_)
  replace E:Fa 158 a (cy al ab X ch S c9 ns wn ((10,pt C)::(11,pt d)::(15,I B)::(18,I (i:Int))::[])):=E.to
  obtain⟨p,tq,ob2,tz,rfl,x,htz⟩:=hst.resolve_left Y;let s:0<=(i:Int)/\(i:Int)<(S:Int):=by omega
  let r:=htz i P;refine sj (λa u=>∃t',t'<=i+1/\eE al (Z (F p tq)) X ch S c9 ns wn g C J d A q T n j B [] i t' a u) (bk 3 ?_) ?_
  ·refine sq (sq (reg [0,1,2,3,4,5,6,7,8,9,10,11,12,13] ?_));refine bl E λa _ E=>?_;refine ow E λa _ E=>?_;refine bl (v:=π (Z (F p (tq+i*4)))) E (hr:=λw=>by go_simp) (he:=λw=>Dm (m:=S) (c0:=c9) (ad:=(F p tq)) (j:=i) w rfl rfl aW s) λa _ E=>?_;refine bl E λa _ E=>?_;refine FE.p1 (G:=tq+i*4) x E (r 0 aM).2 λa _ E=>?_;obtain⟨R,z⟩:∃R,R=tz i 0:=⟨_,rfl⟩;rw[<-z]at E;have H:=Dv z;clear z
   by_cases W:R=6
   ·subst W;refine ow (v:=ω M) E λa _ E=>?_;refine ow E λa _ E=>?_
    iterate 6 refine FE.gh E λa _ E=>?_
    refine ow E λa _ E=>cc ?_;exact cT E (ex 3 ⟨t,by omega,f,b,c,E.to,o,D⟩)
   have b6:(R==6)=aa:=by simpa using W
   refine ow (v:=ω aa) E λa _ E=>?_;refine ow E λa _ E=>?_;refine bl E λa _ E=>?_;refine ow E λa _ E=>?_;refine bl (v:=π (Z (F p (tq+i*4)))) E (hr:=λw=>by go_simp) (he:=λw=>Dm (m:=S) (c0:=c9) (ad:=(F p tq)) (j:=i) w rfl rfl aW s) λa _ E=>?_;refine bl E λa _ E=>?_;refine FE.p1 (G:=tq+i*4) x E (r 0 aM).2 λa _ E=>?_;rw[<-H.H]at E
   by_cases k5:R=5
   ·subst k5;refine ow (v:=ω M) E λa _ E=>?_;refine ow E λa _ E=>cc ?_;exact cT E (ex 3 ⟨t,by omega,f,b,c,E.to,o,D⟩)
   have b5:(R==5)=aa:=by simpa using k5
   refine ow (v:=ω aa) E λa _ E=>?_;refine ow E λa _ E=>cc ?_;refine cF E (sk ?_)
   replace E:Fa 158 a (cy al (Z (F p tq)) X ch S c9 ns wn ((10,pt C)::(11,pt d)::(15,I B)::(18,I (i:Int))::[])):=E.to
   rw[H.H]at k5 W;clear b5 b6;refine sj (eE al (Z (F p tq)) X ch S c9 ns wn g C J d A q T n j B [] i t) ?_ ?_
   ·refine sq (reg [0,1,2,3] ?_)
    iterate 2 refine ow E λa _ E=>?_
    refine pkz G.k hw E λa _ E=>?_
    by_cases e:(i:Int)=eX wn 40
    ·have b0:((i:Int)==eX wn 40)=M:=by simpa using e
     refine ow (v:=ω M) E λa _ E=>cc ?_;obtain⟨V,bd⟩:=D.swap.crA;have hCb:=bd.at;refine cT E (reg [0,1,2,3,4,5] ?_)
     iterate 3 refine ow E λa _ E=>?_
     refine FE.lc (v:=pt A) E hCb λa _ E=>?_;refine ow E λa _ E=>?_;have hsm:=o.2.2.1.pu;rcases o.oX hI hn with e0|⟨k,e1,e2,e3⟩
     ·refine cx E og.2 ((D.Sr (fb':=b) (v:=I 2) hT og.1 λw L h=>(lE w b A L h Y B e0).V λe w' ⟨h1,h2,h3⟩=>⟨h1,L,h2,h3⟩).V ?_);rintro e u ⟨rfl,D⟩;exact⟨_,rfl,λa _ E=>cc ⟨f,b,c,E.to,o,D⟩⟩
     ·refine cx E og.2 ((D.Sr (fb':=b.oX j k) (v:=I 0) hT og.1 λw L h=>lD w b A L h Y B j k e1 e2).V ?_);rintro e u ⟨rfl,D⟩;exact⟨_,rfl,λa _ E=>cc ⟨f,_,c,E.to,e3,D⟩⟩
    ·have b0:((i:Int)==eX wn 40)=aa:=by simpa using e
     refine ow (v:=ω aa) E λa _ E=>cc ?_;exact cF E (sk ⟨f,b,c,E.to,o,D⟩)
   clear E o D f b c u;rintro a u ⟨f,b,c,E,o,D⟩;refine sq (reg [0,1,2,3,4,5,6] ?_);refine ow E λa _ E=>?_;refine bl E λa _ E=>?_;refine ow E λa _ E=>?_;refine bl (v:=π (Z (F p (tq+i*4)))) E (hr:=λw=>by go_simp) (he:=λw=>Dm (m:=S) (c0:=c9) (ad:=(F p tq)) (j:=i) w rfl rfl aW s) λa _ E=>?_;refine stp (tq:=tq+i*4) (tz:=tz i) x r E λa E=>?_;refine cp (v0:=pt C) (k0:=10) E Tryz.func22 kf Xs (λρ N=>Tl C _ _ _ _ ρ N) ((D.does G (N4 hI hn) (λt f c ks h=>h.kept ks) o.1 Y k5 W (r 1 aM).1 (r 2 aM).1 (r 3 aM).1).V ?_);rintro e u ⟨rfl,K,f2,c2,hf2,D1,D⟩;refine⟨_,rfl,λa _ E=>?_⟩;refine ow E λa _ E=>cc ?_
   replace E:Fa 158 a (cy al (Z (F p tq)) X ch S c9 ns wn ((10,pt C)::(11,pt d)::(15,I B)::(18,I (i:Int))::(19,ω M)::[])):=E.to
   refine sq (reg [0,1,2,3,4,5,6] ?_);refine ow E λa _ E=>?_;refine bl E λa _ E=>?_;refine ow E λa _ E=>?_;refine bl (v:=π (Z (F p (tq+i*4)))) E (hr:=λw=>by go_simp) (he:=λw=>Dm (m:=S) (c0:=c9) (ad:=(F p tq)) (j:=i) w rfl rfl aW s) λa _ E=>?_;refine stp (tq:=tq+i*4) (tz:=tz i) x r E λa E=>?_;refine cp (v0:=pt d) (k0:=11) E Tryz.func22 kf Xs (λρ N=>Tl d _ _ _ _ ρ N) ((D.swap.does G (ox hI hn B j) (λt f c ks h=>h.kept ks) o.2 Y k5 W (r 1 aM).1 (r 2 aM).1 (r 3 aM).1).V ?_);rintro e u ⟨rfl,ki,b2,c3,hb2,df,D⟩;refine⟨_,rfl,λa _ E=>?_⟩;refine ow E λa _ E=>cc ?_;obtain⟨hB2,rfl⟩:=o.deed hf2 D1 hb2 df;refine sq (reg [0,1,2,3,4,5] ?_)
   iterate 1 refine ow E λa _ E=>?_
   refine ow (v:=ω aa) E λa _ E=>?_
   iterate 2 refine ow E λa _ E=>?_
   refine ow (v:=ω aa) E λa _ E=>?_;refine ow E λa _ E=>cc ?_;exact cF E (sk ⟨t+1,by omega,f2,b2,c2,E.to,hB2,D.swap⟩)
  ·clear E o D f b c u;rintro a u ⟨t2,ht2,f,b,c,E,o,D⟩;refine reg [0,1,2] ?_;refine ow E λa _ E=>?_;refine ar E λa _ E=>?_;refine ow E λa _ E=>cc ?_;rw[show(i:Int)+1=((i+1:Nat):Int) by simp]at E;refine⟨⟨i+1,t2,P,ht2,f,b,c,E.to,o,D⟩,?_⟩;rw[hl0,tP (n:=S) (E.3 18 _ rfl)];omega
 ·have hh:¬(i:Int)<(S:Int):=by omega
  refine ow (v:=ω aa) E λa _ E=>cc ?_;exact cF E (ex 2 (O a u ⟨f,b,c,E.to,o,D⟩))
def uo{g:Cf}(h:sB g.1 g.2 g.3 g.4 g.5 g.6 g.7 g.8 g.9=M):sB g.1 2 g.3 g.4 g.5 g.6 g.7 g.8 g.9=M:=by unfold sB Hm at h⊢;rw[cQ]at h⊢;refine⟨h.1,?_⟩;have a:=h.2;rw[cQ]at a⊢;exact⟨by decide,a.2⟩
def aL.rubbish{g:Cf}{C J d A q:Nat}{T:Obj}{E O:Fx}{c p:Cw}(j:vb ai l)(f:an.ok 38)(D:aL u g C J E c d A O p q T)(s:ByteArray)(k:pC s<=9223372036854775807):
  dX ai 38 #[.string s] u λe r=>∃t:ByteArray,e=aG (.string t)/\(cq t/\pC t<=200)/\aL r g C J E c d A O p q T:=by
 refine dX.lift j f (λe u τ ⟨t,a,b,i⟩=>⟨t,a,b,i.tp τ⟩) (λe u ⟨t,h,_⟩=>⟨_,h⟩) λτ=>?_;refine(uW s (u.tp τ) k).V ?_;rintro e m ⟨t,a,b,rfl⟩;exact⟨t,a,b,D.tp τ⟩
def uS{al ab:aV Addr}{X ch S c9:Nat}{ns:ByteArray}{wn:Int}(G:wH l)(kf:an.known 22)(kh:an.known 17)(o:∀f,f∈[36,37,38,39,40,25]->an.ok f/\an.known f)(hll:X<=maxLen)(hl:Af al X)(hst:wN ab S)(hn1:S<=1048576)(hw:dy wn)(hns:pC ns<=9223372036854775807):
  iT dR ai 11 #[ζ al X ch,ζ ab S c9,.string ns,I wn] u λe r=>e=aG (ω M):=by
 have Q:=G.x.1;have⟨rb,hrz⟩:=hl;have O:=o 36 aM;have oS:=o 37 aM;have oR:=o 38 aM;have og:=o 39 aM;have od:=o 40 aM;have oB:=o 25 aM;clear o;refine iT.AU 158 Tryz.func11 λa E=>?_;refine sq (reg [0] ?_);refine ow E λa _ E=>cc ?_;refine sq (reg [0,1,2,3] ?_);refine bl E λa _ E=>?_;refine FE.cf E Tryz.func28 G.k.4 agi (V7 al X ch) ((V8 G.k al X ch hll hl).V ?_);rintro e u2 ⟨ge,rfl,hg0⟩;refine⟨_,rfl,λa _ E=>?_⟩;refine nw (v:=pt u2.1.size) E (u2.alloc (au #[I 0,I 0,I 0,I 0,I 0,I 0,I 0,I 0,I 0] 35)) (hr:=λτ=>by go_simp;rfl) λa _ E=>?_;have p:=heap_alloc_new u2 (au #[I 0,I 0,I 0,I 0,I 0,I 0,I 0,I 0,I 0] 35);generalize u2.alloc (au #[I 0,I 0,I 0,I 0,I 0,I 0,I 0,I 0,I 0] 35)=u3 at*;generalize pB u2.1=q at*;refine FE.sa E p (λu4 p _ _=>cc ?_)
 replace E:Fa 158 a (cy al ab X ch S c9 ns wn [(9,pt q)]):=E.to
 refine sj (λa u=>∃g:Cf,Fa 158 a (cy al ab X ch S c9 ns wn [(9,pt q)])/\sB g.1 g.2 g.3 g.4 g.5 g.6 g.7 g.8 g.9=M/\2<=g.2/\u.1[q]? =Z (au (oU g) 35 (0,0))) ?_ ?_
 ·refine sq (reg [0,1,2] ?_);refine ow E λa _ E=>?_;refine FE.lc E p λa _ E=>?_
  by_cases h2:ge.2<2
  ·refine ow (v:=ω M) E λa _ E=>cc ?_;refine cT E (reg [0,1] ?_);refine ow E λa _ E=>?_;refine FE.cstA E p λuc p=>cc ?_;exact⟨{ge with cl:=2},E.to,by have:=uo (g:=ge) hg0;exact this,fI _,p⟩
  ·refine ow (v:=ω aa) E λa _ E=>cc ?_;exact cF E (sk ⟨ge,E.to,hg0,by omega,p⟩)
 clear p E hg0;rintro a u ⟨g,E,hg,h2,p⟩;have hI:=Cf.Is.WI hg;refine sq (reg [0,1,2] ?_);refine lcf Q E p λa _ E=>?_;refine cx E (G.o _ aM).2 ((kU (λ_=>0) Q (G.o _ aM).1 hg).V ?_);rintro e uc ⟨C,J,lh,rfl,tk,ha1,ha2,ha3⟩;refine⟨_,rfl,λa _ E=>?_⟩;refine ow E λa _ E=>cc ?_;have hql:=(bf.1 p).1;have hqa:=tk.newFoot ha1 ha2 hql
 replace p:=(ha3 q hql).E p
 refine sq (reg [0,1,2] ?_);refine lcf Q E p λa _ E=>?_;refine cx E (G.o _ aM).2 ((kU (λ_=>0) Q (G.o _ aM).1 hg).V ?_);rintro e un ⟨d,A,H,rfl,tc,hb1,hb2,hb3⟩;refine⟨_,rfl,λa _ E=>?_⟩;refine ow E λa _ E=>cc ?_;have D:=aL.first tk p hqa tc hb1 hb2 hb3
 clear tk tc ha1 ha2 ha3 hb1 hb2 hb3 p hqa hql;refine sq (sq (reg [0,1,2,3,4,5] ?_))
 iterate 1 refine ow E λa _ E=>?_
 refine ow (v:=ω aa) E λa _ E=>?_
 iterate 2 refine ow E λa _ E=>?_
 refine ow (v:=ω aa) E λa _ E=>?_;refine ow E λa _ E=>cc ?_;refine cF E (sk ?_);refine sq (sq (reg [0] ?_));refine ow E λa _ E=>cc ?_
 replace E:Fa 158 a (cy al ab X ch S c9 ns wn [(9,pt q),(10,pt C),(11,pt d),(12,I 0)]):=E.to
 refine tV (g:=g) (J:=J) (A:=A) G hll hrz hI (λa u hJ=>?_) ⟨0,_,_,E,⟨by omega,by omega⟩,Host.new hI _,D⟩;clear E D;obtain⟨N,f,W,E,⟨hN3,hN⟩,P,D⟩:=hJ;obtain⟨V,T⟩:=D.swap.crA;have s:=T.at;have hsm:=P.1.1.pu;have hcm:=P.5;refine sq (reg [0,1,2,3,4,5,6,7,8,9] ?_)
 iterate 3 refine ow E λa _ E=>?_
 refine FE.lc (v:=pt A) E s λa _ E=>?_;refine cx E O.2 ((D.Sr (fb':=f.jV N 1) (v:=.tuple #[I (N:Int),I 0]) Q O.1 λw L h=>by rw[<-hcm];exact abv w f A L h Y P.3 1 aM N (P.qm Y) (λi hi=>by rw[P.6 i hi];simp) ⟨by omega,by omega⟩).V ?_);clear D T s V;rintro e u ⟨rfl,D⟩;refine⟨_,rfl,λa _ E=>?_⟩;refine ow E λa _ E=>?_;refine ow (v:=I (N:Int)) E λa _ E=>?_;refine ow (v:=I 0) E λa _ E=>?_;refine ow E λa _ E=>?_;refine ow E λa _ E=>cc ?_
 replace E:Fa 158 a (cy al ab X ch S c9 ns wn [(10,pt C),(11,pt d),(15,I (N:Int)),(16,I 0)]):=E.to
 obtain⟨⟨lv,wv,ps,qs⟩,T⟩:=D.swap.crA;have s:=T.at;obtain⟨la,lc,z⟩:=T.form;rw[show(nV W N).bare.S.length=N by simp]at z;have z:lv=ζ la N lc:=z;subst z;refine sq (sq (reg [0,1,2,3,4,5,6,7,8,9,10] ?_));refine ow E λa _ E=>?_;refine ow (v:=ω aa) E λa _ E=>?_
 iterate 5 refine ow E λa _ E=>?_
 refine FE.lc (v:=ζ la N lc) E s λa _ E=>?_;refine ln E λa _ E=>?_;refine ow (v:=ω aa) E λa _ E=>?_;refine ow E λa _ E=>cc ?_;refine cF E (sk ?_);clear T s
 replace E:Fa 158 a (cy al ab X ch S c9 ns wn [(10,pt C),(11,pt d),(15,I (N:Int))]):=E.to
 refine sq (dm 9 7 9 (λj v _=>match j with|0=>v=pt d|1=>v=pt d|2=>v=π (Z (F d 9))|3=>v=pt A|4=>v=I (N:Int)|5=>v=.string ns|6=>∃t:ByteArray,v=.string t/\(cq t/\pC t<=200)|_=>True) (λu=>aL u g C J f (nV W N) d A (f.jV N 1) (nV W N) q (au (oU g) 35 (0,0))) (λ_ _=>True) (λ_ _ _ _ _ h=>h) E (D.same rfl) (λu D x hx a is E hj hc=>?_) (λu D a E hv=>?_) (λh=>by omega))
 ·obtain⟨V,T⟩:=D.swap.crA;have s:=T.at
  match x,hx with
  |0,_=>exact ow E λa' N _=>hc a' _ u rfl D trivial N
  |1,_=>exact ow (E.dd (hj 0 rfl)) λa' N _=>hc a' _ u rfl D trivial N
  |2,_=>exact ow (E.dd (hj 1 rfl)) λa' N _=>hc a' _ u rfl D trivial N
  |3,_=>exact FE.lc (v:=pt A) (E.dd (hj 2 rfl)) s λa' N _=>hc a' _ u rfl D trivial N
  |4,_=>exact ow E λa' N _=>hc a' _ u rfl D trivial N
  |5,_=>exact ow E λa' N _=>hc a' _ u rfl D trivial N
  |6,_=>
   refine cx (E.dd (hj 5 rfl)) oR.2 ((D.rubbish Q oR.1 ns hns).V ?_);rintro e u2 ⟨t,rfl,ht,D⟩;exact⟨_,rfl,λa' N _=>hc a' _ u2 ⟨t,rfl,ht⟩ D trivial N⟩
  |m+7,hm=>omega
 obtain⟨t,e6,ht⟩:=hv 6 rfl
 replace E:=((E.dd (hv 3 rfl)).dd (hv 4 rfl)).dd e6
 obtain⟨q1,q2,q3,q4⟩:=sG P Y ht
 refine eP.one (j:=7) aW λis hK=>cx E oS.2 ((D.Sr (fb':=((f.jV N 1).sp N (Ck.fresh f.3 1 f.g.7) t).1) (v:=I 0) Q oS.1 λw L h=>by have h1:=Uq w _ A L h (by show(f.K.set _ _).length<=_;rw[jB];omega) N t N _ q1 (by show(⟨#[]⟩:ByteArray).size<=1024;decide);rw[q2]at h1;exact h1).V ?_)
 rintro e u ⟨rfl,D⟩;refine⟨_,rfl,λa _ E=>hK a u (eP.one (j:=8) aW λis hK=>ow E λa _ E=>hK a u (eP.none aW ?_))⟩;clear hK hv;refine sq (sq (reg [0,1] ?_));refine ow E λa _ E=>?_;refine ow (v:=ω aa) E λa _ E=>cc ?_;refine cF E (sk ?_);refine sq (sq (reg [0] ?_));refine ow E λa _ E=>cc ?_
 replace E:Fa 158 a (cy al ab X ch S c9 ns wn ((10,pt C)::(11,pt d)::(15,I (N:Int))::(18,I ((0:Nat):Int))::[])):=E.to
 have hsz:=hI.1;obtain⟨n,hn⟩:∃n:Nat,g.1=4*(n:Int):=⟨pD (g.1 / 4),by omega⟩;have hV:=P.cru hI hn Y;refine tY (g:=g) (J:=J) (A:=A) (n:=n) (j:=N) (B:=(N:Int)) G kf og hI hn hst hn1 hw (λa u hJ=>?_) ⟨0,0,cO _,aR _,f,_,_,E,⟨hV,⟨⟨f,q3,hV⟩,q4,by simp⟩,q3,sv P⟩,D⟩;clear E D hV P q1 q2 q3 q4;obtain⟨i,t,hi,ht,f,b,c,E,hB,D⟩:=hJ;refine sq (reg [0,1,2] ?_);refine ow E λa _ E=>?_;refine cp (v0:=pt C) (k0:=10) E Tryz.func17 kh aqx (λρ hρ=>aqv C ρ hρ) ((D.settle (sJ (N:Int)) rfl hB.1.1.1.2 (Int.le_of_eq hB.2.3) G oB hn Y hB.1).V ?_);rintro e u ⟨rfl,K,t2,f2,f2',c2,k,ht2,⟨hV2,rfl,_,hR2,hO2⟩,D⟩;refine⟨_,rfl,λa _ E=>?_⟩;refine ow E λa _ E=>cc ?_;refine sq (reg [0,1,2] ?_);refine ow E λa _ E=>?_;refine cp (v0:=pt d) (k0:=11) E Tryz.func17 kh aqx (λρ hρ=>aqv d ρ hρ) ((D.swap.settle (oD (N:Int) N) hB.3 hB.2.2 (Int.le_of_eq hB.2.3) G oB hn Y hB.1).V ?_);rintro e u ⟨rfl,ki,t3,f3,b3,c3,k3,ht3,⟨_,hS3,hr3,hR3,hO3⟩,D⟩;refine⟨_,rfl,λa _ E=>?_⟩;refine ow E λa _ E=>cc ?_;obtain⟨rfl,rfl⟩:=oY (c:={c with ks:=K}) hR2 hO2 hR3 hO3;obtain⟨e1,_,_,_,e2,e3⟩:=hS3.same
 replace E:Fa 158 a (cy al ab X ch S c9 ns wn ((10,pt C)::(11,pt d)::(21,ω M)::(22,ω M)::[])):=E.to
 obtain⟨R,_⟩:=hV2.1.row hn Y;have hfw:=hV2.1.1.6;refine sq (reg [0,1,2,3,4,5,6,7,8,9] ?_)
 iterate 7 refine ow E λa _ E=>?_
 refine cx E od.2 ((D.swap.alike Q od.1 rfl rfl e2 e3 hV2.1.1.2.1.B.y hr3.1.B.y hn R ⟨by omega,by omega⟩).V ?_);rintro e u rfl;refine⟨_,rfl,λa _ E=>?_⟩
 iterate 1 refine ow E λa _ E=>?_
 refine ow E λa _ E=>cc ?_;refine FX.rt ⟨rfl,E.2,ω M,?_,rfl⟩;have h2:=ev (E.3 8 _ rfl);simp[results,Tryz.results11,go_sem,h2]
end Go.Proofs.YtpobhljcainmdaaGreat
