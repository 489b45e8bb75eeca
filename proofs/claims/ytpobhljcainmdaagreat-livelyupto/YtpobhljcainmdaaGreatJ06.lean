/- For every list of raw numbers and three scripts of steps of bulk at most 1048576, Lively answers true and leaves them as they were: whatever the others do, who keeps its place is answered within the number of ticks that the document gives. -/
import Derived.ChangeOld
import Derived.ChangeSlices
import Derived.Deep.Slices
import Derived.OpenShut
import Derived.ProofKit
import Derived.Test.YtpobhljcainmdaaGreatJ05
set_option maxRecDepth 100000
set_option maxHeartbeats 8000000
set_option linter.all false
namespace Go.Proofs.YtpobhljcainmdaaGreat
open Go renaming trodAll_cons_mk->Ld,World->aq,Value->aB,FuncId->aZ
open Go.DataW renaming trod_lt->JL,trod->EN
open _root_.Classical renaming choose_spec->ZA,choose->Zz
open Go.World renaming cell?_of_block->iO
open Go.Value renaming oneCell'->zS,cells->zR
open Go.ConcR renaming Payload->oM
open Go renaming undef->y
open Go.Ending renaming returned->aG
open Go.Obj renaming cells->au
open _root_.Bool renaming false->aa,true->M
open _root_.Option renaming none->aj,some->Z
open _root_.Or renaming inl->aA,inr->az
attribute [local go_sem ↓] Go.wp_at_zero Go.wp_at_succ
open Go.Conc Go.RowKit
open Go.Proofs.Tryz
section
attribute [local go_sem] cz cE Dj Dl vB
open Go.ConcR (Payload)
def K4{W:av Wi}{j r}(h:W[j]? =Z r):Uo (W.take<|j+1)=Uo (W.take j)+if r.u=0/\r.bk= -1 then 1 else 0:=by
 unfold Uo;rw[rQ,h,zF,fQ]
 congr 1;by_cases e:r.u=0/\r.bk= -1;rw[aO e];simp[List.filter,e.1,e.2];rw[aI e];grind
section
variable [an] [oM] {l:av aZ} {u:aq} {a:Act} {g:Cf} {cb xb n3 c3:Nat} {v0 v1 v2 v3:aB} {a3:aV Addr} {Q:Exit->Act->aq->Prop} {p n:Nat} {aqe:Int}
abbrev LM(v0 v1 v2 v3:aB)(cb p:Nat)(aqe:Int)(n:Nat)(r:av (Nat×aB)):av (Nat×aB):=L9 v0 v1 v2 v3 cb ((13,pt p)::(16,I aqe)::(17,I (n:Int))::r)
def LvO(v0 v1 v2 v3:aB)(cb p:Nat)(aqe:Int)(n:Nat)(W:av Wi)(b:aq)(a:Act)(u:aq):Prop:=∃j:Nat,Fa 201 a (LM v0 v1 v2 v3 cb p aqe n [(18,.bool<|decide<|0<Uo (W.take j)),(19,I (j:Int))])/\j<=W.length/\u=b
def adu{f:Fx}{c:Cw}{C:cZ}{m:Cm}(hT:Fit prog l)(T:bz u g cb xb f c C m)(hW:c.W.length<=60000)(L:∀(j:Nat) r,c.W[j]? =Z r->r.bk<0->r.bk= -1)(E:Fa 201 a (LM v0 v1 v2 v3 cb p aqe n [(18,.bool aa)]))(J:∀a,Fa 201 a (LM v0 v1 v2 v3 cb p aqe n [(18,.bool<|decide<|0<Uo c.W)])->Q .normal a u):
  FX dR 9 prog (kv<|dg<|tL<|kv<|dg<|tL<|tL<|dg<|kv<|dg<|dg<|dg<|dg<|dg<|dg<|dg<|dg<|nS f9) Q a u:=by
 obtain⟨lv,V,ps,S⟩:=m;obtain⟨B,wc,o⟩:=gP T.jW;have o:V=.slice B c.W.length wc:=o;subst o;have h:=T.cr;refine FX.sq<|FX.reg [0] ?_;refine FE.ow E λa _ E=>GO.nil ?_;refine FX.bk 6<|FX.lp (LvO v0 v1 v2 v3 cb p aqe n c.W u) (λa _=>leftOf c.W.length 19 a) ⟨0,E.to,cO _,U⟩ ?_;clear E;rintro a A ⟨j,E,hj,rfl⟩;have R:=tP (n:=c.W.length) (E.at_ 19 _ U);refine FX.sq<|FX.sq<|FX.reg [0,1,2,3,4,5,6] ?_
 iterate 4 refine FE.ow E λa _ E=>?_
 refine FE.lc E h λa _ E=>?_;refine FE.ln E λa _ E=>?_
 by_cases w:j<c.W.length
 ·have O:(j:Int)<(c.W.length:Int):=Y;refine FE.ow (v:=.bool M) E λa _ E=>GO.nil ?_;refine FX.cT E<|FX.sk ?_;replace E:Fa 201 a (LM v0 v1 v2 v3 cb p aqe n [(18,.bool<|decide<|0<Uo (c.W.take j)),(19,I (j:Int))]):=E.to;obtain⟨b,cap,ev,N⟩:=yV T.jW Y;have ev:Value.slice B c.W.length wc=.slice (Z<|F b 0) c.W.length cap:=ev;injection ev with G X H;have s:=E;subst G H;have E:=s;clear s;obtain⟨r,hr⟩:∃r,c.W[j]? =Z r:=⟨_,dj w⟩;obtain⟨q,k,z,_⟩:=T.Jy hr;have k:S[j]? =Z q:=k;have t:A.cell? (F b j)=Z (jp q):=N j (jp q) (by rw[qC,k];rfl);have Du:0<=(j:Int)/\(j:Int)<(c.W.length:Int):=Y;have i:=K4 hr;have K:=L j r hr;refine FX.sj (λa u=>Fa 201 a (LM v0 v1 v2 v3 cb p aqe n [(18,.bool<|decide<|0<Uo (c.W.take<|j+1)),(19,I (j:Int))])/\u=A) (FX.bk 7 ?_) ?_
  ·refine FX.sq<|FX.reg [0,1,2,3,4,5,6,7,8,9,10,11,12,13,14,15,16,17,18,19,20,21,22,23] ?_;iterate 3 refine FE.ow E λa _ E=>?_
   refine FE.lc E h λa _ E=>?_;refine FE.ow E λa _ E=>?_;refine FE.ow (v:=iK b j) E λa _ E=>?_;refine FE.l1 E t λa _ E=>?_;iterate 2 refine FE.ow E λa _ E=>?_
   refine FE.lc E z λa _ E=>?_;by_cases d:r.u=0
   ·have D:((r.u:Int)==0)=M:=by simpa using d
    refine FE.ow (v:=.bool M) E λa _ E=>?_;iterate 4 refine FE.ow E λa _ E=>?_
    refine FE.lc E h λa _ E=>?_;refine FE.ow E λa _ E=>?_;refine FE.ow (v:=iK b j) E λa _ E=>?_;refine FE.l1 E t λa _ E=>?_;iterate 2 refine FE.ow E λa _ E=>?_
    refine FE.lc E z λa _ E=>?_;by_cases P:r.bk<0;refine FE.ow (v:=.bool M) E λa _ E=>?_;refine FE.ow E λa _ E=>GO.nil ?_;refine FX.cT E<|FX.reg [0] ?_;refine FE.ow E λa _ E=>GO.nil ?_;have e:decide (0<Uo (c.W.take<|j+1))=M:=by rw[i,aO ⟨d,K P⟩];simp
    exact⟨by rw[e];exact E.to,U⟩;refine FE.ow (v:=.bool aa) E λa _ E=>?_;refine FE.ow E λa _ E=>GO.nil ?_;refine FX.cF E<|FX.sk ⟨?_,U⟩;have e:Uo (c.W.take<|j+1)=Uo (c.W.take j):=by rw[i,aI (λx=>by omega)];rfl
    rw[e];exact E.to
   have D:((r.u:Int)==0)=aa:=by simpa using d
   refine FE.ow (v:=.bool aa) E λa _ E=>?_;refine FE.ow E λa _ E=>?_;iterate 11 refine FE.gh E λa _ E=>?_
   refine FE.ow E λa _ E=>GO.nil ?_;refine FX.cF E<|FX.sk ⟨?_,U⟩;have e:Uo (c.W.take<|j+1)=Uo (c.W.take j):=by rw[i,aI<|λx=>d x.1];rfl
   rw[e];exact E.to
  rintro a u ⟨E,rfl⟩;refine FX.reg [0,1,2] ?_;refine FE.ow E λa _ E=>?_;refine FE.ar E λa _ E=>?_;refine FE.ow E λa _ E=>GO.nil ?_;rw[show(j:Int)+1=((j+1:Nat):Int) by simp]at E;refine⟨⟨j+1,E.to,w,U⟩,?_⟩;rw[R,tP (n:=c.W.length)<|E.at_ 19 _ U];omega
 have O:¬(j:Int)<(c.W.length:Int):=Y;refine FE.ow (v:=.bool aa) E λa _ E=>GO.nil ?_;refine FX.cF E<|FX.ex 6<|J a ?_;have e:c.W.take j=c.W:=qE Y;rw[e]at E;exact E.to
def adv{t s w:Nat}{z:aV Nat}(G:wH l)(kD:an.known 22)(hI:g.Is)(bn:wN a3 n3)(hn:n3<=1048576)(ht:t<1073741824)(E:Fa 201 a (LM v0 v1 v2 (.slice a3 n3 c3) cb p aqe n []))(B:gL g (mP g s w z) t cb xb [p] u)(O:∀a u,Fa 201 a (LM v0 v1 v2 (.slice a3 n3 c3) cb p aqe n [])->gL g (mP g s w z) (t+1) cb xb [p] u->Q .normal a u):
  FX dR 9 prog (kv<|dg<|dg<|dg<|tL<|kv<|dg<|tL<|tL<|dg<|kv<|dg<|dg<|dg<|dg<|dg<|dg<|dg<|dg<|nS f9) Q a u:=by
 have hT:=G.x.fit;have S:=adq (s:=s) (w:=w) (z:=z) hI;obtain⟨f,c,h,D,m,T,R⟩:=B;refine FX.sq<|FX.reg [0,1,2,3] ?_;refine FE.ow E λa _ E=>?_;refine FE.bl E λa _ E=>?_;refine FE.ln E λa _ E=>?_;have more:mP g s w z (t+1) f c:=⟨h.v.more Y,h.aC,h.mine⟩
 by_cases bg:n<n3
 ·have P:(n:Int)<(n3:Int):=Y;refine FE.ow (v:=.bool M) E λa _ E=>GO.nil ?_;obtain⟨W,tq,ob,tz,rfl,bq,bt⟩:=bn.resolve_left Y;have Du:0<=(n:Int)/\(n:Int)<(n3:Int):=Y;have V:=bt n bg;refine FX.cT E<|FX.sq<|FX.reg [0,1,2,3,4,5] ?_;refine FE.bl E λa _ E=>?_;refine FE.ow E λa _ E=>?_;refine FE.bl (v:=iK W<|tq+n*4) E (hr:=λw=>by go_simp) (he:=λw=>Dm (m:=n3) (c0:=c3) (ad:=F W tq) (j:=n) w U U aW Du) λa _ E=>?_;refine FE.stp (tq:=tq+n*4) (tz:=tz n) bq V E λa E=>?_;refine FE.nw (v:=pt u.heap.size) E (u.alloc<|au (stA 0 0 0 0) 46) (hr:=λτ=>by go_simp;rfl) λa _ E=>?_;refine FE.sa E (new1 U) λL q h2 h3=>GO.nil ?_;have T1:bz L g cb xb f c D m:=T.old λb J=>(h2 b Y).trans (((Below.refl _ u).alloc (aR _) _).block b J);have AI:=(V 1 aM).1;have aS:=(V 2 aM).1;have aT:=(V 3 aM).1;obtain⟨lv,wv,ps,qs⟩:=m;obtain⟨la,lc,ak⟩:=gP T1.gV;have ak:lv=.slice la c.S.length lc:=ak;subst ak;generalize tz n 0=kd at*;generalize tz n 1=C at*;generalize tz n 2=y1 at*;generalize tz n 3=z1 at*;generalize u.heap.size=A at*
  replace E:Fa 201 a (LM v0 v1 v2 (.slice (Z<|F W tq) n3 c3) cb p aqe n [(20,pt A)]):=E.to;have hS:=(S.dO h).2.2.1;obtain⟨s0,bk,_⟩:=h.v.me;have He:0<c.S.length:=(bY.1 bk).1;have N:=T1.cr;refine FX.sj (λa u=>∃b:Bool,(b=M\/(kd=1\/kd=3\/kd=5->eX C c.S.length≠0))/\Fa 201 a (LM v0 v1 v2 (.slice (Z<|F W tq) n3 c3) cb p aqe n [(20,pt A),(21,.bool b)])/\u.heap=L.heap) ?_ ?_;by_cases k6:kd=6
  ·have X:=E;subst k6;have E:=X;refine FX.dr 20 19 (λj v=>match j with|0=>v=iK A 0|1=>v=I 6|2=>v=.bool aa|3=>v=.bool aa|4=>v=y|5=>v=y|6=>v=y|7=>v=.bool aa|8=>v=.bool aa|9=>v=y|10=>v=y|11=>v=y|12=>v=y|13=>v=y|14=>v=y|15=>v=y|16=>v=y|17=>v=y|18=>v=.bool aa|_=>True) E (λr o x K a is E d i=>?_) λr o a E hv=>?_
   ·rw[show L.heap=r.heap by rw[o]]at q N;clear o;match x,K with
    |0,_=>exact FE.ow E<|dk i
    |1,_=>exact FE.lc (E.dd<|d 0 U) q<|dk i
    |2,_=>exact FE.ow (E.dd<|d 1 U)<|dk i
    |3,_=>exact FE.ow (E.dd<|d 2 U)<|dk i
    |4,_=>exact FE.gh (E.dd<|d 3 U)<|dk i
    |5,_=>exact FE.gh (E.dd<|d 3 U)<|dk i
    |6,_=>exact FE.gh (E.dd<|d 3 U)<|dk i
    |7,_=>exact FE.ow ((E.dd<|d 3 U).dd<|d 6 U)<|dk i
    |8,_=>exact FE.ow (E.dd<|d 7 U)<|dk i
    |9,_=>exact FE.gh (E.dd<|d 8 U)<|dk i
    |10,_=>exact FE.gh (E.dd<|d 8 U)<|dk i
    |11,_=>exact FE.gh (E.dd<|d 8 U)<|dk i
    |12,_=>exact FE.gh (E.dd<|d 8 U)<|dk i
    |13,_=>exact FE.gh (E.dd<|d 8 U)<|dk i
    |14,_=>exact FE.gh (E.dd<|d 8 U)<|dk i
    |15,_=>exact FE.gh (E.dd<|d 8 U)<|dk i
    |16,_=>exact FE.gh (E.dd<|d 8 U)<|dk i
    |17,_=>exact FE.gh (E.dd<|d 8 U)<|dk i
    |18,_=>exact FE.ow ((E.dd<|d 8 U).dd<|d 17 U)<|dk i
    |m+19,hm=>omega
   replace E:=E.dd (hv 18 U);refine eP.one (j:=19) aW λis H=>FE.ow E λa _ E=>H a r (eP.none aW ?_);exact⟨_,az λe=>by omega,E.to,by rw[o]⟩
  have b6:(kd==6)=aa:=by simpa using k6
  have bO:(kd !=6)=M:=by simpa using k6
  by_cases k4:kd=4
  ·have X:=E;subst k4;have E:=X;refine FX.dr 20 19 (λj v=>match j with|0=>v=iK A 0|1=>v=I 4|2=>v=.bool M|3=>v=.bool M|4=>v=iK A 0|5=>v=I 4|6=>v=.bool aa|7=>v=.bool aa|8=>v=.bool aa|9=>v=y|10=>v=y|11=>v=y|12=>v=y|13=>v=y|14=>v=y|15=>v=y|16=>v=y|17=>v=y|18=>v=.bool aa|_=>True) E (λr o x K a is E d i=>?_) λr o a E hv=>?_
   ·rw[show L.heap=r.heap by rw[o]]at q N;clear o;match x,K with
    |0,_=>exact FE.ow E<|dk i
    |1,_=>exact FE.lc (E.dd<|d 0 U) q<|dk i
    |2,_=>exact FE.ow (E.dd<|d 1 U)<|dk i
    |3,_=>exact FE.ow (E.dd<|d 2 U)<|dk i
    |4,_=>exact FE.ow (E.dd<|d 3 U)<|dk i
    |5,_=>exact FE.lc ((E.dd<|d 3 U).dd<|d 4 U) q<|dk i
    |6,_=>exact FE.ow ((E.dd<|d 3 U).dd<|d 5 U)<|dk i
    |7,_=>exact FE.ow ((E.dd<|d 3 U).dd<|d 6 U)<|dk i
    |8,_=>exact FE.ow (E.dd<|d 7 U)<|dk i
    |9,_=>exact FE.gh (E.dd<|d 8 U)<|dk i
    |10,_=>exact FE.gh (E.dd<|d 8 U)<|dk i
    |11,_=>exact FE.gh (E.dd<|d 8 U)<|dk i
    |12,_=>exact FE.gh (E.dd<|d 8 U)<|dk i
    |13,_=>exact FE.gh (E.dd<|d 8 U)<|dk i
    |14,_=>exact FE.gh (E.dd<|d 8 U)<|dk i
    |15,_=>exact FE.gh (E.dd<|d 8 U)<|dk i
    |16,_=>exact FE.gh (E.dd<|d 8 U)<|dk i
    |17,_=>exact FE.gh (E.dd<|d 8 U)<|dk i
    |18,_=>exact FE.ow ((E.dd<|d 8 U).dd<|d 17 U)<|dk i
    |m+19,hm=>omega
   replace E:=E.dd (hv 18 U);refine eP.one (j:=19) aW λis H=>FE.ow E λa _ E=>H a r (eP.none aW ?_);exact⟨_,az λe=>by omega,E.to,by rw[o]⟩
  have b4:(kd==4)=aa:=by simpa using k4
  have bL:(kd !=4)=M:=by simpa using k4
  refine FX.dr 20 19 (λj v=>match j with|0=>v=iK A 0|1=>v=I kd|2=>v=.bool M|3=>v=.bool M|4=>v=iK A 0|5=>v=I kd|6=>v=.bool M|7=>v=.bool M|8=>v=.bool M|9=>v=iK A 1|10=>v=I C|11=>v=pt cb|12=>v=pt cb|13=>v=iK cb 10|14=>v=.slice la c.S.length lc|15=>v=I (c.S.length:Int)|16=>v=I (eX C c.S.length)|17=>v=.bool (eX C c.S.length==0)|18=>v=.bool (eX C c.S.length==0)|_=>True) E (λr o x K a is E d i=>?_) λr o a E hv=>?_
  ·rw[show L.heap=r.heap by rw[o]]at q N;clear o;match x,K with
   |0,_=>exact FE.ow E<|dk i
   |1,_=>exact FE.lc (E.dd<|d 0 U) q<|dk i
   |2,_=>exact FE.ow (v:=.bool M) (E.dd<|d 1 U)<|dk i
   |3,_=>exact FE.ow (E.dd<|d 2 U)<|dk i
   |4,_=>exact FE.ow (E.dd<|d 3 U)<|dk i
   |5,_=>exact FE.lc ((E.dd<|d 3 U).dd<|d 4 U) q<|dk i
   |6,_=>exact FE.ow (v:=.bool M) ((E.dd<|d 3 U).dd<|d 5 U)<|dk i
   |7,_=>exact FE.ow ((E.dd<|d 3 U).dd<|d 6 U)<|dk i
   |8,_=>exact FE.ow (E.dd<|d 7 U)<|dk i
   |9,_=>exact FE.ow (E.dd<|d 8 U)<|dk i
   |10,_=>exact FE.lc ((E.dd<|d 8 U).dd<|d 9 U) q<|dk i
   |11,_=>exact FE.ow (E.dd<|d 8 U)<|dk i
   |12,_=>exact FE.ow ((E.dd<|d 8 U).dd<|d 11 U)<|dk i
   |13,_=>exact FE.ow ((E.dd<|d 8 U).dd<|d 12 U)<|dk i
   |14,_=>exact FE.lc ((E.dd<|d 8 U).dd<|d 13 U) N<|dk i
   |15,_=>exact FE.ln ((E.dd<|d 8 U).dd<|d 14 U)<|dk i
   |16,_=>exact FE.pkz G.k AI (((E.dd<|d 8 U).dd<|d 10 U).dd<|d 15 U)<|dk i
   |17,_=>exact FE.ow ((E.dd<|d 8 U).dd<|d 16 U)<|dk i
   |18,_=>exact FE.ow ((E.dd<|d 8 U).dd<|d 17 U)<|dk i
   |m+19,hm=>omega
  replace E:=E.dd (hv 18 U);refine eP.one (j:=19) aW λis H=>FE.ow E λa _ E=>H a r (eP.none aW ?_);refine⟨_,?_,E.to,by rw[o]⟩;by_cases h0:eX C c.S.length=0;exact aA (by simp[h0]);exact az λ_=>h0;rintro a u ⟨b,J,E,P⟩;have T2:bz u g cb xb f c D ⟨.slice la c.S.length lc,wv,ps,qs⟩:=T1.old λb _=>by rw[P]
  rw[<-P]at q;refine FX.sq<|FX.reg [0,1,2,3,4,5,6] ?_;cases b with
  |true=>
   iterate 3 refine FE.ow E λa _ E=>?_
   iterate 3 refine FE.gh E λa _ E=>?_
   refine FE.ow E λa _ E=>GO.nil ?_;exact FX.cF E<|FX.sk<|O _ _ E.to ⟨f,c,more,D,_,T2,R⟩
  |false=>
   have J:=J.resolve_left ay;iterate 4 refine FE.ow E λa _ E=>?_
   refine FE.lc E q λa _ E=>?_;by_cases k2:kd=2;have b2:(kd !=2)=aa:=by simpa using k2
   refine FE.ow (v:=.bool aa) E λa _ E=>?_;refine FE.ow E λa _ E=>GO.nil ?_;exact FX.cF E<|FX.sk<|O _ _ E.to ⟨f,c,more,D,_,T2,R⟩;have b2:(kd !=2)=M:=by simpa using k2
   refine FE.ow (v:=.bool M) E λa _ E=>?_;refine FE.ow E λa _ E=>GO.nil ?_;refine FX.cT E<|FX.sq<|FX.reg [0,1,2,3] ?_;refine FE.ow E λa _ E=>?_;refine FE.lst hT E q λa _ E=>?_;refine FE.cp (v0:=pt cb) (k0:=9) E func22 kD Xs (λρ bu=>Tl cb _ _ _ _ ρ bu) ((Tn G S h ht ⟨D,T2⟩ kd C y1 z1 AI aS aT ⟨λe=>absurd e k2,λj h1 h2 h3 e=>J h3 (by rw[<-h1,e];rfl)⟩).mono ?_);rintro e u2 ⟨rfl,hs⟩;refine⟨_,U,λa _ E=>?_⟩;refine FE.ow E λa _ E=>GO.nil ?_;refine FX.sq<|FX.reg [0,1] ?_;refine FE.ow E λa _ E=>?_;refine FE.ow (v:=.bool aa) E λa _ E=>GO.nil ?_;exact FX.cF E<|FX.sk<|O _ _ E.to<|hs.mono R
 have P:¬(n:Int)<(n3:Int):=Y;refine FE.ow (v:=.bool aa) E λa _ E=>GO.nil ?_;exact FX.cF E<|FX.sk<|O _ _ E.to ⟨f,c,more,D,m,T,R⟩
end
section
variable {g:Cf} {t:Nat} {z:aV Nat} {f:Fx} {c:Cw} {sx s w:Nat} {k:Ck}
def mP.ticks(h:mP g s w z t f c)(x:t<1073741824):∃d,f.tick.Is 0 s d:=by let⟨A,m,o⟩:=h.v.me;let⟨k,q⟩:=h.aC;let⟨sx,r⟩:=h.v.bU.aC 0 A m o;let⟨e,b1,b,j⟩:=r;have:=q.one sx e b1 (by rw[b];rfl);subst this;have C:=h.v.bU.dO;let⟨d,a1,B,_⟩:=iG.tick h.v.bU.rest Y h.v.bU.gg h.v.bU.stop h.v.bU.wo ⟨e,b1,b,j⟩;have:=(h.v.bU.tick x).rest.core.is a1;grind
def iq.dl(h:iq g t f c):iq g t f {c with dl:=16}:=⟨⟨h.bU.is,h.bU.rest,h.bU.gg,h.bU.stop,h.bU.bF,by have:=h.bU.dO;exact⟨this.1,this.2.1,this.2.2.1,this.2.2.2.1,by show(16:Int)<=16;omega⟩,h.bU.ck,h.bU.one,h.bU.two,h.bU.hd,h.bU.aC⟩,h.fair,h.bk,h.me⟩
def iq.start(h:iq g t f c):∃s,mP g s 0 (Z<|Uo c.W) t f c:=by let⟨j,b,d⟩:=h.me;let⟨_,sx,k,e⟩:=h.bU.Ho b d;exact⟨sx,h,⟨k,e⟩,az<|aA ⟨_,U,aR _⟩⟩
end
section
variable [an] {P:Program} {l:av aZ} {Q:Exit->Act->aq->Prop} {a:Act} {u:aq} {ops:aF Oper} {i n:Nat} {rest:av Nat} {Lf:aZ->av Nat} {f0:aZ} {L:av (Nat×aB)} {ty:TypeId} {ps:String} {af:aF Edge} {gd:aV (Nat×Bool)}
def FE.cst{t d b j:Nat}{x:aF aB}{T:TypeId}{v v0:aB}(E:Fa n a L)(B:u.heap[b]? =Z (au x T (0,0)))(c:∀h:aq,h.heap[b]? =Z (au (x.setIfInBounds j v) T (0,0))->(∀e,e≠b->h.heap[e]? =u.heap[e]?)->FO Lf f0 P ops Q rest a h)(r:ops[i]? =Z ⟨aj,.store t (.tmp d)<|.const v,ty,ps,af,gd⟩:=by rfl) (J:lk L d=Z (.pointer<|Z<|F b j):=by rfl) (D:x[j]? =Z v0:=by rfl) (C:(iu ops L gd&&iH ops n gd)=M:=by rfl) (A:okB P l (.store t (.tmp d)<|.const v)=M:=by kernel_rfl) (hc:mE (Lf f0) 1 0 L (.store t (.tmp d)<|.const v)=M:=by rfl)
  (hr:∀w:aq,w.cell? (F b j)=Z v0->w.frozen? (F b j)=aa->(execOp (gS L) ⟨aj,.store t (.tmp d)<|.const v,ty,ps,af,gd⟩).run P w=.ok .skip (w.setCell (F b j) v):=by(intro w G H;go_simp)) (o:Fit P l:=by assumption):FO Lf f0 P ops Q (i::rest) a u:=by
 refine FE.vo E (u.setCell (F b j) v) (c _ (bG B j v) λe q=>bC q) r C A hc (λm=>?_) o;rw[hr _ (aD (show(u.tp m).heap[b]? =_ from B) D)<|bp (show(u.tp m).heap[b]? =_ from B) j];exact cG _<|IU _ _ _ _
end
section
variable [an] [oM] {l:av aZ} {u:aq} {a:Act} {g:Cf} {cb xb n3 c3:Nat} {v0 v1 v2 v3:aB} {a3:aV Addr} {Q:Exit->Act->aq->Prop} {p n:Nat} {aqe:Int}
def LvM(v0 v1 v2 v3:aB)(cb xb p:Nat)(aqe:Int)(g:Cf)(t0 b Bd:Nat)(a:Act)(u:aq):Prop:=∃(n t s w:Nat) (z:aV Nat) (f:Fx) (c:Cw) (m:Cm),Fa 201 a (LM v0 v1 v2 v3 cb p aqe n [])/\mP g s w z t f c/\fj u g cb xb f c m/\[p]<+:m.ps/\n<=Bd/\t<=t0+3*n/\(Uo c.W=0\/(z=Z b/\n=0)\/(z=aj/\n+w+1<=Bd))
def adt{t0 A Bd:Nat}{f:Fx}{c:Cw}{m:Cm}(G:wH l)(kD:an.known 22)(hI:g.Is)(aJ:wN a3 n3)(hn:n3<=1048576)(bq:t0<=2000000)(ah:Bd=A*g.Tm)(MH:Bd<=233799048)(hM:(Bd:Int)<=aqe)(E:Fa 201 a (L9 v0 v1 v2 (.slice a3 n3 c3) cb [(13,pt p),(16,I aqe)]))(h:iq g t0 f c)(d:Uo c.W=A)(B:fj u g cb xb f c m)(j:[p]<+:m.ps)(hQ:∀(a:Act) (u:aq) (r:av (Nat×aB)),Fa 201 a ((8,.bool M)::r)->Q .ret a u):
  FX dR 9 prog (kv<|dg<|dg<|dg<|dg<|dg<|dg<|dg<|dg<|nS f9) Q a u:=by
 have R:=G.x.fit;obtain⟨s,q⟩:=h.start;rw[d]at q;have bl:20<=g.Tm:=by unfold Cf.Tm;omega
 refine FX.sq<|FX.reg [0] ?_;refine FE.ow E λa _ E=>GO.nil ?_;refine FX.bk 4<|FX.lp (LvM v0 v1 v2 (.slice a3 n3 c3) cb xb p aqe g t0 A Bd) (λa _=>leftOf (Bd+1) 17 a) ⟨0,t0,s,0,Z A,f,c,m,E.to,q,B,j,cO _,Y,az<|aA ⟨U,U⟩⟩ ?_;clear B E h q d j;rintro a u ⟨n,t,s,w,z,f,c,m,E,h,B,j,bp,bt,H⟩;have aD:=tP (n:=Bd+1) (E.at_ 17 _ U);have hh:(n:Int)<=aqe:=Y;refine FX.sq<|FX.sq<|FX.reg [0,1,2] ?_
 iterate 2 refine FE.ow E λa _ E=>?_
 refine FE.ow (v:=.bool M) E λa _ E=>GO.nil ?_;refine FX.cT E<|FX.sk ?_;refine FX.sq<|FX.bk 5<|FX.sq<|FX.reg [0] ?_;refine FE.ow E λa _ E=>GO.nil ?_;obtain⟨J,T⟩:=B;have uW:=h.v.bU.ck;refine FX.sq<|adu R T Y h.v.bk E.to λa E=>?_
 by_cases d:Uo c.W=0
 ·have e:decide (0<Uo c.W)=aa:=by simp[d]
  rw[e]at E;refine FX.sq<|FX.sq<|FX.reg [0,1] ?_;refine FE.ow E λa _ E=>?_;refine FE.ow (v:=.bool M) E λa _ E=>GO.nil ?_;refine FX.cT E<|FX.sq<|FX.reg [0] ?_;refine FE.ow E λa _ E=>GO.nil ?_;exact FX.rt<|hQ _ _ _ E
 have S:0<Uo c.W:=Nat.pos_of_ne_zero d;have H:=H.resolve_left d
 have ak:z=Z A->1<=Bd:=λe=>by rcases h.mine with h0|⟨X,b,K⟩|⟨b,_⟩;exact absurd h0 d;rw[e]at b;cases b;rw[ah];exact Nat.mul_pos Y Y;rw[e]at b;cases b
 have e:decide (0<Uo c.W)=M:=by simpa using S
 rw[e]at E;refine FX.sq<|FX.sq<|FX.reg [0,1] ?_;refine FE.ow E λa _ E=>?_;refine FE.ow (v:=.bool aa) E λa _ E=>GO.nil ?_;refine FX.cF E<|FX.sk ?_;refine FX.sq<|adv G kD hI aJ hn Y E.to ⟨f,c,h,J,m,T,j⟩ λa u E B=>?_;clear h T j d S uW;obtain⟨f,c,h,J,m,T,j⟩:=B;have D:=T.cr;have Va:=h.v.bU.dO.2.1;refine FX.sq<|FX.reg [0,1,2,3,4,5,6,7] ?_
 iterate 3 refine FE.ow E λa _ E=>?_
 refine FE.lc E D λa _ E=>?_;refine FE.ar E λa _ E=>?_
 iterate 2 refine FE.ow E λa _ E=>?_
 refine FE.st E D λu2 q O=>GO.nil ?_;have B:fj u2 g cb xb f c.late m:=⟨J,T.box U U q O⟩;clear T q O D;have D:=B.at;refine FX.sq<|FX.reg [0,1,2,3,4] ?_
 iterate 3 refine FE.ow E λa _ E=>?_
 refine FE.lc E D λa _ E=>?_;refine FE.cx E G.kI<|(adF G.x h.v Y B).mono ?_;rintro e u3 ⟨rfl,B⟩;refine⟨_,U,λa _ E=>GO.nil ?_⟩;obtain⟨k1,V⟩:=h.ticks Y;have aK:=(Ic hI).tick ay h.v Y;obtain⟨ts,x1,x2,x3,w',x4,x5⟩:=h.next Y V
 refine FX.sq<|FX.reg [0,1,2,3] ?_
 iterate 2 refine FE.ow E λa _ E=>?_
 refine FE.cx E (G.o _ aM).2 ((adE R (G.o _ aM).1 aK B (Xa j) V x1 x2 x3).mono ?_);rintro e u4 ⟨rfl,B⟩;refine⟨_,U,λa _ E=>?_⟩;refine FE.ow E λa _ E=>GO.nil ?_;refine FX.sq<|FX.reg [0,1] ?_;refine FE.ow E λa _ E=>?_;refine FE.ow (v:=.bool aa) E λa _ E=>GO.nil ?_;refine FX.cF E<|FX.sk ?_;refine FX.reg [0,1,2] ?_;refine FE.ow E λa _ E=>?_;refine FE.ar E λa _ E=>?_;refine FE.ow E λa _ E=>GO.nil ?_;rw[show(n:Int)+1=((n+1:Nat):Int) by simp]at E
 have aH:n+1<=Bd:=by rcases H with⟨e',e⟩|⟨_,e⟩;have:=ak e';omega;omega
 refine⟨⟨n+1,t+1+2,s,w',aj,_,_,m,E.to,x5,B,j,aH,Y,x4.imp id λx=>az ⟨U,?_⟩⟩,?_⟩;rcases x with⟨X,b,K⟩|⟨b,K⟩;rcases H with⟨C,N⟩|⟨C,_⟩;rw[C]at b;cases b;omega;rw[C]at b;cases b;rcases H with⟨C,N⟩|⟨_,N⟩;rw[C]at b;cases b;omega;rw[aD,tP (n:=Bd+1)<|E.at_ 17 _ rfl];omega
end
section
variable [an] {l:av aZ} {u:aq} {g:Cf} {cb xb:Nat} {c:Cw} {m:Cm}
def Y0(i:Fit prog l)(j:an.ok 25)(hI:g.Is)(hd:c.dl=16)(h:u.heap[cb]? =Z (au (uQ g xb c m) 40 (0,0))):dX prog 25 #[pt cb] u λe k=>∃B:Int,e=aG (I B)/\((g.Tm:Int)<=B/\B<=938952)/\k.heap=u.heap:=by refine dX.lift i j (λe u b h=>h) (λe u ⟨B,h,_⟩=>⟨_,h⟩) λb=>?_;apply(T8 cb xb g c m (u.tp b) h hI hd).mono;rintro e n ⟨B,d,f,rfl⟩;exact⟨B,d,f,U⟩
def K3(W):Uo W<=W.length:=Ko _ _
end
section
variable [an] [oM] {l:av aZ} {u:aq} {a:Act} {n1 c1 n2 c2 n3 c3 ll cl:Nat} {al a1 a2 a3:aV Addr}
def adm(G:wH l)(kB:an.known 15)(kD:an.known 22)(oB:an.ok 25/\an.known 25)(bp:ll<=maxLen)(hl:Af al ll)(bu:wN a1 n1)(aL:n1<=1048576)(jR:wN a2 n2)(bq:n2<=1048576)(bw:wN a3 n3)(bt:n3<=1048576):
  iT dR prog 9 #[.slice al ll cl,.slice a1 n1 c1,.slice a2 n2 c2,.slice a3 n3 c3] u λe u'=>e=aG (.bool M):=by
 have hT:=G.x.fit;refine iT.AU 201 func9 λa E=>?_;refine FX.sq<|FX.reg [0] ?_;refine FE.ow E λa _ E=>GO.nil ?_;refine FX.sq<|FX.reg [0,1,2] ?_;refine FE.bl E λa _ E=>?_;refine FE.cf E func15 kB agh (Q4 al ll cl)<|(Q5 G bp hl).mono ?_;rintro e u ⟨cb,xb,nn,g,f,wt,m,rfl,hI,hF,J,hn,s,T⟩;refine⟨_,U,λa _ E=>?_⟩;refine FE.ow E λa _ E=>GO.nil ?_;refine FX.sq<|FX.sq<|FX.reg [0,1] ?_;refine FE.ow E λa _ E=>?_;refine FE.ow (v:=.bool aa) E λa _ E=>GO.nil ?_;refine FX.cF E<|FX.sk ?_;refine FX.sq<|ads G kD hI bu aL E.to ⟨f,_,hF.lv0 hI J hn,s,m,T,C2⟩ λa u E B=>?_;clear T hF J hn;obtain⟨f,c,h,s,⟨R,wv,D,qs⟩,T,_⟩:=B;obtain⟨sl,C,O⟩:=h.me;have He:0<c.S.length:=(bY.1 C).1;obtain⟨p,z,_⟩:=T.Bg C;have z:D[0]? =Z p:=z;obtain⟨gb,cap,af,MM⟩:=yV T.gV He;have af:R=.slice (Z<|F gb 0) c.S.length cap:=af;subst af;have ci:u.cell? (F gb 0)=Z (jp p):=MM 0 (jp p) (by rw[qC,z];rfl)
 have Q:[p]<+:D:=by
  cases D with
  |nil=>cases z
  |cons q t=>cases z;exact⟨t,U⟩
 have i:=T.cr;have P:0<=(0:Int)/\(0:Int)<(c.S.length:Int):=Y;refine FX.sq<|FX.reg [0,1,2,3,4,5,6] ?_
 iterate 3 refine FE.ow E λa _ E=>?_
 refine FE.lc E i λa _ E=>?_;refine FE.ow (v:=iK gb 0) E λa _ E=>?_;refine FE.l1 E ci λa _ E=>?_;refine FE.ow E λa _ E=>GO.nil ?_;refine FX.sq<|adr G hI jR bq aL E.to ⟨f,c,h,s,_,T,Q⟩ λa u t' bH E B=>?_;clear T Q P i ci MM z He C O h;obtain⟨f,c,h,s,⟨R,wv,D,qs⟩,T,Q⟩:=B;have i:=T.cr;refine FX.sq<|FX.reg [0,1,2,3] ?_
 iterate 3 refine FE.ow E λa _ E=>?_
 refine FE.cst E i λu1 J L=>GO.nil ?_;have X:bz u1 g cb xb f {c with dl:=16} s ⟨R,wv,D,qs⟩:=T.box U U J L;clear T J L i;obtain⟨wa,wc,ak⟩:=gP X.jW;have ak:wv=.slice wa c.W.length wc:=ak;subst ak;have i:=X.cr;have uW:=h.bU.ck
 replace E:Fa 201 a (L9 (.slice al ll cl) (.slice a1 n1 c1) (.slice a2 n2 c2) (.slice a3 n3 c3) cb [(13,pt p)]):=E.to
 refine FX.sq<|FX.dm 10 9 10 (λj v _=>match j with|0=>v=pt cb|1=>∃B:Int,v=I B/\(g.Tm:Int)<=B/\B<=938952|2=>v=pt cb|3=>v=pt cb|4=>v=iK cb 11|5=>v=.slice wa c.W.length wc|6=>v=I (c.W.length:Int)|7=>v=I ((c.W.length:Int)+2)|8=>∃B:Int,v=I (B*((c.W.length:Int)+2))/\(g.Tm:Int)<=B/\B<=938952|_=>True) (λu=>u.heap=u1.heap) (λu u'=>u'.heap=u.heap) (λ_ _ _ _ _ h=>h) E U (λV K x hx a is E o hc=>?_) (λV K a E hv=>?_)<|λh=>absurd h aM
 ·have n:=λH v hv N=>hc H v V hv K U N;rw[<-K]at i;match x,hx with
  |0,_=>exact FE.ow E<|dk n
  |1,_=>refine FE.cx (E.dd<|o 0 U) oB.2<|(Y0 hT oB.1 hI U i).mono ?_;rintro e u4 ⟨B,rfl,w,P⟩;exact⟨_,U,λH N _=>hc H _ u4 ⟨B,U,w⟩ (P.trans K) P N⟩
  |2,_=>exact FE.ow E<|dk n
  |3,_=>exact FE.ow (E.dd<|o 2 U)<|dk n
  |4,_=>exact FE.ow (E.dd<|o 3 U)<|dk n
  |5,_=>exact FE.lc (E.dd<|o 4 U) i<|dk n
  |6,_=>exact FE.ln (E.dd<|o 5 U)<|dk n
  |7,_=>exact FE.ar (E.dd<|o 6 U)<|dk n
  |8,_=>obtain⟨B,e,w⟩:=o 1 U;have hm:=AR (a:=B) (b:=(c.W.length:Int)+2) (A:=938952) (B:=60002) Y Y w.2 Y;exact FE.ar ((E.add (d:=97) e).dd<|o 7 U) λH N _=>n H _ ⟨B,U,w⟩ N
  |m+9,hm=>omega
 obtain⟨B,e,w⟩:=hv 8 U
 replace E:=E.add (d:=104) e
 refine eP.one (j:=9) aW λis hK=>FE.ow E λa _ E=>hK a V (eP.none aW ?_);have B3:fj V g cb xb f {c with dl:=16} ⟨R,.slice wa c.W.length wc,D,qs⟩:=⟨s,X.old λb _=>by rw[K]⟩;have bk:g.Tm<=938952:=Y
 have bn:Uo c.W<=249:=by obtain⟨sl,C,O⟩:=h.me;obtain⟨_,sx,k,hu⟩:=h.bU.Ho C O;exact h.bU.uo C O hu
 have bG:=K3 c.W;refine FX.sq<|adt (Bd:=Uo c.W*g.Tm) G kD hI bw bt Y U (Nat.mul_le_mul bn bk) ?_ E.to h.dl U B3 Q λa u r E=>?_;rw[Int.natCast_mul,Int.mul_comm];exact Int.mul_le_mul w.1 Y Y Y;refine⟨U,E.defers,.bool M,?_,U⟩;have L:=ev (E.at_ 8 _ U);simp[results,results9,go_sem,L]
end
end
section
open Go.ChangeAt Go.ChangeShapes Go.Conc Go.Deep Go.RowKit Go.WideShapes
open Go.ConcR (Payload)
def aeR:ownKnob prog.godebug=aj:=aW
def Hs:laidOutB prog=M:=aW
def R6{H:Type}(d:DataW H):1<=Rows.uptoBulk d:=by
 cases d with
 |lit l=>cases l<;>simp[Rows.uptoBulk]
 |nil=>simp[Rows.uptoBulk]
 |ptr d=>simp[Rows.uptoBulk]
 |slice a spare=>simp[Rows.uptoBulk]
 |agg parts=>simp[Rows.uptoBulk]
 |iface t d=>simp[Rows.uptoBulk]
 |map b=>simp[Rows.uptoBulk]
 |held h=>simp[Rows.uptoBulk]
def R5{H:Type}(l:av (DataW H)):l.length<=Rows.uptoBulkAll l:=by
 induction l with
 |nil=>simp[Rows.uptoBulkAll]
 |cons x r a=>have:=R6 x;simp only[Rows.uptoBulkAll,gH];omega
def afE{z}(h:(Lit.int .i64 z).wf=M):dy z:=by simp[Lit.wf,IntKind.min,IntKind.max,IntKind.signed,IntKind.bits]at h;omega
def RK(b off i):(⟨b,off,aj⟩:Addr).add i=⟨b,off+i,aj⟩:=by unfold Addr.add;grind
def ltP{w:World}{b off v}(h:w.cell? (F b off)=Z v):b<w.heap.size:=by refine ny λa=>?_;have:w.heap[b]? =aj:=vC Y;simp[World.cell?,this]at h
section
variable {H:Type} {enc:TypeId×aB->H} {w:aq} {base:Nat} {spare:Nat->Bool} {held:Bool}
def IL{fuel t st n:Nat}{a:aV Addr}{len cap:Nat}{x:DataW H×av MemPlace}(E:prog.underlying st=Z (.slice t))(B:prog.cellsOf t=n)(h0:0<n)(u:∀fuel cs x,EN enc prog w base spare held fuel t cs=Z x->∀j,j<n->∃z,dy z/\cs[j]? =Z (I z))(o:Rows.uptoBulk x.1<=1048576)
  (h:EN enc prog w base spare held fuel st [.slice a len cap]=Z x):len<=1048576/\(len=0\/∃b off,a=Z ⟨b,off,aj⟩/\b<w.heap.size/\∀i,i<len->∀j,j<n->∃z,dy z/\w.cell? (F b<|off+i*n+j)=Z (I z)):=by
 rcases open_slice E h with⟨f,_⟩|⟨l,R,K,m,k,D,J,f,_,P,hm,A,G,s⟩;simp at f
 grind
 simp at f;obtain⟨rfl,rfl,rfl⟩:=f
 have v:len<=1048576:=by rw[G]at o;simp only[Rows.uptoBulk]at o;have:=R5 ((List.range len).map D);grind
 refine⟨v,?_⟩
 by_cases c:len=0
 ·exact aA c
 right;have Q:len<=m:=by rw[A];split<;>omega
 rw[B]at s
 have q:∀i,i<len->∀j,j<n->∃z,dy z/\w.cell? ((l.add<|i*n).add j)=Z (I z):=λi p j g=>by obtain⟨L,c,e⟩:=s i Y;obtain⟨z,d,O⟩:=u _ _ _ e j g;have N:=(World.cells?_some c).2.2 j g;grind
 obtain⟨b,off,spot⟩:=l
 have C:spot=aj:=by obtain⟨z,_,d⟩:=q 0 Y 0 h0;simp only[xX,Addr.add,dN]at d;simpa using World.cell?_spot d
 subst C
 have r:∀i,i<len->∀j,j<n->∃z,dy z/\w.cell? (F b<|off+i*n+j)=Z (I z):=λi p j g=>by obtain⟨z,c,e⟩:=q i p j g;rw[RK,RK]at e;exact⟨z,c,e⟩
 exact⟨b,off,U,by obtain⟨z,_,d⟩:=r 0 Y 0 h0;exact ltP d,r⟩
def Vy(fuel cs)(x:DataW H×av MemPlace)(e:EN enc prog w base spare held fuel 3 cs=Z x):∀j,j<1->∃z,dy z/\cs[j]? =Z (I z):=λj b=>by obtain⟨k,rfl,_,a⟩:=DataW.trod_int underlying3 e;obtain rfl:j=0:=Y;exact⟨k,afE a,U⟩
def Pb(fuel cs)(x:DataW H×av MemPlace)(h:EN enc prog w base spare held fuel 46 cs=Z x):∀j,j<4->∃z,dy z/\cs[j]? =Z (I z):=by
 obtain⟨c,n,_,_,d,f,a⟩:=DataW.trod_struct underlying46 h;rw[show prog.cellsOf 46=4 by kernel_rfl]at d;have g:c.length=4:=f;have one:∀j,j<4->EN enc prog w base spare held n 3 ((cs.drop j).take<|prog.cellsOf 3)=c[j]? ->∃z,dy z/\cs[j]? =Z (I z):=λj b e=>by rw[dj Y,show prog.cellsOf 3=1 by kernel_rfl]at e;simpa using Vy _ _ _ e 0 Y
 exact λj b=>match j,b with|0,h=>one 0 h (a 0 _ U)|1,h=>one 1 h (a 1 _ U)|2,h=>one 2 h (a 2 _ U)|3,h=>one 3 h (a 3 _ U)
end
def pY:av aZ:=[25,55,24,27,56,57,94,65,110,39,50,90]++flP.filter λf=>(dR f).isEmpty
def knL:av aZ:=[61,26,98,15,22,9,28,29]
def okL:pY.all (okF prog pY)=M:=aW
def acS:knL.all (knF prog)=M:=aW
def Q0:pY.all (λf=>(dR f).isEmpty)=M:=aW
def GH(t:Nat->aV Obj):@Fit (xd prog pY knL dR t) prog pY:=abb akF adH okL acS Q0
def abO(t:Nat->aV Obj):@wH (xd prog pY knL dR t) pY:=by letI:an:=xd prog pY knL dR t;have o:∀f,pY.contains f=M->an.ok f:=λf a=>((GH t).it.ok f).2 a;exact⟨⟨GH t,(by first|exact az aM|exact aA (o _ aW)),(by first|exact az aM|exact aA (o _ aW)),(by first|exact az aM|exact aA (o _ aW))⟩,⟨GH t,aW,o _ aW,o _ aW,az aW,aW,aW,aW,aW,U,U⟩,λf a=>have h:=o f (nA.1 (by kernel_rfl:List.all _ pY.contains=M) f a);⟨h,aA h⟩,az aW⟩
section
variable (W:aq)
def OD{a:aV Addr}{len:Nat}(h:len=0\/∃b off,a=Z ⟨b,off,aj⟩/\b<W.heap.size/\∀i,i<len->∀j,j<4->∃z,dy z/\W.cell? (F b<|off+i*4+j)=Z (I z)):@wN (xd prog pY knL dR<|λb=>W.heap[b]?) a len:=by
 rcases h with h|⟨b,off,rfl,d,g⟩;exact aA h
 classical
 refine az ⟨b,off,W.heap[b],λi j=>if c:i<len/\j<4 then Zz (g i c.1 j c.2)else 0,U,gi d,λi c j e=>?_⟩;have f:=ZA (g i c j e);simp only[wy (⟨c,e⟩:i<len/\j<4)];exact⟨f.1,λw k=>(iO<|k.trans (gi d).symm).trans f.2⟩
def agS{a:aV Addr}{len:Nat}(h:len=0\/∃b off,a=Z ⟨b,off,aj⟩/\b<W.heap.size/\∀i,i<len->∀j,j<1->∃z,dy z/\W.cell? (F b<|off+i*1+j)=Z (I z)):@Af (xd prog pY knL dR<|λb=>W.heap[b]?) a len:=by
 rcases h with h|⟨b,off,rfl,d,f⟩;exact aA h
 classical
 refine az ⟨b,off,W.heap[b],λi=>if c:i<len then Zz (f i c 0 Y)else 0,U,gi d,λi c=>?_⟩;have e:=ZA (f i c 0 Y);simp only[wy c];exact⟨e.1,λw g=>(iO<|g.trans (gi d).symm).trans (by simpa using e.2)⟩
end
def adl[an](v0 v1 v2 v3 ρ j v)(h:(Frame.enter prog 9 #[v0,v1,v2,v3] .normal).tmps[j]? =Z v)(b:j∉dR 9):VR ρ v v:=
 Di func9 (body:=nS f9) aW (λi v h a ρ=>by
  match i,a with
  |0,a=>exact absurd aM a
  |1,a=>exact absurd aM a
  |2,a=>exact absurd aM a
  |3,a=>exact absurd aM a
  |n+4,_=>simp at h) ρ j v h b
def adn(os:Os)(bL:os.Started)(H:Type)(enc:TypeId×aB->H)(T:Stop.Interp):
  ReturnsInLeavingWide {} checked os 9 .any ((Rows.OpenSpec.upto Rows.livelySpec).pre6 enc prog f9 Rows.livelyUptoRow.domain aa) (((Rows.OpenSpec.upto Rows.livelySpec).at T).post enc prog f9 aa M aa aa):=by
 refine agm (C:=checked) (s:=Rows.OpenSpec.upto Rows.livelySpec) (k:=Rows.uptoSmall) U aeR bL func9
  (OpenSpec.witness (enc:=enc) (C:=checked) (s:=Rows.OpenSpec.upto Rows.livelySpec) (k:=Rows.uptoSmall) U aa ⟨#[],#[.slice aj 0 0,.slice aj 0 0,.slice aj 0 0,.slice aj 0 0],[]⟩ 8 aW aW aW
   (x:=([.nil,.nil,.nil,.nil],[],[])) aW U aW) ?_
 intro W base args ds gs bS bn B A _ hk _;have aD:=A;obtain⟨p,q,z,hV,rfl,b9,cg⟩:=A;have r:DataW.TrodAll enc prog W 0 (λ_=>M) M f9.params.toList args.toList ds p:=z;have f:∀(j:Nat) t v,f9.params[j]? =Z t->args[j]? =Z v->Value.okWide prog W .any base t v:=B;rw[params9]at r f;obtain⟨O,cr,d0,bT,K,q0,b8,rfl,rfl,h0,r0⟩:=trodAll_cons r;obtain⟨P,cu,d1,bV,p1,q1,rfl,rfl,rfl,i,r1⟩:=trodAll_cons r0;obtain⟨Q,cv,d2,bW,L,q2,rfl,rfl,rfl,l,r2⟩:=trodAll_cons r1;obtain⟨S,cw,d3,bX,N,q3,rfl,rfl,rfl,n,r3⟩:=trodAll_cons r2;obtain⟨rfl,rfl,rfl⟩:=trodAll_nil r3;obtain rfl:args=#[O,P,Q,S]:=by cases args;simp_all
 obtain⟨rfl,rfl⟩:=trodVars_none hV
 have g:Rows.uptoBulk d0<=1048576/\Rows.uptoBulk d1<=1048576/\Rows.uptoBulk d2<=1048576/\Rows.uptoBulk d3<=1048576:=by have h:=mM hk;simp only[lf,Rows.uptoBulkAll]at h;omega
 obtain⟨a0,bt,V,rfl⟩:=okWide_slice underlying25 (f 0 25 O U U);obtain⟨a1,bu,X,rfl⟩:=okWide_slice underlying26 (f 1 26 P U U);obtain⟨a2,bw,af,rfl⟩:=okWide_slice underlying26 (f 2 26 Q U U);obtain⟨a3,bz,ah,rfl⟩:=okWide_slice underlying26 (f 3 26 S U U);have D:=h0;have E:=i;have G:=l;have J:=n;have bA:∀x∈K,x.block<W.heap.size:=by obtain⟨m,hm⟩:=D;exact JL m _ _ _ hm
 have bB:∀x∈p1,x.block<W.heap.size:=by obtain⟨m,hm⟩:=E;exact JL m _ _ _ hm
 have bD:∀x∈N,x.block<W.heap.size:=by obtain⟨m,hm⟩:=J;exact JL m _ _ _ hm
 have bC:∀x∈L,x.block<W.heap.size:=by obtain⟨m,hm⟩:=G;exact JL m _ _ _ hm
 obtain⟨aN,yJ⟩:=(by obtain⟨fuel,a⟩:=h0;exact IL (cap:=V) (x:=(d0,K)) underlying25 aW aM Vy g.1 aaJ:bt<=1048576/\_);obtain⟨aQ,Vk⟩:=(by obtain⟨fuel,a⟩:=i;exact IL (cap:=X) (x:=(d1,p1)) underlying26 aW aM Pb g.2.1 aaJ:bu<=1048576/\_);obtain⟨aS,bk⟩:=(by obtain⟨fuel,a⟩:=l;exact IL (cap:=af) (x:=(d2,L)) underlying26 aW aM Pb g.2.2.1 aaJ:bw<=1048576/\_);obtain⟨aT,bl⟩:=(by obtain⟨fuel,a⟩:=n;exact IL (cap:=ah) (x:=(d3,N)) underlying26 aW aM Pb g.2.2.2 aaJ:bz<=1048576/\_);clear z B
 letI:an:=xd prog pY knL dR (λb=>W.heap[b]?)
 letI:oM:=⟨0⟩
 have hg:prog.globals.size<=W.heap.size:=by obtain⟨o,_,ho,_⟩:=bn.2 prog.globals.size (aR _) (mM aW);exact oI (bf.1 ho).1
 refine agF U U (R:=λe u'=>e=aG (.bool M)) (λρ j v=>adl _ _ _ _ ρ j v) func9 (c:=nS f9) aW U aW (az aW) hg (λb o hb=>hb) (adm (abO _) (az aW) (az aW) (have h:=((GH _).it.ok _).2 aW;⟨h,aA h⟩) (cM aN aM) (agS W yJ) (OD W Vk) aQ (OD W bk) aS (OD W bl) aT) (λe u h=>⟨_,h⟩) ?_;intro v u' w' hv aL bp bg bh bq;have d:aK W w':=⟨bg,bq,bh,bp,aL⟩;cases hv;exact⟨_,_,_,[],_,[],aD,trodAll_mk1<|shut_bool underlying4 _,(Ld (Below.trod Hs aW (mM aW) D d bA)<|Ld (Below.trod Hs aW (mM aW) E d bB)<|Ld (Below.trod Hs aW (mM aW) G d bC)<|Ld (Below.trod Hs aW (mM aW) J d bD) trodAll_mk0),U,d.frame _,λh=>by cases h⟩
theorem lively_holds:Rows.LivelyUptoSaid:=
 acw 9 f9 U U U U U U U ⟨U,U,U,U,U⟩ U U U U U aW func9 aW
  (mM aW) (by unfold Func.isWrapper;first|(rw[aO akL];kernel_rfl)|(rw[aI akL];exact⟨rfl,rfl⟩))
  (λos b H enc _ a=>adn os b H enc a)
end
end Go.Proofs.YtpobhljcainmdaaGreat
