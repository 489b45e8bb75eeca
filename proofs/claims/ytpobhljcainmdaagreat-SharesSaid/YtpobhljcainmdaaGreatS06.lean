/- For every list of raw numbers and every number of ticks, Shares answers true and leaves the list as it was: clients who always have something to read get the disk by their weights, and it never idles. No condition. -/
import Derived.Test.YtpobhljcainmdaaGreatS05
set_option maxRecDepth 100000
set_option maxHeartbeats 8000000
set_option linter.all false
namespace Go.Proofs.YtpobhljcainmdaaGreat
open Go renaming Value->aD,World->az,TypeId->aQ,FuncId->bC,maxLen->cC,info_parts->qO,Addr->bZ,Program->aY
open Go.IntKind renaming i64->dJ
open Go.World renaming news_of_block->Bi,cell?->fC
open _root_.List renaming range->dH
open Go.ConcR renaming Payload->pX
open Go.Value renaming oneCell'->za,cells->Bg
open _root_.Int renaming natCast_add->Wa
open Go.DataW renaming trod_lt->VI
open Go renaming undef->au
open Go.Ending renaming returned->aM
open Go.Obj renaming cells->aA
open _root_.Bool renaming false->av,true->aq
open _root_.Option renaming none->ay,some->aa
open _root_.Or renaming inl->aF,inr->aE
section
attribute [local go_sem ↓] Go.wp_at_zero Go.wp_at_succ
attribute [local go_sem] bV bQ JM JN yA
open Go.Conc Go.RowKit
open Go.ConcR (Payload)
open Go.Proofs.Tryz
structure Ep[aP](l:aB bC):Prop where
 k:Eo l
 x:zn l
 o:∀f,f∈[30,31,37,33,34,58,35]->aP.ok f/\aP.known f
 kI:aP.known 26
 kF:aP.known 32
def leftOf(n k:Nat)(a:Act):Nat:=n-(match a.eval (.tmp k)with|.int _ x=>x.toNat|_=>0)
def sY{a:Act}{n k m:Nat}(h:a.eval (.tmp k)=an (m:Int)):leftOf n k a=n-m:=by unfold leftOf;rw[h];simp
def abQ[aP](x:aJ aD):results f32 x=results f32 (mP (fT 32) x):=by have h:(mP (fT 32) x).getD 6 au=x.getD 6 au:=Am (L:=fT 32) (a:=⟨x,[]⟩) (i:=6) bL;simp only[results,results32,DN,uT,AS,h]
section
variable [aP] {l:aB bC} {u:az} {dn:Nat} {al:aZ bZ} {ll cl:Nat} {g:Cf} {cb xb n:Nat} {f:Fx} {c wt:Nat->Int} {gb cap:Nat} {ps:aB Nat} {ks:aB (Nat×aJ aD×aQ)} {gh:Nat} {t:Int}
def ZR(cb:Nat)(ad:aZ bZ)(len cap:Nat)(x:Int)(ρ:Ren)(b:VR ρ (pt cb) (pt cb)):∀(i:Nat) (v:aD),(Frame.enter prog 32 #[pt cb,.slice ad len cap,an x] .normal).tmps[i]? =aa v->i∉fT 32->VR ρ v v:=
 Qo func32 (body:=sP f32) aT λi v h a=>by
  match i,a with
  |0,_=>simp at h;subst h;exact b
  |1,a=>exact absurd bL a
  |2,_=>simp at h;subst h;constructor
  |n+3,_=>simp at h
abbrev L5(al:aZ bZ)(ll cl cb i:Nat)(r:aB (Nat×aD)):aB (Nat×aD):=(0,pt cb)::(1,.slice al ll cl)::(2,an 20)::(7,an (i:Int))::r
def FeL(al:aZ bZ)(ll cl cb xb n:Nat)(g:Cf)(c wt:Nat->Int)(lv:aD)(ps:aB Nat)(ks:aB (Nat×aJ aD×aQ))(gh:Nat)(t:Int)(d:Nat)(a:Act)(u:az):Prop:=∃(i b:Nat) (f:Fx),Fa 104 a (L5 al ll cl cb i [])/\i<=n/\b<=d+10*i/\f.Sx g c wt n gh t (BF g b i)/\bS u g cb xb f wt b n lv ps ks
def FiL(al:aZ bZ)(ll cl cb xb n:Nat)(g:Cf)(c wt:Nat->Int)(lv:aD)(ps:aB Nat)(ks:aB (Nat×aJ aD×aQ))(gh:Nat)(t:Int)(d i:Nat)(a:Act)(u:az):Prop:=∃(m b:Nat) (f:Fx),Fa 104 a (L5 al ll cl cb i [(10,an (9*(m:Int)))])/\m<=10/\b<=d+10*i+m/\f.Sx g c wt n gh t (Ck.sK g b i m)/\bS u g cb xb f wt b n lv ps ks
def ZS{X:Nat}(G:Ep l)(FA:ll<=cC)(hl:zq al ll)(hI:g.Is)(bN:0<n)(Z:n<=8)(I8:X<=59000)(hS:f.Sx g c wt n gh t λk=>k.Calm g (X:Int) 8)(B:bS u g cb xb f wt X n (.slice (aa (aj gb 0)) n cap) ps ks):
  iV fT prog dn 32 #[pt cb,.slice al ll cl,an 20] u λe u'=>e=aM (.bool aq)/\∃(D:Nat) (f:Fx),D<=X+80/\f.Sx g c wt n gh t (Ck.Full g D)/\bS u' g cb xb f wt D n (.slice (aa (aj gb 0)) n cap) ps ks:=by
 have hT:=G.x.fit;have J7:ll<=9223372036854775807:=FA;refine iV.Cz 104 func32 λa E=>?_;refine FX.sq (FX.reg [0] ?_);refine FE.ow E λa _ E=>FO.nil ?_;refine FX.sq (FX.sq (FX.reg [0] ?_));refine FE.ow E λa _ E=>FO.nil ?_;refine FX.bk 0 (FX.lp (FeL al ll cl cb xb n g c wt (.slice (aa (aj gb 0)) n cap) ps ks gh t X) (λa _=>leftOf n 7 a) ⟨0,X,f,E.to,eZ _,NN _ _,hS.to λs k Y h=>h.fed (bD _) ?_,B⟩ ?_)
 ·obtain⟨r,hr⟩:=hS.ow.mh;have:=(hr s k Y).no;omega
 clear hS B E;rintro a u ⟨i,D,f,E,hi,w,hS,B⟩;have bB:=sY (n:=n) (E.at_ 7 _ rfl);have S:=B.at;refine FX.sq (FX.sq (FX.reg [0,1,2,3,4,5,6] ?_))
 iterate 4 refine FE.ow E λa _ E=>?_
 refine FE.lc E S λa _ E=>?_;refine FE.ln E λa _ E=>?_
 by_cases aI:i<n
 ·have hh:(i:Int)<(n:Int):=ak;refine FE.ow (v:=.bool aq) E λa _ E=>FO.nil ?_;refine FX.cT E (FX.sk ?_);obtain⟨k,Y,_⟩:=hS.is aI;obtain⟨m,hm,bn,hS⟩:=hS.fed Y;obtain⟨p,bh⟩:=B.TI aI
  replace E:Fa 104 a (L5 al ll cl cb i []):=E.to
  refine FX.sq (FX.bk 1 (FX.sj (λa u=>∃(b:Nat) (H I J K L M:Int),Fa 104 a (L5 al ll cl cb i [(8,pt b),(9,an 0)])/\bS u g cb xb f wt D n (.slice (aa (aj gb 0)) n cap) ps ((b,je H k.aU.size I J K L M k.sv,68)::ks)) (FX.dm 21 19 17 (λj v u=>match j with|0=>v=pt cb|1=>v=pt cb|2=>v=.pointer (aa (aj cb 9))|3=>v=pt xb|4=>v=pt cb|5=>v=pt cb|6=>v=.pointer (aa (aj cb 10))|7=>v=.slice (aa (aj gb 0)) n cap|8=>v=an (i:Int)|9=>v=.pointer (aa (aj gb i))|10=>v=pt p|11=>v=pt p|12=>v=aR p|13=>v=an (i:Int)|14=>∃H I J K L M:Int,v=.tuple #[.agg (je H k.aU.size I J K L M k.sv),an 0]|15=>∃H I J K L M:Int,v=.tuple #[.agg (je H k.aU.size I J K L M k.sv),an 0]|16=>∃H I J K L M:Int,v=.agg (je H k.aU.size I J K L M k.sv)|17=>v=an 0|18=>∃b,v=pt b/\(∀p∈ks,p.1≠b)/\bS u g cb xb f wt D n (.slice (aa (aj gb 0)) n cap) ps ((b,je 0 0 0 0 0 0 0 0,68)::ks)|_=>True) (λu=>bS u g cb xb f wt D n (.slice (aa (aj gb 0)) n cap) ps ks) (λu F=>∀b,b<u.heap.size->F.heap[b]? =u.heap[b]?) ?_ E (B.drew u.tape (u.drawn+1)) (λu C x W a is E A w=>?_) (λu C a E hv=>?_) λ_ u C a E hv=>?_) ?_))
  ·intro u F j v hm h
   iterate 18 (rcases j with _|j;exact h)
   rcases j with _|j
   ·obtain⟨b,T,h3,R⟩:=h;exact⟨b,T,h3,R.stay hm⟩
   ·exact h
  ·obtain⟨hq,Q⟩:=C.slot bh
   match x,W with
   |0,_=>exact FE.ow E (dm C w)
   |1,_=>exact FE.ow (E.dd (A 0 rfl)) (dm C w)
   |2,_=>exact FE.ow (E.dd (A 1 rfl)) (dm C w)
   |3,_=>exact FE.lc (E.dd (A 2 rfl)) C.at (dm C w)
   |4,_=>exact FE.ow E (dm C w)
   |5,_=>exact FE.ow (E.dd (A 4 rfl)) (dm C w)
   |6,_=>exact FE.ow (E.dd (A 5 rfl)) (dm C w)
   |7,_=>exact FE.lc (E.dd (A 6 rfl)) C.at (dm C w)
   |8,_=>exact FE.ow E (dm C w)
   |9,_=>exact FE.ow ((E.dd (A 7 rfl)).dd (A 8 rfl)) (dm C w)
   |10,_=>exact FE.l1 (E.dd (A 9 rfl)) hq (dm C w)
   |11,_=>exact FE.ow (E.dd (A 10 rfl)) (dm C w)
   |12,_=>exact FE.ow (E.dd (A 11 rfl)) (dm C w)
   |13,_=>exact FE.lc (E.dd (A 12 rfl)) Q (dm C w)
   |14,_=>
    refine FE.cx ((E.dd (A 3 rfl)).dd (A 13 rfl)) (G.o _ bL).2 ((Qc hT (G.o _ bL).1 C hS Y).mono ?_);rintro e F ⟨⟨H,I,J,K,L,M,rfl⟩,hm,C⟩;exact⟨_,rfl,λP N _=>w P _ F ⟨H,I,J,K,L,M,rfl⟩ C hm N⟩
   |15,_=>obtain⟨H,I,J,K,L,M,e⟩:=A 14 rfl;exact FE.ow (E.dd e) λP N _=>w P _ u ⟨H,I,J,K,L,M,rfl⟩ C (λ_ _=>rfl) N
   |16,_=>obtain⟨H,I,J,K,L,M,e⟩:=A 15 rfl;exact FE.ow (v:=.agg (je H k.aU.size I J K L M k.sv)) (E.dd e) λP N _=>w P _ u ⟨H,I,J,K,L,M,rfl⟩ C (λ_ _=>rfl) N
   |17,_=>obtain⟨H,I,J,K,L,M,e⟩:=A 15 rfl;exact FE.ow (v:=an 0) (E.dd e) (dm C w)
   |18,_=>exact FE.nw (v:=pt u.heap.size) E (u.alloc (aA (je 0 0 0 0 0 0 0 0) 68)) (hr:=λτ=>by go_simp;rfl) λP N _=>w P _ _ ⟨_,rfl,C.apart,C.new rfl bL⟩ (C.old ((Below.refl _ u).alloc (bD _) _)) (λb hb=>((Below.refl u.heap.size u).alloc (bD _) _).block b hb) N
   |m+19,hm=>omega
  ·obtain⟨b,eb,aL,B⟩:=hv 18 rfl;obtain⟨H,I,J,K,L,M,e⟩:=hv 16 rfl
   replace E:=((E.dd eb).dd e).dd (hv 17 rfl)
   refine cQ.one (j:=19) aT λis O=>FE.sa E (B.kept (dw ..)) λF T R h3=>O a F ?_
   replace B:bS F g cb xb f wt D n (.slice (aa (aj gb 0)) n cap) ps ((b,je H k.aU.size I J K L M k.sv,68)::ks):=B.put (·=b) (λy e=>(by rw[show y=b from e];exact aF ⟨_,dw ..⟩)) rfl T (λb hb Z=>R b Z) bL ak λp Q=>⟨eJ _ Q,aL p Q⟩
   refine cQ.one (j:=20) aT λis O=>FE.ow E λa _ E=>O a F (cQ.none aT ?_);exact⟨b,H,I,J,K,L,M,E.to,B⟩
  ·obtain⟨b,eb,aL,B⟩:=hv 18 rfl;obtain⟨H,I,J,K,L,M,e⟩:=hv 16 rfl;obtain⟨y0,y2,y3,y4,y5,y6,e2⟩:=hv 15 rfl
   replace E:=((E.dd eb).dd e).dd e2
   refine cQ.two (i:=17) (j:=19) aT (λis O=>FE.ow (v:=an 0) E λa _ E=>O a u ?_) λis O=>?_
   ·refine cQ.one (j:=19) aT λis O=>FE.sa E (B.kept (dw ..)) λF T R h3=>O a F ?_
    replace B:bS F g cb xb f wt D n (.slice (aa (aj gb 0)) n cap) ps ((b,je H k.aU.size I J K L M k.sv,68)::ks):=B.put (·=b) (λy e=>(by rw[show y=b from e];exact aF ⟨_,dw ..⟩)) rfl T (λb hb Z=>R b Z) bL ak λp Q=>⟨eJ _ Q,aL p Q⟩
    refine cQ.one (j:=20) aT λis O=>FE.ow E λa _ E=>O a F (cQ.none aT ?_);exact⟨b,H,I,J,K,L,M,E.to,B⟩
   ·refine FE.sa E (B.kept (dw ..)) λF T R h3=>O a F ?_
    replace B:bS F g cb xb f wt D n (.slice (aa (aj gb 0)) n cap) ps ((b,je H k.aU.size I J K L M k.sv,68)::ks):=B.put (·=b) (λy e=>(by rw[show y=b from e];exact aF ⟨_,dw ..⟩)) rfl T (λb hb Z=>R b Z) bL ak λp Q=>⟨eJ _ Q,aL p Q⟩
    refine cQ.one (j:=17) aT λis O=>FE.ow (v:=an 0) E λa _ E=>O a F ?_;refine cQ.one (j:=20) aT λis O=>FE.ow E λa _ E=>O a F (cQ.none aT ?_);exact⟨b,H,I,J,K,L,M,E.to,B⟩
  clear B E;rintro a u ⟨b,H,I,J,K,L,M,E,B⟩;refine FX.sq (FX.sq (FX.reg [0,1] ?_));refine FE.ow E λa _ E=>?_;refine FE.ow (v:=.bool av) E λa _ E=>FO.nil ?_;refine FX.cF E (FX.sk ?_);refine FX.sq (FX.reg [0,1,2] ?_);refine FE.ow E λa _ E=>?_;refine FE.lc E (B.kept (dw ..)) λa _ E=>?_;refine FE.ow E λa _ E=>FO.nil ?_;rw[bn,show((9*m:Nat):Int)=9*(m:Int) by simp]at E;refine FX.bk 2 (FX.lp (FiL al ll cl cb xb n g c wt (.slice (aa (aj gb 0)) n cap) ps ks gh t X i) (λa _=>leftOf 100 10 a) ⟨m,D,f,E.to,hm,ak,hS,B.eW λp Q=>eJ _ Q⟩ ?_);clear hS B E Y bn hm S;rintro a u ⟨m,D,f,E,hm,w,hS,B⟩;have Cd:=sY (n:=100) (k:=10) (m:=9*m) ((E.at_ 10 _ rfl).trans aC);have S:=B.at;refine FX.sq (FX.sq (FX.reg [0,1,2] ?_));refine FE.ow E λa _ E=>?_;refine FE.ar E λa _ E=>?_
  by_cases bE:m<10
  ·have bz:(9*(m:Int))+9<=90:=ak;refine FE.ow (v:=.bool aq) E λa _ E=>FO.nil ?_;refine FX.cT E (FX.sk ?_);refine FX.sq (FX.bk 3 (FX.sq (FX.reg [0,1,2,3,4,5,6,7,8,9] ?_)))
   iterate 4 refine FE.ow E λa _ E=>?_
   refine FE.lc E S λa _ E=>?_;have bO:(D:Int).tmod 60000=D:=Int.tmod_eq_of_lt ak ak;refine FE.ow (v:=an (D:Int)) E (hr:=λτ=>by have h9:(D:Int)%60000=D:=Int.emod_eq_of_lt ak ak;first|(go_simp;done)|(go_simp;omega)) λa _ E=>?_;refine FE.ar E λa _ E=>?_
   iterate 2 refine FE.ow E λa _ E=>?_
   refine FE.st E S λF T R=>FO.nil ?_
   replace B:bS F g cb xb f wt ((D+1:Nat):Int) n (.slice (aa (aj gb 0)) n cap) ps ks:=B.YJ T R
   clear T R S
   replace E:Fa 104 a (L5 al ll cl cb i [(10,an (9*(m:Int)))]):=E.to
   obtain⟨V,bF⟩:∃q:Int,g.mx=4*q:=⟨g.mx / 4,by have:=hI.mx;omega⟩;have bK:=hI.mx;refine FX.sq (FX.dr 34 32 (λj v=>match j with|0=>v=pt cb|1=>v=pt cb|2=>v=.pointer (aa (aj cb 10))|3=>v=.slice (aa (aj gb 0)) n cap|4=>v=an (i:Int)|5=>v=.pointer (aa (aj gb i))|6=>v=pt p|7=>v=pt p|8=>v=aR p|9=>v=an (i:Int)|10=>v=pt cb|11=>v=pt cb|12=>v=.pointer (aa (aj cb 14))|13=>v=an ((D+1:Nat):Int)|14=>v=.slice al ll cl|15=>v=an 20|16=>v=pt cb|17=>v=pt cb|18=>v=.pointer (aa (aj cb 14))|19=>v=an ((D+1:Nat):Int)|20=>v=an (20+((D+1:Nat):Int))|21=>∃z,v=an z/\lA z|22=>v=pt cb|23=>v=pt cb|24=>v=pt cb|25=>v=.pointer (aa (aj cb 3))|26=>v=an g.mx|27=>v=an V|28=>∃r,v=an r/\0<=r/\r<V|29=>∃r,v=an (1+r)/\0<=r/\r<V|30=>∃r,v=an (4*(1+r))/\0<=r/\r<V|31=>∃r,v=.agg (wG i ((D+1:Nat):Int) 0 0 0 (4*(1+r)) ⟨#[]⟩ 0 (-1) 0 ⟨#[]⟩)/\0<=r/\r<V|_=>True) E (λu3 Cm x W a is E A w=>?_) λu3 Cm a E hv=>?_)
   ·have B3:=B.drew F.tape (F.drawn+1);rw[<-Cm]at B3;obtain⟨hq,Q⟩:=B3.slot bh;have S:=B3.at;clear Cm
    match x,W with
    |0,_=>exact FE.ow E (dk w)
    |1,_=>exact FE.ow (E.dd (A 0 rfl)) (dk w)
    |2,_=>exact FE.ow (E.dd (A 1 rfl)) (dk w)
    |3,_=>exact FE.lc (E.dd (A 2 rfl)) S (dk w)
    |4,_=>exact FE.ow E (dk w)
    |5,_=>exact FE.ow ((E.dd (A 3 rfl)).dd (A 4 rfl)) (dk w)
    |6,_=>exact FE.l1 (E.dd (A 5 rfl)) hq (dk w)
    |7,_=>exact FE.ow (E.dd (A 6 rfl)) (dk w)
    |8,_=>exact FE.ow (E.dd (A 7 rfl)) (dk w)
    |9,_=>exact FE.lc (E.dd (A 8 rfl)) Q (dk w)
    |10,_=>exact FE.ow E (dk w)
    |11,_=>exact FE.ow (E.dd (A 10 rfl)) (dk w)
    |12,_=>exact FE.ow (E.dd (A 11 rfl)) (dk w)
    |13,_=>exact FE.lc (E.dd (A 12 rfl)) S (dk w)
    |14,_=>exact FE.bl E (dk w)
    |15,_=>exact FE.ow E (dk w)
    |16,_=>exact FE.ow E (dk w)
    |17,_=>exact FE.ow (E.dd (A 16 rfl)) (dk w)
    |18,_=>exact FE.ow (E.dd (A 17 rfl)) (dk w)
    |19,_=>exact FE.lc (E.dd (A 18 rfl)) S (dk w)
    |20,_=>exact FE.ar ((E.dd (A 15 rfl)).dd (A 19 rfl)) (dk w)
    |21,_=>exact FE.raw G.k FA hl ((E.dd (A 14 rfl)).dd (A 20 rfl)) λz P hz N _=>w P _ ⟨z,rfl,hz⟩ N
    |22,_=>exact FE.ow E (dk w)
    |23,_=>exact FE.ow (E.dd (A 22 rfl)) (dk w)
    |24,_=>exact FE.ow (E.dd (A 23 rfl)) (dk w)
    |25,_=>exact FE.ow (E.dd (A 24 rfl)) (dk w)
    |26,_=>exact FE.lc (E.dd (A 25 rfl)) S (dk w)
    |27,_=>exact FE.ow (v:=an V) (E.dd (A 26 rfl)) (hr:=λτ=>by have h9:g.mx.tdiv 4=V:=(by rw[bF];exact Int.mul_tdiv_cancel_left _ bL);have h8:g.mx / 4=V:=ak;have h7:dJ.wrap V=V:=gV ak ak;go_simp) (dk w)
    |28,_=>obtain⟨z,e,hz⟩:=A 21 rfl;exact FE.qA G.k hz ((E.add (d:=79) e).dd (A 27 rfl)) λr P hr N _=>w P _ ⟨r,rfl,hr⟩ N
    |29,_=>obtain⟨r,e,hr⟩:=A 28 rfl;exact FE.ar (E.add (d:=86) e) λP N _=>w P _ ⟨r,rfl,hr⟩ N
    |30,_=>obtain⟨r,e,hr⟩:=A 29 rfl;exact FE.ar (E.add (d:=87) e) λP N _=>w P _ ⟨r,rfl,hr⟩ N
    |31,_=>obtain⟨r,e,hr⟩:=A 30 rfl;exact FE.ow (v:=.agg (wG i ((D+1:Nat):Int) 0 0 0 (4*(1+r)) ⟨#[]⟩ 0 (-1) 0 ⟨#[]⟩)) (((((E.dd (A 9 rfl)).dd (A 13 rfl))).add (d:=88) e)) λP N _=>w P _ ⟨r,rfl,hr⟩ N
    |m+32,hm=>omega
   replace B:=B.drew F.tape (F.drawn+1)
   rw[<-Cm]at B;clear Cm;obtain⟨r,e,hr⟩:=hv 31 rfl;obtain⟨ln,RH⟩:∃ln:Nat,4*(1+r)=(ln:Int):=⟨(4*(1+r)).toNat,ak⟩;rw[RH]at e
   replace E:=E.add (d:=89) e
   refine cQ.one (j:=32) aT λis O=>FE.nw (v:=pt u3.heap.size) E (u3.alloc (aA (wG i ((D+1:Nat):Int) 0 0 0 ln ⟨#[]⟩ 0 (-1) 0 ⟨#[]⟩) 53)) (hr:=λτ=>by go_simp;rfl) λa _ E=>O a _ ?_;obtain⟨wb,aX⟩:∃b,b=u3.heap.size:=⟨_,rfl⟩;rw[<-aX]at E
   replace B:=B.new (x:=wG i ((D+1:Nat):Int) 0 0 0 ln ⟨#[]⟩ 0 (-1) 0 ⟨#[]⟩) (U:=53) aX bL
   generalize u3.alloc (aA (wG i ((D+1:Nat):Int) 0 0 0 ln ⟨#[]⟩ 0 (-1) 0 ⟨#[]⟩) 53)=u at*;clear aX;refine cQ.one (j:=33) aT λis O=>FE.ow E λa _ E=>O a u (cQ.none aT ?_)
   replace E:Fa 104 a (L5 al ll cl cb i [(10,an (9*(m:Int))),(11,pt wb)]):=E.to
   refine FX.sq (FX.dm 12 10 12 (λj v _=>match j with|0=>v=pt cb|1=>v=pt cb|2=>v=.pointer (aa (aj cb 9))|3=>v=pt xb|4=>v=pt wb|5=>v=pt wb|6=>v=aR wb|7=>v=an (i:Int)|8=>v=pt wb|9=>∃x,v=.string x/\x.data.toList=kM (D+1,ln)|_=>True) (λu=>bS u g cb xb f wt ((D+1:Nat):Int) n (.slice (aa (aj gb 0)) n cap) ps ((wb,wG i ((D+1:Nat):Int) 0 0 0 ln ⟨#[]⟩ 0 (-1) 0 ⟨#[]⟩,53)::ks)) (λu F=>∀b,b<u.heap.size->F.heap[b]? =u.heap[b]?) (λ_ _ _ _ _ h=>h) E (B.drew u.tape (u.drawn+1)) (λu C x W a is E A w=>?_) (λu B a E hv=>?_) λh=>absurd h bL)
   ·match x,W with
    |0,_=>exact FE.ow E (dm C w)
    |1,_=>exact FE.ow (E.dd (A 0 rfl)) (dm C w)
    |2,_=>exact FE.ow (E.dd (A 1 rfl)) (dm C w)
    |3,_=>exact FE.lc (E.dd (A 2 rfl)) C.at (dm C w)
    |4,_=>exact FE.ow E (dm C w)
    |5,_=>exact FE.ow (E.dd (A 4 rfl)) (dm C w)
    |6,_=>exact FE.ow (E.dd (A 5 rfl)) (dm C w)
    |7,_=>exact FE.lc (E.dd (A 6 rfl)) (C.kept (dw ..)) (dm C w)
    |8,_=>exact FE.ow E (dm C w)
    |9,_=>
     refine FE.cx (E.dd (A 8 rfl)) (G.o _ bL).2 ((YQ hT (G.o _ bL).1 C (C.kept (dw ..)) ak ak).mono ?_);rintro e F ⟨⟨x,rfl,W⟩,hm,C⟩;exact⟨_,rfl,λP N _=>w P _ F ⟨x,rfl,W⟩ C hm N⟩
    |m+10,hm=>omega
   obtain⟨x,ex,W⟩:=hv 9 rfl
   replace E:=((E.dd (hv 3 rfl)).dd (hv 7 rfl)).add (d:=100) ex
   refine cQ.one (j:=10) aT λis O=>FE.cx E (G.o _ bL).2 ((YV hT (G.o _ bL).1 B hS aI bE W ⟨ak,ak,ak⟩).mono ?_);rintro e u ⟨v,f,rfl,⟨rfl,hS⟩,B⟩;refine⟨_,rfl,λa _ E=>O a u (cQ.one (j:=11) aT λis O=>FE.ow E λa _ E=>O a u (cQ.none aT ?_))⟩;refine FX.sq (FX.reg [0,1] ?_);refine FE.ow E λa _ E=>?_;refine FE.ow (v:=.bool av) E λa _ E=>FO.nil ?_;refine FX.cF E (FX.sk ?_);refine FX.reg [0,1,2] ?_;refine FE.ow E λa _ E=>?_;refine FE.ar E λa _ E=>?_;refine FE.ow E λa _ E=>FO.nil ?_;rw[show 9*(m:Int)+9=9*((m+1:Nat):Int) by omega]at E;refine⟨⟨m+1,D+1,f,E.to,ak,ak,hS,B.eW λp Q=>eJ _ Q⟩,?_⟩;rw[Cd,sY (n:=100) (k:=10) (m:=9*(m+1)) ((E.at_ 10 _ rfl).trans aC)];omega
  ·have bz:¬(9*(m:Int))+9<=90:=ak;refine FE.ow (v:=.bool av) E λa _ E=>FO.nil ?_;refine FX.cF E (FX.ex 2 ?_);have bp:m=10:=ak;subst bp;refine FX.reg [0,1,2] ?_;refine FE.ow E λa _ E=>?_;refine FE.ar E λa _ E=>?_;refine FE.ow E λa _ E=>FO.nil ?_;rw[show(i:Int)+1=((i+1:Nat):Int) by simp]at E;refine⟨⟨i+1,D,f,E.to,aI,ak,hS.to λs k Y h=>h.next,B⟩,?_⟩;rw[bB,sY (n:=n) (E.at_ 7 _ rfl)];omega
 ·have hh:¬(i:Int)<(n:Int):=ak;refine FE.ow (v:=.bool av) E λa _ E=>FO.nil ?_;refine FX.cF E (FX.ex 0 ?_);have e:i=n:=ak;subst e;refine FX.sq (FX.reg [0] ?_);refine FE.ow E λa _ E=>FO.nil ?_;refine FX.rt ⟨rfl,E.defers,.bool aq,?_,rfl,D,f,ak,hS.C5,B⟩;have R:=ev (E.at_ 6 _ rfl);simp[results,results32,go_sem,R]
end
section
variable [aP] {P:aY} {l:aB bC} {Q:Exit->Act->az->Prop} {a:Act} {u:az} {ops:aJ Oper} {i n:Nat} {rest:aB Nat} {Lf:bC->aB Nat} {f0:bC} {dn:Nat} {L:aB (Nat×aD)} {ty:aQ} {ps:String} {af:aJ Edge} {gd:aZ (Nat×Bool)}
def FE.sc{t d b j:Nat}{x:aJ aD}{T:aQ}{v v0:aD}(E:Fa n a L)(B:u.heap[b]? =aa (aA x T (0,0)))(c:∀u1:az,u1.heap[b]? =aa (aA (x.setIfInBounds j v) T (0,0))->FO Lf f0 dn P ops Q rest a u1)(k:ops[i]? =aa ⟨ay,.store t (.tmp d) (.const v),ty,ps,af,gd⟩:=by rfl) (s:lk L d=aa (.pointer (aa (aj b j))):=by rfl) (p:x[j]? =aa v0:=by rfl) (o:(jg ops L gd&&jo ops n gd)=aq:=by rfl) (m:okB P l (.store t (.tmp d) (.const v))=aq:=by rfl) (hc:lW (Lf f0) 1 0 L (.store t (.tmp d) (.const v))=aq:=by rfl)
  (hr:∀w:az,w.cell? (aj b j)=aa v0->w.frozen? (aj b j)=av->(execOp (gH L) ⟨ay,.store t (.tmp d) (.const v),ty,ps,af,gd⟩).run P w=.ok .skip (w.setCell (aj b j) v):=by(intro w q r;go_simp)) (h:Fit P l:=by assumption):FO Lf f0 dn P ops Q (i::rest) a u:=by
 refine FE.vo E (u.setCell (aj b j) v) (c _ (dF B j v)) k o m hc (λe=>?_) h;rw[hr _ (aI (show(u.tp e).heap[b]? =_ from B) p) (bF (show(u.tp e).heap[b]? =_ from B) j)];exact dZ _ (Mc _ _ _ _)
end
def ZK{P:aY}{w w1:az}{ρ:Operand->aD}{d:aZ Nat}{x y:Operand}{b:aJ aQ}{ty:aQ}{ps:String}{af:aJ Edge}{gd:aZ (Nat×Bool)}{v:aD}(h:(Builtin.append_ b ty #[ρ x,ρ y]).run P w=.ok v w1):(execOp ρ ⟨d,.call ⟨.builtin .append,#[x,y],b⟩,ty,ps,af,gd⟩).run P w=.ok (.value v) w1:=by unfold execOp;simp[resolve,invoke,builtin,h]
abbrev qF(f:Fx)(i:Nat):aB aD:=(dH i).map λj=>an (f.dR j)
def afw(f:Fx)(i:Nat):qF f (i+1)=qF f i++[an (f.dR i)]:=by unfold qF;rw[yP,AT];rfl
section
variable [aP] {u u1:az} {g:Cf} {cb xb n:Nat} {f:Fx} {wt:Nat->Int} {ck:Int} {lv:aD} {ps:aB Nat} {ks kv kb:aB (Nat×aJ aD×aQ)} {i:Nat} {sv:aD} {xs:aB aD}
def bS.app{j:aD}(B:bS u g cb xb f wt ck n lv ps ks)(k:∀p∈kb,p∈ks/\aa p.1≠sv.ownBlock)(r:∀b,sv.ownBlock=aa b->∃x,(b,x,3)∈ks)(hr:u1.ownsRow 0 3 1 j (i+1) xs)(A:u.heap.size<=u1.heap.size)(v:∀y,y<u.heap.size->aa y≠sv.ownBlock->u1.heap[y]? =u.heap[y]?)(o:j.ownBlock=sv.ownBlock\/∀b,j.ownBlock=aa b->u.heap.size<=b):∃kv,(∀p∈kb,aa p.1≠j.ownBlock)/\qj kv j xs/\bS u1 g cb xb f wt ck n lv ps (kv++kb):=by
 obtain⟨b,x,cap,rfl,s,t⟩:=qj.of hr (Nat.succ_pos _);have w:∀p∈kb,p.1<u.heap.size:=λp d=>(bq.1 (B.kept (k p d).1)).1;have q:∀p∈kb,p.1≠b:=λp d e=>o.elim (λh=>(k p d).2 (by rw[e];exact h)) λh=>by have:=h b rfl;have:=w p d;omega
 refine⟨[(b,x,3)],λp d e=>q p d (dP e),t [],B.put (λy=>y=b\/aa y=sv.ownBlock) (λy m=>?_) (aF rfl) s (λy m z=>v y m λe=>z (aE e)) bL A λp d=>⟨(k p d).1,λe=>e.elim (q p d) (k p d).2⟩⟩;rcases m with rfl|e
 ·exact o.elim (λe=>aF (r y e.symm)) λh=>aE (h y rfl)
 ·exact aF (r y e.symm)
def bS.rowAt{f':Fx}(B:bS u g cb xb f wt ck n lv ps ks)(h:qj kv sv (qF f' i))(m:∀p∈kv,p∈ks)(h0:0<i):∃b cap,sv=.slice (aa (aj b 0)) i cap/\BH u b i f'.dR:=by have hr:=h.1 u λp o=>B.kept (m p o);rw[show(qF f' i).length=i by simp]at hr;obtain⟨b,cap,e,d⟩:=yc hr h0;exact⟨b,cap,e,λj k=>d j _ (by simp[k])⟩
end
def O6:(prog.info? 3).map (λi=>(i.zero,i.size,i.bytes))=aa (aa (an 0),1,8):=aT
section
variable [aP] [pX] {l:aB bC} {u:az} {a:Act} {al:aZ bZ} {ll cl cb xb n c5 gb cap:Nat} {g:Cf} {c wt:Nat->Int} {ps:aB Nat} {tk:Int}
abbrev L6(al:aZ bZ)(ll cl:Nat)(tk:Int)(c5 cb:Nat)(r:aB (Nat×aD)):aB (Nat×aD):=(0,.slice al ll cl)::(1,an tk)::(5,pt c5)::(6,pt cb)::r
def ShE(al:aZ bZ)(ll cl:Nat)(tk:Int)(c5 cb xb:Nat)(g:Cf)(a:Act)(u:az):Prop:=∃(i:Nat) (f:Fx) (wt:Nat->Int) (lv:aD) (ps:aB Nat),Fa 148 a (L6 al ll cl tk c5 cb [(7,an (i:Int))])/\(i:Int)<=g.cl/\f.Host g wt i/\bS u g cb xb f wt 0 i lv ps [(c5,eE g,35)]
def Was(g:Cf)(c wt:Nat->Int)(n N:Nat)(kb:aB (Nat×aJ aD×aQ))(bv:aD):Prop:=(N=0/\bv=.slice ay 0 0)\/(∃(f0:Fx) (d0:Nat) (t0:Int) (b:Ck->Prop),t0<=64/\f0.Sx g c wt n d0 t0 b/\qj kb bv (qF f0 n))
def ShN(al:aZ bZ)(ll cl:Nat)(tk:Int)(c5 cb xb n:Nat)(g:Cf)(c wt:Nat->Int)(lv:aD)(ps:aB Nat)(a:Act)(u:az):Prop:=∃(N ck:Nat) (f:Fx) (bv:aD) (kb:aB (Nat×aJ aD×aQ)),Fa 148 a (L6 al ll cl tk c5 cb [(9,bv),(10,an (N:Int))])/\N<=62/\ck<=80*N/\f.Sx g c wt n (g.wk.toNat*N) ((N:Int)+1) (λk=>k.Calm g (ck:Int) 8)/\Was g c wt n N kb bv/\bS u g cb xb f wt ck n lv ps ((c5,eE g,35)::kb)
def ShT(al:aZ bZ)(ll cl:Nat)(tk:Int)(c5 cb xb n:Nat)(g:Cf)(c wt:Nat->Int)(lv:aD)(ps:aB Nat)(N ck:Nat)(f1:Fx)(bv:aD)(kb:aB (Nat×aJ aD×aQ))(a:Act)(u:az):Prop:=∃(i:Nat) (f:Fx) (sv:aD) (kv:aB (Nat×aJ aD×aQ)),Fa 148 a (L6 al ll cl tk c5 cb [(9,bv),(10,an (N:Int)),(12,sv),(13,an (f1.jZ i)),(14,an (i:Int))])/\i<=n/\f.Sx g c wt n (g.wk.toNat*N+g.wk.toNat) ((N:Int)+1+1) (λk=>k.Calm g (ck:Int) (if k.no<i then 0 else 116))/\(∀j,f.dR j=f1.dR j)/\qj kv sv (qF f1 i)/\(∀p∈(c5,eE g,35)::kb,aa p.1≠sv.ownBlock)/\bS u g cb xb f wt ck n lv ps (kv++(c5,eE g,35)::kb)
def afC{Q:Exit->Act->az->Prop}{N ck:Nat}{f1:Fx}{bv:aD}{kb:aB (Nat×aJ aD×aQ)}(G:Ep l)(hI:g.Is)(hN:N<=62)(cr:0<n)(hn:n<=8)(M:f1.Sx g c wt n (g.wk.toNat*N+g.wk.toNat) ((N:Int)+1+1) (Ck.Calm g (ck:Int) 116))(E:Fa 148 a (L6 al ll cl tk c5 cb [(9,bv),(10,an (N:Int)),(12,.slice ay 0 0),(13,an 0)]))(B:bS u g cb xb f1 wt ck n (.slice (aa (aj gb 0)) n cap) ps ((c5,eE g,35)::kb)){cd:Code}(bN:cd=nZ (eT (eT (eT (eT (eT (sR (nZ (eT (sR (sR (eT (nZ (eT (eT (eT (eT (eT (eT (eT (eT (eT (eT (eT (eT (eT (sP f10)))))))))))))))))))))))))))
  (hQ:∀(a:Act) (u:az) (f:Fx) (sv:aD) (kv:aB (Nat×aJ aD×aQ)),Fa 148 a (L6 al ll cl tk c5 cb [(9,bv),(10,an (N:Int)),(12,sv),(13,an (f1.jZ n))])->f.Sx g c wt n (g.wk.toNat*N+g.wk.toNat) ((N:Int)+1+1) (λk=>k.Calm g (ck:Int) 8)->qj kv sv (qF f1 n)->bS u g cb xb f wt ck n (.slice (aa (aj gb 0)) n cap) ps (kv++(c5,eE g,35)::kb)->Q .normal a u):FX fT 10 0 prog cd Q a u:=by
 subst bN;have hT:=G.x.fit;have cm:(c5,eE g,35)∈(c5,eE g,35)::kb:=dw ..;refine FX.sq (FX.reg [0] ?_);refine FE.ow E λa _ E=>FO.nil ?_;refine FX.bk 4 (FX.lp (ShT al ll cl tk c5 cb xb n g c wt (.slice (aa (aj gb 0)) n cap) ps N ck f1 bv kb) (λa _=>leftOf n 14 a) ⟨0,f1,.slice ay 0 0,[],E.to,eZ _,M.to λs k W h=>?_,λ_=>rfl,qj.nil,λp hp e=>(by cases e),B⟩ ?_)
 ·obtain⟨r,hr⟩:=M.ow.mh;have:=(hr s k W).no;rw[aK ak];exact h
 clear B E;rintro a u ⟨i,f,sv,kv,E,hi,hS,O,hR,W,B⟩;have bU:=sY (n:=n) (E.at_ 14 _ rfl);have R:=B.at;refine FX.sq (FX.sq (FX.reg [0,1,2,3,4,5,6] ?_))
 iterate 4 refine FE.ow E λa _ E=>?_
 refine FE.lc E R λa _ E=>?_;refine FE.ln E λa _ E=>?_
 by_cases aH:i<n
 ·have hh:(i:Int)<(n:Int):=ak;refine FE.ow (v:=.bool aq) E λa _ E=>FO.nil ?_;refine FX.cT E (FX.sk ?_);obtain⟨p,bw⟩:=B.TI aH
  replace E:Fa 148 a (L6 al ll cl tk c5 cb [(9,bv),(10,an (N:Int)),(12,sv),(13,an (f1.jZ i)),(14,an (i:Int))]):=E.to
  obtain⟨Y,aI⟩:∃Y:az->Prop,Y=λu=>∃f,f.Sx g c wt n (g.wk.toNat*N+g.wk.toNat) ((N:Int)+1+1) (λk=>k.Calm g (ck:Int) (if k.no<(i+1:Nat)then 0 else 116))/\(∀j,f.dR j=f1.dR j)/\bS u g cb xb f wt ck n (.slice (aa (aj gb 0)) n cap) ps (kv++(c5,eE g,35)::kb):=⟨_,rfl⟩;refine FX.sq (FX.bk 5 (FX.sj (λa u=>∃f,f.Sx g c wt n (g.wk.toNat*N+g.wk.toNat) ((N:Int)+1+1) (λk=>k.Calm g (ck:Int) (if k.no<(i+1:Nat)then 0 else 116))/\(∀j,f.dR j=f1.dR j)/\Fa 148 a (L6 al ll cl tk c5 cb [(9,bv),(10,an (N:Int)),(12,sv),(13,an (f1.jZ i)),(14,an (i:Int)),(16,an 0)])/\bS u g cb xb f wt ck n (.slice (aa (aj gb 0)) n cap) ps (kv++(c5,eE g,35)::kb)) (FX.dm 20 18 17 (λj v u=>match j with|0=>v=pt cb|1=>v=pt cb|2=>v=.pointer (aa (aj cb 9))|3=>v=pt xb|4=>v=pt cb|5=>v=pt cb|6=>v=.pointer (aa (aj cb 10))|7=>v=.slice (aa (aj gb 0)) n cap|8=>v=an (i:Int)|9=>v=.pointer (aa (aj gb i))|10=>v=pt p|11=>v=pt p|12=>v=aR p|13=>v=an (i:Int)|14=>(∃x,v=.tuple #[.string x,an 0])/\Y u|15=>∃x,v=.tuple #[.string x,an 0]|16=>∃x,v=.string x|17=>v=an 0|_=>True) (λu=>∃f,f.Sx g c wt n (g.wk.toNat*N+g.wk.toNat) ((N:Int)+1+1) (λk=>k.Calm g (ck:Int) (if k.no<(i:Nat)then 0 else 116))/\(∀j,f.dR j=f1.dR j)/\bS u g cb xb f wt ck n (.slice (aa (aj gb 0)) n cap) ps (kv++(c5,eE g,35)::kb)) (λu u1=>Y u->Y u1) ?_ E ⟨f,hS,O,B.drew u.tape (u.drawn+1)⟩ (λu I x X a is E t hc=>?_) (λu I a E hv=>?_) λ_ u I a E hv=>?_) ?_))
  ·intro u u1 j v hm h
   iterate 14 (rcases j with _|j;exact h)
   rcases j with _|j
   ·exact⟨h.1,hm h.2⟩
   iterate 3 (rcases j with _|j;exact h)
   exact h
  ·have d:=λK v hv N=>hc K v u hv I id N;obtain⟨f,hS,O,B⟩:=I;obtain⟨hq,hp⟩:=B.slot bw;have R:=B.at
   match x,X with
   |0,_=>exact FE.ow E (dk d)
   |1,_=>exact FE.ow (E.dd (t 0 rfl)) (dk d)
   |2,_=>exact FE.ow (E.dd (t 1 rfl)) (dk d)
   |3,_=>exact FE.lc (E.dd (t 2 rfl)) R (dk d)
   |4,_=>exact FE.ow E (dk d)
   |5,_=>exact FE.ow (E.dd (t 4 rfl)) (dk d)
   |6,_=>exact FE.ow (E.dd (t 5 rfl)) (dk d)
   |7,_=>exact FE.lc (E.dd (t 6 rfl)) R (dk d)
   |8,_=>exact FE.ow E (dk d)
   |9,_=>exact FE.ow ((E.dd (t 7 rfl)).dd (t 8 rfl)) (dk d)
   |10,_=>exact FE.l1 (E.dd (t 9 rfl)) hq (dk d)
   |11,_=>exact FE.ow (E.dd (t 10 rfl)) (dk d)
   |12,_=>exact FE.ow (E.dd (t 11 rfl)) (dk d)
   |13,_=>exact FE.lc (E.dd (t 12 rfl)) hp (dk d)
   |14,_=>
    refine FE.cx ((E.dd (t 3 rfl)).dd (t 13 rfl)) (G.o _ bL).2 ((YW hT (G.o _ bL).1 B hS aH).mono ?_);rintro e u1 ⟨v,f',rfl,⟨⟨x,rfl⟩,V,h4⟩,h5⟩;have T:Y u1:=by rw[aI];exact⟨f',h4,λj=>(V j).trans (O j),h5⟩
    exact⟨_,rfl,λK N _=>hc K _ u1 ⟨⟨x,rfl⟩,T⟩ ⟨f',h4.to λs k _ h=>⟨h.ph,h.q,by have:=h.out;split at this<;>split<;>omega,h.jc⟩,λj=>(V j).trans (O j),h5⟩ (λ_=>T) N⟩
   |15,_=>obtain⟨⟨x,e⟩,_⟩:=t 14 rfl;exact FE.ow (E.dd e) λK N _=>d K _ ⟨x,rfl⟩ N
   |16,_=>obtain⟨x,e⟩:=t 15 rfl;exact FE.ow (v:=.string x) (E.dd e) λK N _=>d K _ ⟨x,rfl⟩ N
   |17,_=>obtain⟨x,e⟩:=t 15 rfl;exact FE.ow (v:=an 0) (E.dd e) (dk d)
   |m+18,hm=>omega
  ·obtain⟨_,T⟩:=hv 14 rfl;obtain⟨x,ex⟩:=hv 16 rfl;clear I hS B O R;rw[aI]at T;obtain⟨f,hS,O,B⟩:=T
   replace E:=(E.dd ex).dd (hv 17 rfl)
   refine cQ.one (j:=18) aT λis w=>FE.ow E λa _ E=>w a u ?_;refine cQ.one (j:=19) aT λis w=>FE.ow E λa _ E=>w a u (cQ.none aT ?_);exact⟨f,hS,O,E.to,B⟩
  ·obtain⟨_,T⟩:=hv 14 rfl;obtain⟨x,ex⟩:=hv 16 rfl;clear I hS B O R;rw[aI]at T;obtain⟨f,hS,O,B⟩:=T;obtain⟨y,ey⟩:=hv 15 rfl
   replace E:=(E.dd ex).dd ey
   refine cQ.two (i:=17) (j:=18) aT (λis w=>FE.ow (v:=an 0) E λa _ E=>w a u ?_) λis w=>?_
   ·refine cQ.one (j:=18) aT λis w=>FE.ow E λa _ E=>w a u ?_;refine cQ.one (j:=19) aT λis w=>FE.ow E λa _ E=>w a u (cQ.none aT ?_);exact⟨f,hS,O,E.to,B⟩
   ·refine FE.ow E λa _ E=>w a u ?_;refine cQ.one (j:=17) aT λis w=>FE.ow (v:=an 0) E λa _ E=>w a u ?_;refine cQ.one (j:=19) aT λis w=>FE.ow E λa _ E=>w a u (cQ.none aT ?_);exact⟨f,hS,O,E.to,B⟩
  clear hS O B E R aI;rintro a u ⟨f,hS,O,E,B⟩;obtain⟨k,bp,_⟩:=hS.is aH;refine FX.sj (λa u=>∃(b:Nat) (z A C D F H:Int),Fa 148 a (L6 al ll cl tk c5 cb [(9,bv),(10,an (N:Int)),(12,sv),(13,an (f1.jZ i)),(14,an (i:Int)),(16,an 0),(17,pt b),(18,an 0)])/\(∀p∈(kv++(c5,eE g,35)::kb),p.1≠b)/\bS u g cb xb f wt ck n (.slice (aa (aj gb 0)) n cap) ps ((b,je z k.aU.size A C D F H k.sv,68)::(kv++(c5,eE g,35)::kb))) (FX.dm 21 19 17 (λj v u=>match j with|0=>v=pt cb|1=>v=pt cb|2=>v=.pointer (aa (aj cb 9))|3=>v=pt xb|4=>v=pt cb|5=>v=pt cb|6=>v=.pointer (aa (aj cb 10))|7=>v=.slice (aa (aj gb 0)) n cap|8=>v=an (i:Int)|9=>v=.pointer (aa (aj gb i))|10=>v=pt p|11=>v=pt p|12=>v=aR p|13=>v=an (i:Int)|14=>∃z A C D F H:Int,v=.tuple #[.agg (je z k.aU.size A C D F H k.sv),an 0]|15=>∃z A C D F H:Int,v=.tuple #[.agg (je z k.aU.size A C D F H k.sv),an 0]|16=>∃z A C D F H:Int,v=.agg (je z k.aU.size A C D F H k.sv)|17=>v=an 0|18=>∃b,v=pt b/\(∀p∈(kv++(c5,eE g,35)::kb),p.1≠b)/\bS u g cb xb f wt ck n (.slice (aa (aj gb 0)) n cap) ps ((b,je 0 0 0 0 0 0 0 0,68)::(kv++(c5,eE g,35)::kb))|_=>True) (λu=>bS u g cb xb f wt ck n (.slice (aa (aj gb 0)) n cap) ps (kv++(c5,eE g,35)::kb)) (λu u1=>∀b,b<u.heap.size->u1.heap[b]? =u.heap[b]?) ?_ E (B.drew u.tape (u.drawn+1)) (λu I x X a is E t hc=>?_) (λu I a E hv=>?_) λ_ u I a E hv=>?_) ?_
  ·intro u u1 j v hm h
   iterate 18 (rcases j with _|j;exact h)
   rcases j with _|j
   ·obtain⟨b,M,V,U⟩:=h;exact⟨b,M,V,U.stay hm⟩
   ·exact h
  ·have d:=λK v hv N=>hc K v u hv I (λ_ _=>rfl) N;obtain⟨hq,hp⟩:=I.slot bw;have R:=I.at
   match x,X with
   |0,_=>exact FE.ow E (dk d)
   |1,_=>exact FE.ow (E.dd (t 0 rfl)) (dk d)
   |2,_=>exact FE.ow (E.dd (t 1 rfl)) (dk d)
   |3,_=>exact FE.lc (E.dd (t 2 rfl)) R (dk d)
   |4,_=>exact FE.ow E (dk d)
   |5,_=>exact FE.ow (E.dd (t 4 rfl)) (dk d)
   |6,_=>exact FE.ow (E.dd (t 5 rfl)) (dk d)
   |7,_=>exact FE.lc (E.dd (t 6 rfl)) R (dk d)
   |8,_=>exact FE.ow E (dk d)
   |9,_=>exact FE.ow ((E.dd (t 7 rfl)).dd (t 8 rfl)) (dk d)
   |10,_=>exact FE.l1 (E.dd (t 9 rfl)) hq (dk d)
   |11,_=>exact FE.ow (E.dd (t 10 rfl)) (dk d)
   |12,_=>exact FE.ow (E.dd (t 11 rfl)) (dk d)
   |13,_=>exact FE.lc (E.dd (t 12 rfl)) hp (dk d)
   |14,_=>
    refine FE.cx ((E.dd (t 3 rfl)).dd (t 13 rfl)) (G.o _ bL).2 ((Qc hT (G.o _ bL).1 I hS bp).mono ?_);rintro e u1 ⟨⟨z,A,C,D,F,H,rfl⟩,hm,I⟩;exact⟨_,rfl,λK N _=>hc K _ u1 ⟨z,A,C,D,F,H,rfl⟩ I hm N⟩
   |15,_=>obtain⟨z,A,C,D,F,H,e⟩:=t 14 rfl;exact FE.ow (E.dd e) λK N _=>d K _ ⟨z,A,C,D,F,H,rfl⟩ N
   |16,_=>obtain⟨z,A,C,D,F,H,e⟩:=t 15 rfl;exact FE.ow (v:=.agg (je z k.aU.size A C D F H k.sv)) (E.dd e) λK N _=>d K _ ⟨z,A,C,D,F,H,rfl⟩ N
   |17,_=>obtain⟨z,A,C,D,F,H,e⟩:=t 15 rfl;exact FE.ow (v:=an 0) (E.dd e) (dk d)
   |18,_=>exact FE.nw (v:=pt u.heap.size) E (u.alloc (aA (je 0 0 0 0 0 0 0 0) 68)) (hr:=λτ=>by go_simp;rfl) λK N _=>hc K _ _ ⟨_,rfl,I.apart,I.new rfl bL⟩ (I.old ((Below.refl _ u).alloc (bD _) _)) (λb Z=>((Below.refl u.heap.size u).alloc (bD _) _).block b Z) N
   |m+19,hm=>omega
  ·obtain⟨b,eb,S,B⟩:=hv 18 rfl;obtain⟨z,A,C,D,F,H,e⟩:=hv 16 rfl
   replace E:=((E.dd eb).dd e).dd (hv 17 rfl)
   refine cQ.one (j:=19) aT λis w=>FE.sa E (B.kept (dw ..)) λu1 M U V=>w a u1 ?_
   replace B:bS u1 g cb xb f wt ck n (.slice (aa (aj gb 0)) n cap) ps ((b,je z k.aU.size A C D F H k.sv,68)::(kv++(c5,eE g,35)::kb)):=B.put (·=b) (λy e=>(by rw[show y=b from e];exact aF ⟨_,dw ..⟩)) rfl M (λb Z hn=>U b hn) bL ak λp hp=>⟨eJ _ hp,S p hp⟩
   refine cQ.one (j:=20) aT λis w=>FE.ow E λa _ E=>w a u1 (cQ.none aT ?_);exact⟨b,z,A,C,D,F,H,E.to,S,B⟩
  ·obtain⟨b,eb,S,B⟩:=hv 18 rfl;obtain⟨z,A,C,D,F,H,e⟩:=hv 16 rfl;obtain⟨y0,y2,y3,y4,y5,y6,e2⟩:=hv 15 rfl
   replace E:=((E.dd eb).dd e).dd e2
   refine cQ.two (i:=17) (j:=19) aT (λis w=>FE.ow (v:=an 0) E λa _ E=>w a u ?_) λis w=>?_
   ·refine cQ.one (j:=19) aT λis w=>FE.sa E (B.kept (dw ..)) λu1 M U V=>w a u1 ?_
    replace B:bS u1 g cb xb f wt ck n (.slice (aa (aj gb 0)) n cap) ps ((b,je z k.aU.size A C D F H k.sv,68)::(kv++(c5,eE g,35)::kb)):=B.put (·=b) (λy e=>(by rw[show y=b from e];exact aF ⟨_,dw ..⟩)) rfl M (λb Z hn=>U b hn) bL ak λp hp=>⟨eJ _ hp,S p hp⟩
    refine cQ.one (j:=20) aT λis w=>FE.ow E λa _ E=>w a u1 (cQ.none aT ?_);exact⟨b,z,A,C,D,F,H,E.to,S,B⟩
   ·refine FE.sa E (B.kept (dw ..)) λu1 M U V=>w a u1 ?_
    replace B:bS u1 g cb xb f wt ck n (.slice (aa (aj gb 0)) n cap) ps ((b,je z k.aU.size A C D F H k.sv,68)::(kv++(c5,eE g,35)::kb)):=B.put (·=b) (λy e=>(by rw[show y=b from e];exact aF ⟨_,dw ..⟩)) rfl M (λb Z hn=>U b hn) bL ak λp hp=>⟨eJ _ hp,S p hp⟩
    refine cQ.one (j:=17) aT λis w=>FE.ow (v:=an 0) E λa _ E=>w a u1 ?_;refine cQ.one (j:=20) aT λis w=>FE.ow E λa _ E=>w a u1 (cQ.none aT ?_);exact⟨b,z,A,C,D,F,H,E.to,S,B⟩
  clear B E;rintro a u1 ⟨b,z,A,C,D,F,H,E,S,B⟩;have M:=B.kept (dw ..);refine FX.sq (FX.sq (FX.reg [0,1,2,3,4,5] ?_));refine FE.ow E λa _ E=>?_;refine FE.ow (v:=.bool av) E λa _ E=>?_
  iterate 2 refine FE.ow E λa _ E=>?_
  refine FE.ow (v:=.bool av) E λa _ E=>?_;refine FE.ow (v:=.bool av) E λa _ E=>FO.nil ?_;refine FX.cF E (FX.sk ?_);have bf:k.sv=f1.dR i:=by rw[<-O i,Af bp.at_]
  refine FX.sq (FX.reg [0,1,2,3,4,5] ?_)
  iterate 2 refine FE.ow E λa _ E=>?_
  refine FE.lc E M λa _ E=>?_;rw[bf]at E;refine FE.nw (v:=.slice (aa (aj u1.heap.size 0)) 1 1) E (u1.alloc (aA #[an (f1.dR i)] 3)) (hr:=λτ=>by go_simp;rfl) λa _ E=>?_;obtain⟨tb,aP⟩:∃b,b=u1.heap.size:=⟨_,rfl⟩;rw[<-aP]at E;have bu:(u1.alloc (aA #[an (f1.dR i)] 3)).heap[tb]? =aa (aA #[an (f1.dR i)] 3 (0,0)):=new1 aP;have bW:(u1.alloc (aA #[an (f1.dR i)] 3)).heap[b]? =_:=gi M
  replace B:=B.old ((Below.refl _ u1).alloc (bD _) (aA #[an (f1.dR i)] 3))
  generalize u1.alloc (aA #[an (f1.dR i)] 3)=u2 at*;clear aP M;have aO:=hR.1 u2 λp hp=>B.kept (eJ _ (yO _ hp));rw[show(qF f1 i).length=i by simp]at aO;refine FE.nd (J:=λv u3=>u3.ownsRow 0 3 1 v (i+1) (qF f1 (i+1))/\u2.heap.size<=u3.heap.size/\(∀y,y<u2.heap.size->aa y≠sv.ownBlock->u3.heap[y]? =u2.heap[y]?)/\(v.ownBlock=sv.ownBlock\/∀b,v.ownBlock=aa b->u2.heap.size<=b)) E (λUB u3 hJ a _ E=>?_) λτ=>?_
  rotate_left
  ·obtain⟨iP,bQ,nC,bX,nD⟩:=qO O6;obtain⟨v3,u3,bV,k1,k2,k3⟩:=ED (P:=prog) (u2.tp τ) 25 25 3 iP (an 0) 1 8 underlying25 bQ nC bX nD rfl bL (by simp[Bg,lz]) sv i (qF f1 i) aO ⟨tb,0,ay⟩ 1 1 [an (f1.dR i)] rfl (Bi bu) (by simp[za]) bL (by unfold cC;omega) ak;exact⟨v3,u3,ZK bV,by rw[afw];exact k1,k2.size,k2.block,k3.at_⟩
  obtain⟨j1,j2,j3,j4⟩:=hJ
  have bt:∀p∈(b,je z k.aU.size A C D F H k.sv,68)::(c5,eE g,35)::kb,p∈(b,je z k.aU.size A C D F H k.sv,68)::(kv++(c5,eE g,35)::kb)/\aa p.1≠sv.ownBlock:=λp hp=>by
   rcases jR.1 hp with rfl|hp
   ·exact⟨dw ..,λe=>(hR.2 _ e.symm).elim λx X=>S _ (yO _ X) rfl⟩
   ·exact⟨eJ _ (AU _ hp),W p hp⟩
  obtain⟨kv,bR,hR,B⟩:=B.app bt (λb Z=>(hR.2 b Z).imp λx X=>eJ _ (yO _ X)) j1 j2 j3 j4;clear j1 j2 j3 j4 aO bu bW S W bt;refine FE.ow E λa _ E=>FO.nil ?_
  replace E:Fa 148 a (L6 al ll cl tk c5 cb [(9,bv),(10,an (N:Int)),(12,UB),(13,an (f1.jZ i)),(14,an (i:Int)),(17,pt b)]):=E.to
  have pE:=M.UC i hi;have lZ:=M.sv aH;have Kl:1024*((N:Int)+1+1+1) *(i:Int)<=1024*((N:Int)+1+1+1) *8:=VZ ak ak;refine FX.reg [0,1,2,3,4] ?_
  iterate 2 refine FE.ow E λa _ E=>?_
  refine FE.lc E (B.kept (AU _ (dw ..))) λa _ E=>?_;rw[bf]at E;refine FE.ar E λa _ E=>?_;refine FE.ow E λa _ E=>FO.nil ?_;refine FX.reg [0,1,2] ?_;refine FE.ow E λa _ E=>?_;refine FE.ar E λa _ E=>?_;refine FE.ow E λa _ E=>FO.nil ?_;rw[show(i:Int)+1=((i+1:Nat):Int) by simp]at E;refine⟨⟨i+1,f,UB,kv,E.to,aH,hS,O,hR,λp hp=>bR p (eJ _ hp),B.eW λp hp=>?_⟩,?_⟩
  ·exact(iT.1 hp).elim (yO _) λh=>AU _ (eJ _ h)
  ·rw[bU,sY (n:=n) (E.at_ 14 _ rfl)];omega
 ·have hh:¬(i:Int)<(n:Int):=ak;refine FE.ow (v:=.bool av) E λa _ E=>FO.nil ?_;refine FX.cF E (FX.ex 4 ?_);have e:i=n:=ak;subst e;refine hQ a u f sv kv E.to (hS.to λs k W h=>?_) hR B;obtain⟨r,hr⟩:=hS.ow.mh;have e1:=(hr s k W).no;have hl:=hS.run.rest.core.len;rw[hS.run.cf]at hl;have:=(dS.1 W).1;have:=hS.full;rw[aW ak]at h;exact⟨h.ph,h.q,by have:=h.out;omega,h.jc⟩
def Ym{r:Int}(h:g.Is)(hr:0<=r/\r<3):og 32 g.cl 8 g.mx g.qn 16 32 (1+r) 256=aq:=by obtain⟨_,b,_,d,e,_,_,_,_⟩:=h;unfold og sQ vL;simp[iR,rG];omega
def adf(G:Ep l)(w:ll<=cC)(I:zq al ll)(aR:lA tk):
  iV fT prog 0 10 #[.slice al ll cl,an tk] u λe u'=>e=aM (.bool aq):=by
 have D:=G.x.fit;have J7:ll<=9223372036854775807:=w;refine iV.Cz 148 func10 λa E=>?_;refine FX.sq (FX.reg [0] ?_);refine FE.ow E λa _ E=>FO.nil ?_;refine FX.sq (FX.reg [0,1,2,3] ?_);refine FE.bl E λa _ E=>?_;refine FE.cf E func28 G.k.kC abP (YE al ll cl) ((YF G.k al ll cl w I).mono ?_);rintro e u ⟨g,rfl,q⟩;refine⟨_,rfl,λa _ E=>?_⟩;have hI:=Cf.Is.Ln q;refine FE.nw (v:=pt u.heap.size) E (u.alloc (aA (fN 0 0 0 0 0 0 0 0 0) 35)) (hr:=λτ=>by go_simp;rfl) λa _ E=>?_;obtain⟨c5,O⟩:∃b,b=u.heap.size:=⟨_,rfl⟩;rw[<-O]at E;have B:(u.alloc (aA (fN 0 0 0 0 0 0 0 0 0) 35)).heap[c5]? =_:=new1 O;generalize u.alloc (aA (fN 0 0 0 0 0 0 0 0 0) 35)=u at*;clear O;refine FE.sa E B λu B _ _=>FO.nil ?_;refine FX.sq (FX.reg [0,1] ?_);refine FE.ow E λa _ E=>?_;refine FE.sc E B λu B=>FO.nil ?_;refine FX.sq (FX.reg [0,1] ?_);refine FE.ow E λa _ E=>?_;refine FE.sc E B λu B=>FO.nil ?_;refine FX.sq (FX.reg [0,1] ?_);refine FE.ow E λa _ E=>?_;refine FE.sc E B λu B=>FO.nil ?_;refine FX.sq (FX.reg [0,1] ?_);refine FE.ow E λa _ E=>?_;refine FE.sc E B λu B=>FO.nil ?_;refine FX.sq (FX.reg [0,1,2,3,4,5] ?_);refine FE.bl E λa _ E=>?_;refine FE.raw G.k w I E λz a S _ E=>?_;refine FE.qA G.k S E λr a hr _ E=>?_;refine FE.ar E λa _ E=>?_;refine FE.ow E λa _ E=>?_;refine FE.st E B λu B _=>FO.nil ?_;refine FX.sq (FX.reg [0,1] ?_);refine FE.ow E λa _ E=>?_;refine FE.sc E B λu B=>FO.nil ?_;have q:=Ym hI hr;obtain⟨g2,F⟩:∃g2:Cf,g2={g with sz:=32,qu:=8,rt:=16,bu:=32,wk:=1+r,ou:=256}:=⟨_,rfl⟩
 replace B:u.heap[c5]? =aa (aA (eE g2) 35 (0,0)):=by rw[F];exact B
 have hS:g2.Shr:=by rw[F];exact⟨rfl,rfl,rfl,rfl,by show 1+r<=3;omega,rfl⟩
 replace q:og g2.sz g2.cl g2.qu g2.mx g2.qn g2.rt g2.bu g2.wk g2.ou=aq:=by rw[F];exact q
 clear F hI hr
 replace hI:=Cf.Is.Ln q
 replace E:Fa 148 a [(0,.slice al ll cl),(1,an tk),(5,pt c5)]:=E.to
 refine FX.sq (FX.reg [0,1,2] ?_);refine FE.lcf D E B λa _ E=>?_;refine FE.cx E (G.o _ bL).2 ((YU (wt:=λ_=>0) (ks:=[(c5,eE g2,35)]) D (G.o _ bL).1 q λp j=>?_).mono ?_)
 ·rw[iA.1 j];exact⟨B,(by decide:(35:Nat)≠40/\(35:Nat)≠49)⟩
 rintro e u ⟨cb,xb,rfl,B⟩;refine⟨_,rfl,λa _ E=>?_⟩;refine FE.ow E λa _ E=>FO.nil ?_;refine FX.sq (FX.sq (FX.reg [0,1] ?_));refine FE.ow E λa _ E=>?_;refine FE.ow (v:=.bool av) E λa _ E=>FO.nil ?_;refine FX.cF E (FX.sk ?_);refine FX.sq (FX.sq (FX.reg [0] ?_));refine FE.ow E λa _ E=>FO.nil ?_;have Fv:=hI.cl;refine FX.bk 0 (FX.lp (ShE al ll cl tk c5 cb xb g2) (λa _=>leftOf 9 7 a) ⟨0,_,_,_,_,E.to,ak,.new hI _,B⟩ ?_);clear B E;rintro a u ⟨i,f,wt,lv,ps,E,m,t,B⟩;have J:=sY (n:=9) (E.at_ 7 _ rfl);refine FX.sq (FX.sq (FX.reg [0,1,2,3] ?_))
 iterate 2 refine FE.ow E λa _ E=>?_
 refine FE.lc E (B.kept (List.mem_singleton_self _)) λa _ E=>?_
 by_cases R:(i:Int)<g2.cl
 ·skip
  refine FE.ow (v:=.bool aq) E λa _ E=>FO.nil ?_;refine FX.cT E (FX.sk ?_);refine FX.sq (FX.bk 1 (FX.sq (FX.reg [0,1,2,3,4,5,6] ?_)));refine FE.ow E λa _ E=>?_;refine FE.bl E λa _ E=>?_;refine FE.ow E λa _ E=>?_;refine FE.ar E λa _ E=>?_;refine FE.raw G.k w I E λz a S _ E=>?_;refine FE.cx E (G.o _ bL).2 ((YR D (G.o _ bL).1 B t R z S).mono ?_);rintro e u ⟨rfl,f,lv,y,ps,t,B⟩;refine⟨_,rfl,λa _ E=>?_⟩;refine FE.ow E λa _ E=>FO.nil ?_;refine FX.sq (FX.reg [0,1] ?_);refine FE.ow E λa _ E=>?_;refine FE.ow (v:=.bool av) E λa _ E=>FO.nil ?_;refine FX.cF E (FX.sk ?_);refine FX.reg [0,1,2] ?_;refine FE.ow E λa _ E=>?_;refine FE.ar E λa _ E=>?_;refine FE.ow E λa _ E=>FO.nil ?_;rw[show(i:Int)+1=((i+1:Nat):Int) by simp]at E;refine⟨⟨i+1,f,_,lv,ps,E.to,ak,t,B⟩,?_⟩;rw[J,sY (n:=9) (E.at_ 7 _ rfl)];omega
 ·skip
  refine FE.ow (v:=.bool av) E λa _ E=>FO.nil ?_;refine FX.cF E (FX.ex 0 ?_);have hn:(i:Int)=g2.cl:=ak;clear m R J;obtain⟨aS,aT,rfl⟩:=B.form;obtain⟨n,rfl⟩:∃n:Nat,n=i:=⟨i,rfl⟩;have C:=B.at
  replace E:Fa 148 a (L6 al ll cl tk c5 cb []):=E.to
  refine FX.sq (FX.reg [0,1,2,3,4] ?_)
  iterate 3 refine FE.ow E λa _ E=>?_
  refine FE.lc E C λa _ E=>?_;refine FE.cx E G.kI ((YT G.x B t hS hn).mono ?_);rintro e u ⟨rfl,c,f,d,B⟩;refine⟨_,rfl,λa _ E=>FO.nil ?_⟩
  obtain⟨gb,cap,V⟩:∃gb cap,Value.slice aS n aT=.slice (aa (aj gb 0)) n cap:=by obtain⟨L,T⟩:=B;obtain⟨gb,cap,e,_⟩:=yc T.row ak;exact⟨gb,cap,e⟩
  rw[V]at B;clear V C t;refine FX.sq (FX.reg [0] ?_);refine FE.ow E λa _ E=>FO.nil ?_;refine FX.sq (FX.sq (FX.reg [0] ?_));refine FE.ow E λa _ E=>FO.nil ?_;refine FX.bk 2 (FX.lp (ShN al ll cl tk c5 cb xb n g2 c wt (.slice (aa (aj gb 0)) n cap) ps) (λa _=>leftOf 100 10 a) ⟨0,0,f,.slice ay 0 0,[],E.to,bL,bL,d,aF ⟨rfl,rfl⟩,B⟩ ?_);clear d B E;rintro a u ⟨N,ck,f,bv,kb,E,hN,I8,d,X,B⟩;have J:=sY (n:=100) (E.at_ 10 _ rfl);refine FX.sq (FX.sq (FX.reg [0,1,2,3,4] ?_))
  iterate 2 refine FE.ow E λa _ E=>?_
  refine FE.qA G.k aR E λr a hr _ E=>?_;refine FE.ar E λa _ E=>?_
  by_cases R:(N:Int)<=r+2
  ·skip
   refine FE.ow (v:=.bool aq) E λa _ E=>FO.nil ?_;refine FX.cT E (FX.sk ?_);refine FX.sq (FX.bk 3 (FX.sq (FX.reg [0,1,2,3] ?_)));refine FE.ow E λa _ E=>?_;refine FE.bl E λa _ E=>?_;refine FE.cp (k0:=61) (v0:=pt cb) E func32 G.kF abQ (ZR cb al ll cl 20) ((ZS G w I hI ak ak ak d B).mono ?_);rintro e u ⟨rfl,U,f,bh,d,B⟩;refine⟨_,rfl,λa _ E=>?_⟩;refine FE.ow E λa _ E=>FO.nil ?_;refine FX.sq (FX.sq (FX.reg [0,1] ?_));refine FE.ow E λa _ E=>?_;refine FE.ow (v:=.bool av) E λa _ E=>FO.nil ?_;refine FX.cF E (FX.sk ?_);have C:=B.at;refine FX.sq (FX.reg [0,1,2,3,4] ?_)
   iterate 3 refine FE.ow E λa _ E=>?_
   refine FE.lc E C λa _ E=>?_;refine FE.cx E G.kI ((YX G.x B d ak ak).mono ?_);rintro e u ⟨rfl,f,d,B⟩;refine⟨_,rfl,λa _ E=>FO.nil ?_⟩;refine FX.sq (FX.reg [0] ?_);refine FE.ow E λa _ E=>FO.nil ?_;refine FX.sq (FX.reg [0] ?_);refine FE.ow E λa _ E=>FO.nil ?_;refine FX.sq (afC G hI hN ak ak d E.to B rfl λa u f2 sv kv E Y hR B=>?_);have bt:=hI.wk;have aI:=d.busy;have af:(c5,eE g2,35)∈kv++(c5,eE g2,35)::kb:=AU _ (dw ..)
   have RO:4*g2.wk*((N:Int)+1)=4*((g2.wk.toNat*N+g2.wk.toNat:Nat):Int):=by rw[Wa,Int.natCast_mul,show((g2.wk.toNat:Nat):Int)=g2.wk by omega,DD,Ii,Int.mul_one]
   have aO:=X9 (a:=g2.wk) (b:=(N:Int)) (A:=8) (B:=62) ak ak ak ak;have aN:4*g2.wk*((N:Int)+1)=4*(g2.wk*(N:Int))+4*g2.wk:=by rw[DD,Ii];omega
   refine FX.sq (FX.sq (FX.reg [0,1,2,3,4,5,6,7] ?_))
   iterate 2 refine FE.ow E λa _ E=>?_
   refine FE.lc E (B.kept af) λa _ E=>?_;refine FE.ar E λa _ E=>?_;refine FE.ow E λa _ E=>?_;refine FE.ar E λa _ E=>?_;refine FE.ar E λa _ E=>?_;have bn:¬f.jZ n<4*g2.wk*((N:Int)+1):=by rw[RO];omega
   clear RO aN aI aO;refine FE.ow (v:=.bool av) E λa _ E=>FO.nil ?_;refine FX.cF E (FX.sk ?_);refine FX.sj (λa u=>∃(bv:aD) (K:aB (Nat×aJ aD×aQ)) (f0:Fx) (d0:Nat) (t0:Int) (s:Ck->Prop),Fa 148 a (L6 al ll cl tk c5 cb [(9,bv),(10,an (N:Int)),(12,sv)])/\t0<=64/\f0.Sx g2 c wt n d0 t0 s/\qj K bv (qF f0 n)/\(∀p∈K,p∈(kv++(c5,eE g2,35)::kb))/\bS u g2 cb xb f2 wt U n (.slice (aa (aj gb 0)) n cap) ps (kv++(c5,eE g2,35)::kb)) ?_ ?_
   ·skip
    refine FX.sq (FX.reg [0,1] ?_);refine FE.ow E λa _ E=>?_
    by_cases h0:N=0
    ·subst h0;refine FE.ow (v:=.bool aq) E λa _ E=>FO.nil ?_;refine FX.cT E (FX.reg [0,1] ?_);refine FE.ow E λa _ E=>?_;refine FE.ow E λa _ E=>FO.nil ?_;exact⟨sv,kv,f,_,_,_,E.to,ak,d,hR,λp j=>yO _ j,B⟩
    ·have bp:¬(N:Int)=0:=ak;refine FE.ow (v:=.bool av) E λa _ E=>FO.nil ?_;obtain⟨f0,d0,t0,s,h1,M,h3⟩:=X.resolve_left λh=>h0 h.1;exact FX.cF E (FX.sk ⟨bv,kb,f0,d0,t0,s,E.to,h1,M,h3,λp j=>AU _ (eJ _ j),B⟩)
   ·clear B E X;rintro a u ⟨bv,K,f0,d0,t0,s,E,aP,h0,W,Z,B⟩;obtain⟨bb,bf,rfl,pE⟩:=B.rowAt W Z ak;obtain⟨sb,bg,rfl,lZ⟩:=B.rowAt hR (λp j=>yO _ j) ak;refine FX.sq (FX.reg [0,1,2,3,4] ?_)
    iterate 3 refine FE.ow E λa _ E=>?_
    refine FE.cx E (G.o _ bL).2 ((YS D (G.o _ bL).1 B ak ak hI (λi m=>?_) pE lZ (λi m=>?_) λi k m H=>h0.even d m H).mono ?_)
    ·obtain⟨k,H,_⟩:=d.is m;obtain⟨r,hr⟩:=d.ow.mh;have:=(d.run.rest.core.cl _ k H.at_).1.wt;have:=(hr _ k H.at_).qG;omega
    ·have a1:=h0.sv m;have a2:=d.sv m;omega
    rintro e u ⟨rfl,B⟩;refine⟨_,rfl,λa _ E=>?_⟩;refine FE.ow E λa _ E=>FO.nil ?_;refine FX.sq (FX.reg [0,1] ?_);refine FE.ow E λa _ E=>?_;refine FE.ow (v:=.bool av) E λa _ E=>FO.nil ?_;refine FX.cF E (FX.sk ?_);refine FX.reg [0,1,2] ?_;refine FE.ow E λa _ E=>?_;refine FE.ar E λa _ E=>?_;refine FE.ow E λa _ E=>FO.nil ?_;have e:(N:Int)+1=((N+1:Nat):Int):=aC;rw[e]at E Y;refine⟨⟨N+1,U,f2,_,K,E.to,ak,ak,Y,aE ⟨f0,d0,t0,s,aP,h0,W⟩,B.eW λp j=>?_⟩,?_⟩
    ·exact(jR.1 j).elim (λe=>e▸af) (Z p)
    ·rw[J,sY (n:=100) (E.at_ 10 _ rfl)];omega
  ·skip
   refine FE.ow (v:=.bool av) E λa _ E=>FO.nil ?_;refine FX.cF E (FX.ex 2 ?_);refine FX.sq (FX.reg [0] ?_);refine FE.ow E λa _ E=>FO.nil ?_;refine FX.rt ⟨rfl,E.defers,.bool aq,?_,rfl⟩;have M:=ev (E.at_ 4 _ rfl);simp[results,results10,go_sem,M]
end
end
section
open Go.ChangeAt Go.ChangeShapes Go.Conc Go.Deep Go.RowKit Go.WideShapes
open Go.ConcR (Payload)
open Go.Proofs.Tryz
def aaC:ownKnob prog.godebug=ay:=aT
def Sj:laidOutB prog=aq:=aT
def Tl{z}(h:(Lit.int .i64 z).wf=aq):lA z:=by simp[Lit.wf,IntKind.min,IntKind.max,IntKind.signed,IntKind.bits]at h;omega
def Pf(b off i):(⟨b,off,ay⟩:bZ).add i=⟨b,off+i,ay⟩:=by
 unfold Addr.add;split
 ·rename_i e;subst e;rfl
 ·rfl
def ltP{w:az}{b off:Nat}{v:aD}(h:w.cell? (aj b off)=aa v):b<w.heap.size:=by refine pS λa=>?_;have:w.heap[b]? =ay:=lN ak;simp[fC,this]at h
def abl{H:Type}{enc:aQ×aD->H}{w:az}{base:Nat}{n:Nat->Bool}{held:Bool}{fuel:Nat}{a:aZ bZ}{len cap:Nat}{x:DataW H×aB MemPlace}
  (h:DataW.trod enc prog w base n held fuel 25 [.slice a len cap]=aa x):len<=cC/\(len=0\/∃b off,a=aa ⟨b,off,ay⟩/\b<w.heap.size/\∀i,i<len->∃z,lA z/\w.cell? (aj b (off+i))=aa (an z)):=by
 rcases open_ints underlying25 underlying3 (show prog.cellsOf 3=1 by kernel_rfl) h with⟨c,_⟩|⟨f,t,p,d,c,_,r,hm,m,_,e,l⟩
 ·simp at c;obtain⟨rfl,rfl,rfl⟩:=c;exact⟨eZ _,aF rfl⟩
 ·simp at c;obtain⟨rfl,rfl,rfl⟩:=c;refine⟨ak,?_⟩
  by_cases h0:len=0
  ·exact aF h0
  right;have s:len<=d.length:=by rw[m];split<;>omega
  obtain⟨b,off,o⟩:=f
  have k:o=ay:=by have:=e 0 ak;simp only[Addr.add,cV]at this;simpa using World.cell?_spot this
  subst k
  have g:b<w.heap.size:=by have:=e 0 ak;rw[Pf]at this;exact ltP this
  refine⟨b,off,rfl,g,λi q=>⟨d.getD i 0,?_,?_⟩⟩
  ·have j:d.getD i 0∈d:=by
    simp[List.getD,show i<d.length by omega]
   exact Tl (l _ j)
  ·have:=e i ak
   rwa [Pf]at this
def acG(W:az){a:aZ bZ}{len:Nat}(h:len=0\/∃b off,a=aa ⟨b,off,ay⟩/\b<W.heap.size/\∀i,i<len->∃z,lA z/\W.cell? (aj b (off+i))=aa (an z)):@zq (um prog oy vV 1 (λb=>W.heap[b]?)) a len:=by
 rcases h with h|⟨b,off,rfl,d,f⟩
 ·exact aF h
 ·classical
  refine aE ⟨b,off,W.heap[b],λi=>if c:i<len then Classical.choose (f i c)else 0,rfl,cX d,λi c=>?_⟩;have e:=Classical.choose_spec (f i c);simp only[tS c];exact⟨e.1,λw g=>(World.cell?_of_block (g.trans (cX d).symm)).trans e.2⟩
def F7(t:Nat->aZ Obj):@Ep (um prog oy vV 1 t) oy:=by
 letI:aP:=um prog oy vV 1 t
 have o:∀f,oy.contains f=aq->aP.ok f:=λf a=>((BZ 1 t).ok f).2 a;exact⟨⟨BZ 1 t,aF (o _ aT),aF (o _ aT),aF (o _ aT)⟩,F6 1 t,λf a=>have h:=o f (mz.1 (by kernel_rfl:List.all _ oy.contains=aq) f a);⟨h,aF h⟩,aE aT,aE aT⟩
def ade[aP](v0:aD)(x:Int)(ρ:Ren)(j:Nat)(v:aD)(h:(Frame.enter prog 10 #[v0,an x] .normal).tmps[j]? =aa v)(b:j∉fT 10):VR ρ v v:=
 EZ func10 (body:=sP f10) aT (λi v h a ρ=>by
  match i,a with
  |0,a=>exact absurd bL a
  |1,_=>simp at h;subst h;constructor
  |n+2,_=>simp at h) ρ j v h b
def adg(os:Os)(aC:os.Started)(H:Type)(enc:aQ×aD->H):
  ReturnsInLeavingWide {} checked os 10 .any (Rows.sharesSpec.pre6 enc prog f10 Rows.sharesRow.domain av) (Rows.sharesSpec.post enc prog f10 av aq av av):=by
 refine abT (C:=checked) (s:=Rows.sharesSpec) aaC aC func10
  (ChangeSpec.witness6 (enc:=enc) (C:=checked) av ⟨#[],#[.slice ay 0 0,an 0],[]⟩ 8 aT aT aT aT) ?_
 intro W base args F gs aO T w r _ _ _;have f:∀(j:Nat) t v,f10.params[j]? =aa t->args[j]? =aa v->Value.okWide prog W .any base t v:=w;have J:=r;obtain⟨p,q,n,I,rfl,aX,bf⟩:=r;have l:DataW.TrodAll enc prog W 0 (λ_=>aq) aq f10.params.toList args.toList F p:=n;rw[params10]at l f;obtain⟨B,bk,d0,aR,p0,q0,aU,rfl,rfl,h0,r0⟩:=trodAll_cons l;obtain⟨D,bl,d1,aS,p1,q1,rfl,rfl,rfl,i,r1⟩:=trodAll_cons r0;obtain⟨rfl,rfl,rfl⟩:=trodAll_nil r1;obtain rfl:args=#[B,D]:=by cases args;simp_all
 obtain⟨rfl,rfl⟩:=trodVars_none I;obtain⟨a0,Y,E,rfl⟩:=okWide_slice underlying25 (f 0 25 B rfl rfl);have y:=h0;have A:=i;have Z:∀x∈p0,x.block<W.heap.size:=by obtain⟨m,hm⟩:=y;exact VI m _ _ _ hm
 have af:∀x∈p1,x.block<W.heap.size:=by obtain⟨m,hm⟩:=A;exact VI m _ _ _ hm
 obtain⟨N,S⟩:=(by obtain⟨fuel,d⟩:=h0;exact abl (cap:=E) (by simpa[Bg]using d):Y<=cC/\_);obtain⟨z,rfl⟩:=okWide_int underlying3 (f 1 3 D rfl rfl)
 have X:lA z:=by obtain⟨fuel,d⟩:=i;obtain⟨k,g,_,G⟩:=DataW.trod_int underlying3 d;simp[Bg]at g;rw[g];exact Tl G
 clear n w
 letI:aP:=um prog oy vV 1 (λb=>W.heap[b]?)
 letI:pX:=⟨0⟩
 have L:prog.globals.size<=W.heap.size:=by obtain⟨o,_,O,_⟩:=T.2 prog.globals.size (bD _) (sH aT);exact mW (bq.1 O).1
 refine acw rfl (R:=λe u'=>e=aM (.bool aq)) (λρ j v=>ade _ _ ρ j v) func10 (c:=sP f10) aT rfl aT (aE aT) L (λb o K=>K) (adf (F7 _) N (acG W S) X) (λe u h=>⟨_,h⟩) ?_;intro v u' w' hv M U P Q V;have a:aN W w':=⟨P,V,Q,U,M⟩;cases hv;exact⟨_,_,_,[],_,[],J,trodAll_mk1 (shut_bool underlying4 _),(trodAll_cons_mk (Below.trod Sj aT (sH aT) y a Z) (trodAll_cons_mk (Below.trod Sj aT (sH aT) A a af) trodAll_mk0)),rfl,a.frame _,λh=>by cases h⟩
theorem shares_said:Rows.SharesSaid:=
 OpenClaim.holds_of_wide_leaving 10 f10 rfl rfl rfl rfl rfl rfl rfl ⟨rfl,rfl,rfl,rfl,rfl⟩ rfl rfl rfl rfl rfl aT func10 aT
  (sH aT) (by unfold Func.isWrapper;first|(rw[aW (by decide+kernel)];kernel_rfl)|(rw[aK (by decide+kernel)];exact⟨rfl,rfl⟩))
  (λos b H a _=>adg os b H a)
end
end Go.Proofs.YtpobhljcainmdaaGreat
