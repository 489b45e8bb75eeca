/- For every list of raw numbers, texts and steps of bulk at most 1048576, Bounded answers true and leaves them as they were: what a ferry keeps for a client is bounded, and behind Stop all comes to its end. -/
import Derived.Test.YtpobhljcainmdaaGreatJ05
set_option maxRecDepth 100000
set_option maxHeartbeats 8000000
set_option linter.all false
namespace Go.Proofs.YtpobhljcainmdaaGreat
open Go renaming World->az,Value->aE,FuncId->bN,Code->jV,maxLen->cY,trodAll_cons_mk->Nr,TypeId->aW,Program->aZ,Addr->fS
open Go.World renaming cell?_of_block->fX,cell?_spot->Nc,cells?_some->VE,cell?->fH
open _root_.List renaming range->eF,length_range->Va
open Go.Value renaming cells->Az
open _root_.Classical renaming choose->Mm
open Go.ConcR renaming Payload->alC
open Go.DataW renaming trod->Cu,trod_lt->Mq
open Go renaming undef->au
open Go.Ending renaming returned->aN
open Go.Obj renaming cells->aA
open _root_.Bool renaming false->av,true->aq
open _root_.Option renaming none->ay,some->aa
open _root_.Or renaming inl->aF,inr->aD
open FE renaming ow->D1,dx->e6,bl->e9,lc->A1,ar->A2
open FX renaming sq->D2,reg->D4,sk->A4,cF->A6
open FO renaming nil->D3
section
attribute [local go_sem ↓] Go.wp_at_zero Go.wp_at_succ
attribute [local go_sem] bP bF Ep Er we
open Go.Conc Go.RowKit
open Go.ConcR (Payload)
open Go.Proofs.Tryz
structure yP[aP](l:aB bN):Prop where
 k:Dw l
 x:AT l
 o:∀f,f∈[30,31,37,33,34,41,25,42,36,43]->aP.ok f/\aP.known f
 kI:aP.known 26
 kB:aP.known 15
def leftOf(n k:Nat)(a:Act):Nat:=n-(match a.eval (.tmp k)with|.int _ x=>x.toNat|_=>0)
def qT{a:Act}{n k m:Nat}(h:a.eval (.tmp k)=an (m:Int)):leftOf n k a=n-m:=by unfold leftOf;rw[h];simp
def aaG[aP](x:aK aE):results f15 x=results f15 (nD (fE 15) x):=by have h:(nD (fE 15) x).getD 2 au=x.getD 2 au:=zQ (L:=fE 15) (a:=⟨x,[]⟩) (i:=2) bJ;simp only[results,results15,CO,ux,Ap,h]
section
variable [aP] {l:aB bN} {u:az} {dn:Nat} {al:aY fS} {ll cl:Nat}
def WJ(ad len cap ρ i v)(h:(Frame.enter prog 15 #[.slice ad len cap] .normal).tmps[i]? =aa v)(a:i∉fE 15):VR ρ v v:=
 Bf func15 (body:=pW f15) aS (λi v h a ρ=>by
  match i,a with
  |0,a=>exact absurd bJ a
  |n+1,_=>simp at h) ρ i v h a
def BeL(al:aY fS)(ll cl b xb N:Nat)(g:Cf)(a:Act)(u:az):Prop:=∃(i:Nat) (f:Fx) (c:aE),Fa 45 a [(0,.slice al ll cl),(3,pt b),(4,an (N:Int)),(5,an (i:Int))]/\i<=N/\f.Full g i/\dJ u g b xb f 1 i c
def WK(G:yP l)(w:ll<=cY)(y:yR al ll):
  jo fE prog dn 15 #[.slice al ll cl] u λe L=>∃(b xb n:Nat) (g:Cf) (f:Fx) (lv:aE),e=aN (pt b)/\g.Is/\f.Full g n/\1<=n/\(n:Int)<=g.cl/\dJ L g b xb f 1 n lv:=by
 have A:=G.x.fit;have Q:ll<=9223372036854775807:=w;refine jo.BG 45 func15 λa E=>?_;refine D2 (D4 [0] ?_);refine D1 E λa _ E=>D3 ?_;refine D2 (D4 [0,1,2,3] ?_);refine e9 E λa _ E=>?_;refine FE.cf E func28 G.k.kC aaH (XK al ll cl) ((XL G.k al ll cl w y).mono ?_);rintro e S ⟨g,rfl,C⟩;refine⟨_,rfl,λa _ E=>?_⟩;have hI:=Cf.Is.RM C;refine FE.cx E (G.o _ bJ).2 ((WY A (G.o _ bJ).1 C).mono ?_);rintro e u ⟨b,xb,rfl,B⟩;refine⟨_,rfl,λa _ E=>?_⟩;refine D1 E λa _ E=>D3 ?_;refine D2 (D2 (D4 [0,1] ?_));refine D1 E λa _ E=>?_;refine D1 (v:=.bool av) E λa _ E=>D3 ?_;refine A6 E (A4 ?_)
 replace E:Fa 45 a [(0,.slice al ll cl),(3,pt b)]:=E.to
 have M:=hI.cl;refine D2 (FX.dr 10 9 (λi v=>match i with|0=>v=.slice al ll cl|1=>∃z,v=an z/\fY z|2=>v=pt b|3=>v=pt b|4=>v=pt b|5=>v=.pointer (aa (aj b 1))|6=>v=an g.cl|7=>∃r,v=an r/\0<=r/\r<g.cl|8=>∃r,v=an (1+r)/\0<=r/\r<g.cl|_=>True) E (λD q x K a is E h c=>?_) λD q a E hv=>?_)
 ·have t:=(B.drew u.tape (u.drawn+1)).at;rw[<-q]at t;clear q
  match x,K with
  |0,_=>exact e9 E (dk c)
  |1,_=>exact FE.raw G.k w y (E.dd (h 0 rfl)) λz p s N _=>c p _ ⟨z,rfl,s⟩ N
  |2,_=>exact D1 E (dk c)
  |3,_=>exact D1 (E.dd (h 2 rfl)) (dk c)
  |4,_=>exact D1 (E.dd (h 3 rfl)) (dk c)
  |5,_=>exact D1 (E.dd (h 4 rfl)) (dk c)
  |6,_=>exact A1 (E.dd (h 5 rfl)) t (dk c)
  |7,_=>obtain⟨z,e,s⟩:=h 1 rfl;exact FE.qZ G.k s ((E.add (d:=13) e).dd (h 6 rfl)) λr p hr N _=>c p _ ⟨r,rfl,hr⟩ N
  |8,_=>obtain⟨r,e,hr⟩:=h 7 rfl;exact A2 (E.add (d:=19) e) λp N _=>c p _ ⟨r,rfl,hr⟩ N
  |m+9,hm=>omega
 replace B:=B.drew u.tape (u.drawn+1)
 rw[<-q]at B;clear q;obtain⟨r,e,hr⟩:=hv 8 rfl;obtain⟨N,H⟩:∃N:Nat,1+r=(N:Int):=⟨(1+r).toNat,ak⟩;rw[H]at e
 replace E:=E.add (d:=20) e
 refine eZ.one (j:=9) aS λis F=>D1 E λa _ E=>F a D (eZ.none aS ?_);refine D2 (D2 (D4 [0] ?_));refine D1 E λa _ E=>D3 ?_;refine FX.bk 0 (FX.lp (BeL al ll cl b xb N g) (λa _=>leftOf N 5 a) ⟨0,_,_,E.to,eo _,.new hI,B⟩ ?_);rintro a u ⟨i,f,lv,E,P,hF,B⟩;have Hl:=qT (n:=N) (E.at_ 5 _ rfl);refine D2 (D2 (D4 [0,1,2] ?_))
 iterate 2 refine D1 E λa _ E=>?_
 by_cases J:i<N
 ·have I:(i:Int)<(N:Int):=ak;refine D1 (v:=.bool aq) E λa _ E=>D3 ?_;refine FX.cT E (A4 ?_);refine D2 (FX.bk 1 (D2 (D4 [0,1,2,3,4,5,6] ?_)));refine D1 E λa _ E=>?_;refine e9 E λa _ E=>?_;refine D1 E λa _ E=>?_;refine A2 E λa _ E=>?_;refine FE.raw G.k w y E λz a s _ E=>?_;refine FE.cx E (G.o _ bJ).2 ((WV A (G.o _ bJ).1 B hF ak z s).mono ?_);rintro e u ⟨rfl,f,lv,hF,B⟩;refine⟨_,rfl,λa _ E=>?_⟩;refine D1 E λa _ E=>D3 ?_;obtain⟨R,lc,rfl⟩:=B.form;have t:=B.at;refine D2 (D4 [0,1,2,3,4,5,6,7,8,9,10,11] ?_);refine D1 E λa _ E=>?_;refine D1 (v:=.bool av) E λa _ E=>?_
  iterate 4 refine D1 E λa _ E=>?_
  refine A1 E t λa _ E=>?_;refine FE.ln E λa _ E=>?_;refine D1 E λa _ E=>?_;refine A2 E λa _ E=>?_;refine D1 (v:=.bool av) E (hr:=λT=>by have O:((i+1:Nat):Int)=(i:Int)+1:=aC;go_simp) λa _ E=>?_;refine D1 E λa _ E=>D3 ?_;refine A6 E (A4 ?_);refine D4 [0,1,2] ?_;refine D1 E λa _ E=>?_;refine A2 E λa _ E=>?_;refine D1 E λa _ E=>D3 ?_;rw[show(i:Int)+1=((i+1:Nat):Int) by simp]at E;refine⟨⟨i+1,f,_,E.to,J,hF,B⟩,?_⟩;rw[Hl,qT (n:=N) (E.at_ 5 _ rfl)];omega
 ·have I:¬(i:Int)<(N:Int):=ak;refine D1 (v:=.bool av) E λa _ E=>D3 ?_;refine A6 E (FX.ex 0 ?_);refine D2 (D4 [0,1] ?_);refine D1 E λa _ E=>?_;refine D1 E λa _ E=>D3 ?_;have e:i=N:=ak;subst e;refine FX.rt ⟨rfl,E.defers,pt b,?_,b,xb,i,g,f,lv,rfl,hI,hF,ak,ak,B⟩;simp[results,results15,go_sem,(ev (E.at_ 2 _ rfl))]
end
def NN[aP](ad:aY fS)(len:Nat):Prop:=len=0\/∃(b off:Nat) (c:Obj) (z:Nat->ByteArray),ad=aa ⟨b,off,ay⟩/\aP.sH b=aa c/\∀i,i<len->∀w:az,w.heap[b]? =aa c->w.cell? (aj b (off+i))=aa (.string (z i))
def NM[aP](ad:aY fS)(len:Nat):Prop:=len=0\/∃(b off:Nat) (c:Obj) (z:Nat->Nat->Int),ad=aa ⟨b,off,ay⟩/\aP.sH b=aa c/\∀i,i<len->∀j,j<4->fY (z i j)/\∀w:az,w.heap[b]? =aa c->w.cell? (aj b (off+i*4+j))=aa (an (z i j))
abbrev st8(b c e f h j m o:Int):aK aE:=#[an b,an c,an e,an f,an h,an j,an m,an o]
def afD{f:Fx}{q:Nat}(h:∀s,f.ql s<=q):f.wait<=8*q:=by have:=h 0;have:=h 1;have:=h 2;have:=h 3;have:=h 4;have:=h 5;have:=h 6;have:=h 7;unfold Fx.wait;omega
def Fx.ed.near{f:Fx}{g:Cf}{n:Nat}{b:Bool}{c:Int}(h:f.ed g n b c):f.dZ (8*g.qu.toNat) 18:=by
 refine⟨afD λs=>?_,λb j=>?_,λ_=>by omega⟩
 ·show vJ f.K[s]? <=_;cases e:f.K[s]? with
  |none=>exact eo _
  |some o=>
   cases o with
   |none=>exact eo _
   |some k=>
    have:=(h.rest.core.cl s k e).1.len;rw[h.cf]at this;show k.q.length<=_;omega
 ·have:=h.rest.core.fresh b j;omega
def Fx.ed.Yp{f:Fx}{g:Cf}{n:Nat}{b:Bool}{c:Int}(h:f.ed g n b c)(j:f.dry n):∀k,aa k∈f.K->k.out.size=0:=λk m=>by obtain⟨s,e⟩:=oq.1 m;have:=h.rest.core.mG s k e;rw[h.cH]at this;exact j s k e this.2
section
variable [aP] {P:aZ} {Q:Exit->Act->az->Prop} {a:Act} {u:az} {ops:aK Oper} {i n d k:Nat} {rest:aB Nat} {Lf:bN->aB Nat} {f0:bN} {dn:Nat} {L:aB (Nat×aE)} {ty:aW} {ps:String} {af:aK Edge} {gd:aY (Nat×Bool)}
def FX.sj{c:jV}(J:Act->az->Prop)(b:FX Lf f0 dn P (mz c) (Exit.then J Q) a u)(f:∀a u,J a u->FX Lf f0 dn P (dV c) Q a u)(hc:SN c=aq:=by kernel_rfl):FX Lf f0 dn P c Q a u:=
 D2 (b.mono λe a u h=>by cases e<;>first|exact f a u h|exact h) hc
def FE.sg{ad:fS}{t x b:Nat}{e:Obj}{vs:aK aE}(A:aP.sH b=aa e)(p:∀w,(isAgg t).run prog w=.ok aq w)(B:∀w,(sizeOf t).run prog w=.ok x w)(C:∀w m,(isAgg t).events prog w m=m)(E:Fa n a L)(q:ad.block=b)(v:vs.size=x)(hc:∀w:az,w.heap[b]? =aa e->∀j,(h:j<vs.size)->w.cell? (ad.add j)=aa vs[j])(hr:∀w:az,w.heap[b]? =aa e->(loadCells ad x).run prog w=.ok vs w)(y:∀D,VR D (.agg vs) (.agg vs))(c:∀f,Fa n f ((d,.agg vs)::L)->FO Lf f0 dn prog ops Q rest f u)
  (s:ops[i]? =aa ⟨aa d,.load t (.tmp k),ty,ps,af,gd⟩:=by rfl) (hv:lk L k=aa (.pointer (aa ad)):=by rfl) (z:(kO ops L gd&&lq ops n gd)=aq:=by rfl) (r:rU [] n d []=aq:=by rfl):FO Lf f0 dn prog ops Q (i::rest) a u:=
 FO.see A p B C s (E.wt (o:=⟨aa d,_,ty,ps,af,gd⟩) z) rfl rfl (E.at_ k _ hv) q v hc hr y (c _ (E.put _ (Ed r)))
end
section
variable [aP] [alC] {l:aB bN} {u:az} {a:Act} {Q:Exit->Act->az->Prop} {al sa ta:aY fS} {ll cl ls cs lt lO cb xb n:Nat} {g:Cf} {lv la:aY fS} {lc:Nat}
abbrev L8(b c e:aE)(cb i:Nat)(r:aB (Nat×aE)):aB (Nat×aE):=(0,b)::(1,c)::(2,e)::(7,pt cb)::(8,an (i:Int))::r
def BoL(b c e:aE)(cb xb n lt:Nat)(g:Cf)(lv:aE)(a:Act)(u:az):Prop:=∃(i:Nat) (f:Fx) (d:Int),Fa 221 a (L8 b c e cb i [])/\i<=lt/\f.ed g n av i/\(1<=d/\d<=16)/\dJ u g cb xb f d n lv
def LoL(b c e:aE)(cb xb n i:Nat)(g:Cf)(f:Fx)(d:Int)(lv:aE)(a:Act)(u:az):Prop:=∃(j:Nat),Fa 221 a (L8 b c e cb i [(11,an (j:Int))])/\j<=n/\dJ u g cb xb f d n lv
def EnL(cb xb n c T:Nat)(most:Int)(g:Cf)(d:Int)(lv:aE)(a:Act)(u:az):Prop:=∃(k m j:Nat) (f:Fx),Fa 221 a [(7,pt cb),(16,an most),(17,an (k:Int))]/\f.ed g n aq ((c+k:Nat):Int)/\f.dZ m j/\k+18*m+j<=T/\(18<=j\/f.dry n)/\dJ u g cb xb f d n lv
def TaL(cb xb n c k m j:Nat)(most:Int)(g:Cf)(d:Int)(lv:aE)(a:Act)(u:az):Prop:=∃(i:Nat) (f:Fx),Fa 221 a [(7,pt cb),(16,an most),(17,an (k:Int)),(19,an (i:Int))]/\i<=n/\f.ed g n aq ((c+k:Nat):Int)/\f.dZ m j/\f.dry i/\dJ u g cb xb f d n lv
def cp8{h j m o p q r s:Int}{b:Nat}{L:aB (Nat×aE)}{e f:Nat}{ps:String}{af:aK Edge}{ty:aW}(w:b=u.heap.size)(c:Tape)(t:ia L (.tmp e)=pt b:=by rfl) (v:ia L (.tmp f)=.agg (st8 h j m o p q r s):=by rfl):(execOp (ia L) ⟨ay,.store 68 (.tmp e) (.tmp f),ty,ps,af,ay⟩).run prog ((u.alloc (aA (st8 0 0 0 0 0 0 0 0) 68)).tp c)=.ok .skip ((u.alloc (aA (st8 h j m o p q r s) 68)).tp c):=by show(execOp _ _).run _ ((u.tp c).alloc (aA (st8 0 0 0 0 0 0 0 0) 68))=Result.ok _ ((u.tp c).alloc (aA (st8 h j m o p q r s) 68));have w:b=(u.tp c).heap.size:=w;generalize u.tp c=y at*;subst w;unfold execOp;simp only[t,v];go_simp
def J3{i:Nat}{f:Fx}{d:Int}(G:yP l)(hI:g.Is)(hn:n<=8)(hR:f.ed g n av ((i+1:Nat):Int))(E:Fa 221 a (L8 (.slice al ll cl) (.slice sa ls cs) (.slice ta lt lO) cb i []))(B:dJ u g cb xb f d n (.slice la n lc)){c:jV}(V:c=dV (dV (dV (oP (mz (dV (oP (oP (dV (mz (dV (dV (dV (pW f13))))))))))))))
  (T:∀a u,Fa 221 a (L8 (.slice al ll cl) (.slice sa ls cs) (.slice ta lt lO) cb i [])->dJ u g cb xb f d n (.slice la n lc)->Q .normal a u):FX fE 13 0 prog c Q a u:=by
 subst V;have U:=G.x.fit;refine D2 (D4 [0] ?_);refine D1 E λa _ E=>D3 ?_;refine FX.bk 2 (FX.lp (LoL (.slice al ll cl) (.slice sa ls cs) (.slice ta lt lO) cb xb n i g f d (.slice la n lc)) (λa _=>leftOf n 11 a) ⟨0,E.to,eo _,B⟩ ?_);rintro a u ⟨j,E,h,B⟩;have O:=qT (n:=n) (E.at_ 11 _ rfl);have r:=B.at;refine D2 (D2 (D4 [0,1,2,3,4,5,6] ?_))
 iterate 4 refine D1 E λa _ E=>?_
 refine A1 E r λa _ E=>?_;refine FE.ln E λa _ E=>?_
 by_cases R:j<n
 ·have W:(j:Int)<(n:Int):=ak;refine D1 (v:=.bool aq) E λa _ E=>D3 ?_;refine FX.cT E (A4 ?_);refine D2 (FX.bk 3 (D2 (D4 [0,1,2,3,4,5,6,7,8,9,10,11] ?_)))
  iterate 3 refine D1 E λa _ E=>?_
  refine A1 E r λa _ E=>?_;refine D1 E λa _ E=>?_;refine FE.cx E (G.o _ bJ).2 ((B.call U (G.o _ bJ).1 (hR.looks (j:Int))).mono ?_);rintro e F ⟨v,f',rfl,⟨⟨w,z,A,C,H,I,D,J,m,rfl,hm⟩,rfl⟩,B⟩;refine⟨_,rfl,λa _ E=>?_⟩;refine D1 E λa _ E=>?_;refine D1 (v:=.agg (st8 w z A C H I D J)) E λa _ E=>?_;refine D1 (v:=an m) E λa _ E=>?_;refine FE.nw (v:=pt F.heap.size) E (F.alloc (aA (st8 0 0 0 0 0 0 0 0) 68)) (hr:=λS=>by go_simp;rfl) λa _ E=>?_;obtain⟨y,K⟩:∃b,b=F.heap.size:=⟨_,rfl⟩;rw[<-K]at E;refine FE.vo E (F.alloc (aA (st8 w z A C H I D J) 68)) ?_ (hr:=λS=>?_)
  rotate_left
  ·exact cp8 K S
  refine D1 E λa _ E=>D3 ?_;have s:(F.alloc (aA (st8 w z A C H I D J) 68)).heap[y]? =_:=new1 K
  replace B:=B.alloc (aA (st8 w z A C H I D J) 68)
  generalize F.alloc (aA (st8 w z A C H I D J) 68)=u at*;clear K r
  replace E:Fa 221 a (L8 (.slice al ll cl) (.slice sa ls cs) (.slice ta lt lO) cb i [(11,an (j:Int)),(12,pt y),(13,an m)]):=E.to
  rcases hm with rfl|⟨rfl,m1,m2,X,Y,Z,m6⟩
  ·skip
   have aC:¬(2:Int)=0:=bJ;refine D2 (D2 (FX.dr 53 52 (λi v=>match i with|0=>v=an 2|1=>v=.bool av|2=>v=.bool av|3=>v=au|4=>v=au|5=>v=au|6=>v=au|7=>v=au|8=>v=au|9=>v=au|10=>v=au|11=>v=au|12=>v=au|13=>v=au|14=>v=au|15=>v=au|16=>v=au|17=>v=au|18=>v=au|19=>v=au|20=>v=au|21=>v=au|22=>v=au|23=>v=au|24=>v=au|25=>v=au|26=>v=au|27=>v=au|28=>v=au|29=>v=au|30=>v=au|31=>v=au|32=>v=au|33=>v=au|34=>v=au|35=>v=au|36=>v=au|37=>v=au|38=>v=au|39=>v=au|40=>v=au|41=>v=au|42=>v=au|43=>v=au|44=>v=au|45=>v=au|46=>v=au|47=>v=au|48=>v=au|49=>v=au|50=>v=au|51=>v=au|_=>True) E (λt q x N a is E h p=>?_) λt q a E hv=>?_))
   ·rw[show u.heap=t.heap by rw[q]]at s;have r:=B.at;rw[show u.heap=t.heap by rw[q]]at r;clear q
    match x,N with
    |0,_=>exact D1 E (dk p)
    |1,_=>exact D1 (v:=.bool av) (E.dd (h 0 rfl)) (dk p)
    |2,_=>exact D1 (E.dd (h 1 rfl)) (dk p)
    |3,_=>exact e6 (E.dd (h 2 rfl)) (dk p)
    |4,_=>exact e6 (E.dd (h 2 rfl)) (dk p)
    |5,_=>exact e6 (E.dd (h 2 rfl)) (dk p)
    |6,_=>exact e6 (E.dd (h 2 rfl)) (dk p)
    |7,_=>exact e6 (E.dd (h 2 rfl)) (dk p)
    |8,_=>exact e6 (E.dd (h 2 rfl)) (dk p)
    |9,_=>exact e6 (E.dd (h 2 rfl)) (dk p)
    |10,_=>exact e6 (E.dd (h 2 rfl)) (dk p)
    |11,_=>exact e6 (E.dd (h 2 rfl)) (dk p)
    |12,_=>exact e6 (E.dd (h 11 rfl)) (dk p)
    |13,_=>exact e6 (E.dd (h 11 rfl)) (dk p)
    |14,_=>exact e6 (E.dd (h 11 rfl)) (dk p)
    |15,_=>exact e6 (E.dd (h 11 rfl)) (dk p)
    |16,_=>exact e6 (E.dd (h 11 rfl)) (dk p)
    |17,_=>exact e6 (E.dd (h 11 rfl)) (dk p)
    |18,_=>exact e6 (E.dd (h 11 rfl)) (dk p)
    |19,_=>exact e6 (E.dd (h 11 rfl)) (dk p)
    |20,_=>exact e6 (E.dd (h 2 rfl)) (dk p)
    |21,_=>exact e6 (E.dd (h 2 rfl)) (dk p)
    |22,_=>exact e6 (E.dd (h 21 rfl)) (dk p)
    |23,_=>exact e6 (E.dd (h 21 rfl)) (dk p)
    |24,_=>exact e6 (E.dd (h 21 rfl)) (dk p)
    |25,_=>exact e6 (E.dd (h 2 rfl)) (dk p)
    |26,_=>exact e6 (E.dd (h 2 rfl)) (dk p)
    |27,_=>exact e6 (E.dd (h 26 rfl)) (dk p)
    |28,_=>exact e6 (E.dd (h 26 rfl)) (dk p)
    |29,_=>exact e6 (E.dd (h 26 rfl)) (dk p)
    |30,_=>exact e6 (E.dd (h 26 rfl)) (dk p)
    |31,_=>exact e6 (E.dd (h 26 rfl)) (dk p)
    |32,_=>exact e6 (E.dd (h 26 rfl)) (dk p)
    |33,_=>exact e6 (E.dd (h 26 rfl)) (dk p)
    |34,_=>exact e6 (E.dd (h 26 rfl)) (dk p)
    |35,_=>exact e6 (E.dd (h 26 rfl)) (dk p)
    |36,_=>exact e6 (E.dd (h 26 rfl)) (dk p)
    |37,_=>exact e6 (E.dd (h 26 rfl)) (dk p)
    |38,_=>exact e6 (E.dd (h 26 rfl)) (dk p)
    |39,_=>exact e6 (E.dd (h 26 rfl)) (dk p)
    |40,_=>exact e6 (E.dd (h 26 rfl)) (dk p)
    |41,_=>exact e6 (E.dd (h 2 rfl)) (dk p)
    |42,_=>exact e6 (E.dd (h 2 rfl)) (dk p)
    |43,_=>exact e6 (E.dd (h 42 rfl)) (dk p)
    |44,_=>exact e6 (E.dd (h 42 rfl)) (dk p)
    |45,_=>exact e6 (E.dd (h 42 rfl)) (dk p)
    |46,_=>exact e6 (E.dd (h 2 rfl)) (dk p)
    |47,_=>exact e6 (E.dd (h 2 rfl)) (dk p)
    |48,_=>exact e6 (E.dd (h 47 rfl)) (dk p)
    |49,_=>exact e6 (E.dd (h 47 rfl)) (dk p)
    |50,_=>exact e6 (E.dd (h 47 rfl)) (dk p)
    |51,_=>exact e6 (E.dd (h 2 rfl)) (dk p)
    |m+52,hm=>omega
   replace B:=B.drew u.tape (u.drawn+1)
   rw[<-q]at B;clear q s
   replace E:=(E.dd (hv 2 rfl)).dd (hv 51 rfl)
   refine eZ.one (j:=52) aS λis M=>D1 (v:=.bool av) E λa _ E=>M a t (eZ.none aS ?_);refine A6 E (A4 ?_)
   replace E:Fa 221 a (L8 (.slice al ll cl) (.slice sa ls cs) (.slice ta lt lO) cb i [(11,an (j:Int)),(13,an 2)]):=E.to
   refine D2 (D4 [0,1,2,3,4,5] ?_);refine D1 E λa _ E=>?_;refine D1 (v:=.bool aq) E λa _ E=>?_
   iterate 2 refine D1 E λa _ E=>?_
   refine D1 (v:=.bool av) E λa _ E=>?_;refine D1 (v:=.bool av) E λa _ E=>D3 ?_;refine A6 E (A4 ?_);refine D4 [0,1,2] ?_;refine D1 E λa _ E=>?_;refine A2 E λa _ E=>?_;refine D1 E λa _ E=>D3 ?_;rw[show(j:Int)+1=((j+1:Nat):Int) by simp]at E;refine⟨⟨j+1,E.to,R,B⟩,?_⟩;rw[O,qT (n:=n) (E.at_ 11 _ rfl)];omega
  ·have aA:0<=g.wk*g.mx/\g.wk*g.mx<=8*32:=vI (by have:=hI.wk;omega) (by have:=hI.mx;omega) hI.wk.2 hI.mx.2.1;have g1:¬D>g.ou:=ak;have g2:¬A>g.qu:=ak;have g3:¬z>1024:=ak;have g4:¬C>g.wk*g.mx:=ak;have g5:¬w<0:=ak;have g6:¬w>4:=ak;clear m1 m2 X Y Z m6;refine D2 (D2 (FX.dr 53 52 (λi v=>match i with|0=>v=an 0|1=>v=.bool aq|2=>v=.bool aq|3=>v=.pointer (aa (aj y 6))|4=>v=an D|5=>v=pt cb|6=>v=pt cb|7=>v=pt cb|8=>v=.pointer (aa (aj cb 8))|9=>v=an g.ou|10=>v=.bool av|11=>v=.bool av|12=>v=.pointer (aa (aj y 2))|13=>v=an A|14=>v=pt cb|15=>v=pt cb|16=>v=pt cb|17=>v=.pointer (aa (aj cb 2))|18=>v=an g.qu|19=>v=.bool av|20=>v=.bool av|21=>v=.bool av|22=>v=.pointer (aa (aj y 1))|23=>v=an z|24=>v=.bool av|25=>v=.bool av|26=>v=.bool av|27=>v=.pointer (aa (aj y 3))|28=>v=an C|29=>v=pt cb|30=>v=pt cb|31=>v=pt cb|32=>v=.pointer (aa (aj cb 7))|33=>v=an g.wk|34=>v=pt cb|35=>v=pt cb|36=>v=pt cb|37=>v=.pointer (aa (aj cb 3))|38=>v=an g.mx|39=>v=an (g.wk*g.mx)|40=>v=.bool av|41=>v=.bool av|42=>v=.bool av|43=>v=pt y|44=>v=an w|45=>v=.bool av|46=>v=.bool av|47=>v=.bool av|48=>v=pt y|49=>v=an w|50=>v=.bool av|51=>v=.bool av|_=>True) E (λt q x N a is E h p=>?_) λt q a E hv=>?_))
   ·rw[show u.heap=t.heap by rw[q]]at s;have r:=B.at;rw[show u.heap=t.heap by rw[q]]at r;clear q
    match x,N with
    |0,_=>exact D1 E (dk p)
    |1,_=>exact D1 (v:=.bool aq) (E.dd (h 0 rfl)) (dk p)
    |2,_=>exact D1 (E.dd (h 1 rfl)) (dk p)
    |3,_=>exact D1 (E.dd (h 2 rfl)) (dk p)
    |4,_=>exact A1 ((E.dd (h 2 rfl)).dd (h 3 rfl)) s (dk p)
    |5,_=>exact D1 (E.dd (h 2 rfl)) (dk p)
    |6,_=>exact D1 ((E.dd (h 2 rfl)).dd (h 5 rfl)) (dk p)
    |7,_=>exact D1 ((E.dd (h 2 rfl)).dd (h 6 rfl)) (dk p)
    |8,_=>exact D1 ((E.dd (h 2 rfl)).dd (h 7 rfl)) (dk p)
    |9,_=>exact A1 ((E.dd (h 2 rfl)).dd (h 8 rfl)) r (dk p)
    |10,_=>exact D1 (v:=.bool av) (((E.dd (h 2 rfl)).dd (h 4 rfl)).dd (h 9 rfl)) (dk p)
    |11,_=>exact D1 ((E.dd (h 2 rfl)).dd (h 10 rfl)) (dk p)
    |12,_=>exact D1 (E.dd (h 11 rfl)) (dk p)
    |13,_=>exact A1 ((E.dd (h 11 rfl)).dd (h 12 rfl)) s (dk p)
    |14,_=>exact D1 (E.dd (h 11 rfl)) (dk p)
    |15,_=>exact D1 ((E.dd (h 11 rfl)).dd (h 14 rfl)) (dk p)
    |16,_=>exact D1 ((E.dd (h 11 rfl)).dd (h 15 rfl)) (dk p)
    |17,_=>exact D1 ((E.dd (h 11 rfl)).dd (h 16 rfl)) (dk p)
    |18,_=>exact A1 ((E.dd (h 11 rfl)).dd (h 17 rfl)) r (dk p)
    |19,_=>exact D1 (v:=.bool av) (((E.dd (h 11 rfl)).dd (h 13 rfl)).dd (h 18 rfl)) (dk p)
    |20,_=>exact D1 (((E.dd (h 2 rfl)).dd (h 11 rfl)).dd (h 19 rfl)) (dk p)
    |21,_=>exact D1 ((E.dd (h 2 rfl)).dd (h 20 rfl)) (dk p)
    |22,_=>exact D1 (E.dd (h 21 rfl)) (dk p)
    |23,_=>exact A1 ((E.dd (h 21 rfl)).dd (h 22 rfl)) s (dk p)
    |24,_=>exact D1 (v:=.bool av) ((E.dd (h 21 rfl)).dd (h 23 rfl)) (dk p)
    |25,_=>exact D1 (((E.dd (h 2 rfl)).dd (h 21 rfl)).dd (h 24 rfl)) (dk p)
    |26,_=>exact D1 ((E.dd (h 2 rfl)).dd (h 25 rfl)) (dk p)
    |27,_=>exact D1 (E.dd (h 26 rfl)) (dk p)
    |28,_=>exact A1 ((E.dd (h 26 rfl)).dd (h 27 rfl)) s (dk p)
    |29,_=>exact D1 (E.dd (h 26 rfl)) (dk p)
    |30,_=>exact D1 ((E.dd (h 26 rfl)).dd (h 29 rfl)) (dk p)
    |31,_=>exact D1 ((E.dd (h 26 rfl)).dd (h 30 rfl)) (dk p)
    |32,_=>exact D1 ((E.dd (h 26 rfl)).dd (h 31 rfl)) (dk p)
    |33,_=>exact A1 ((E.dd (h 26 rfl)).dd (h 32 rfl)) r (dk p)
    |34,_=>exact D1 (E.dd (h 26 rfl)) (dk p)
    |35,_=>exact D1 ((E.dd (h 26 rfl)).dd (h 34 rfl)) (dk p)
    |36,_=>exact D1 ((E.dd (h 26 rfl)).dd (h 35 rfl)) (dk p)
    |37,_=>exact D1 ((E.dd (h 26 rfl)).dd (h 36 rfl)) (dk p)
    |38,_=>exact A1 ((E.dd (h 26 rfl)).dd (h 37 rfl)) r (dk p)
    |39,_=>exact A2 (((E.dd (h 26 rfl)).dd (h 33 rfl)).dd (h 38 rfl)) (dk p)
    |40,_=>exact D1 (v:=.bool av) (((E.dd (h 26 rfl)).dd (h 28 rfl)).dd (h 39 rfl)) (dk p)
    |41,_=>exact D1 (((E.dd (h 2 rfl)).dd (h 26 rfl)).dd (h 40 rfl)) (dk p)
    |42,_=>exact D1 ((E.dd (h 2 rfl)).dd (h 41 rfl)) (dk p)
    |43,_=>exact D1 (E.dd (h 42 rfl)) (dk p)
    |44,_=>exact A1 ((E.dd (h 42 rfl)).dd (h 43 rfl)) s (dk p)
    |45,_=>exact D1 (v:=.bool av) ((E.dd (h 42 rfl)).dd (h 44 rfl)) (dk p)
    |46,_=>exact D1 (((E.dd (h 2 rfl)).dd (h 42 rfl)).dd (h 45 rfl)) (dk p)
    |47,_=>exact D1 ((E.dd (h 2 rfl)).dd (h 46 rfl)) (dk p)
    |48,_=>exact D1 (E.dd (h 47 rfl)) (dk p)
    |49,_=>exact A1 ((E.dd (h 47 rfl)).dd (h 48 rfl)) s (dk p)
    |50,_=>exact D1 (v:=.bool av) ((E.dd (h 47 rfl)).dd (h 49 rfl)) (dk p)
    |51,_=>exact D1 (((E.dd (h 2 rfl)).dd (h 47 rfl)).dd (h 50 rfl)) (dk p)
    |m+52,hm=>omega
   replace B:=B.drew u.tape (u.drawn+1)
   rw[<-q]at B;clear q s
   replace E:=(E.dd (hv 2 rfl)).dd (hv 51 rfl)
   refine eZ.one (j:=52) aS λis M=>D1 (v:=.bool av) E λa _ E=>M a t (eZ.none aS ?_);refine A6 E (A4 ?_)
   replace E:Fa 221 a (L8 (.slice al ll cl) (.slice sa ls cs) (.slice ta lt lO) cb i [(11,an (j:Int)),(13,an 0)]):=E.to
   refine D2 (D4 [0,1,2,3,4,5] ?_);refine D1 E λa _ E=>?_;refine D1 (v:=.bool av) E λa _ E=>?_;refine D1 E λa _ E=>?_;refine e6 E λa _ E=>?_;refine e6 E λa _ E=>?_;refine D1 (v:=.bool av) E λa _ E=>D3 ?_;refine A6 E (A4 ?_);refine D4 [0,1,2] ?_;refine D1 E λa _ E=>?_;refine A2 E λa _ E=>?_;refine D1 E λa _ E=>D3 ?_;rw[show(j:Int)+1=((j+1:Nat):Int) by simp]at E;refine⟨⟨j+1,E.to,R,B⟩,?_⟩;rw[O,qT (n:=n) (E.at_ 11 _ rfl)];omega
 ·have W:¬(j:Int)<(n:Int):=ak;refine D1 (v:=.bool av) E λa _ E=>D3 ?_;exact A6 E (FX.ex 2 (T a u E.to B))
def aev{c k m j:Nat}{most d:Int}{f:Fx}(G:yP l)(H:n<=8)(hR:f.ed g n aq ((c+k:Nat):Int))(b:f.dZ m j)(E:Fa 221 a [(7,pt cb),(16,an most),(17,an (k:Int))])(B:dJ u g cb xb f d n (.slice la n lc)){q:jV}(w:q=dV (dV (dV (oP (mz (dV (oP (oP (dV (mz (dV (dV (dV (dV (dV (dV (dV (dV (pW f13)))))))))))))))))))
  (t:∀a u f,Fa 221 a [(7,pt cb),(16,an most),(17,an (k:Int))]->f.ed g n aq ((c+k:Nat):Int)->f.dZ m j->f.dry n->dJ u g cb xb f d n (.slice la n lc)->Q .normal a u):FX fE 13 0 prog q Q a u:=by
 subst w;have hT:=G.x.fit;refine D2 (D4 [0] ?_);refine D1 E λa _ E=>D3 ?_;refine FX.bk 6 (FX.lp (TaL cb xb n c k m j most g d (.slice la n lc)) (λa _=>leftOf n 19 a) ⟨0,f,E.to,eo _,hR,b,λs x D h=>?_,B⟩ ?_)
 ·have:=hR.rest.core.mG s x D;omega
 rintro a u ⟨i,f,E,F,hR,b,p,B⟩;have A:=qT (n:=n) (E.at_ 19 _ rfl);have r:=B.at;refine D2 (D2 (D4 [0,1,2,3,4,5,6] ?_))
 iterate 4 refine D1 E λa _ E=>?_
 refine A1 E r λa _ E=>?_;refine FE.ln E λa _ E=>?_
 by_cases C:i<n
 ·have z:(i:Int)<(n:Int):=ak;refine D1 E λa _ E=>D3 ?_;refine FX.cT E (A4 ?_);refine D2 (FX.bk 7 (D4 [0,1,2,3,4,5] ?_))
  iterate 3 refine D1 E λa _ E=>?_
  refine A1 E r λa _ E=>?_;refine D1 E λa _ E=>?_;refine FE.cx E (G.o _ bJ).2 ((B.call G.x.fit (G.o _ bJ).1 (hR.taken i m j b p)).mono ?_);rintro e u ⟨v,f,rfl,⟨⟨x,y,rfl⟩,hR,b,p⟩,B⟩;refine⟨_,rfl,λa _ E=>D3 ?_⟩;refine D4 [0,1,2] ?_;refine D1 E λa _ E=>?_;refine A2 E λa _ E=>?_;refine D1 E λa _ E=>D3 ?_;rw[show(i:Int)+1=((i+1:Nat):Int) by simp]at E;refine⟨⟨i+1,f,E.to,C,hR,b,p,B⟩,?_⟩;rw[A,qT (E.at_ 19 _ rfl)];omega
 ·have z:¬(i:Int)<(n:Int):=ak;refine D1 E λa _ E=>D3 ?_;have e:i=n:=ak;subst e;exact A6 E (FX.ex 6 (t a u f E.to hR b p B))
def Yy{c:Nat}{most d:Int}{f:Fx}(G:yP l)(C:n<=8)(hc:c<=1048576)(hR:f.ed g n aq (c:Int))(hm:144*g.qu+18<=most/\most<=1073741824)(O:1<=g.qu/\g.qu<=8)(E:Fa 221 a [(7,pt cb),(16,an most)])(B:dJ u g cb xb f d n (.slice la n lc)){p:jV}(z:p=mz (dV (dV (dV (dV (dV (dV (dV (dV (pW f13))))))))))
  (t:∀a u,Fa 221 a [(6,.bool aq)]->Q .ret a u):FX fE 13 0 prog p Q a u:=by
 subst z;have hT:=G.x.fit;obtain⟨T,J⟩:∃T:Nat,(T:Int)=144*g.qu+18:=⟨(144*g.qu+18).toNat,ak⟩;refine D2 (D4 [0] ?_);refine D1 E λa _ E=>D3 ?_;refine FX.bk 4 (FX.lp (EnL cb xb n c T most g d (.slice la n lc)) (λa _=>leftOf (T+1) 17 a) ⟨0,_,_,f,E.to,hR,hR.near,ak,aF (bC _),B⟩ ?_);rintro a u ⟨k,m,j,f,E,hR,h,K,D,B⟩;have A:=qT (n:=T+1) (E.at_ 17 _ rfl);have r:=B.at;have M:(k:Int)<=most:=ak;refine D2 (D2 (D4 [0,1,2] ?_))
 iterate 2 refine D1 E λa _ E=>?_
 refine D1 E λa _ E=>D3 ?_;refine FX.cT E (A4 ?_);refine D2 (FX.bk 5 (D2 (D4 [0,1,2,3,4,5] ?_)))
 iterate 3 refine D1 E λa _ E=>?_
 refine A1 E r λa _ E=>?_;refine FE.cx E (G.o _ bJ).2 ((WU G.x.fit (G.o _ bJ).1 B hR).mono ?_);rintro e u ⟨v,I,rfl,⟨rfl,rfl⟩,B⟩;refine⟨_,rfl,λa _ E=>?_⟩;refine D1 E λa _ E=>D3 ?_;refine D2 (D2 (D4 [0] ?_));refine D1 E λa _ E=>D3 ?_
 by_cases b:f.done=aq
 ·rw[b]at E;refine FX.cT E (D2 (D4 [0] ?_));refine D1 E λa _ E=>D3 ?_;exact FX.rt (t a u E.to)
 ·have q:f.done=av:=by simpa using b
  rw[q]at E;refine A6 E (A4 ?_)
  replace E:Fa 221 a [(7,pt cb),(16,an most),(17,an (k:Int))]:=E.to
  refine D2 (D4 [0,1,2,3,4] ?_)
  iterate 3 refine D1 E λa _ E=>?_
  refine A1 E B.at λa _ E=>?_;refine FE.cx E G.kI ((Of G.x B hR ak).mono ?_);rintro e u ⟨rfl,w,y,B⟩;refine⟨_,rfl,λa _ E=>D3 ?_⟩;obtain⟨H,F,s,N⟩:=P1 hR.rest (by rw[hR.clock];omega) hR.stop y q h (D.imp id hR.Yp);refine aev G C (by rw[show c+1+k=c+k+1 by omega];exact w) s E.to B rfl λa u f E hR h b B=>?_;refine D4 [0,1,2] ?_;refine D1 E λa _ E=>?_;refine A2 E λa _ E=>?_;refine D1 E λa _ E=>D3 ?_;rw[show(k:Int)+1=((k+1:Nat):Int) by simp]at E;refine⟨⟨k+1,H,F,f,E.to,by rw[show c+(k+1)=c+1+k by omega];exact hR,h,ak,aD b,B⟩,?_⟩;rw[A,qT (E.at_ 17 _ rfl)];omega
def Xg(G:yP l)(JG:ll<=cY)(bA:ls<=1048576)(bB:lt<=1048576)(hl:yR al ll)(aP:NN sa ls)(qS:NM ta lt):
  jo fE prog 0 13 #[.slice al ll cl,.slice sa ls cs,.slice ta lt lO] u λe u'=>e=aN (.bool aq):=by
 have R:=G.x.fit;refine jo.BG 221 func13 λa E=>?_;refine D2 (D4 [0] ?_);refine D1 E λa _ E=>D3 ?_;refine D2 (D4 [0,1,2] ?_);refine e9 E λa _ E=>?_;refine FE.cf E func15 G.kB aaG (WJ al ll cl) ((WK G JG hl).mono ?_);rintro e u ⟨cb,xb,n,g,f,lv,rfl,hI,hF,bD,bE,B⟩;refine⟨_,rfl,λa _ E=>?_⟩;refine D1 E λa _ E=>D3 ?_;obtain⟨la,lc,rfl⟩:=B.form;have hn:n<=8:=by have:=hI.cl;omega
 refine D2 (D2 (D4 [0,1] ?_));refine D1 E λa _ E=>?_;refine D1 (v:=.bool av) E λa _ E=>D3 ?_;refine A6 E (A4 ?_);refine D2 (D2 (D4 [0] ?_));refine D1 E λa _ E=>D3 ?_;refine FX.bk 0 (FX.lp (BoL (.slice al ll cl) (.slice sa ls cs) (.slice ta lt lO) cb xb n lt g (.slice la n lc)) (λa _=>leftOf lt 8 a) ⟨0,f,1,E.to,eo _,⟨hF.rest,by unfold Fx.fix;rw[hF.g,hF.cH,hF.stop],hF.clock⟩,ak,B⟩ ?_);clear hF B E;rintro a u ⟨i,f,d,E,hi,hR,F,B⟩;have Hl:=qT (n:=lt) (E.at_ 8 _ rfl);refine D2 (D2 (D4 [0,1,2,3] ?_));refine D1 E λa _ E=>?_;refine e9 E λa _ E=>?_;refine FE.ln E λa _ E=>?_
 by_cases S:i<lt
 ·have hh:(i:Int)<(lt:Int):=ak;refine D1 (v:=.bool aq) E λa _ E=>D3 ?_;refine FX.cT E (A4 ?_)
  replace E:Fa 221 a (L8 (.slice al ll cl) (.slice sa ls cs) (.slice ta lt lO) cb i []):=E.to
  obtain⟨s,p,bG,M,rfl,W,T⟩:=qS.resolve_left ak;have V:0<=(i:Int)/\(i:Int)<(lt:Int):=ak;refine D2 (FX.bk 1 (FX.sj (λa u=>∃f,Fa 221 a (L8 (.slice al ll cl) (.slice sa ls cs) (.slice (aa (aj s p)) lt lO) cb i [])/\f.ed g n av i/\dJ u g cb xb f d n (.slice la n lc)) ?_ ?_))
  ·skip
   refine D2 (D4 [0,1,2,3] ?_);refine D1 E λa _ E=>?_;refine e9 E λa _ E=>?_;refine FE.ln E λa _ E=>?_
   by_cases hs:i<ls
   ·have aJ:(i:Int)<(ls:Int):=ak;refine D1 (v:=.bool aq) E λa _ E=>D3 ?_;obtain⟨J,K,bF,sz,rfl,aR,aT⟩:=aP.resolve_left ak;have aL:0<=(i:Int)/\(i:Int)<(ls:Int):=ak;refine FX.cT E (D2 (FX.dr 21 19 (λj v=>match j with|0=>v=pt cb|1=>v=pt cb|2=>v=.pointer (aa (aj cb 9))|3=>v=pt xb|4=>v=.slice (aa (aj s p)) lt lO|5=>v=an (i:Int)|6=>v=.pointer (aa (aj s (p+i*4)))|7=>v=.pointer (aa (aj s (p+i*4+1)))|8=>v=an (M i 1)|9=>v=pt cb|10=>v=pt cb|11=>v=.pointer (aa (aj cb 10))|12=>v=.slice la n lc|13=>v=an (n:Int)|14=>∃r,v=an r|15=>v=.slice (aa (aj J K)) ls cs|16=>v=an (i:Int)|17=>v=.pointer (aa (aj J (K+i)))|18=>v=.string (sz i)|_=>True) (show Fa 221 a (L8 (.slice al ll cl) (.slice (aa (aj J K)) ls cs) (.slice (aa (aj s p)) lt lO) cb i []) from E.to) (λO C x X a is E h c=>?_) λO C a E hv=>?_))
    ·have H:=B.at;rw[show u.heap=O.heap by rw[C]]at H;clear C
     match x,X with
     |0,_=>exact D1 E (dk c)
     |1,_=>exact D1 (E.dd (h 0 rfl)) (dk c)
     |2,_=>exact D1 (E.dd (h 1 rfl)) (dk c)
     |3,_=>exact A1 (E.dd (h 2 rfl)) H (dk c)
     |4,_=>exact e9 E (dk c)
     |5,_=>exact D1 E (dk c)
     |6,_=>exact e9 (v:=.pointer (aa (aj s (p+i*4)))) ((E.dd (h 4 rfl)).dd (h 5 rfl)) (hr:=λw=>by go_simp) (he:=λw=>Bg (m:=lt) (c0:=lO) (ad:=aj s p) (j:=i) w rfl rfl aS V) (dk c)
     |7,_=>exact e9 (v:=.pointer (aa (aj s (p+i*4+1)))) (E.dd (h 6 rfl)) (dk c)
     |8,_=>exact FE.p1 W (E.dd (h 7 rfl)) (T i S 1 bJ).2 (dk c)
     |9,_=>exact D1 E (dk c)
     |10,_=>exact D1 (E.dd (h 9 rfl)) (dk c)
     |11,_=>exact D1 (E.dd (h 10 rfl)) (dk c)
     |12,_=>exact A1 (E.dd (h 11 rfl)) H (dk c)
     |13,_=>exact FE.ln (E.dd (h 12 rfl)) (dk c)
     |14,_=>exact FE.qZ G.k (T i S 1 bJ).1 ((E.dd (h 8 rfl)).dd (h 13 rfl)) λr U hr N _=>c U _ ⟨r,rfl⟩ N
     |15,_=>exact e9 E (dk c)
     |16,_=>exact D1 E (dk c)
     |17,_=>exact e9 (v:=.pointer (aa (aj J (K+i)))) ((E.dd (h 15 rfl)).dd (h 16 rfl)) (hr:=λw=>by go_simp) (he:=λw=>Bg (m:=ls) (c0:=cs) (ad:=aj J K) (j:=i) w rfl rfl aS aL) (dk c)
     |18,_=>exact FE.p1 aR (E.dd (h 17 rfl)) (aT i hs) (dk c)
     |m+19,hm=>omega
    replace B:=B.drew u.tape (u.drawn+1)
    rw[<-C]at B;clear C;obtain⟨r,er⟩:=hv 14 rfl
    replace E:=((E.dd (hv 3 rfl)).add (d:=48) er).dd (hv 18 rfl)
    refine eZ.one (j:=19) aS λis I=>?_;refine FE.cx E (G.o _ bJ).2 ((B.call R (G.o _ bJ).1 (hR.sends r (sz i))).mono ?_);rintro e u ⟨v,f,rfl,⟨⟨m,rfl,hm⟩,hR⟩,B⟩;refine⟨_,rfl,λa _ E=>I a u ?_⟩;refine eZ.one (j:=20) aS λis I=>D1 E λa _ E=>I a u (eZ.none aS ?_)
    replace E:Fa 221 a (L8 (.slice al ll cl) (.slice (aa (aj J K)) ls cs) (.slice (aa (aj s p)) lt lO) cb i [(9,an m)]):=E.to
    rcases hm with rfl|rfl|rfl
    ·skip
     refine D2 (D4 [0,1,2,3,4,5,6,7,8,9] ?_);refine D1 E λa _ E=>?_;refine D1 (v:=.bool av) E λa _ E=>?_;refine D1 E λa _ E=>?_;refine e6 E λa _ E=>?_;refine e6 E λa _ E=>?_;refine D1 (v:=.bool av) E λa _ E=>?_;refine D1 E λa _ E=>?_;refine e6 E λa _ E=>?_;refine e6 E λa _ E=>?_;refine D1 (v:=.bool av) E λa _ E=>D3 ?_;exact A6 E (A4 ⟨f,E.to,hR,B⟩)
    ·skip
     refine D2 (D4 [0,1,2,3,4,5,6,7,8,9] ?_);refine D1 E λa _ E=>?_;refine D1 (v:=.bool aq) E λa _ E=>?_
     iterate 2 refine D1 E λa _ E=>?_
     refine D1 (v:=.bool av) E λa _ E=>?_;refine D1 (v:=.bool av) E λa _ E=>?_;refine D1 E λa _ E=>?_;refine e6 E λa _ E=>?_;refine e6 E λa _ E=>?_;refine D1 (v:=.bool av) E λa _ E=>D3 ?_;exact A6 E (A4 ⟨f,E.to,hR,B⟩)
    ·skip
     refine D2 (D4 [0,1,2,3,4,5,6,7,8,9] ?_);refine D1 E λa _ E=>?_;refine D1 (v:=.bool aq) E λa _ E=>?_
     iterate 2 refine D1 E λa _ E=>?_
     refine D1 (v:=.bool aq) E λa _ E=>?_;refine D1 (v:=.bool aq) E λa _ E=>?_
     iterate 2 refine D1 E λa _ E=>?_
     refine D1 (v:=.bool av) E λa _ E=>?_;refine D1 (v:=.bool av) E λa _ E=>D3 ?_;exact A6 E (A4 ⟨f,E.to,hR,B⟩)
   ·have aJ:¬(i:Int)<(ls:Int):=ak;refine D1 (v:=.bool av) E λa _ E=>D3 ?_;exact A6 E (A4 ⟨f,E.to,hR,B⟩)
  ·clear hR B E;rintro a u ⟨f,E,hR,B⟩;refine FX.sj (λa u=>∃f d,Fa 221 a (L8 (.slice al ll cl) (.slice sa ls cs) (.slice (aa (aj s p)) lt lO) cb i [])/\f.ed g n av i/\(1<=d/\d<=16)/\dJ u g cb xb f d n (.slice la n lc)) ?_ ?_
   ·skip
    refine D2 (D4 [0,1,2,3,4,5] ?_);refine e9 E λa _ E=>?_;refine D1 E λa _ E=>?_;refine e9 (v:=.pointer (aa (aj s (p+i*4)))) E (hr:=λw=>by go_simp) (he:=λw=>Bg (m:=lt) (c0:=lO) (ad:=aj s p) (j:=i) w rfl rfl aS V) λa _ E=>?_;refine e9 (v:=.pointer (aa (aj s (p+i*4)))) E λa _ E=>?_;refine FE.p1 (off:=p+i*4) W E (T i S 0 bJ).2 λa _ E=>?_
    by_cases hk:M i 0=4
    ·skip
     refine D1 (v:=.bool aq) E λa _ E=>D3 ?_;refine FX.cT E (D2 (D4 [0,1,2,3,4,5,6] ?_));refine D1 E λa _ E=>?_;refine e9 E λa _ E=>?_;refine D1 E λa _ E=>?_;refine e9 (v:=.pointer (aa (aj s (p+i*4)))) E (hr:=λw=>by go_simp) (he:=λw=>Bg (m:=lt) (c0:=lO) (ad:=aj s p) (j:=i) w rfl rfl aS V) λa _ E=>?_;have y:=T i S;refine FE.sg (t:=46) (vs:=#[an (M i 0),an (M i 1),an (M i 2),an (M i 3)]) (x:=4) W (λw=>by go_simp) (λw=>by go_simp) (λw es=>by go_simp) E rfl rfl (λw D j h=>?_) (λw D=>?_) (λρ=>?_) λa E=>?_
     ·have e:(⟨s,p+i*4,ay⟩:fS).add j=⟨s,p+i*4+j,ay⟩:=by unfold Addr.add;split<;>simp_all
      rw[e]
      match j,h with
      |0,_=>exact(y 0 bJ).2 w D
      |1,_=>exact(y 1 bJ).2 w D
      |2,_=>exact(y 2 bJ).2 w D
      |3,_=>exact(y 3 bJ).2 w D
      |k+4,h=>exact absurd h aC
     ·have c0:=(y 0 bJ).2 w D;have c1:=(y 1 bJ).2 w D;have c2:=(y 2 bJ).2 w D;have c3:=(y 3 bJ).2 w D;generalize p+i*4=o at*;go_simp
     ·refine .agg rfl λk v v' q Y=>?_;rw[q]at Y;cases Y
      match k,q with
      |0,q=>simp at q;subst q;constructor
      |1,q=>simp at q;subst q;constructor
      |2,q=>simp at q;subst q;constructor
      |3,q=>simp at q;subst q;constructor
      |k+4,q=>simp at q
     refine FE.cx E (G.o _ bJ).2 ((WW R (G.o _ bJ).1 B hR F _ _ _ _ (y 1 bJ).1 (y 2 bJ).1 (y 3 bJ).1).mono ?_);rintro e u ⟨rfl,f,d,hR,F,B⟩;refine⟨_,rfl,λa _ E=>?_⟩;refine D1 E λa _ E=>D3 ?_;refine D2 (D4 [0,1] ?_);refine D1 E λa _ E=>?_;refine D1 (v:=.bool av) E λa _ E=>D3 ?_;exact A6 E (A4 ⟨f,d,E.to,hR,F,B⟩)
    ·skip
     refine D1 (v:=.bool av) E λa _ E=>D3 ?_;exact A6 E (A4 ⟨f,d,E.to,hR,F,B⟩)
   ·clear hR B E F;rintro a u ⟨f,d,E,hR,F,B⟩;have H:=B.at;refine D2 (D4 [0,1,2,3,4] ?_)
    iterate 3 refine D1 E λa _ E=>?_
    refine A1 E H λa _ E=>?_;refine FE.cx E G.kI ((Of G.x B hR ak).mono ?_);rintro e u ⟨rfl,hR,_,B⟩;refine⟨_,rfl,λa _ E=>D3 ?_⟩;have Z:f.tick.ed g n av ((i+1:Nat):Int):=hR;refine J3 G hI hn Z E.to B rfl λa u E B=>?_;refine D4 [0,1,2] ?_;refine D1 E λa _ E=>?_;refine A2 E λa _ E=>?_;refine D1 E λa _ E=>D3 ?_;rw[show(i:Int)+1=((i+1:Nat):Int) by simp]at E;refine⟨⟨i+1,f.tick,d,E.to,S,Z,F,B⟩,?_⟩;rw[Hl,qT (n:=lt) (E.at_ 8 _ rfl)];omega
 ·have hh:¬(i:Int)<(lt:Int):=ak;refine D1 (v:=.bool av) E λa _ E=>D3 ?_;refine A6 E (FX.ex 0 ?_);have H:=B.at
  replace E:Fa 221 a [(7,pt cb)]:=E.to
  refine D2 (D4 [0,1,2,3,4] ?_)
  iterate 3 refine D1 E λa _ E=>?_
  refine A1 E H λa _ E=>?_;refine FE.cx E (G.o _ bJ).2 ((WZ R (G.o _ bJ).1 B hR).mono ?_);rintro e u ⟨v,f',rfl,⟨rfl,rfl⟩,B⟩;refine⟨_,rfl,λa _ E=>D3 ?_⟩
  replace hR:f.halt.ed g n aq (i:Int):=hR.halt
  refine D2 (D4 [0,1,2,3,4,5,6,7,8,9] ?_)
  iterate 3 refine D1 E λa _ E=>?_
  refine A1 E B.at λa _ E=>?_;refine FE.cx E (G.o _ bJ).2 ((WT R (G.o _ bJ).1 B hR.stop).mono ?_);rintro e u ⟨v,f',rfl,⟨rfl,rfl⟩,B⟩;refine⟨_,rfl,λa _ E=>?_⟩;refine D1 E λa _ E=>?_;refine D1 (v:=an 0) E λa _ E=>?_;refine D1 (v:=an 4) E λa _ E=>?_;refine D1 E λa _ E=>?_;refine D1 E λa _ E=>D3 ?_;refine D2 (D2 (D4 [0,1] ?_));refine D1 E λa _ E=>?_;refine D1 (v:=.bool av) E λa _ E=>D3 ?_;refine A6 E (A4 ?_)
  replace E:Fa 221 a [(7,pt cb)]:=E.to
  have bu:=vI (a:=g.cl) (b:=g.qu) (by have:=hI.cl;omega) (by have:=hI.qu;omega) hI.cl.2 hI.qu.2;have QG:=hI.qu;refine D2 (FX.dr 16 14 (λj v=>match j with|0=>v=pt cb|1=>∃z,v=an z/\(54*(g.qu+1)<=z/\z<=938952)|2=>v=pt cb|3=>v=pt cb|4=>v=pt cb|5=>v=.pointer (aa (aj cb 1))|6=>v=an g.cl|7=>v=pt cb|8=>v=pt cb|9=>v=pt cb|10=>v=.pointer (aa (aj cb 2))|11=>v=an g.qu|12=>v=an (g.cl*g.qu)|13=>v=an (g.cl*g.qu+2)|_=>True) E (λO C x X a is E h c=>?_) λO C a E hv=>?_)
  ·replace B:=B.drew u.tape (u.drawn+1)
   rw[<-C]at B;clear C
   match x,X with
   |0,_=>exact D1 E (dk c)
   |1,_=>
    refine FE.cx (E.dd (h 0 rfl)) (G.o _ bJ).2 ((WQ R (G.o _ bJ).1 B hI F).mono ?_);rintro e u4 ⟨z,rfl,y,τ,m,rfl⟩;exact⟨_,rfl,λU N _=>(c U _ ⟨z,rfl,y⟩ N).same τ m⟩
   |2,_=>exact D1 E (dk c)
   |3,_=>exact D1 (E.dd (h 2 rfl)) (dk c)
   |4,_=>exact D1 (E.dd (h 3 rfl)) (dk c)
   |5,_=>exact D1 (E.dd (h 4 rfl)) (dk c)
   |6,_=>exact A1 (E.dd (h 5 rfl)) B.at (dk c)
   |7,_=>exact D1 E (dk c)
   |8,_=>exact D1 (E.dd (h 7 rfl)) (dk c)
   |9,_=>exact D1 (E.dd (h 8 rfl)) (dk c)
   |10,_=>exact D1 (E.dd (h 9 rfl)) (dk c)
   |11,_=>exact A1 (E.dd (h 10 rfl)) B.at (dk c)
   |12,_=>exact A2 ((E.dd (h 6 rfl)).dd (h 11 rfl)) (dk c)
   |13,_=>exact A2 (E.dd (h 12 rfl)) (dk c)
   |m+14,hm=>omega
  replace B:=B.drew u.tape (u.drawn+1)
  rw[<-C]at B;clear C;obtain⟨z,ez,y⟩:=hv 1 rfl;have hM:=vI (a:=z) (b:=g.cl*g.qu+2) ak ak y.2 (show _<=66 by omega);have bt:z*3<=z*(g.cl*g.qu+2):=Ai (by have q:=hI.cl.1;have:=vI (a:=1) (b:=1) (A:=g.cl) (B:=g.qu) bJ bJ q QG.1;omega) ak
  replace E:=(E.add (d:=176) ez).dd (hv 13 rfl)
  refine eZ.one (j:=14) aS λis I=>A2 E λa _ E=>I a O ?_;refine eZ.one (j:=15) aS λis I=>D1 E λa _ E=>I a O (eZ.none aS ?_);refine D2 (Yy (most:=z*(g.cl*g.qu+2)) G hn ak hR ⟨ak,ak⟩ QG E.to B rfl λa u E=>?_);refine⟨rfl,E.defers,.bool aq,?_,rfl⟩;simp[results,results13,go_sem,(ev (E.at_ 6 _ rfl))]
end
end
section
open Go.ChangeAt Go.ChangeShapes Go.Conc Go.Deep Go.RowKit Go.WideShapes
open Go.ConcR (Payload)
open Go.Proofs.Tryz
def V8:ownKnob prog.godebug=ay:=aS
def JW:laidOutB prog=aq:=aS
def Xj{H:Type}(d:DataW H):1<=Rows.uptoBulk d:=by
 cases d with
 |lit l=>cases l<;>simp[Rows.uptoBulk]
 |nil=>simp[Rows.uptoBulk]
 |ptr d=>simp[Rows.uptoBulk]
 |slice a spare=>simp[Rows.uptoBulk]
 |agg parts=>simp[Rows.uptoBulk]
 |iface t d=>simp[Rows.uptoBulk]
 |map b=>simp[Rows.uptoBulk]
 |held h=>simp[Rows.uptoBulk]
def Oi{H:Type}(l:aB (DataW H)):l.length<=Rows.uptoBulkAll l:=by
 induction l with
 |nil=>simp[Rows.uptoBulkAll]
 |cons x r a=>have:=Xj x;simp only[Rows.uptoBulkAll,eT];omega
def Sg{z}(h:(Lit.int .i64 z).wf=aq):fY z:=by simp[Lit.wf,IntKind.min,IntKind.max,IntKind.signed,IntKind.bits]at h;omega
def yW(b off i):(⟨b,off,ay⟩:fS).add i=⟨b,off+i,ay⟩:=by
 unfold Addr.add;split
 ·rename_i e;subst e;rfl
 ·rfl
def ltP{w:az}{b off:Nat}{v:aE}(h:w.cell? (aj b off)=aa v):b<w.heap.size:=by refine og λa=>?_;have:w.heap[b]? =ay:=rA ak;simp[fH,this]at h
section
variable {H:Type} {enc:aW×aE->H} {w:az} {base:Nat} {spare:Nat->Bool} {held:Bool}
def aac{fuel a len cap x}(h:Cu enc prog w base spare held fuel 25 [.slice a len cap]=aa x):len<=cY/\(len=0\/∃b off,a=aa ⟨b,off,ay⟩/\b<w.heap.size/\∀i,i<len->∃z,fY z/\w.cell? (aj b (off+i))=aa (an z)):=by
 rcases open_ints underlying25 underlying3 (show prog.cellsOf 3=1 by kernel_rfl) h with⟨c,_⟩|⟨f,s,o,d,c,_,q,hm,m,_,e,l⟩
 ·simp at c;obtain⟨rfl,rfl,rfl⟩:=c;exact⟨eo _,aF rfl⟩
 ·simp at c;obtain⟨rfl,rfl,rfl⟩:=c;refine⟨ak,?_⟩
  by_cases h0:len=0
  ·exact aF h0
  right;have r:len<=d.length:=by rw[m];split<;>omega
  obtain⟨b,off,n⟩:=f
  have k:n=ay:=by have:=e 0 ak;simp only[Addr.add,cS]at this;simpa using Nc this
  subst k
  have g:b<w.heap.size:=by have:=e 0 ak;rw[yW]at this;exact ltP this
  refine⟨b,off,rfl,g,λi p=>⟨d.getD i 0,?_,?_⟩⟩
  ·have j:d.getD i 0∈d:=by
    simp[List.getD,show i<d.length by omega]
   exact Sg (l _ j)
  ·have:=e i ak
   rwa [yW]at this
def aeo{fuel a len cap x}(j:Rows.uptoBulk x.1<=1048576)(h:Cu enc prog w base spare held fuel 79 [.slice a len cap]=aa x):len<=1048576/\(len=0\/∃b off,a=aa ⟨b,off,ay⟩/\b<w.heap.size/\∀i,i<len->∃z:ByteArray,w.cell? (aj b (off+i))=aa (.string z)):=by
 rcases open_slice underlying79 h with⟨c,_⟩|⟨f,J,B,m,n,D,A,c,_,E,hm,t,v,p⟩
 ·simp at c;obtain⟨rfl,rfl,rfl⟩:=c;exact⟨eo _,aF rfl⟩
 ·simp at c;obtain⟨rfl,rfl,rfl⟩:=c
  have r:len<=1048576:=by rw[v]at j;simp only[Rows.uptoBulk]at j;have:=Oi ((eF len).map D);simp only[pG,Va]at this;omega
  refine⟨r,?_⟩
  by_cases h0:len=0
  ·exact aF h0
  right;have F:len<=m:=by rw[t];split<;>omega
  rw[show prog.cellsOf 9=1 by kernel_rfl]at p
  have l:∀i,i<len->∃z:ByteArray,w.cell? ((f.add (i*1)).add 0)=aa (.string z):=λi k=>by obtain⟨C,q,d⟩:=p i ak;obtain⟨s,c,I,G⟩:=DataW.trod_string underlying9 d;have g:=(VE q).2.2 0 ak;rw[c]at g;exact⟨s,g⟩
  obtain⟨b,off,y⟩:=f
  have u:y=ay:=by obtain⟨z,e⟩:=l 0 ak;simp only[rN,Addr.add,cS]at e;simpa using Nc e
  subst u
  have o:∀i,i<len->∃z:ByteArray,w.cell? (aj b (off+i))=aa (.string z):=λi k=>by obtain⟨z,d⟩:=l i k;rw[yW,yW]at d;exact⟨z,by simpa using d⟩
  exact⟨b,off,rfl,by obtain⟨z,e⟩:=o 0 ak;exact ltP e,o⟩
def aej{fuel cs x}(h:Cu enc prog w base spare held fuel 46 cs=aa x):∀j,j<4->∃z,fY z/\cs[j]? =aa (an z):=by
 obtain⟨c,n,_,_,g,i,a⟩:=DataW.trod_struct underlying46 h;rw[show prog.cellsOf 46=4 by kernel_rfl]at g;have l:c.length=4:=i
 have one:∀j,j<4->Cu enc prog w base spare held n 3 ((cs.drop j).take (prog.cellsOf 3))=c[j]? ->∃z,fY z/\cs[j]? =aa (an z):=λj b e=>by rw[ef ak,show prog.cellsOf 3=1 by kernel_rfl]at e;obtain⟨k,d,_,f⟩:=DataW.trod_int underlying3 e;refine⟨k,Sg f,?_⟩;have:=dX (·[0]?) d;simpa using this
 exact λj b=>match j,b with
  |0,h=>one 0 h (a 0 _ rfl)
  |1,h=>one 1 h (a 1 _ rfl)
  |2,h=>one 2 h (a 2 _ rfl)
  |3,h=>one 3 h (a 3 _ rfl)
def aem{fuel a len cap x}(o:Rows.uptoBulk x.1<=1048576)(h:Cu enc prog w base spare held fuel 26 [.slice a len cap]=aa x):len<=1048576/\(len=0\/∃b off,a=aa ⟨b,off,ay⟩/\b<w.heap.size/\∀i,i<len->∀j,j<4->∃z,fY z/\w.cell? (aj b (off+i*4+j))=aa (an z)):=by
 rcases open_slice underlying26 h with⟨d,_⟩|⟨k,J,E,m,n,D,C,d,_,G,hm,v,A,s⟩
 ·simp at d;obtain⟨rfl,rfl,rfl⟩:=d;exact⟨eo _,aF rfl⟩
 ·simp at d;obtain⟨rfl,rfl,rfl⟩:=d
  have u:len<=1048576:=by rw[A]at o;simp only[Rows.uptoBulk]at o;have:=Oi ((eF len).map D);simp only[pG,Va]at this;omega
  refine⟨u,?_⟩
  by_cases h0:len=0
  ·exact aF h0
  right;have I:len<=m:=by rw[v];split<;>omega
  rw[show prog.cellsOf 46=4 by kernel_rfl]at s
  have q:∀i,i<len->∀j,j<4->∃z,fY z/\w.cell? ((k.add (i*4)).add j)=aa (an z):=λi p j g=>by obtain⟨F,f,e⟩:=s i ak;obtain⟨z,c,t⟩:=aej e j g;have l:=(VE f).2.2 j ak;rw[t]at l;exact⟨z,c,l⟩
  obtain⟨b,off,B⟩:=k
  have y:B=ay:=by obtain⟨z,_,c⟩:=q 0 ak 0 ak;simp only[rN,Addr.add,cS]at c;simpa using Nc c
  subst y
  have r:∀i,i<len->∀j,j<4->∃z,fY z/\w.cell? (aj b (off+i*4+j))=aa (an z):=λi p j g=>by obtain⟨z,f,e⟩:=q i p j g;rw[yW,yW]at e;exact⟨z,f,e⟩
  exact⟨b,off,rfl,by obtain⟨z,_,c⟩:=r 0 ak 0 ak;exact ltP c,r⟩
end
section
variable (W:az)
def abv{a len}(h:len=0\/∃b off,a=aa ⟨b,off,ay⟩/\b<W.heap.size/\∀i,i<len->∃z,fY z/\W.cell? (aj b (off+i))=aa (an z)):@yR (qQ prog mD rX 1 (λb=>W.heap[b]?)) a len:=by
 rcases h with h|⟨b,off,rfl,d,f⟩
 ·exact aF h
 ·classical
  refine aD ⟨b,off,W.heap[b],λi=>if c:i<len then Mm (f i c)else 0,rfl,cL d,λi c=>?_⟩;have e:=GB (f i c);simp only[qA c];exact⟨e.1,λw g=>(fX (g.trans (cL d).symm)).trans e.2⟩
def abx{a len}(h:len=0\/∃b off,a=aa ⟨b,off,ay⟩/\b<W.heap.size/\∀i,i<len->∃z:ByteArray,W.cell? (aj b (off+i))=aa (.string z)):@NN (qQ prog mD rX 1 (λb=>W.heap[b]?)) a len:=by
 rcases h with h|⟨b,off,rfl,d,e⟩
 ·exact aF h
 ·classical
  refine aD ⟨b,off,W.heap[b],λi=>if c:i<len then Mm (e i c)else⟨#[]⟩,rfl,cL d,λi c w f=>?_⟩;simp only[qA c];exact(fX (f.trans (cL d).symm)).trans (GB (e i c))
def abw{a len}(h:len=0\/∃b off,a=aa ⟨b,off,ay⟩/\b<W.heap.size/\∀i,i<len->∀j,j<4->∃z,fY z/\W.cell? (aj b (off+i*4+j))=aa (an z)):@NM (qQ prog mD rX 1 (λb=>W.heap[b]?)) a len:=by
 rcases h with h|⟨b,off,rfl,d,g⟩
 ·exact aF h
 ·classical
  refine aD ⟨b,off,W.heap[b],λi j=>if c:i<len/\j<4 then Mm (g i c.1 j c.2)else 0,rfl,cL d,λi c j e=>?_⟩;have f:=GB (g i c j e);simp only[qA (⟨c,e⟩:i<len/\j<4)];exact⟨f.1,λw k=>(fX (k.trans (cL d).symm)).trans f.2⟩
end
def ZX(t:Nat->aY Obj):@yP (qQ prog mD rX 1 t) mD:=by
 letI:aP:=qQ prog mD rX 1 t
 have o:∀f,mD.contains f=aq->aP.ok f:=λf a=>((Bh 1 t).ok f).2 a;exact⟨⟨Bh 1 t,aF (o _ aS),aF (o _ aS),aF (o _ aS)⟩,ZY 1 t,λf a=>have h:=o f (nF.1 (by kernel_rfl:List.all _ mD.contains=aq) f a);⟨h,aF h⟩,aD aS,aD aS⟩
def Xf[aP](v0 v1 v2 ρ j v)(h:(Frame.enter prog 13 #[v0,v1,v2] .normal).tmps[j]? =aa v)(b:j∉fE 13):VR ρ v v:=
 Bf func13 (body:=pW f13) aS (λi v h a ρ=>by
  match i,a with
  |0,a=>exact absurd bJ a
  |1,a=>exact absurd bJ a
  |2,a=>exact absurd bJ a
  |n+3,_=>simp at h) ρ j v h b
def Xh(os:Os)(aH:os.Started)(H:Type)(enc:aW×aE->H)(F:Stop.Interp):
  ReturnsInLeavingWide {} checked os 13 .any ((Rows.OpenSpec.upto Rows.boundedSpec).pre6 enc prog f13 Rows.boundedUptoRow.domain av) (((Rows.OpenSpec.upto Rows.boundedSpec).at F).post enc prog f13 av aq av av):=by
 refine aaK (C:=checked) (s:=Rows.OpenSpec.upto Rows.boundedSpec) (k:=Rows.uptoSmall) rfl V8 aH func13
  (OpenSpec.witness (enc:=enc) (C:=checked) (s:=Rows.OpenSpec.upto Rows.boundedSpec) (k:=Rows.uptoSmall) rfl av ⟨#[],#[.slice ay 0 0,.slice ay 0 0,.slice ay 0 0],[]⟩ 8 (by kernel_rfl) (by kernel_rfl) (by kernel_rfl)
   (x:=([.nil,.nil,.nil],[],[])) (by kernel_rfl) rfl (by kernel_rfl)) ?_
 intro W base args ds gs aR R U k _ E _;have kW:=k;obtain⟨p,q,A,B,rfl,bq,bt⟩:=k;have i:DataW.TrodAll enc prog W 0 (λ_=>aq) aq f13.params.toList args.toList ds p:=A
 have d:∀(j:Nat) t v,f13.params[j]? =aa t->args[j]? =aa v->Value.okWide prog W .any base t v:=U
 rw[params13]at i d;obtain⟨t,bB,d0,bh,p0,q0,bn,rfl,rfl,h0,r0⟩:=trodAll_cons i;obtain⟨y,bD,d1,bk,p1,q1,rfl,rfl,rfl,f,r1⟩:=trodAll_cons r0;obtain⟨z,bE,d2,bl,p2,q2,rfl,rfl,rfl,g,r2⟩:=trodAll_cons r1;obtain⟨rfl,rfl,rfl⟩:=trodAll_nil r2;obtain rfl:args=#[t,y,z]:=by cases args;simp_all
 obtain⟨rfl,rfl⟩:=trodVars_none B
 have l:Rows.uptoBulk d1<=1048576/\Rows.uptoBulk d2<=1048576:=by have h:=ot E;simp only[yl,Rows.uptoBulkAll]at h;omega
 obtain⟨a0,V,aT,rfl⟩:=okWide_slice underlying25 (d 0 25 t rfl rfl);obtain⟨a1,X,aV,rfl⟩:=okWide_slice underlying79 (d 1 79 y rfl rfl);obtain⟨a2,Y,bf,rfl⟩:=okWide_slice underlying26 (d 2 26 z rfl rfl);have n:=h0;have r:=f;have s:=g;have Z:∀x∈p0,x.block<W.heap.size:=by obtain⟨m,hm⟩:=n;exact Mq m _ _ _ hm
 have af:∀x∈p1,x.block<W.heap.size:=by obtain⟨m,hm⟩:=r;exact Mq m _ _ _ hm
 have ah:∀x∈p2,x.block<W.heap.size:=by obtain⟨m,hm⟩:=s;exact Mq m _ _ _ hm
 obtain⟨I,O⟩:=(by obtain⟨fuel,a⟩:=h0;exact aac (by simpa[Az]using a):V<=cY/\_);obtain⟨J,P⟩:=(by obtain⟨fuel,a⟩:=f;exact aeo l.1 (by simpa[Az]using a):X<=1048576/\_);obtain⟨K,Q⟩:=(by obtain⟨fuel,a⟩:=g;exact aem l.2 (by simpa[Az]using a):Y<=1048576/\_)
 letI:aP:=qQ prog mD rX 1 (λb=>W.heap[b]?)
 letI:alC:=⟨0⟩
 have D:prog.globals.size<=W.heap.size:=by obtain⟨o,_,L,_⟩:=R.2 prog.globals.size (bC _) (ot aS);exact mN (bp.1 L).1
 refine abh rfl (λρ j v=>Xf _ _ _ ρ j v) func13 (c:=pW f13) (by kernel_rfl) rfl (by kernel_rfl) (aD (by kernel_rfl)) D (λb o C=>C) (Xg (ZX _) I J K (abv W O) (abx W P) (abw W Q)) (λe u h=>⟨_,h⟩) ?_;intro v u' w' hv G S M N T;have c:aL W w':=⟨M,T,N,S,G⟩;cases hv;exact⟨_,_,_,[],_,[],kW,trodAll_mk1 (shut_bool underlying4 _),(Nr (Below.trod JW aS (ot aS) n c Z) (Nr (Below.trod JW aS (ot aS) r c af) (Nr (Below.trod JW aS (ot aS) s c ah) trodAll_mk0))),rfl,c.frame _,λh=>by cases h⟩
theorem bounded_holds:Rows.BoundedUptoSaid:=
 C9 13 f13 rfl rfl rfl rfl rfl rfl rfl ⟨rfl,rfl,rfl,rfl,rfl⟩ rfl rfl rfl rfl rfl aS func13 aS
  (ot aS) (by unfold Func.isWrapper;first|(rw[aX (by decide+kernel)];kernel_rfl)|(rw[aQ (by decide+kernel)];exact⟨rfl,rfl⟩))
  (λos b H enc _ F=>Xh os b H enc F)
end
end Go.Proofs.YtpobhljcainmdaaGreat
