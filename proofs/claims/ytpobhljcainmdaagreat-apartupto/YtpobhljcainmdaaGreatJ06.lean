/- Parts of the proof. -/
import Derived.Deep.Slices
import Derived.OpenShut
import Derived.Test.YtpobhljcainmdaaGreatJ05
set_option maxRecDepth 100000
set_option maxHeartbeats 8000000
set_option linter.all false
namespace Go.Proofs.YtpobhljcainmdaaGreat
open Go.Frame renaming enter->ba
open Ck renaming fresh->fw,read->et
open an renaming known->il
open GO renaming nil->cc
open Go renaming Calls->ax,binOp->ju
open Go.Proofs.Tryz renaming prog->ai
open Go.RowKit renaming Hid->bc
open Go.World renaming setCell->kB,cell?->kD,alloc->lL,ownsRow->mT
open _root_.ByteArray renaming extract->mS,size->pC
open Go.IntKind renaming wrap->nt
open Go.Value renaming slice->ζ,string->ξ,pointer->π,bool->ω,tuple->θ,agg->ν,ownBlock->rW
open _root_.List renaming length->pA
open _root_.Int renaming toNat->pD
open _root_.Array renaming size->pB
abbrev MD:=@Int.mul_le_mul_of_nonneg_right
abbrev K2:=@List.mem_map_of_mem
abbrev TP:=@Array.size_setIfInBounds
abbrev K1:=@Int.le_trans
abbrev TO:=@List.length_singleton
abbrev MB:=@List.map_map
abbrev PP:=@Int.mul_nonneg
open Go.IntKind renaming i64->cJ
open Go renaming World->aq,Value->aB,heap_alloc_new->asr,undef->y,results->asu,FuncId->aZ,maxLen->cP,Ending->jA,TypeId->aY,info_parts->nG
open Go.World renaming cell?_of_block->iO,ownsRow_lit->ast,news_of_block->wu,cell?->gp
open Go.RowKit renaming intOf->dw
open _root_.Option renaming map->gI
open _root_.Array renaming getElem?_setIfInBounds->asv
open Go.Value renaming string->asw,cells->zR,slice->fM,oneCell'->zS,int->BX
open _root_.List renaming perm_append_comm_assoc->asx,length->BU,range->dA,perm_append_comm->C4,length_pos_iff->B8,length_range->asH,nodup_range->C3,map_take->asL
open Go.RowKit.Below renaming refl->asy
open _root_.List.Pairwise renaming nil->y9,imp_of_mem->asz
open _root_.Nat renaming mod_eq_of_lt->asA,mul_le_mul_left->E8,add_assoc->jv,mul_add->asJ
open Go.DataW renaming trod->asB,trod_lt->asN
open Go.Builtin renaming append_->rD
open _root_.Classical renaming choose_spec->asC,choose->asI
open _root_.Int renaming mul_le_mul->asD,mul_assoc->asF
open Go.ConcR renaming Payload->oM
open Go.ByteArray renaming toList_eq->asE
open Go.Calls renaming quiet_of_same->ur
open Go.Lib renaming repeatL_length->asG,repeatL->BN
open _root_.Bool renaming and_false->asK,and_comm->asM
open Go.Sem renaming run_bind->Cn
open Go.Ending renaming returned->aG
open Go.Obj renaming cells->au
open _root_.Bool renaming false->aa,true->M
open _root_.Option renaming none->aj,some->Z
open _root_.Or renaming inl->aA,inr->az
open Go.ConcR (Payload)
attribute [local go_sem ↓] Go.wp_at_zero Go.wp_at_succ
attribute [local go_sem] cz cE
open Go.Conc Go.RowKit
open Go.Proofs.Tryz
abbrev ew(w:aq)(v:aB)(l:av ByteArray):Prop:=mT w 0 9 1 v l.length (l.map asw)
def W7(l:av ByteArray)(s:ByteArray)(i:Nat):Prop:=∀k,k<i->l[k]? ≠Z s
def arn(l:av ByteArray)(s:ByteArray)(w:aq)(e:jA)(w':aq):Prop:=∃b,e=aG (ω b)/\(b=M↔s∈l)/\w'=w
def N3(v l s)(w:aq)(h:ew w v l)(hl:pA l<=1099511627776):
  ax ai 53 #[v,ξ s] w (arn l s w):=by
 obtain⟨a,r,ev⟩:=gP h;subst ev;have q:bc (ew w (ζ a (pA l) r) l):=h;clear h;go_enter func53,ntmps53;go_wp2
 go_loopw [5] (λm wr=>∃i:Nat,i<=pA l/\W7 l s i/\m=I i/\wr=w) (λm _=>pA l-pD (dw m))
 case atStart=>exact⟨0,cO _,λk b=>absurd b (rR _),U,U⟩
 case round=>
  obtain⟨i,E,g,rfl,rfl⟩:=hrel
  by_cases z:i<pA l
  ·have u:(i:Int)<(pA l:Int):=Y;have D:0<=(i:Int)/\(i:Int)<(pA l:Int):=Y;obtain⟨C,A,e,p⟩:=yV q.H Y;cases e;obtain⟨x,j⟩:∃x,l[i]? =Z x:=⟨_,dj z⟩;have B:=p i (ξ x) (by rw[qC,j];rfl);have c:bc (l[i]? =Z x/\W7 l s i):=⟨j,g⟩;clear p j g;cases o:(x.toList==s.toList)with
   |true=>
    have d:x=s:=by have n:=eq_of_beq o;rw[asE,asE]at n;exact rG (BB.1 n)
    subst d;go_wp2;go_ret;exact⟨M,U,⟨λ_=>jC c.H.1,λ_=>U⟩,U⟩
   |false=>
    have d:x≠s:=λe=>by subst e;simp at o
    go_wp2;refine⟨⟨i+1,Y,λk b f=>?_,by go_num,trivial⟩,by simp[dw];omega⟩
    by_cases t:k=i
    subst t;rw[c.H.1]at f;exact d (ey f);exact c.H.2 k Y f
  have u:¬(i:Int)<(pA l:Int):=Y
  have hm:s∉l:=λhm=>by obtain⟨k,b,e⟩:=List.getElem_of_mem hm;exact g k Y (by rw[dj b,e])
  go_wp2;go_ret;exact⟨aa,U,⟨λe=>(by cases e),λe=>absurd e hm⟩,U⟩
def art:(ai.info? 9).map (λi=>(i.8,i.3,i.4))=Z (Z (ξ ⟨#[]⟩),1,16):=aW
def are(l:av ByteArray):∀u∈l.map asw,u.oneCell'=M:=λu a=>by obtain⟨x,_,rfl⟩:=jY.1 a;rfl
variable{w w' W w0 W2 w3 wr':aq}{v lv:aB}{k q m i n sb gb kh j p ab N sx lh D:Nat}{g:Cf}{rs lF:av Rq}{ft:Ft}{f f':Fx}{vs:av aB}{lo:av En}{L:cZ}{un wq wf:av Nat}{ts:av Tk}{now d':Int}{c':Cw}{H:Type}{spare:Nat->Bool}{held:Bool}{enc:aY×aB->H}
def b8{P jt kj o a Q s x}{t u:aY}{z v'}(hr:(rD #[t,u] o.type #[v,z]).run P w=.ok v' w')(c:o.guard=aj:=by rfl) (d:o.op=.call {callee:=.builtin .append,args:=#[s,x],argTypes:=#[t,u]}:=by rfl) (e:a.eval s=v:=by rfl) (f:a.eval x=z:=by rfl) (h:wpList P jt Q kj (a.put o.dst v') w'):wpList P jt Q (o::kj) a w:=by refine wpList_plain c λK b=>?_;unfold Oper.wp execOp;simp[d,resolve,invoke,builtin,Cn,Sem.run_pure,Result.andThen_ok,sW,nC,xR,e,f,hr];exact b _ _ h
def arF(l:av ByteArray)(w:aq)(e:jA)(w':aq):Prop:=∃a,e=aG a/\ew w' a l/\aK w w'
def ark(v l s w)(h:ew w v l)(h0:l=[]->v=ζ aj 0 0)(hl:pA l<=1099511627776):
  ax ai 137 #[v,ξ s] w (arF (l++[s]) w):=by
 obtain⟨r,m,o,p,q⟩:=nG art;have n:mT w 0 9 1 (ζ aj 0 0) 0 []:=⟨U,aA ⟨U,U⟩⟩
 obtain⟨d,a,N,t,k,B⟩:∃d a,(rD #[79,79] 79 #[ζ aj 0 0,v]).run ai w=.ok d a/\ew a d l/\w.grownBy a aj/\∀g,rW d=Z g->pB w.1<=g:=by
  by_cases e:l=[]
  subst e;rw[h0 U];exact⟨_,w,run_append_owned_none w 0 _ _ _ r 1 underlying79 m _ 0 [] n,n,World.grownBy.refl ..,λg i=>by cases i⟩;have A:=B8.2 e;obtain⟨g,H,ev,K⟩:=yV h A;subst ev;obtain⟨d,a,hr,a1,E,a3⟩:=LH (P:=ai) w 79 79 9 r _ 1 16 underlying79 m o p q U Y (by simp[zR,mN]) (ζ aj 0 0) 0 [] n ⟨g,0,aj⟩ (pA l) H (l.map asw) ay (λj u L=>by have:=K j u L;rw[Addr.add];split<;>simp_all) (are l) A (by rw[cP];omega) Y;refine⟨d,a,hr,by simpa using a1,E,λg i=>?_⟩;obtain e|e:=a3.1;rw[i]at e;cases e;exact e g i
 have z:=asr a (au #[ξ s] 9);have c:aK a (lL a (au #[ξ s] 9)):=bq;obtain⟨C,x,O,b1,f,G⟩:=LH (P:=ai) (lL a (au #[ξ s] 9)) 79 79 9 r _ 1 16 underlying79 m o p q U Y (by simp[zR,mN]) d (pA l) (l.map asw) (eF t λg i=>c.5 g (jJ t g i)) ⟨pB a.1,0,aj⟩ 1 1 [ξ s] U (wu z) (by simp[zS]) Y (by rw[cP];omega) Y
 have D:bc (ew x C (l++[s])/\aK w x):=by refine⟨by show mT x 0 _ 1 C (pA (l++[s])) ((l++[s]).map asw);rw[fQ,sV];exact b1,?_⟩;have Q:=k.4;have R:=c.4;have S:=f.4;refine⟨f.1.E (c.1.E k.1),f.2.E (c.2.E k.2),f.3.E (c.3.E k.3),Y,λb J=>?_⟩;refine(f.5 b Y λe=>?_).E ((c.5 b Y).E (k.5 b J λe=>by cases e));have:=B b e.y;omega
 clear h h0 t k B b1 f G c z n o p q m;go_enter func137,ntmps137;go_wp2_with (at_builtin;first|refine b8 N (h:=?_)|refine b8 O (h:=?_));go_ret;exact⟨_,U,D.H⟩
def mo(l:av UInt8)(k:Nat):av UInt8:=(l.drop (4*k)).take 4
abbrev qc(A:aF UInt8)(k:Nat):av UInt8:=mo A.toList k
def u7:∀(xs:av UInt8) (B:aF UInt8) (o i:Nat),o+pA xs<=pB B->(fq B o xs)[i]? =if o<=i/\i<o+pA xs then xs[i-o]? else B[i]?
 |[],B,o,i,_=>by rw[aI (by simp only[nB];omega)];rfl
 |x::xs,B,o,i,h=>by
  rw[gH]at h⊢;rw[fq,u7 xs _ (o+1) i (by rw[TP];omega),asv]
  by_cases e:o=i
  subst e;rw[aI Y,aO U,aO Y,aO Y,Nat.sub_self];rfl;rw[aI e]
  by_cases a:o+1<=i/\i<o+1+pA xs
  rw[aO a,aO Y,show i-o=(i-(o+1))+1 by omega];rfl;rw[aI a,aI Y]
def W0(l k j):(mo l k)[j]? =if j<4 then l[4*k+j]? else aj:=by
 rw[mo]
 grind
def m5{a b k'}(h:∀j,j<4->a[4*k+j]? =b[4*k'+j]?):mo a k=mo b k':=by
 apply ux;intro j;rw[W0,W0]
 grind
def arx{xs B}(c:pA xs=4*m)(b:4*(q+m)<=pB B)(k):qc (fq B (4*q) xs) k=if q<=k/\k<q+m then mo xs (k-q)else qc B k:=by
 split;refine m5 λj a=>?_;rw[zw,u7 _ _ _ _ Y,aO Y]
 congr 1
 omega;refine m5 λj a=>?_;rw[zw,u7 _ _ _ _ Y,aI Y,zw]
abbrev bh.wr(m:bh):Prop:=m.kd=1\/m.kd=3\/m.kd=4
def bh.sv(m:bh)(k:Nat):av UInt8:=mo (Rq.qe ⟨m,0⟩) k
def Wm(m:bh)(er:Int)(k:Nat)(a b:av UInt8):Prop:=
 if m.wr/\m.6<=4*k/\4*(k:Int)<m.6+m.7 then(if er=0 then b=m.sv (k-pD m.6 / 4)else b=a\/b=m.sv (k-pD m.6 / 4))else b=a
structure xf(g:Cf)(rs:av Rq):Prop where
 gd:∀r∈rs,r.Gd g/\r.m.of %4=0
 at_:∀(i:Nat) r,rs[i]? =Z r->r.m.of=(rs[0]?.getD qZ).m.of+oo (rs.take i)
 kd:∀r∈rs,r.m.kd=(rs[0]?.getD qZ).m.kd
def arh{a b c x}(e:pA a=4*x)(f:4*(k+1)<=pA b):mo (a++(b++c)) (x+k)=mo b k:=by
 refine m5 λj h=>?_
 grind
def aqQ{l w}(h:k<w):mo (l.take (4*w)) k=mo l k:=by refine m5 λj a=>?_;rw[vP,aO Y]
def N0{r:Rq}(h:r.Gd g)(a:r.m.wr):(pA r.qe:Int)=r.m.ln:=by
 let b:=h.of;rw[Rq.qe];obtain e|e|e:=a;rw[aO e];exact h.dt e;rw[aI Y,aO Y,asG]
 grind
 rw[aI Y,aO Y,asG]
 grind
def r8:∀{rs:av Rq},(∀r∈rs,r.Gd g/\r.m.wr)->(pA (dF rs):Int)=oo rs
 |[],_=>rfl
 |r::rs,h=>by
  let b:=N0 (h r fJ).1 (h r fJ).2;let c:=r8 λx a=>h x (gC _ a)
  let e:pA (dF (r::rs))=pA r.qe+pA (dF rs):=by unfold dF;rw[pH,fQ]
  rw[e];show((pA r.qe+pA (dF rs):Nat):Int)=r.m.7+oo rs;omega
def N5:∀{rs:av Rq},(∀r∈rs,¬r.m.wr)->dF rs=[]
 |[],_=>rfl
 |r::rs,h=>by
  have a:=h r fJ;rw[bh.wr]at a
  let b:r.qe=[]:=by rw[Rq.qe];rw[aI Y,aI Y]
  rw[dF];rw[pH,b];exact N5 λx c=>h x (gC _ c)
def k9:∀{rs:av Rq},(∀r∈rs,r.Gd g)->0<=oo rs/\oo rs %4=0
 |[],_=>⟨fI 0,U⟩
 |r::rs,h=>by let b:=(h r fJ).3;let c:=k9 λx a=>h x (gC _ a);show 0<=r.m.7+oo rs/\(r.m.7+oo rs)%4=0;omega
def o8{r}(h:rs[i]? =Z r):oo (rs.take (i+1))=oo (rs.take i)+r.m.7:=by rw[rQ,h,Option.toList_some,Nj];show _+(r.m.7+0)=_;omega
def aqW(d:Dk)(r t)(ft:Ft):(d.pj (r::t) ft).B=if r.m.kd=2/\ft.eJ=aa then d.B else fq d.B (pD r.m.of) (eG (r::t) ft):=by
 rw[Dk.pj]
 grind
def xf.did{d:Dk}(h:xf g rs)(hn:g.1=4*(n:Int))(hd:pB d.B=4*n)(L:rs≠[]):pB (d.pj rs ft).B=4*n/\∃l:Nat->Nat->av UInt8,(∀k,l 0 k=qc d.B k)/\(∀k,l (pA rs) k=qc (d.pj rs ft).B k)/\
  ∀(i:Nat) r,rs[i]? =Z r->(∀k,Wm r.m (if ft.2 then 5 else 0) k (l i k) (l (i+1) k))/\(r.m.3=0->∀k,l i k=qc (d.pj rs ft).B k):=by
 obtain⟨a,t,rfl⟩:∃a t,rs=a::t:=by
  cases rs with
  |nil=>exact absurd U L
  |cons r t=>exact⟨r,t,U⟩
 let kd:∀r∈a::t,r.m.3=a.m.3:=h.3;let at_:∀(i:Nat) r,(a::t)[i]? =Z r->r.m.6=a.m.6+oo ((a::t).take i):=h.2;rw[aqW]
 by_cases j:a.m.wr
 ·
  obtain⟨g0,T⟩:=h.1 a fJ;obtain⟨q,hq⟩:∃q:Nat,a.m.6=4*(q:Int):=⟨pD (a.m.6 / 4),by have:=g0.3;omega⟩;let N:pD a.m.6=4*q:=Y;let b:∀r∈a::t,r.Gd g/\r.m.wr:=λr hr=>⟨(h.1 r hr).1,by unfold bh.wr at j⊢;rw[kd r hr];exact j⟩;let an:=r8 b;let aC:=k9 (g:=g) (rs:=a::t) λr hr=>(b r hr).1;obtain⟨f,X⟩:∃f:Nat,pA (dF (a::t))=4*f:=⟨pA (dF (a::t)) / 4,Y⟩
  let af:q+f<=n:=by obtain⟨r,hr⟩:∃r,(a::t)[pA t]? =Z r:=⟨_,dj ay⟩;let V:=at_ _ r hr;have u:=o8 hr;rw[qE ay]at u;let W:=(b r (jC hr)).1.3;omega
  obtain⟨w,s,aJ,P⟩:∃w,eG (a::t) ft=(dF (a::t)).take (4*w)/\w<=f/\(ft.2=aa->w=f):=by rw[eG];split;rename_i e;exact⟨_,U,Y,λo=>by rw[e]at o;cases o⟩;exact⟨f,by rw[qE Y],aR _,λ_=>U⟩
  let Q:pA (eG (a::t) ft)=4*w:=by rw[s,vS];omega
  have u:¬a.m.3=2:=by rw[bh.wr]at j;omega
  rw[aI λe=>u e.1,N];let v:=arx (B:=d.B) (q:=q) Q Y;refine⟨(AP ..).E hd,λi k=>if 4*(k:Int)<a.m.6+oo ((a::t).take i)then qc (fq d.B (4*q) (eG (a::t) ft)) k else qc d.B k,λk=>?_,λk=>?_,λi r hr=>⟨λk=>?_,λe=>?_⟩⟩;show(if 4*(k:Int)<a.m.6+0 then _ else _)=_;split;rw[v k,aI Y];rfl;dsimp only;rw[pM];split;rfl;rw[v k,aI Y];let p:=jC hr;let R:=at_ i r hr;have o:=o8 hr;let S:=(b r p).1.3;let aH:=k9 (g:=g) (rs:=(a::t).take i) λx c=>(b x (uA c)).1
  let ak:oo ((a::t).take (i+1))<=oo (a::t):=by have C:=Nj ((a::t).take (i+1)) ((a::t).drop (i+1));rw[pL]at C;have:=k9 (g:=g) (rs:=(a::t).drop (i+1)) λx c=>(b x (BZ c)).1;omega
  dsimp only;rw[o];rw[Wm]
  by_cases z:r.m.6<=4*(k:Int)/\4*(k:Int)<r.m.6+r.m.7
  let E:¬4*(k:Int)<a.m.6+oo ((a::t).take i):=Y;let G:4*(k:Int)<a.m.6+(oo ((a::t).take i)+r.m.7):=Y;rw[aO ⟨(b r p).2,z⟩,aI E,aO G,v k]
  let A:q<=k/\k<q+w->mo (eG (a::t) ft) (k-q)=r.m.sv (k-pD r.m.6 / 4):=λhk=>by
   let O:dF (a::t)=dF ((a::t).take i)++(r.qe++dF ((a::t).drop (i+1))):=by
    have:a::t=(a::t).take i++r::(a::t).drop (i+1):=by obtain⟨K,e⟩:=bY.1 hr;rw[<-e,<-BQ K,pL]
    calc dF (a::t)=dF ((a::t).take i++r::(a::t).drop (i+1)):=by rw[<-this]
     _=_:=by unfold dF;rw[rL,pH]
   let l1:=r8 (g:=g) (rs:=(a::t).take i) λx c=>b x (uA c);let l2:=N0 (b r p).1 (b r p).2;obtain⟨x,c⟩:∃x:Nat,pA (dF ((a::t).take i))=4*x:=⟨pA (dF ((a::t).take i)) / 4,Y⟩;rw[s,aqQ Y,O,show k-q=x+(k-pD r.m.6 / 4) by omega];exact arh c Y
  cases J:ft.2;have:=P J;rw[aO (show(if aa=M then(5:Int)else 0)=0 from U),aO (show q<=k/\k<q+w by omega)];exact A Y;rw[aI (show ¬(if M=M then(5:Int)else 0)=0 by decide)]
  by_cases e:q<=k/\k<q+w
  rw[aO e];exact az (A e);rw[aI e];exact aA U;rw[aI λe=>z e.2]
  by_cases e:4*(k:Int)<a.m.6+oo ((a::t).take i)
  rw[aO e,aO Y];rw[aI e,aI Y];have:=(b r (jC hr)).2;unfold bh.wr at this;omega
 let H:dF (a::t)=[]:=N5 λr hr=>by unfold bh.wr at j⊢;rw[kd r hr];exact j
 let s:eG (a::t) ft=[]:=by unfold eG;rw[H];split<;>simp
 let D:(if a.m.3=2/\ft.2=aa then d.B else fq d.B (pD a.m.6) (eG (a::t) ft))=d.B:=by rw[s];split<;>rfl
 rw[D];refine⟨hd,λ_ k=>qc d.B k,λ_=>U,λ_=>U,λi r hr=>⟨λk=>?_,λ_ k=>U⟩⟩;unfold Wm;rw[aI λe=>j ?_];have:=e.1;unfold bh.wr at this⊢;rw[<-kd r (jC hr)];exact this
variable{k':Ck}{d:Int}{t:Nat}{l:av ByteArray}{r:Wi}
def abr{k:Ck}(j:f'.g=f.g)(hf:f'.fl=f.fl)(i:f'.K.map (gI Ck.px)=f.K.map (gI Ck.px))(c:k'.px=k.px):f'.qm k'=f.qm k:=by
 let d:k'.eM f.g=k.eM f.g:=show k'.px.eM f.g=k.px.eM f.g by rw[c]
 let e:k'.fst=k.fst:=show k'.px.fst=k.px.fst by rw[c]
 unfold Fx.qm Fx.held;rw[j,hf,d,e];let b:∀(a:aV Ck->Bool) (K:av (aV Ck)),(∀o,a (o.map Ck.px)=a o)->K.any a=(K.map (gI Ck.px)).any a:=λa K h=>by grind
 rw[b _ f'.K,b _ f.K,i]
 all_goals exact λo=>by cases o<;>rfl
def T8{s}{k:Ck}(a:f.K[s]? =Z (Z k))(h:k'.px=k.px):(f.K.set s (Z k')).map (gI Ck.px)=f.K.map (gI Ck.px):=by rw[Fj];exact yZ (by grind)
def YI(f:Fx)(k):(f.aT k).px=k.px:=by rw[Fx.aT];split<;>rfl
def asc(b:f.bg.2=aa):f.bg.1.K.map (gI Ck.px)=f.K.map (gI Ck.px):=by
 by_cases e:∃k,f.K[f.aC]? =Z (Z k)
 obtain⟨k,a⟩:=e;rw[Bs a]at b⊢;split at b;rename_i c;rw[aO c];split at b;cases b;rename_i d;rw[aI d];exact T8 a (YI f k);rename_i c;rw[aI c];show((f.K.set _ _).set _ _).map _=_;rw[pK];exact T8 a (YI f k);rw[Js (λk a=>e ⟨k,a⟩)]
def WP:∀(l:av (aV Ck)) (k:Ck),Z k∈l->k.q≠[]->∃k,Z k∈l/\k.q≠[]/\∀k',Z k'∈l->k'.q≠[]->k.fst.2<=k'.fst.2
 |o::l,k,hk,h=>by
  by_cases b:∃x,Z x∈l/\x.q≠[]
  obtain⟨x,p,r⟩:=b;obtain⟨i,j,m,d⟩:=WP l x p r
  by_cases g:∃z,o=Z z/\z.q≠[]/\z.fst.2<i.fst.2
  obtain⟨z,rfl,t,u⟩:=g;refine⟨z,fJ,t,λk' hk' a=>?_⟩;obtain e|hk':=jh.1 hk';cases e;exact fI _;have:=d k' hk' a;omega;refine⟨i,gC _ j,m,λk' hk' a=>?_⟩;obtain e|hk':=jh.1 hk';exact Int.not_lt.1 λn=>g ⟨k',e.y,a,n⟩;exact d k' hk' a;refine⟨k,hk,h,λk' hk' a=>?_⟩;obtain e|hk:=jh.1 hk;obtain c|hk':=jh.1 hk';rw[<-e]at c;cases c;exact fI _;exact absurd ⟨k',hk',a⟩ b;exact absurd ⟨k,hk,h⟩ b
def AR{a b A B:Int}(h0:0<=a)(c:0<=b)(d:a<=A)(e:b<=B):0<=a*b/\a*b<=A*B:=⟨PP h0 c,asD d e c Y⟩
def Q9{q c n X aqg}(o:1<=q/\q<=8)(hc:1<=c/\c<=8)(m:4<=n/\n<=64)(hd:1<=d/\d<=16)(f:X=5*c*n)(k:aqg=X.tdiv 4):
  nt cJ (nt cJ (nt cJ (nt cJ (q+1) *nt cJ (c+1)) *nt cJ (nt cJ aqg+4)) *nt cJ (d+2))=(q+1) *(c+1) *(aqg+4) *(d+2)/\nt cJ (nt cJ (5*c) *n)=X/\54*(q+1)<=(q+1) *(c+1) *(aqg+4) *(d+2)/\(q+1) *(c+1) *(aqg+4) *(d+2)<=938952:=by
 let j:20<=X/\X<=2560:=by
  let i:=AR (a:=c-1) (b:=n) (A:=7) (B:=64) Y Y Y Y
  grind
 let l:5<=aqg/\aqg<=640:=by grind
 let a1:=AR (a:=q+1) (b:=c+1) (A:=9) (B:=9) Y Y Y Y;let e:=AR (b:=aqg+4) (B:=644) a1.1 Y a1.2 Y;let a3:=AR (b:=d+2) (B:=18) e.1 Y e.2 Y;let b1:2*(q+1)<=(q+1) *(c+1):=by rw[Int.mul_comm 2];exact Kc Y Y
 let g:(q+1) *(c+1) *9<=(q+1) *(c+1) *(aqg+4):=Kc Y a1.1;let h:(q+1) *(c+1) *(aqg+4) *3<=(q+1) *(c+1) *(aqg+4) *(d+2):=Kc Y e.1;refine⟨?_,?_,Y,Y⟩;rw[dI (x:=q+1) Y Y,dI (x:=c+1) Y Y,dI (x:=(q+1) *(c+1)) Y Y,dI (x:=aqg) Y Y,dI (x:=aqg+4) Y Y,dI (x:=(q+1) *(c+1) *(aqg+4)) Y Y,dI (x:=d+2) Y Y,dI Y Y];rw[dI (x:=5*c) Y Y,<-f,dI Y Y]
structure ak(w:aq)(sb:Nat)(rv:Nat->aB)(X:Nat->Nat->av ByteArray)(n:Nat):Prop where
 box:w.1[sb]? =Z (au #[rv 0,rv 1,rv 2] 101 (0,0))
 row:∀t,t<3->∃c:av aB,mT w 0 79 1 (rv t) n c/\∀(k:Nat) v,c[k]? =Z v->ew w v (X t k)/\(X t k=[]->v=ζ aj 0 0)
 ne:∀t a b,t<3->a<3->(rv t).ownBlock=Z b->(rv a).ownBlock=Z b->t=a
def bI(X:Nat->Nat->av ByteArray)(t k:Nat)(l:av ByteArray):Nat->Nat->av ByteArray:=λb a=>if b=t/\a=k then l else X b a
variable{X:Nat->Nat->av ByteArray}{c:Cw}{s:ByteArray}
def ak.old{rv:Nat->aB}(T:ak w sb rv X n)(c:∀b,b<pB w.heap->w'.heap[b]? =w.heap[b]?):ak w' sb rv X n:=by refine⟨(c sb (bf.1 T.box).1).E T.box,λt f=>?_,T.ne⟩;obtain⟨g,d,a⟩:=T.row t f;exact⟨g,eF d λb e=>c b (jJ d b e),λk v hv=>⟨eF (a k v hv).1 λb e=>c b (jJ (a k v hv).1 b e),(a k v hv).2⟩⟩
def ak.at{rv:Nat->aB} (T:ak w sb rv X n)(g:t<3)(m:k<n):∃gb kh a v,rv t=ζ (Z (F gb 0)) n kh/\w.1[gb]? =Z (au a 79 (0,0))/\a[k]? =Z v/\ew w v (X t k)/\(X t k=[]->v=ζ aj 0 0):=by obtain⟨h,b,d⟩:=T.2 t g;obtain⟨_,c⟩|⟨gb,kh,a,c,_,e,i,_,j,f⟩:=b.2;omega;let o:=b.1;obtain⟨v,hv⟩:∃v,h[k]? =Z v:=⟨_,dj Y⟩;refine⟨gb,kh,a,v,c,e,?_,d k v hv⟩;rw[<-f,vP,aO Y,zw]at hv;exact hv
def ak.put{rv:Nat->aB}(T:ak w sb rv X n)(C:t<3)(V:k<n)(s:rv t=ζ (Z (F gb 0)) n kh)(hv:ew w v l)(h0:l=[]->v=ζ aj 0 0):ak (kB w (F gb k) v) sb rv (bI X t k l) n/\aS (·=gb) w (kB w (F gb k) v):=by
 obtain⟨G,z,A⟩:=T.2 t C
 obtain⟨i,j,p,q,J,r⟩:∃i:aF aB,w.1[gb]? =Z (au i 79 (0,0))/\n<=kh/\kh<=cP/\pB i=kh/\i.1.take n=G:=by obtain⟨_,j⟩|⟨S,R,i,j,_,p,q,K,J,r⟩:=z.2;omega;rw[s]at j;cases j;exact⟨i,p,q,K,Y,by simpa using r⟩
 let mt:∀b,b≠gb->(kB w (F gb k) v).1[b]? =w.1[b]? :=λb h=>bC h
 let B:∀{b:Nat} {c:aF aB} {m:Nat},w.1[b]? =Z (au c m (0,0))->m≠79->(kB w (F gb k) v).1[b]? =w.1[b]? :=λ{b c m} h L=>mt b λe=>by subst e;rw[j]at h;cases h;exact L U
 let u:∀{g:aB} {E:av ByteArray},ew w g E->ew (kB w (F gb k) v) g E:=λh=>eF h λb e=>by obtain⟨c,O⟩:=yW h e;exact B O aM
 refine⟨⟨(B T.1 aM).E T.1,λd D=>?_,T.3⟩,⟨U,ay,λb _ h=>mt b h⟩⟩
 by_cases e:d=t
 subst e;let P:=z.1;refine⟨G.set k v,?_,λa g f=>?_⟩;rw[s];refine⟨by rw[jB];exact P,az ⟨gb,kh,i.setIfInBounds k v,U,cO _,bG j k v,p,q,by rw[TP];omega,?_⟩⟩;rw[JH,Nat.mul_one,List.take_set,r]
 by_cases o:k=a
 subst o;rw[iy Y]at f;cases f;have:bI X d k l d k=l:=by simp[bI]
 rw[this];exact⟨u hv,h0⟩;rw[gQ o]at f;have:bI X d k l d a=X d a:=by simp[bI,dB o]
 rw[this];exact⟨u (A a g f).1,(A a g f).2⟩;obtain⟨Q,a1,x⟩:=T.2 d D;refine⟨Q,eF a1 λb N=>mt b λH=>?_,λa g f=>?_⟩;subst H;exact e (T.3 d t b D C N (by rw[s];rfl));have:bI X t k l d a=X d a:=by simp[bI,e]
 rw[this];exact⟨u (x a g f).1,(x a g f).2⟩
def JN(x a:Wi):Bool:=!((x.3==2)||((a.3==2)||((x.3==0)&&(a.3==0))))&&(decide (x.5<a.5+a.6)&&decide (a.5<x.5+x.6))
def aqS(a b)(x c:Wi)(w)(d:w.heap[a]? =Z (au (mI x) 53 (0,0)))(f:w.heap[b]? =Z (au (mI c) 53 (0,0)))(n:0<=x.of/\x.of<=65535/\0<=x.ln/\x.ln<=65535)(hy:0<=c.of/\c.of<=65535/\0<=c.ln/\c.ln<=65535):
  ax ai 52 #[jp a,jp b] w λe o=>e=aG (ω (JN x c))/\∃k,o=w.drewN k:=by
 have p:=aJ w a 2 (I x.kd) d;have q:=aJ w a 4 (I x.of) d;have r:=aJ w a 5 (I x.ln) d;have s:=aJ w b 2 (I c.kd) f;have t:=aJ w b 4 (I c.of) f;have u:=aJ w b 5 (I c.ln) f;have v:nt cJ (x.of+x.ln)=x.of+x.ln:=dI Y Y;have z:nt cJ (c.of+c.ln)=c.of+c.ln:=dI Y Y;clear d f n hy;have g:bc (JN x c=(!((x.kd==2)||((c.kd==2)||((x.kd==0)&&(c.kd==0))))&&(decide (x.of<c.of+c.ln)&&decide (c.of<x.of+x.ln)))):=U;generalize JN x c=V at*;go_enter func52,ntmps52;cases h:(x.kd==2)<;>cases i:(c.kd==2)<;>cases j:(x.kd==0)<;>cases l:(c.kd==0)<;>cases m:decide (x.of<c.of+c.ln)<;>rw[h,i,j,l,m]at g
 all_goals first
  |(go_upto_region 3 with fail
    go_quiet (fail)
    go_wp2;go_ret;exact⟨by rw[g.H];simp,_,U⟩)
  |(go_wp2
    go_ret;exact⟨by rw[g.H];simp,0,U⟩)
def bn(w:aq)(rv:Nat->aB)(w':aq):Prop:=pB w.1<=pB w'.1/\∀b,b<pB w.1->(∀t,t<3->rW (rv t)≠Z b)->w'.1[b]? =w.1[b]?
def bn.refl(w rv):bn w rv w:=⟨aR _,λ_ _ _=>U⟩
def bn.E{w1 w2 rv}(h:bn w rv w1)(k:bn w1 rv w2):bn w rv w2:=⟨cM h.1 k.1,λb a c=>(k.2 b (cS a h.1) c).E (h.2 b a c)⟩
def bn.below{rv}(h:aK w w'):bn w rv w':=⟨h.size,λb a _=>h.block b a⟩
def bn.put{rv}(f:t<3)(d:rv t=ζ (Z (F gb 0)) n kh)(h:aS (·=gb) w w'):bn w rv w':=⟨h.2,λb a c=>h.3 b a λe=>c t f (by rw[d,e];rfl)⟩
def qa(X:Nat->Nat->av ByteArray)(i:Nat):Nat->Nat->av ByteArray:=λt k=>if k<i then(if t=1 then X 0 k else if t=2 then[]else X t k)else X t k
def ara(X:Nat->Nat->av ByteArray)(i):bI (bI (qa X i) 1 i (X 0 i)) 2 i []=qa X (i+1):=by
 funext t k
 simp[bI,qa]
 by_cases e:k=i
 subst e
 by_cases b:t=2<;>by_cases a:t=1<;>simp[a,b]
 let a:(k<i+1)=(k<i):=bV;simp[e,a]
def P7(a:Nat)(rv:Nat->aB)(X:Nat->Nat->av ByteArray)(n:Nat)(w:aq)(e:jA)(w':aq):Prop:=e=aG (θ #[])/\ak w' a rv (qa X n) n/\bn w rv w'
def aqw(sb n rv)(X:Nat->Nat->av ByteArray)(w)(h:ak w sb rv X n)(hn:n<=65536)(h0:0<n):
  ax ai 92 #[jp sb] w (P7 sb rv X n w):=by
 obtain⟨g0,m,_,_,z,_⟩:=h.at (t:=0) (k:=0) aM h0;obtain⟨b,p1,_,_,A,_⟩:=h.at (t:=1) (k:=0) aM h0;obtain⟨g2,C,_,_,B,_⟩:=h.at (t:=2) (k:=0) aM h0;have a:bc (rv 0=ζ (Z (F g0 0)) n m/\rv 1=ζ (Z (F b 0)) n p1/\rv 2=ζ (Z (F g2 0)) n C):=⟨z,A,B⟩;have D:bc (ak w sb rv (qa X 0) n/\bn w rv w):=⟨by have:qa X 0=X:=by{funext t k;simp[qa]};rw[this];exact h,bn.refl _ _⟩;clear h z A B;go_enter func92,ntmps92;go_wp2
 go_loopw [2] (λp wr=>∃i:Nat,i<=n/\p=I i/\bc (ak wr sb rv (qa X i) n/\bn w rv wr)) (λp _=>n-pD (dw p))
 case atStart=>exact⟨0,cO _,U,D⟩
 case round=>
  obtain⟨i,hi,rfl,c⟩:=hrel;have E:kD wr (F sb 0)=Z (ζ (Z (F g0 0)) n m):=by rw[<-a.H.1];exact aD c.H.1.1 U
  by_cases j:i<n
  ·have L:(i:Int)<(n:Int):=Y;have hh:0<=(i:Int)/\(i:Int)<(n:Int):=Y;obtain⟨af,aJ,R,v0,v,a1,x,a3,o⟩:=c.H.1.at (t:=0) (k:=i) aM j;rw[a.H.1]at v;cases v;have G:qa X i 0 i=X 0 i:=by simp[qa]
   rw[G]at a3 o;obtain⟨d,f,ev⟩:=gP a3;generalize pA (X 0 i)=g at ev;subst ev;obtain⟨ah,aK,T,O,d0,d1,d2,_⟩:=c.H.1.at (t:=1) (k:=i) aM j;rw[a.H.2.1]at d0;cases d0;have b1:kD wr (F sb 1)=Z (ζ (Z (F b 0)) n p1):=by rw[<-a.H.2.1];exact aD c.H.1.1 U
   have Q:kD wr (F g0 i)=Z (ζ d g f):=aD a1 x;have x1:kD wr (F b i)=Z O:=aD d1 d2;have z1:=bp d1 i;obtain⟨l,s⟩:=c.H.1.put (t:=1) aM j a.H.2.1 a3 o;obtain⟨an,aL,V,P,f0,f1,f2,_⟩:=l.at (t:=2) (k:=i) aM j;rw[a.H.2.2]at f0;cases f0;have N:ew (kB wr (F b i) (ζ d g f)) (ζ aj 0 0) []:=⟨U,aA ⟨U,U⟩⟩;obtain⟨r,u⟩:=l.put (t:=2) aM j a.H.2.2 N λ_=>U;have q:bc (ak (kB (kB wr (F b i) (ζ d g f)) (F g2 i) (ζ aj 0 0)) sb rv (qa X (i+1)) n/\bn w rv (kB (kB wr (F b i) (ζ d g f)) (F g2 i) (ζ aj 0 0))):=⟨by rw[<-ara];exact r,(c.H.2.E (.put (t:=1) aM a.H.2.1 s)).E (.put (t:=2) aM a.H.2.2 u)⟩;have y2:kD (kB wr (F b i) (ζ d g f)) (F sb 2)=Z (ζ (Z (F g2 0)) n C):=by rw[<-a.H.2.2];exact aD l.1 U
   have y3:kD (kB wr (F b i) (ζ d g f)) (F g2 i)=Z P:=aD f1 f2;have y4:=bp f1 i;clear l r s u a1 x a3 o d1 d2 f1 f2 c
   go_upto_region 3 with fail
   refine wp_region_noPanic ?_;have J:kD wr.drew (F sb 0)=Z (ζ (Z (F g0 0)) n m)/\kD wr.drew (F sb 1)=Z (ζ (Z (F b 0)) n p1)/\kD wr.drew (F g0 i)=Z (ζ d g f):=⟨E,b1,Q⟩;refine Ze (S:=λW=>kD W (F sb 0)=Z (ζ (Z (F g0 0)) n m)/\kD W (F sb 1)=Z (ζ (Z (F b 0)) n p1)/\kD W (F g0 i)=Z (ζ d g f)) 13 aW J ?_;intro hS;apply tg [0,1,2,3,4,5,6,7];apply tg [8,9,10,11,12];refine gz λK H=>?_;go_simp;refine H.H _ _ ?_;refine gl ?_;go_wp2;refine⟨⟨i+1,Y,by go_num,?_⟩,by simp[dw];omega⟩;exact⟨q.H.1.old λ_ _=>U,q.H.2.E ⟨aR _,λ_ _ _=>U⟩⟩
  have L:¬(i:Int)<(n:Int):=Y;have e:i=n:=Y;subst e;go_wp2;exact bodyPost_ret (results_none U _ _ _) U ⟨U,c.H⟩
abbrev eU(s:ByteArray)(i:Nat):ByteArray:=mS s (4*i) (4*i+4)
def CA(X:Nat->Nat->av ByteArray)(q:Nat)(s:ByteArray)(i:Nat):Nat->Nat->av ByteArray:=λt k=>if t=0/\q<=k/\k<q+i then[eU s (k-q)]else X t k
def arf(X:Nat->Nat->av ByteArray)(q s i):bI (CA X q s i) 0 (q+i) [eU s i]=CA X q s (i+1):=by
 funext t k
 simp[bI,CA]
 by_cases e:k=q+i
 subst e
 by_cases h:t=0
 simp[h,show q+i-q=i by omega];simp[h];let a:(q<=k/\k<q+(i+1))=(q<=k/\k<q+i):=bV;simp[e,a]
def P9(a:Nat)(rv:Nat->aB)(X:Nat->Nat->av ByteArray)(n:Nat)(w:aq)(e:jA)(w':aq):Prop:=e=aG (ω M)/\ak w' a rv X n/\bn w rv w'
def aqO(f a n q m lh:Nat)(rv:Nat->aB)(X:Nat->Nat->av ByteArray)(r:Wi)(w:aq)(h:ak w f rv X n)(s:w.1[a]? =Z (au (mI r) 53 (0,0)))(V:r.5=4*(q:Int))(hl:r.6=4*(m:Int))(hn:q+m<=n)(aS:n<=65536)(aT:pC r.tx=4*m)(C:∀k,pA (X 0 k)<=lh)(P:lh<=1099511627776)(D:∀i,i<m->eU r.tx i∈X 0 (q+i))(E:∀t,t<3->rW (rv t)≠Z a):
  ax ai 91 #[jp f,jp a] w (P9 f rv (CA X q r.tx m) n w):=by
 have K:bc (ak w f rv (CA X q r.tx 0) n/\bn w rv w):=⟨by have:CA X q r.tx 0=X:=by{funext t k;simp only[CA];rw[aI Y]};rw[this];exact h,bn.refl _ _⟩
 have v:bc (∀W,bn w rv W->kD W (F a 10)=Z (ξ r.tx)/\kD W (F a 5)=Z (I (4*(m:Int)))/\kD W (F a 4)=Z (I (4*(q:Int)))):=λW g=>by have g:=(g.2 a (bf.1 s).1 E).E s;rw[<-V,<-hl];exact⟨aD g U,aD g U,aD g U⟩
 obtain⟨aH,c5,_⟩:=v.H w (bn.refl _ _);have j:bc ((∀k,pA (X 0 k)<=lh)/\lh<=1099511627776/\∀i,i<m->eU r.tx i∈X 0 (q+i)):=⟨C,P,D⟩;clear h s C D E;have hz:((pC r.tx:Nat):Int)=4*(m:Int):=Y;have t1:(4*(m:Int)).tdiv 4=m:=by rw[EX Y];omega
 have t2:(4*(q:Int)).tdiv 4=q:=by rw[EX Y];omega
 have u1:nt cJ (m:Int)=m:=dI Y Y;have u2:nt cJ (q:Int)=q:=dI Y Y;go_enter func91,ntmps91
 go_upto_region 1 with fail
 go_quiet (fail)
 go_wp2
 go_loopw [5] (λu wr=>∃i:Nat,i<=m/\u=I i/\bc (ak wr f rv (CA X q r.tx i) n/\bn w rv wr)) (λu _=>m-pD (dw u))
 case atStart=>exact⟨0,cO _,U,K.H.1.old λ_ _=>U,aR _,λ_ _ _=>U⟩
 case round=>
  obtain⟨i,hi,rfl,c⟩:=hrel;obtain⟨d10,d5,d4⟩:=v.H wr c.H.2
  by_cases T:i<m
  ·have S:(i:Int)<(m:Int):=Y;obtain⟨g0,p0,aL,v0,l,a1,p,a3,N⟩:=c.H.1.at (t:=0) (k:=q+i) aM Y;have O:CA X q r.tx i 0 (q+i)=X 0 (q+i):=by simp[CA]
   rw[O]at a3;have HM:bc (ew wr v0 (X 0 (q+i))):=a3;obtain⟨G,H,ev⟩:=gP a3;generalize pA (X 0 (q+i))=J at ev;subst ev;have b0:kD wr (F f 0)=Z (ζ (Z (F g0 0)) n p0):=by rw[<-l];exact aD c.H.1.1 U
   have x0:kD wr (F g0 (q+i))=Z (ζ G J H):=aD a1 p;have z0:=bp a1 (q+i);have d:aK wr (lL wr (au #[ξ (eU r.tx i)] 9)):=bq;have x:ew (lL wr (au #[ξ (eU r.tx i)] 9)) (ζ (Z (F wr.1.size 0)) 1 1) [eU r.tx i]:=ast wr #[ξ (eU r.tx i)] 1 (cO _) (by rw[cP];omega) U;have z:=c.H.1.old λb Q=>d.5 b Q;obtain⟨A,B⟩:=z.put (t:=0) (k:=q+i) aM Y l x λe=>by cases e
   have o:=(d.5 g0 (bf.1 a1).1).E a1;have x1:kD (lL wr (au #[ξ (eU r.tx i)] 9)) (F g0 (q+i))=Z (ζ G J H):=aD o p;have z1:=bp o (q+i);have L:bc (ak (kB (lL wr (au #[ξ (eU r.tx i)] 9)) (F g0 (q+i)) (ζ (Z (F wr.1.size 0)) 1 1)) f rv (CA X q r.tx (i+1)) n/\bn w rv (kB (lL wr (au #[ξ (eU r.tx i)] 9)) (F g0 (q+i)) (ζ (Z (F wr.1.size 0)) 1 1))):=⟨by rw[<-arf];exact A,(c.H.2.E (.below d)).E (.put (t:=0) aM l B)⟩;have k1:nt cJ ((q:Int)+i)=(q:Int)+i:=dI Y Y;have k2:nt cJ (4*(i:Int))=4*(i:Int):=dI Y Y;have k3:nt cJ (4*(i:Int)+4)=4*(i:Int)+4:=dI Y Y;have j1:pD ((q:Int)+i)=q+i:=Y;have j2:pD (4*(i:Int))=4*i:=Y;have j3:pD (4*(i:Int)+4)=4*i+4:=Y;have l1:0<=(q:Int)+i/\(q:Int)+i<(n:Int):=Y;have l2:0<=4*(i:Int)/\4*(i:Int)<=4*(i:Int)+4/\4*(i:Int)+4<=((pC r.tx:Nat):Int):=Y;have HC:bc (mS r.tx (4*i) (4*i+4)=eU r.tx i):=U;clear z A B a1 o p a3 N c d x z0;go_wp2_with (go_at_call 53;refine(N3 _ _ _ _ HM.H (cM (j.H.1 _) j.H.2.1)).V ?_;rintro e w1 ⟨b,rfl,d,rfl⟩;have R:b=M:=d.2 (j.H.2.2 i T);subst R;clear d);refine⟨⟨i+1,Y,by go_num,?_⟩,by simp[dw];omega⟩;exact L
  have S:¬(i:Int)<(m:Int):=Y;have e:i=m:=Y;subst e;go_wp2;go_ret;exact⟨U,c.H⟩
def Wi.vB(r:Wi)(i:Nat):ByteArray:=if r.3=1 then eU r.7 i else⟨#[0,0,0,0]⟩
def Zz(r:Wi)(er:Int)(v:ByteArray)(t:Nat)(l:av ByteArray):av ByteArray:=
 if er=0 then(if r.4=1 then(if t=2 then[]else[v])else if t=0 then[v]else if t=2 then l++[v]else l)else if t=1 then l else l++[v]
def cB(X:Nat->Nat->av ByteArray)(q:Nat)(r:Wi)(er:Int)(i:Nat):Nat->Nat->av ByteArray:=λt k=>if t<3/\q<=k/\k<q+i then Zz r er (r.vB (k-q)) t (X t k)else X t k
def u5(X:Nat->Nat->av ByteArray)(q)(r:Wi)(er i)(a:Nat->Nat->av ByteArray)(h:∀t k,a t k=if k=q+i/\t<3 then Zz r er (r.vB i) t (X t (q+i))else cB X q r er i t k):a=cB X q r er (i+1):=by
 funext t k
 rw[h t k];simp[cB]
 by_cases e:k=q+i
 subst e;rw[show q+i-q=i by omega]
 by_cases c:t<3
 rw[aO ⟨U,c⟩,aO Y];rw[aI Y,aI Y,aI Y];rw[aI Y]
 by_cases b:t<3/\q<=k/\k<q+i
 rw[aO b,aO Y];rw[aI b,aI Y]
section
variable {er:Int} (X:Nat->Nat->av ByteArray) (q:Nat) (r:Wi) (i:Nat)
def arl(he:¬er=0):bI (bI (cB X q r er i) 0 (q+i) (cB X q r er i 0 (q+i)++[r.vB i])) 2 (q+i) (bI (cB X q r er i) 0 (q+i) (cB X q r er i 0 (q+i)++[r.vB i]) 2 (q+i)++[r.vB i])=cB X q r er (i+1):=
 u5 X q r er i _ λt k=>by
  by_cases e:k=q+i
  subst e;obtain _|_|_|t:=t<;>simp[bI,Zz,cB,he]<;>(intro h;omega);simp[bI,e]
def arC(he:er=0)(hf:r.fl=1):bI (bI (bI (cB X q r er i) 0 (q+i) [r.vB i]) 1 (q+i) [r.vB i]) 2 (q+i) []=cB X q r er (i+1):=
 u5 X q r er i _ λt k=>by
  by_cases e:k=q+i
  subst e;obtain _|_|_|t:=t<;>simp[bI,Zz,cB,he,hf]<;>(intro h;omega);simp[bI,e]
def arM(he:er=0)(hf:¬r.4=1):bI (bI (cB X q r er i) 0 (q+i) [r.vB i]) 2 (q+i) (bI (cB X q r er i) 0 (q+i) [r.vB i] 2 (q+i)++[r.vB i])=cB X q r er (i+1):=
 u5 X q r er i _ λt k=>by
  by_cases e:k=q+i
  subst e;obtain _|_|_|t:=t<;>simp[bI,Zz,cB,he,hf]<;>(intro h;omega);simp[bI,e]
end
structure arT(W:aq)(sb:Nat)(rv:Nat->aB)(X:Nat->Nat->av ByteArray)(n t k gb kh:Nat)(v:aB)(l:av ByteArray)(W':aq):Prop where
 ql:ak (kB W' (F gb k) v) sb rv (bI X t k l) n
 K0:bn W rv (kB W' (F gb k) v)
 cell:∃u,kD W' (F gb k)=Z u
 fz:W'.frozen? (F gb k)=aa
def ak.J0{W' rv}(T:ak W sb rv X n)(a:∀b,b<pB W.1->W'.1[b]? =W.1[b]?)(m:pB W.1<=pB W'.1)(d:t<3)(f:k<n)(c:rv t=ζ (Z (F gb 0)) n kh)(hv:ew W' v l)(h0:l=[]->v=ζ aj 0 0):arT W sb rv X n t k gb kh v l W':=by obtain⟨S,h⟩:=(T.old a).put d f c hv h0;obtain⟨s,o,p,u,e,a1,g,_⟩:=(T.old a).at d f;rw[c]at e;cases e;exact⟨S,bn.E ⟨m,λb j _=>a b j⟩ (.put d c h),⟨u,aD a1 g⟩,bp a1 k⟩
def ak.own{rv:Nat->aB}(T:ak W sb rv X n)(c:t<3)(a:rv t=ζ (Z (F gb 0)) n kh){z:aq}(b:z.1[sb]? =W.1[sb]?):kD z (F sb t)=Z (ζ (Z (F gb 0)) n kh):=by rw[<-a];exact aD (b.E T.1) (by rcases(by omega:t=0\/t=1\/t=2)with rfl|rfl|rfl<;>rfl)
def ak.lit{rv:Nat->aB}(T:ak W sb rv X n)(c:t<3)(f:k<n)(a:rv t=ζ (Z (F gb 0)) n kh)(s):kD W (F sb t)=Z (ζ (Z (F gb 0)) n kh)/\(∃u,kD (lL W (au #[ξ s] 9)) (F gb k)=Z u)/\(lL W (au #[ξ s] 9)).frozen? (F gb k)=aa/\bc (ak (kB (lL W (au #[ξ s] 9)) (F gb k) (ζ (Z (F W.heap.size 0)) 1 1)) sb rv (bI X t k [s]) n/\bn W rv (kB (lL W (au #[ξ s] 9)) (F gb k) (ζ (Z (F W.heap.size 0)) 1 1))):=by
 let h:=(asy W.heap.size W).alloc (aR _) (au #[ξ s] 9);let N:ew (lL W (au #[ξ s] 9)) (ζ (Z (F W.heap.size 0)) 1 1) [s]:=ast W #[ξ s] 1 (cO _) (by rw[cP];omega) U;let P:=T.J0 (λb d=>h.block b d) h.size c f a N λe=>by cases e
 exact⟨T.own c a U,P.cell,P.fz,P.ql,P.K0⟩
def ak.wth{rv:Nat->aB}(T:ak W sb rv X n)(o:t<3)(C:k<n)(l:rv t=ζ (Z (F gb 0)) n kh)(s)(hl:pA (X t k)<=1099511627776):∃a A d,kD W (F sb t)=Z (ζ (Z (F gb 0)) n kh)/\kD W (F gb k)=Z (ζ a A d)/\bc (ax ai 137 #[ζ a A d,ξ s] W.drew λe x=>∃w B z,e=aG (ζ w B z)/\(kD x (F sb t)=Z (ζ (Z (F gb 0)) n kh)/\kD x (F gb k)=Z (ζ a A d))/\(∃u,kD x (F gb k)=Z u)/\x.frozen? (F gb k)=aa/\bc (ak (kB x (F gb k) (ζ w B z)) sb rv (bI X t k (X t k++[s])) n/\bn W rv (kB x (F gb k) (ζ w B z)))):=by obtain⟨g,p,c,v,e,f,h,E,m⟩:=T.at o C;rw[l]at e;cases e;obtain⟨a,d,ev⟩:=gP E;subst ev;refine⟨a,_,d,T.own o l U,aD f h,(ark _ _ s W.drew (eF E λ_ _=>U) m hl).V ?_⟩;rintro e x ⟨J,rfl,D,j⟩;let P:=T.J0 (λb H=>j.5 b H) j.4 o C l D λe=>absurd e ay;obtain⟨w,z,G⟩:=gP D;subst G;exact⟨_,_,_,U,⟨T.own o l (j.5 _ (bf.1 T.1).1),aD ((j.5 _ (bf.1 f).1).E f) h⟩,P.3,P.4,P.1,P.2⟩
def P3(sb:Nat)(rv:Nat->aB)(X:Nat->Nat->av ByteArray)(n:Nat)(w:aq)(e:jA)(w':aq):Prop:=e=aG (θ #[])/\ak w' sb rv X n/\bn w rv w'
def aqH(sb a n q m lh:Nat)(rv:Nat->aB)(X:Nat->Nat->av ByteArray)(r:Wi)(er:Int)(w:aq)(h:ak w sb rv X n)(L:w.heap[a]? =Z (au (mI r) 53 (0,0)))(ho:r.of=4*(q:Int))(hl:r.ln=4*(m:Int))(hn:q+m<=n)(bR:n<=65536)(bu:r.kd=1->pC r.dt=4*m)(hX:∀t k,pA (X t k)<=lh)(hM:lh<=1099511627776)(aS:∀t,t<3->rW (rv t)≠Z a)(h0:0<n):
  ax ai 93 #[jp sb,jp a,I er] w (P3 sb rv (cB X q r er m) n w):=by
 obtain⟨g0,p0,_,_,e0,_⟩:=h.at (t:=0) (k:=0) aM h0;obtain⟨g1,p1,_,_,e1,_⟩:=h.at (t:=1) (k:=0) aM h0;obtain⟨g2,G,_,_,e2,_⟩:=h.at (t:=2) (k:=0) aM h0;have g:bc (rv 0=ζ (Z (F g0 0)) n p0/\rv 1=ζ (Z (F g1 0)) n p1/\rv 2=ζ (Z (F g2 0)) n G):=⟨e0,e1,e2⟩;have H0:bc (ak w sb rv (cB X q r er 0) n/\bn w rv w):=⟨by have:cB X q r er 0=X:=by{funext t k;simp only[cB];rw[aI Y]};rw[this];exact h,bn.refl _ _⟩
 have HA:bc (∀W,bn w rv W->(kD W (F a 2)=Z (I r.kd)/\kD W (F a 3)=Z (I r.fl)/\kD W (F a 6)=Z (ξ r.dt))/\kD W (F a 5)=Z (I (4*(m:Int)))/\kD W (F a 4)=Z (I (4*(q:Int)))):=λW o=>by have o:=(o.2 a (bf.1 L).1 aS).E L;rw[<-ho,<-hl];exact⟨⟨aD o U,aD o U,aD o U⟩,aD o U,aD o U⟩
 have p:bc ((∀t k,pA (X t k)<=lh)/\lh<=1099511627776):=⟨hX,hM⟩;clear h L hX aS e0 e1 e2;have t1:(4*(m:Int)).tdiv 4=m:=by rw[EX Y];omega
 have t2:(4*(q:Int)).tdiv 4=q:=by rw[EX Y];omega
 have u1:nt cJ (m:Int)=m:=dI Y Y;have u2:nt cJ (q:Int)=q:=dI Y Y;go_enter func93,ntmps93;go_wp2
 go_loopw [6] (λT wr=>∃i:Nat,i<=m/\T=I i/\bc (ak wr sb rv (cB X q r er i) n/\bn w rv wr)) (λT _=>m-pD (dw T))
 case atStart=>exact⟨0,cO _,U,H0⟩
 case round=>
  obtain⟨i,hi,rfl,j⟩:=hrel;obtain⟨⟨d2,d3,d6⟩,d5,d4⟩:=HA.H wr j.H.2
  by_cases bP:i<m
  ·have uo:(i:Int)<(m:Int):=Y;have k1:nt cJ ((q:Int)+i)=(q:Int)+i:=dI Y Y;have j1:pD ((q:Int)+i)=q+i:=Y;have l1:0<=(q:Int)+i/\(q:Int)+i<(n:Int):=Y
   have bt:(r.kd==1)=M/\r.vB i=mS r.dt (4*i) (4*i+4)/\pC r.dt=4*m\/(r.kd==1)=aa/\r.vB i=⟨#[0,0,0,0]⟩:=by
    by_cases B:r.kd=1
    exact aA ⟨by simp[B],aO B,bu B⟩;exact az ⟨by simp[B],aI B⟩
   have k2:nt cJ (4*(i:Int))=4*(i:Int):=dI Y Y;have k3:nt cJ (4*(i:Int)+4)=4*(i:Int)+4:=dI Y Y;have j2:pD (4*(i:Int))=4*i:=Y;have j3:pD (4*(i:Int)+4)=4*i+4:=Y;obtain⟨UX,x,hz⟩|⟨UX,x⟩:=bt
   all_goals
    first
     |(have l2:0<=4*(i:Int)/\4*(i:Int)<=4*(i:Int)+4/\4*(i:Int)+4<=((pC r.dt:Nat):Int):=Y
       have z:bc (mS r.dt (4*i) (4*i+4)=r.vB i):=x.y;clear x hz
       go_upto_region 9 with fail
       rw[z.H];clear z)
     |(have z:bc ((⟨#[0,0,0,0]⟩:ByteArray)=r.vB i):=x.y
       clear x
       go_upto_region 9 with fail
       rw[z.H];clear z)
   all_goals
    by_cases O:er=0
    ·subst O
     by_cases E:r.fl=1
     ·have bw:(r.fl==1)=M:=by simp[E]
      obtain⟨b5,⟨y5,x5⟩,z5,v⟩:=j.H.1.lit (t:=0) (k:=q+i) aM Y g.H.1 (r.vB i)
      go_upto_region 14 with fail
      generalize kB (lL wr (au #[ξ (r.vB i)] 9)) (F g0 (q+i)) (ζ (Z (F wr.heap.size 0)) 1 1)=C at*;obtain⟨b6,⟨y6,x6⟩,z6,H⟩:=v.H.1.lit (t:=1) (k:=q+i) aM Y g.H.2.1 (r.vB i)
      go_upto_region 15 with fail
      generalize kB (lL C (au #[ξ (r.vB i)] 9)) (F g1 (q+i)) (ζ (Z (F C.heap.size 0)) 1 1)=D at*;have A:=H.H.1.J0 (λb _=>U) (aR _) (t:=2) (k:=q+i) aM Y g.H.2.2 (show ew D (ζ aj 0 0) [] from⟨U,aA ⟨U,U⟩⟩) λ_=>U;obtain⟨⟨cu,cq⟩,z7⟩:(∃u,kD D (F g2 (q+i))=Z u)/\D.frozen? (F g2 (q+i))=aa:=⟨A.cell,A.fz⟩;have b7:kD D (F sb 2)=Z (ζ (Z (F g2 0)) n G):=by rw[<-g.H.2.2];exact aD H.H.1.box U
      have aH:=Dv (And.intro A.ql A.K0);clear A;go_wp2;have f:=Dv (And.intro (Eq.mp (congrArg (ak _ sb rv · n) (arC X q r i U E)) aH.H.1) (((j.H.2.E v.H.2).E H.H.2).E aH.H.2))
      first
       |exact⟨⟨i+1,Y,by go_num,f⟩,by simp[dw];omega⟩
       |(go_roundw
         case rel=>exact⟨i+1,Y,by go_num,f⟩
         case measure=>simp[dw];omega)
     have bw:(r.fl==1)=aa:=by simpa using E
     obtain⟨b5,⟨y5,x5⟩,z5,v⟩:=j.H.1.lit (t:=0) (k:=q+i) aM Y g.H.1 (r.vB i)
     go_upto_region 8 with fail
     generalize kB (lL wr (au #[ξ (r.vB i)] 9)) (F g0 (q+i)) (ζ (Z (F wr.heap.size 0)) 1 1)=C at*;obtain⟨af,aC,ah,N,Q,J⟩:=v.H.1.wth (t:=2) (k:=q+i) aM Y g.H.2.2 (r.vB i) (by simp only[bI,cB];rw[aI Y,aI Y];exact cM (p.H.1 _ _) p.H.2);refine gY (S:=λl=>kD l (F sb 2)=Z (ζ (Z (F g2 0)) n G)/\kD l (F g2 (q+i))=Z (ζ af aC ah)) 15 ⟨N,Q⟩ λhS=>?_;apply tg [0,1,2,3,4,5,6,7];apply tg [8,9,10,11,12];refine gr 13 λK c=>?_;go_simp;go_at_call 137;refine J.H.V ?_;rintro e W4 ⟨V,an,wz,rfl,d,⟨aW,R⟩,P,s⟩;refine c.H _ _ d (λd=>?_);clear c K;apply tg [14];refine gz λK c=>?_;go_simp;refine c.H _ _ ?_;refine gl ?_;go_wp2;have f:=Dv (And.intro (Eq.mp (congrArg (ak _ sb rv · n) (arM X q r i U E)) s.H.1) ((j.H.2.E v.H.2).E s.H.2))
     first
      |exact⟨⟨i+1,Y,by go_num,f⟩,by simp[dw];omega⟩
      |(go_roundw
        case rel=>exact⟨i+1,Y,by go_num,f⟩
        case measure=>simp[dw];omega)
    have bT:(er==0)=aa:=by simpa using O
    go_upto_region 10 with fail
    obtain⟨bC,bE,bD,UL,bA,bh⟩:=j.H.1.wth (t:=0) (k:=q+i) aM Y g.H.1 (r.vB i) (by simp only[cB];rw[aI Y];exact cM (p.H.1 _ _) p.H.2);refine gY (S:=λl=>kD l (F sb 0)=Z (ζ (Z (F g0 0)) n p0)/\kD l (F g0 (q+i))=Z (ζ bC bE bD)) 15 ⟨UL,bA⟩ λhS=>?_;apply tg [0,1,2,3,4,5,6,7];apply tg [8,9,10,11,12];refine gr 13 λK c=>?_;go_simp;go_at_call 137;refine bh.H.V ?_;rintro e W3 ⟨V,an,wz,rfl,d,⟨aW,R⟩,P,aE⟩;refine c.H _ _ d (λd=>?_);clear c K;apply tg [14];refine gz λK c=>?_;go_simp;refine c.H _ _ ?_;refine gl ?_
    go_upto_region 11 with fail
    generalize kB W3 (F g0 (q+i)) (ζ V an wz)=C at*;clear R P d;obtain⟨af,aC,ah,N,Q,J⟩:=aE.H.1.wth (t:=2) (k:=q+i) aM Y g.H.2.2 (r.vB i) (by simp only[bI,cB];rw[aI Y,aI Y];exact cM (p.H.1 _ _) p.H.2);refine gY (S:=λl=>kD l (F sb 2)=Z (ζ (Z (F g2 0)) n G)/\kD l (F g2 (q+i))=Z (ζ af aC ah)) 15 ⟨N,Q⟩ λhS=>?_;apply tg [0,1,2,3,4,5,6,7];apply tg [8,9,10,11,12];refine gr 13 λK c=>?_;go_simp;go_at_call 137;refine J.H.V ?_;rintro e W4 ⟨V,an,wz,rfl,d,⟨aW,R⟩,P,s⟩;refine c.H _ _ d (λd=>?_);clear c K;apply tg [14];refine gz λK c=>?_;go_simp;refine c.H _ _ ?_;refine gl ?_;go_wp2;have f:=Dv (And.intro (Eq.mp (congrArg (ak _ sb rv · n) (arl X q r i O)) s.H.1) ((j.H.2.E aE.H.2).E s.H.2))
    first
     |exact⟨⟨i+1,Y,by go_num,f⟩,by simp[dw];omega⟩
     |(go_roundw
       case rel=>exact⟨i+1,Y,by go_num,f⟩
       case measure=>simp[dw];omega)
  have uo:¬(i:Int)<(m:Int):=Y;have e:i=m:=Y;subst e;go_wp2;exact bodyPost_ret (results_none U _ _ _) U ⟨U,j.H⟩
def vv(X:Nat->Nat->av ByteArray)(n q m:Nat)(r:Wi)(er:Int):Nat->Nat->av ByteArray:=
 if r.3=0 then(if er=0/\0<=r.9 then CA X q r.tx m else X)else if r.3=2 then(if er=0 then qa X n else X)else cB X q r er m
def arD(a:Nat)(rv:Nat->aB)(X:Nat->Nat->av ByteArray)(n:Nat)(w:aq)(e:jA)(w':aq):Prop:=e=aG (ω M)/\ak w' a rv X n/\bn w rv w'
def aqX(c a n q m lh:Nat)(rv:Nat->aB)(X:Nat->Nat->av ByteArray)(r:Wi)(no ck er:Int)(w:aq)(h:ak w c rv X n)(z:w.heap[a]? =Z (au (mI r) 53 (0,0)))(o:r.of=4*(q:Int))(hl:r.ln=4*(m:Int))(A:q+m<=n)(s:n<=65536)(h0:0<n)(UX:0<=r.kd/\r.kd<=4)(L:r.kd=1->pC r.dt=4*m)(he:er=0\/er=5)(K:0<=r.bk->r.er=er)(hr:r.kd=0->er=0->0<=r.bk->pC r.tx=4*m/\∀i,i<m->eU r.tx i∈X 0 (q+i))(x:∀t k,pA (X t k)<=lh)(v:lh<=1099511627776)(B:∀t,t<3->rW (rv t)≠Z a):
  ax ai 51 #[jp c,jp a,ν (iX ⟨no,ck,r.kd,r.fl,r.of,r.ln,er,[]⟩)] w (arD c rv (vv X n q m r er) n w):=by
 have p:=(asy w.heap.size w).alloc (aR _) (au (iX ⟨no,ck,r.kd,r.fl,r.of,r.ln,er,[]⟩) 96);have g:=asr w (au (iX ⟨no,ck,r.kd,r.fl,r.of,r.ln,er,[]⟩) 96);have J:=h.old λb af=>p.block b af;have d:=(p.block a (bf.1 z).1).E z;have D:bc (bn w rv (lL w (au (iX ⟨no,ck,r.kd,r.fl,r.of,r.ln,er,[]⟩) 96))):=.below p;have T:bc (vv X n q m r er=if r.kd=0 then(if er=0/\0<=r.bk then CA X q r.tx m else X)else if r.kd=2 then(if er=0 then qa X n else X)else cB X q r er m):=U;generalize vv X n q m r er=ah at*;clear z h p
 replace o:=Dv o
 replace hl:=Dv hl
 replace hr:=Dv hr
 have yH:(decide (r.bk≥0)=M/\(r.er !=er)=aa)\/decide (r.bk≥0)=aa:=by
  by_cases e:0<=r.bk
  exact aA ⟨by simp[e],by simp[K e]⟩;exact az bV
 have n1:(r.kd !=r.kd)=aa:=ay;have n2:(r.fl !=r.fl)=aa:=ay;have n3:(r.of !=r.of)=aa:=ay;have n4:(r.ln !=r.ln)=aa:=ay;go_enter func51,ntmps51
 go_upto_region 1 with fail
 generalize lL w (au (iX ⟨no,ck,r.kd,r.fl,r.of,r.ln,er,[]⟩) 96)=W at*;generalize pB w.heap=l at*;have c2:=aJ W l 2 (I r.kd) g;have c3:=aJ W l 3 (I r.fl) g;have c4:=aJ W l 4 (I r.of) g;have c5:=aJ W l 5 (I r.ln) g;have c6:=aJ W l 6 (I er) g;have a2:=aJ W a 2 (I r.kd) d;have a3:=aJ W a 3 (I r.fl) d;have a4:=aJ W a 4 (I r.of) d;have a5:=aJ W a 5 (I r.ln) d;have a8:=aJ W a 8 (I r.bk) d;have a9:=aJ W a 9 (I r.er) d;have j:∀k,ak (W.drewN k) c rv X n:=λk=>J.old λ_ _=>U;have R:bc (r.kd=0->er=0->0<=r.bk->∀k,ax ai 91 #[jp c,jp a] (W.drewN k) (P9 c rv (CA X q r.tx m) n (W.drewN k))):=λN O P k=>aqO c a n q m lh rv X r _ (j k) d o hl A s (hr N O P).1 (x 0) v (hr N O P).2 B;have S:bc (∀k,ax ai 92 #[jp c] (W.drewN k) (P7 c rv X n (W.drewN k))):=λk=>aqw c n rv X _ (j k) s h0;have V:bc (∀k,ax ai 93 #[jp c,jp a,I er] (W.drewN k) (P3 c rv (cB X q r er m) n (W.drewN k))):=λk=>aqH c a n q m lh rv X r er _ (j k) d o hl A s L x v B h0;have E:bc (∀k,ak (W.drewN k) c rv X n):=j;clear J j g d hr x v B L o hl A s h0 K;have Q:r.kd=0\/r.kd=2\/(r.kd=1\/r.kd=3\/r.kd=4):=Y;clear UX;have C:bc (∀k,bn W rv (W.drewN k)):=λk=>⟨aR _,λ_ _ _=>U⟩;obtain rfl|rfl:=he
 all_goals
  go_quiet (fail)
  go_wp2;obtain⟨h1,h2⟩|h1:=yH
 all_goals
  go_quiet (fail)
  obtain e|e|e|e|e:=Q
 all_goals
  go_wp2_with ((first|(go_at_call 91;refine(R.H e (by first|rfl|trivial) (by simpa using h1) _).V ?_)|(go_at_call 92;refine(S.H _).V ?_)|(go_at_call 93;refine(V.H _).V ?_));rintro e1 w1 ⟨rfl,G,H⟩;have u:=Dv (And.intro G H);clear G H);go_ret
  first
   |refine⟨rfl,?_,(D.H.E (C.H _)).E u.H.2⟩
   |refine⟨rfl,?_,D.H.E (C.H _)⟩
  have f:=T.H;simp[e,dN,dM,reduceIte,Int.reduceEq,true_and,false_and]at f
  first
   |(rw[aI (by simpa using h1)]at f;rw[f];exact E.H _)
   |(rw[aO (by simpa using h1)]at f;rw[f];exact u.H.1)
   |(rw[f];exact u.H.1)
   |(rw[f];exact E.H _)
def LX(t:Nat):av ByteArray:=if t=2 then[]else[⟨#[0,0,0,0]⟩]
def c8(w:aq)(v:aB)(n:Nat)(l:av ByteArray)(vs:av aB):Prop:=mT w 0 79 1 v n vs/\∀(k:Nat) u,vs[k]? =Z u->ew w u l/\(l=[]->u=ζ aj 0 0)
structure jf(w0 w:aq)(sb:Nat)(v:Nat->aB)(n:Nat->Nat):Prop where
 box:w.1[sb]? =Z (au #[v 0,v 1,v 2] 101 (0,0))
 row:∀t,t<3->∃vs,c8 w (v t) (n t) (LX t) vs
 ne:∀t a b,t<3->a<3->(v t).ownBlock=Z b->(v a).ownBlock=Z b->t=a
 new:w0.1.size<=sb/\∀t b,t<3->(v t).ownBlock=Z b->w0.1.size<=b
 low:w0.1.size<=w.1.size/\∀b,b<w0.1.size->w.1[b]? =w0.1[b]?
def c8.ri{x:aB}(h:c8 w x m l vs)(f:∀(b:Nat) (c:aF aB),w.heap[b]? =Z (au c 9 (0,0))->w'.heap[b]? =w.heap[b]?)(hv:∀b,rW x=Z b->w'.heap[b]? =w.heap[b]?):c8 w' x m l vs:=by refine⟨eF h.1 hv,λk u a=>⟨eF (h.2 k u a).1 λb e=>?_,(h.2 k u a).2⟩⟩;obtain⟨c,d⟩:=yW (h.2 k u a).1 e;exact f b c d
variable{v:Nat->aB}{n:Nat->Nat}{W W':av Wi}{X:Nat->Nat->Nat->av ByteArray}
def jf.arU(T:jf w0 w sb v n)(f:c8 w (v t) m l vs)(i:pB w.heap<=pB W2.heap)(g:∀b,b<pB w.heap->W2.heap[b]? =w.heap[b]?)(h:W2.grownBy w3 (rW (v t))):w3.heap[sb]? =Z (au #[v 0,v 1,v 2] 101 (0,0)):=by let d:=(bf.1 T.box).1;refine(h.block sb (cS d i) λe=>?_).E ((g sb d).E T.box);obtain⟨c,a⟩:=yW f.1 e.y;rw[T.box]at a;cases a
def jf.as{n'}(T:jf w0 w sb v n)(h:∀t,t<3->n t=n' t):jf w0 w sb v n':=⟨T.1,λt a=>h t a▸T.2 t a,T.3,T.4,T.5⟩
def jf.grow{v1 u:aB}(T:jf w0 w sb v n)(A:t<3)(B:c8 w (v t) (n t) (LX t) vs)(hz:pB w.1<=pB W2.1)(q:∀b,b<pB w.1->W2.1[b]? =w.1[b]?)(hu:ew W2 u (LX t))(h0:LX t=[]->u=ζ aj 0 0)(W:mT w3 0 79 1 v1 (n t+1) (vs++[u]))(J:W2.grownBy w3 (rW (v t)))(R:rW v1=rW (v t)\/∀g,rW v1=Z g->pB W2.1<=g):
  jf w0 (kB w3 (F sb t) v1) sb (λf=>if f=t then v1 else v f) (λf=>if f=t then n t+1 else n f):=by
 let lt:∀{b:Nat} {o:Obj},w.1[b]? =Z o->b<pB w.1:=λh=>(bf.1 h).1;let aX:=J.4;let N:∀b,b<pB W2.1->Z b≠rW (v t)->b≠sb->(kB w3 (F sb t) v1).1[b]? =W2.1[b]? :=λb B p h3=>(bC h3).E (J.5 b B p)
 let af:∀{b:Nat} {c:aF aB} {G:Nat},W2.1[b]? =Z (au c G (0,0))->G≠79->Z b≠rW (v t):=λ{b c G} h hU e=>by obtain⟨c',d⟩:=yW B.1 e.y;rw[q b (lt d),d]at h;cases h;exact hU U
 let H:=(q sb (lt T.1)).E T.1;let V:=(J.5 sb (cS (lt T.1) hz) (af H aM)).E H
 let X:∀(b:Nat) (c:aF aB),W2.1[b]? =Z (au c 9 (0,0))->(kB w3 (F sb t) v1).1[b]? =W2.1[b]? :=λb c h=>N b (bf.1 h).1 (af h aM) λe=>by subst e;rw[H]at h;cases h
 let aS:∀{E:aB} {k:Nat} {xs:av aB} {b:Nat},mT w 0 79 1 E k xs->rW E=Z b->b≠sb:=λh e j=>by obtain⟨c,d⟩:=yW h e;subst j;rw[T.1]at d;cases d
 let n3:∀b,rW v1=Z b->b≠sb:=λb e j=>by obtain⟨c,d⟩:=yW W e;subst j;rw[V]at d;cases d
 refine⟨?_,λf C=>?_,λa b c Q S r i=>?_,⟨T.4.1,λf b C e=>?_⟩,by have:=T.5.1;simp;omega,λb aK=>?_⟩;rw[bG V]
 match t,A with
 |0,_=>rfl
 |1,_=>rfl
 |2,_=>rfl
 by_cases e:f=t
 subst e;simp[dN];refine⟨vs++[u],eF W λb e=>bC (n3 b e),λk E D=>?_⟩;rw[zH]at D
 let ks:∀{x:aB} {l':av ByteArray},ew W2 x l'->ew (kB w3 (F sb f) v1) x l':=λh=>eF h λb e=>by obtain⟨c,d⟩:=yW h e;exact X b c d
 split at D;obtain⟨a1,a2⟩:=B.2 k E D;exact⟨ks (eF a1 λb e=>q b (jJ a1 b e)),a2⟩;have:=jC D;rw[iz]at this;subst this;exact⟨ks hu,h0⟩;simp[e,dM];obtain⟨ws,p⟩:=T.2 f C;refine⟨ws,p.ri (λb c d=>?_) λb hv=>?_⟩;let aJ:=(q b (lt d)).E d;exact(X b c aJ).E (q b (lt d));let K:=jJ p.1 b hv;exact(N b (cS K hz) (λi=>e (T.3 f t b C A hv i.y)) (aS p.1 hv)).E (q b K)
 let mv:∀s,s<3->s≠t->rW v1=Z c->rW (v s)≠Z c:=λs L aL O P=>by obtain⟨ws,p⟩:=T.2 s L;let K:=jJ p.1 c P;obtain h|h:=R;exact aL (T.3 s t c L A P (h▸O));have:=h c O;omega
 by_cases z:a=t<;>by_cases j:b=t
 rw[z,j];simp[z,j,dN,dM]at r i;exact absurd i (mv b S j r);simp[z,j,dN,dM]at r i;exact absurd r (mv a Q z i);simp[z,j,dM]at r i;exact T.3 a b c Q S r i
 by_cases i:f=t
 simp[i,dN]at e;obtain h|h:=R;exact T.4.2 t b A (h▸e);have:=h b e;have:=T.5.1;omega;simp[i,dM]at e;exact T.4.2 f b C e;let L:=T.5.1;have:=T.4.1;refine(N b Y (λe=>?_) Y).E ((q b Y).E (T.5.2 b aK));have:=T.4.2 t b A e.y;omega
def arb:(ai.info? 79).map (λi=>(i.8,i.3,i.4))=Z (Z (ζ aj 0 0),1,24):=aW
def jf.app{pb u}(T:jf w0 w sb v n)(t k)(p:t<3)(L:k<=65536)(h:(∀b,b<pB w.1->W2.1[b]? =w.1[b]?)/\pB w.1<=pB W2.1/\ew W2 u (LX t)/\W2.1[pb]? =Z (au #[u] 79 (0,0)))(h0:LX t=[]->u=ζ aj 0 0)(A:u.oneCell'=M)(s:n t=k:=by rfl):
  ∃d i f j V K m,k+1=m/\kD w (F sb t)=Z (ζ d k i)/\(rD #[99,99] 99 #[ζ d k i,ζ (Z (F pb 0)) 1 1]).run ai W2=.ok (ζ f m j) V/\kD V (F sb t)=Z K/\V.frozen? (F sb t)=aa/\bc (jf w0 (kB V (F sb t) (ζ f m j)) sb (λa=>if a=t then ζ f m j else v a) λa=>if a=t then k+1 else n a):=by
 subst s;obtain⟨H,r,C,D,E⟩:=nG arb;obtain⟨J,R⟩:=T.2 t p;obtain⟨d,i,ev⟩:=gP R.1;obtain⟨x,V,hr,q,l,_,m⟩:=run_append_own_at (P:=ai) W2 0 99 99 79 H _ 1 24 underlying99 r C D E U Y (v t) (n t) J (eF R.1 λb e=>h.1 b (jJ R.1 b e)) ⟨pb,0,aj⟩ 1 1 [u] U (by simpa using wu h.2.2.2) (by simp[A]) (by rw[cP];omega) Y (cO _);let G:=T.grow p R h.2.1 h.1 h.2.2.1 h0 q l (m.imp id λh g o=>by rw[h]at o;cases o;exact aR _);let X:=T.arU R h.2.1 h.1 l;let c:∀{z:aq},z.1[sb]? =Z (au #[v 0,v 1,v 2] 101 (0,0))->kD z (F sb t)=Z (v t):=λB=>aD B (by rcases(by omega:t=0\/t=1\/t=2)with rfl|rfl|rfl<;>rfl);obtain⟨f,j,e⟩:=gP q;subst e;exact⟨d,i,_,_,V,_,_,U,ev▸c T.1,ev▸hr,c X,bp X t,G⟩
def WZ(w:aq)(t)(c:t≠2):(∀b,b<pB w.heap->(lL (lL w (au #[ξ ⟨#[0,0,0,0]⟩] 9)) (au #[ζ (Z (F w.heap.size 0)) 1 1] 79)).heap[b]? =w.heap[b]?)/\pB w.heap<=pB (lL (lL w (au #[ξ ⟨#[0,0,0,0]⟩] 9)) (au #[ζ (Z (F w.heap.size 0)) 1 1] 79)).heap/\ew (lL (lL w (au #[ξ ⟨#[0,0,0,0]⟩] 9)) (au #[ζ (Z (F w.heap.size 0)) 1 1] 79)) (ζ (Z (F w.heap.size 0)) 1 1) (LX t)/\(lL (lL w (au #[ξ ⟨#[0,0,0,0]⟩] 9)) (au #[ζ (Z (F w.heap.size 0)) 1 1] 79)).heap[pB w.heap+1]? =Z (au #[ζ (Z (F w.heap.size 0)) 1 1] 79 (0,0)):=by refine⟨λb a=>((bq.alloc ay _).block b a),bV,?_,by simpa using asr (lL w (au #[ξ ⟨#[0,0,0,0]⟩] 9)) (au #[ζ (Z (F w.heap.size 0)) 1 1] 79)⟩;rw[show LX t=[⟨#[0,0,0,0]⟩] from aI c];exact eF (ast w #[ξ ⟨#[0,0,0,0]⟩] 1 (cO _) (by rw[cP];omega) U) λb e=>by cases e;exact((asy (pB w.heap+1) (lL w (au #[ξ ⟨#[0,0,0,0]⟩] 9))).alloc ay _).block w.heap.size Y
def Ys(n:Nat)(w:aq)(e:jA)(w':aq):Prop:=∃a v,e=aG (jp a)/\jf w w' a v λ_=>n
def aqC(n:Nat)(w:aq)(hn:n<=65536):ax ai 49 #[I (4*(n:Int))] w (Ys n w):=by
 have t1:(4*(n:Int)).tdiv 4=n:=by rw[EX Y];omega
 have u1:nt cJ (n:Int)=n:=dI Y Y
 have p:bc (jf w (lL w (au #[ζ aj 0 0,ζ aj 0 0,ζ aj 0 0] 101)) w.heap.size (λ_=>ζ aj 0 0) λ_=>0):=
  ⟨asr w _,λt _=>⟨[],⟨U,aA ⟨U,U⟩⟩,λk u H=>(by cases H)⟩,λt t' b _ _ e=>(by cases e),⟨aR _,λt b _ e=>(by cases e)⟩,ay,λb g=>bq.block b g⟩
 go_enter func49,ntmps49;go_wp2;generalize lL w (au #[ζ aj 0 0,ζ aj 0 0,ζ aj 0 0] 101)=w1 at*;generalize aH:pB w.heap=a at*
 go_loopw [4] (λj wr=>∃i:Nat,i<=n/\j=I i/\bc (∃v,jf w wr a v λ_=>i)) (λj _=>n-pD (dw j))
 case atStart=>exact⟨0,cO _,U,_,p⟩
 case round=>
  obtain⟨i,hi,rfl,f⟩:=hrel
  by_cases aD:i<n
  ·have B:(i:Int)<(n:Int):=Y;obtain⟨v,T⟩:=f.H;have r:=Dv T;clear f T;obtain⟨aK,aQ,c,d,s,y5,J,ah,N,C,Q,V,m⟩:=r.H.app 0 i aM Y (WZ wr 0 aM) (λh=>by cases h) U
   go_upto_region 6 with(at_builtin;refine b8 C (h:=?_))
   generalize kB s (F a 0) (ζ c J d)=z at*;obtain⟨aL,aS,c,d,x,y6,K,ak,O,D,R,W,o⟩:=m.H.app 1 i aM Y (WZ z 1 aM) (λh=>by cases h) U
   go_upto_region 7 with(at_builtin;refine b8 D (h:=?_))
   generalize kB x (F a 1) (ζ c K d)=A at*;obtain⟨aN,aT,c,d,V7,bl,i7,an,P,E,S,X,q⟩:=o.H.app (W2:=lL A (au #[ζ aj 0 0] 79)) 2 i aM Y ⟨λb g=>bq.block b g,ay,⟨U,aA ⟨U,U⟩⟩,asr _ _⟩ (λ_=>U) U
   go_upto_region 4 with(at_builtin;refine b8 E (h:=?_))
   go_wp2;have l:=Dv (⟨_,q.H.as (n':=λ_=>i+1) λt G=>by match t,G with|0,_=>rfl|1,_=>rfl|2,_=>rfl⟩:∃L,jf w _ a L λ_=>i+1)
   first
    |exact⟨⟨i+1,Y,by go_num,l⟩,by simp[dw];omega⟩
    |(go_roundw
      case rel=>exact⟨i+1,Y,by go_num,l⟩
      case measure=>simp[dw];omega)
  have B:¬(i:Int)<(n:Int):=Y;have e:i=n:=Y;subst e;go_wp2;go_ret;obtain⟨v,T⟩:=f.H;exact⟨a,v,U,T⟩
def N6{P}{t e:aY}(h:P.underlying t=Z (.slice e))(a n c w):(ju .eql t (ζ a n c) (ζ aj 0 0)).run P w=.ok (ω a.isNone) w:=by
 let b:(Op.equal t (ζ a n c) (ζ aj 0 0)).run P w=.ok a.isNone w:=by rw[Op.equal];rw[show Op.maxDepth=9999+1 from U];unfold Op.equalIn;rw[Cn,run_underlying h];cases a<;>rfl
 unfold ju;simp[b]
def p8(T k n:Nat)(xs:av aB)(w:aq)(e:jA)(w':aq):Prop:=∃a,e=aG a/\mT w' 0 T k a n xs/\aK w w'/\∀b,rW a=Z b->pB w.heap<=b
def aqy(v n xs)(w:aq)(h:mT w 0 96 7 v n xs)(f:∀u∈xs,u.oneCell'=M)(H:n<=1099511627776):
  ax ai 90 #[v] w (p8 96 7 n xs w):=by
 obtain⟨C,m,o,p,q⟩:=nG Vu;obtain⟨rfl,rfl⟩|⟨g,i,D,rfl,_,G,E,hm,J,K⟩:=h.2
 ·have B:xs=[]:=List.eq_nil_of_length_eq_zero (by have:=h.1;omega);subst B;let A:(ju .eql 93 (ζ aj 0 0) (ζ aj 0 0)).run ai w=.ok (ω M) w:=N6 underlying93 ..;clear h f;go_enter func90,ntmps90;go_wp2;go_ret;exact⟨_,U,⟨U,aA ⟨U,U⟩⟩,asy _ _,λb e=>by cases e⟩
 have a:=(asy w.1.size w).alloc (aR _) (au #[] 96);have l:mT (lL w (au #[] 96)) 0 96 7 (ζ (Z (F w.1.size 0)) 0 0) 0 []:=ast w #[] 0 (cO _) (by rw[cP];omega) U;have j:=eF (W':=lL w (au #[] 96)) h λb e=>a.5 b (jJ h b e);obtain⟨t,x,hr,r,c,_,s⟩:=run_append_own_at (P:=ai) (lL w (au #[] 96)) 0 93 93 96 C _ 7 56 underlying93 m o p q U Y _ 0 [] l ⟨g,0,aj⟩ n i xs h.1 (j.cells U) f (by rw[cP];omega) Y (cO _)
 have z:bc (mT x 0 96 7 t n xs/\aK w x/\∀b,rW t=Z b->pB w.1<=b):=by refine⟨by simpa using r,⟨c.1.E a.1,c.2.E a.2,c.3.E a.3,cM a.4 c.4,λb d=>(c.5 b (cS d a.4) λe=>?_).E (a.5 b d)⟩,λb e=>?_⟩;cases e;exact absurd d (uD _);rcases s with k|k<;>rw[k]at e<;>cases e;exact aR _;simp
 have A:(ju .eql 93 (ζ (Z (F g 0)) n i) (ζ aj 0 0)).run ai w=.ok (ω aa) w:=N6 underlying93 ..;clear h l j r c s a o p q m f;go_enter func90,ntmps90;go_wp2_with (at_builtin;refine b8 hr (h:=?_));go_ret;exact⟨_,U,z.H⟩
def aru(xb f L w)(h:aE w f xb L)(j:pA f.rh<=1099511627776):
  ax ai 50 #[jp xb] w (p8 96 7 (pA f.rh) (f.rh.flatMap mX) w):=by
 have b:bc (ax ai 90 #[L.8] w (p8 96 7 (pA f.rh) (f.rh.flatMap mX) w)):=aqy _ _ _ w h.rh (λu g=>by obtain⟨e,_,l⟩:=BY.1 g;clear g;revert u;simp[zS]) j
 have c:=aJ w xb 20 L.8 h.1;obtain⟨a,k,ev⟩:=gP h.rh;rw[ev]at c b;clear h ev;go_enter func50,ntmps50;go_wp2_with (go_at_call 90;refine b.H.V ?_;rintro e n ⟨m,rfl,d⟩;have i:=Dv d;clear d);go_ret;exact⟨_,U,i.H⟩
variable{n:Nat}{e:En}
def jf.ql(T:jf w0 w sb v λ_=>n):ak w sb v (λt _=>LX t) n:=⟨T.1,T.2,T.3⟩
def fL(lo:av En)(W:av Wi):Nat->Nat->Nat
 |0,_=>0
 |p+1,j=>if lo[p]?.map (·.ck)=Z (iW W j:Int)then p+1 else fL lo W p j
def iP(lo:av En)(W:av Wi)(p:Nat):aF aB:=((dA (pA W)).map λj=>BX .i64 ((fL lo W p j:Nat):Int)).toArray
def w7(p)(a:j<pA W):(iP lo W p)[j]? =Z (I ((fL lo W p j:Nat):Int)):=by
 rw[iP]
 grind
def aqV{j0}(h:lo[p]? =Z e)(g:j0<pA W)(hc:e.ck=(iW W j0:Int))(i:∀j,j<pA W->iW W j=iW W j0->j=j0):(iP lo W p).setIfInBounds j0 (I ((p:Int)+1))=iP lo W (p+1):=by
 apply By;intro j
 by_cases c:j<pA W
 rw[asv,w7 (p+1) c];let a:pB (iP lo W p)=pA W:=by simp[iP]
 let d:fL lo W (p+1) j=if lo[p]?.map (·.ck)=Z (iW W j:Int)then p+1 else fL lo W p j:=U
 rw[d,h];split;rename_i b
 grind
 rename_i b;rw[aI λf=>b ?_,w7 _ c]
 grind
 let a:∀p,pB (iP lo W p)=pA W:=λp=>by simp[iP]
 rw[vC (by rw[TP,a];omega),vC (by rw[a];omega)]
def p6:∀{p:Nat},0<fL lo W p j->∃q e,q+1=fL lo W p j/\q<p/\lo[q]? =Z e/\e.2=(iW W j:Int)
 |0,h=>absurd h (uD 0)
 |p+1,h=>by
  unfold fL at h⊢;split at h;rename_i a;rw[aO a];cases b:lo[p]? with
  |none=>rw[b]at a;cases a
  |some e=>rw[b]at a;exact⟨p,e,U,FA _,b,ey a⟩
  rename_i a;rw[aI a];obtain⟨q,e,a1,c,a3⟩:=p6 h;exact⟨q,e,a1,Y,a3⟩
def W9(d:∀(p q:Nat) e c,lo[p]? =Z e->lo[q]? =Z c->e.2=c.2->p=q)(h:lo[p]? =Z e)(hc:e.2=(iW W j:Int)):∀{q:Nat},p<q->fL lo W q j=p+1
 |0,h=>absurd h (rR _)
 |q+1,f=>by
  rw[fL];split;rename_i a;cases b:lo[q]? with
  |none=>rw[b]at a;cases a
  |some c=>
   rw[b]at a;have:=d p q e c h b (hc.E (ey a).y);omega
  rename_i a;refine W9 d h hc (Nat.lt_of_le_of_ne Y λb=>a ?_);rw[<-b,h,eO,hc]
def arG(d:∀(p q:Nat) e a,lo[p]? =Z e->lo[q]? =Z a->e.ck=a.ck->p=q)(h:lo[p]? =Z e)(hc:e.ck=(iW W j:Int)):fL lo W p j=0:=by
 rcases qF (fL lo W p j)with h1|h1;exact h1;obtain⟨q,a,a1,b,a3,c⟩:=p6 h1
 grind
def A0:∀{lo:av En} {p:Nat},lo[p]? =Z e->∀i,i<7->(lo.flatMap mX)[p*7+i]? =(mX e)[i]?
 |a::lo,0,h,i,b=>by cases h;rw[pH,BS bV,xX,jM]
 |a::lo,p+1,h,i,b=>by
  rw[pH,vO bV];have:=A0 (p:=p) h i b
  grind
def arv(lo W)(g:pA W<=65535)(w):(Instr.makeSlice 25 (I (pA W:Int)) (I (pA W:Int))).run ai w=.ok (ζ (Z (F w.1.size 0)) (pA W) (pA W)) (lL w (au (iP lo W 0) 3)):=by
 let hI:(ai.info? 3).map (λi=>(i.8,i.3,i.4))=Z (Z (I 0),1,8):=aW;obtain⟨f,a,b,c,d⟩:=nG hI;have h:=run_make w 25 3 f (I 0) underlying25 a b .i64 .i64 (pA W:Int) (pA W:Int) Y Y (by rw[d];omega) Y;rw[c]at h;simp at h
 let e:madeCells (BX .i64 0).cells (pA W)=iP lo W 0:=by apply Bx;rw[show(BX .i64 0).cells=#[I 0] from U,toList_madeCells_one];unfold iP fL;rw[List.map_const',asH];rfl
 rw[e]at h;exact h
structure r3(n lh:Nat)(W:av Wi)(lo:av En)(X:Nat->Nat->Nat->av ByteArray):Prop where
 dO:W.length<=65535/\lo.length<=1099511627776/\lh<=1099511627776
 nn:0<n/\n<=65536
 one:∀(i j:Nat) x a,W[i]? =Z x->W[j]? =Z a->x.ck=a.ck->i=j
 pu:∀(j:Nat) r,W[j]? =Z r->0<=r.of/\r.of<=65535/\0<=r.ln/\r.ln<=65535
 nd:∀(p q:Nat) e b,lo[p]? =Z e->lo[q]? =Z b->e.ck=b.ck->p=q
 zero:X 0=λt _=>LX t
 most:∀p t k,p<=lo.length->(X p t k).length<=lh
 step:∀(p:Nat) e,lo[p]? =Z e->∃(j q m:Nat) (r:Wi),W[j]? =Z r/\(e.no=r.u/\e.ck=r.ck/\e.kd=r.kd/\e.fl=r.fl/\e.of=r.of/\e.ln=r.ln)/\(r.of=4*(q:Int)/\r.ln=4*(m:Int)/\q+m<=n)/\(0<=r.kd/\r.kd<=4)/\(r.kd=1->r.dt.size=4*m)/\(e.er=0\/e.er=5)/\(0<=r.bk->r.er=e.er)/\(r.kd=0->e.er=0->0<=r.bk->r.tx.size=4*m/\∀i,i<m->eU r.tx i∈X p 0 (q+i))/\X (p+1)=vv (X p) n q m r e.er
 nQ:∀(j:Nat) r,W[j]? =Z r->0<=r.bk->∃(p:Nat) (e:En),lo[p]? =Z e/\e.ck=r.ck
 ord:∀(i j p q:Nat) x a e b,W[i]? =Z x->W[j]? =Z a->lo[p]? =Z e->e.ck=x.ck->lo[q]? =Z b->b.ck=a.ck->p<q->¬(0<=a.bk/\a.bk<x.at_)/\¬(j<i/\a.u=x.u/\JN x a=M)
structure bA(w:aq)(n:Nat)(W:av Wi)(lo:av En)(X:Nat->Nat->Nat->av ByteArray)(sb ab:Nat)(rv:Nat->aB)(lv:aB)(p:Nat)(wr:aq):Prop where
 low:w.1.size<=wr.1.size/\∀b,b<w.1.size->wr.1[b]? =w.1[b]?
 ql:ak wr sb rv (X p) n
 new:∀t b,t<3->(rv t).ownBlock=Z b->w.1.size<=b
 lg:mT wr 0 96 7 lv lo.length (lo.flatMap mX)
 at_:wr.1[ab]? =Z (au (iP lo W p) 3 (0,0))
 abn:w.1.size<=ab
def bA.same{wr}{rv:Nat->aB}(h:bA w n W lo X sb ab rv lv p wr)(a:wr'.1=wr.1):bA w n W lo X sb ab rv lv p wr':=
 ⟨by rw[a];exact h.1,h.2.old λb _=>by rw[a],h.3,eF h.4 λb _=>by rw[a],by rw[a];exact h.5,h.6⟩
def bA.note{wr}{rv:Nat->aB}{j0}(h:bA w n W lo X sb ab rv lv p wr)(R:∀(i j:Nat) x a,W[i]? =Z x->W[j]? =Z a->x.2=a.2->i=j)(he:lo[p]? =Z e)(f:W[j0]? =Z r)(hc:e.2=r.2):ak (kB wr (F ab j0) (I ((p:Int)+1))) sb rv (X p) n/\mT (kB wr (F ab j0) (I ((p:Int)+1))) 0 96 7 lv (pA lo) (lo.flatMap mX)/\(kB wr (F ab j0) (I ((p:Int)+1))).1[ab]? =Z (au (iP lo W (p+1)) 3 (0,0))/\∀b,b<pB w.1->(kB wr (F ab j0) (I ((p:Int)+1))).1[b]? =w.1[b]? :=by
 let mt:∀{b:Nat} {c:aF aB} {o:aY},wr.1[b]? =Z (au c o (0,0))->o≠3->(kB wr (F ab j0) (I ((p:Int)+1))).1[b]? =wr.1[b]? :=λd z=>bC (mC d h.5 z)
 let l:∀{S k m:Nat} {v:aB} {u:av aB},mT wr 0 S k v m u->S≠3->mT (kB wr (F ab j0) (I ((p:Int)+1))) 0 S k v m u:=λh hS=>eF h λb d=>by obtain⟨x,D⟩:=yW h d;exact mt D hS
 let B:=(bY.1 f).1;refine⟨⟨(mt h.2.1 aM).E h.2.1,λt C=>?_,h.2.3⟩,l h.4 aM,?_,λb d=>(bC ?_).E (h.1.2 b d)⟩;obtain⟨E,a1,q⟩:=h.2.2 t C;exact⟨E,l a1 aM,λk v hv=>⟨l (q k v hv).1 aM,(q k v hv).2⟩⟩;rw[bG h.5,aqV he B (by rw[hc];rw[iW];rw[f]) λj A g=>?_];obtain⟨a,s⟩:∃a,W[j]? =Z a:=⟨_,dj A⟩;refine R j j0 a r s f ?_;unfold iW at g;rw[s,f]at g;exact g;have:=h.6;omega
def bA.next{wr}{rv:Nat->aB}{w1}(h:bA w n W lo X sb ab rv lv p wr)(a1:(mT wr' 0 96 7 lv (pA lo) (lo.flatMap mX)))(i:wr'.heap[ab]? =Z (au (iP lo W (p+1)) 3 (0,0)))(a3:∀b,b<pB w.heap->wr'.heap[b]? =w.heap[b]?)(r:pB w.heap<=pB wr'.heap)(m:ak w1 sb rv (X (p+1)) n)(d:bn wr' rv w1)(l:ak wr' sb rv (X p) n):bA w n W lo X sb ab rv lv (p+1) w1:=by
 let mt:∀{b:Nat} {c:aF aB} {f:aY},wr'.heap[b]? =Z (au c f (0,0))->f≠79->w1.heap[b]? =wr'.heap[b]? :=λ{b c f} a o=>d.2 b (bf.1 a).1 λt g e=>by obtain⟨v,s,_⟩:=l.row t g;obtain⟨u,k⟩:=yW s e;rw[a]at k;cases k;exact o U
 refine⟨⟨cM r d.1,λb a=>(d.2 b Y λt g e=>?_).E (a3 b a)⟩,m,h.new,eF a1 λb a=>?_,(mt i aM).E i,h.abn⟩;have:=h.new t b g e;omega;obtain⟨c,q⟩:=yW a1 a;exact mt q aM
def bA.Jy{wr cb xb}{rv:Nat->aB}{m:Cm}{oa}(h:bA w n c.W lo X sb ab rv lv p wr)(T:bz w g cb xb f c L m)(ev:m.2=ζ oa N kh)(e:c.W[j]? =Z r):∃b q,oa=Z ⟨b,0,aj⟩/\kD wr (F b j)=Z (jp q)/\wr.1[q]? =Z (au (mI r) 53 (0,0))/\q<pB w.1:=by
 obtain⟨b,o,q,i,_,d,k⟩:=(T.old h.1.2).spot e;obtain⟨x,t,u,_⟩:=T.Jy e;rw[ev]at i;cases i;refine⟨b,q,U,d,k,?_⟩;obtain⟨v,s,z,f1,f2,f3,f4⟩:=T.spot e;rw[ev]at f1;cases f1
 let l:b<pB w.1:=by refine jJ T.4 b ?_;rw[ev];rfl
 have:=iO (a:=F b j) (h.1.2 b l);rw[this,f3]at d;cases d;exact(bf.1 f4).1
def bA.head{wr cb xb}{rv:Nat->aB}{m:Cm}{oa}(h:bA w n c.W lo X sb ab rv lv p wr)(T:bz w g cb xb f c L m)(ev:m.2=ζ oa N kh):kD wr (F cb 11)=Z (ζ oa N kh):=by rw[<-ev];exact aD (T.old h.1.2).2 U
def bA.ent{wr}{rv:Nat->aB}{la l lc}(h:bA w n c.W lo X sb ab rv (ζ la l lc) p wr)(he:lo[p]? =Z e):∃a,la=Z ⟨a,0,aj⟩/\kD wr (F a (p*7))=Z (I e.1)/\kD wr (F a (p*7+1))=Z (I e.2)/\kD wr (F a (p*7+2))=Z (I e.3)/\kD wr (F a (p*7+3))=Z (I e.4)/\kD wr (F a (p*7+4))=Z (I e.5)/\kD wr (F a (p*7+5))=Z (I e.6)/\kD wr (F a (p*7+6))=Z (I e.7):=by let j:=(bY.1 he).1;obtain⟨a,i,d,b⟩:=yV h.4 Y;cases d;let k:=A0 he;exact⟨a,U,b _ _ (k 0 Y),b _ _ (k 1 Y),b _ _ (k 2 Y),b _ _ (k 3 Y),b _ _ (k 4 Y),b _ _ (k 5 Y),b _ _ (k 6 Y)⟩
def bA.place{wr}{rv:Nat->aB}(h:bA w n c.W lo X sb ab rv lv p wr)(a:j<pA c.W):kD wr (F ab j)=Z (I ((fL lo c.W p j:Nat):Int)):=aD h.5 (w7 _ a)
def arE(w:aq)(n:Nat)(a:Nat->Nat->av ByteArray)(e:jA)(w':aq):Prop:=∃sb rv,e=aG (jp sb)/\ak w' sb rv a n/\pB w.heap<=pB w'.heap/\∀b,b<pB w.heap->w'.heap[b]? =w.heap[b]?
def arw(cb xb:Nat)(g:Cf)(f:Fx)(c:Cw)(L:cZ)(m:Cm)(w:aq)(h:bz w g cb xb f c L m)(n lh:Nat)(X:Nat->Nat->Nat->av ByteArray)(hn:g.1=4*(n:Int))(R:r3 n lh c.W f.rh X):
  ax ai 18 #[jp cb] w (arE w n (X (pA f.rh))):=by
 have HN:bc (ax ai 49 #[I g.1] w (Ys n w)):=by rw[hn];exact aqC n w R.2.2
 have G:bc (bz w g cb xb f c L m):=h;have H:bc (r3 n lh c.W f.rh X):=R;have c0:=aJ w cb 0 (I g.1) h.2;obtain⟨oa,bG,ev⟩:=gP h.4;have O:bc (m.2=ζ oa (pA c.W) bG):=ev;have hN:pA c.W<=65535:=R.1.1;have iD:pA f.rh<=1099511627776:=R.1.2.1;clear h R ev hn;go_enter func18,ntmps18
 go_upto_region 2 with(go_at_call 49;refine HN.H.V ?_;rintro e w1 ⟨sb,rv,rfl,S1⟩)
 have T1:bz w1 g cb xb f c L m:=G.H.old S1.5.2;have gX:=aJ w1 cb 9 (jp xb) T1.2;have HL:bc (ax ai 50 #[jp xb] w1 (p8 96 7 (pA f.rh) (f.rh.flatMap mX) w1)):=aru xb f L w1 T1.1 H.H.1.2.1;have aT:=Dv S1;clear S1 T1
 go_upto_region 3 with(go_at_call 50;refine HL.H.V ?_;rintro e w2 ⟨lv,rfl,l1,l2,l3⟩)
 have o7:pB w.1<=pB w2.1/\∀b,b<pB w.1->w2.1[b]? =w.1[b]? :=⟨cM aT.H.5.1 l2.4,λb B=>(l2.5 b (cS B aT.H.5.1)).E (aT.H.5.2 b B)⟩;have ZA:kD w2 (F cb 11)=Z (ζ oa (pA c.W) bG):=by rw[<-O.H];exact aD (G.H.old o7.2).2 U
 have hM:=arv f.rh c.W hN;obtain⟨T,lc,e5⟩:=gP l1;subst e5
 have H0:bc (bA w n c.W f.rh X sb w2.1.size rv (ζ T (pA f.rh) lc) 0 (lL w2 (au (iP f.rh c.W 0) 3))):=by have B:=(asy w2.1.size w2).alloc (aR _) (au (iP f.rh c.W 0) 3);refine⟨⟨cM o7.1 B.4,λb D=>(B.5 b Y).E (o7.2 b D)⟩,?_,aT.H.4.2,eF l1 λb e=>B.5 b (jJ l1 b e),asr w2 _,o7.1⟩;rw[H.H.6];exact(aT.H.ql.old λb D=>l2.5 b D).old λb D=>B.5 b D
 clear l1 l2 l3 o7 aT
 go_upto_region 4 with fail
 generalize lL w2 (au (iP f.rh c.W 0) 3)=w3 at*;generalize pB w2.1=ab at*;clear ZA hM;generalize fH:pA c.W=N at*;generalize cT:pA f.rh=d at*;go_wp2
 go_loopw [6] (λiv wr=>∃p:Nat,p<=d/\iv=I p/\bc (bA w n c.W f.rh X sb ab rv (ζ T d lc) p wr)) (λiv _=>d-pD (dw iv))
 case atStart=>exact⟨0,cO _,U,H0⟩
 case round=>
  obtain⟨p,hp,rfl,HX⟩:=hrel
  by_cases iK:p<d
  ·have uo:(p:Int)<(d:Int):=Y;have iS:0<=(p:Int)/\(p:Int)<(d:Int):=Y;obtain⟨e,he⟩:∃e,f.rh[p]? =Z e:=⟨_,dj Y⟩;obtain⟨o,q0,m0,r,s1,⟨t0,t1,t2,t3,t4,t5⟩,s3,s4,s5,s6,s7,s8,s9⟩:=H.H.8 p e he;have gb:o<N:=by rw[<-fH];exact(bY.1 s1).1
   have HP:bc (f.rh[p]? =Z e/\c.W[o]? =Z r/\(r.5=4*(q0:Int)/\r.6=4*(m0:Int)/\q0+m0<=n)/\(0<=r.3/\r.3<=4)/\(r.3=1->pC r.7=4*m0)/\(e.7=0\/e.7=5)/\(0<=r.9->r.er=e.7)/\(r.3=0->e.7=0->0<=r.9->pC r.tx=4*m0/\∀i,i<m0->eU r.tx i∈X p 0 (q0+i))/\X (p+1)=vv (X p) n q0 m0 r e.7):=⟨he,s1,s3,s4,s5,s6,s7,s8,s9⟩;obtain⟨C,el,-⟩:=HX.H.ent he;subst el;clear he s1 s3 s4 s5 s6 s7 s8 s9;go_wp2
   go_loopw [7,8] (λkv aQ bN=>∃j:Nat,j<=N/\aQ=I j/\kv=I (if o<j then(o:Int)else -1)/\bc (bA w n c.W f.rh X sb ab rv (ζ (Z (F C 0)) d lc) p bN)) (λ_ aQ _=>N-pD (dw aQ))
   case atStart=>exact⟨0,cO _,U,U,HX⟩
   case round=>as_aux_lemma=>
    obtain⟨j,hj,rfl,rfl,P⟩:=hrel;have ZA:=P.H.head G.H O.H;obtain⟨jc,el,k0,k1,k2,k3,k4,k5,k6⟩:=P.H.ent HP.H.1;cases el
    by_cases gh:j<N
    ·have gd:(j:Int)<(N:Int):=Y;have cX:0<=(j:Int)/\(j:Int)<(N:Int):=Y;obtain⟨x,D⟩:∃x,c.W[j]? =Z x:=⟨_,dj Y⟩;obtain⟨Q,qx,eo,cj,bx,-⟩:=P.H.Jy G.H O.H D;subst eo;have x0:=aJ wr qx 0 (I (x.u:Nat)) bx;have x1:=aJ wr qx 1 (I (x.2:Nat)) bx;have eL:bc (∀k,bA w n c.W f.rh X sb ab rv (ζ (Z (F C 0)) d lc) p (wr.drewN k)):=λk=>P.H.same U
     have hm:j=o↔((x.u:Nat):Int)=e.1/\((x.2:Nat):Int)=e.2:=by constructor;rintro rfl;have:=HP.H.2.1;rw[D]at this;cases this;omega;rintro⟨h1,h2⟩;exact H.H.3 j o x r D HP.H.2.1 Y
     clear D bx k2 k3 k4 k5 k6 t0 t1 t2 t3 t4 t5;generalize cz:(if o<j then(o:Int)else -1)=kz at*;have c6:(if o<j+1 then(o:Int)else -1)=if j=o then(j:Int)else kz:=by grind
     simp only[hm]at c6
     cases g0:decide (((x.u:Nat):Int)=e.1)<;>cases g1:decide (((x.2:Nat):Int)=e.2)<;>(
      have g2:(((x.u:Nat):Int)==e.1)=_:=g0;have g3:(((x.2:Nat):Int)==e.2)=_:=g1
      go_upto_region 11 with fail
      go_quiet (fail)
      go_wp2;exact⟨⟨j+1,Y,by go_num,by rw[c6];simp_all,eL.H _⟩,by simp[dw];omega⟩)
    have gd:¬(j:Int)<(N:Int):=Y;have cz:(if o<j then(o:Int)else -1)=(o:Int):=aO Y;rw[cz];clear cz;have MU:¬(o:Int)<0:=Y;have iJ:0<=(o:Int)/\(o:Int)<(N:Int):=Y
    have fO:kD wr (F ab o)=Z (I 0):=by have:=P.H.place (j:=o) Y;rw[arG H.H.5 HP.H.1 (by rw[t1];unfold iW;rw[HP.H.2.1])]at this;exact this
    have fR:wr.frozen? (F ab o)=aa:=bp P.H.5 _;obtain⟨Q,qr,eo,cj,br,iT⟩:=P.H.Jy G.H O.H HP.H.2.1;subst eo;obtain⟨y1,y2,y3,y4⟩:=P.H.note H.H.3 HP.H.1 HP.H.2.1 t1;have iV:nt cJ ((p:Int)+1)=(p:Int)+1:=dI Y Y;have b1:(kB wr (F ab o) (I ((p:Int)+1))).1[qr]? =Z (au (mI r) 53 (0,0)):=(bC (by have:=P.H.6;omega)).E br;have dh:pB (kB wr (F ab o) (I ((p:Int)+1))).1=pB wr.1:=ay
    go_upto_region 16 with fail
    generalize kB wr (F ab o) (I ((p:Int)+1))=V at*;have J:bc (ak V sb rv (X p) n/\mT V 0 96 7 (ζ (Z (F C 0)) d lc) (pA f.rh) (f.rh.flatMap mX)/\V.1[ab]? =Z (au (iP f.rh c.W (p+1)) 3 (0,0))/\(∀b,b<pB w.1->V.1[b]? =w.1[b]?)/\pB w.1<=pB V.1):=⟨y1,y2,y3,y4,by rw[dh];exact P.H.1.1⟩
    have HD:bc (ax ai 51 #[jp sb,jp qr,ν (iX ⟨e.1,e.2,r.3,r.4,r.5,r.6,e.7,[]⟩)] V.drew (λe' E=>e'=aG (ω M)/\bA w n c.W f.rh X sb ab rv (ζ (Z (F C 0)) d lc) (p+1) E)):=by obtain⟨_,h2,h3,h4,h5,h6,h7,h8,h9⟩:=HP.H;refine(aqX sb qr n q0 m0 lh rv (X p) r e.1 e.2 e.7 V.drew (y1.old λ_ _=>U) b1 h3.1 h3.2.1 h3.2.2 H.H.2.2 H.H.2.1 h4 h5 h6 h7 h8 (λt k=>H.H.7 p t k Y) H.H.1.2.2 λt ht e2=>?_).V ?_;have:=P.H.3 t qr ht e2;omega;rintro e' E ⟨rfl,d1,d2⟩;rw[<-h9]at d1;exact⟨U,P.H.next (wr':=V) J.H.2.1 J.H.2.2.1 J.H.2.2.2.1 J.H.2.2.2.2 d1 ⟨d2.1,d2.2⟩ J.H.1⟩
    have fP:cb<pB w.1:=(bf.1 G.H.2).1
    have fT:Q<pB w.1:=by refine jJ G.H.4 Q ?_;rw[O.H];rfl
    have RC:bc (∀l:aq,(∀b,b<pB w.1->l.1[b]? =w.1[b]?)->mT l 0 96 7 (ζ (Z (F C 0)) d lc) (pA f.rh) (f.rh.flatMap mX)->kD l (F cb 11)=Z (ζ (Z (F Q 0)) N bG)/\kD l (F Q o)=Z (jp qr)/\(kD l (F C (p*7))=Z (I e.1)/\kD l (F C (p*7+1))=Z (I e.2)/\kD l (F C (p*7+2))=Z (I r.3)/\kD l (F C (p*7+3))=Z (I r.4)/\kD l (F C (p*7+4))=Z (I r.5)/\kD l (F C (p*7+5))=Z (I r.6)/\kD l (F C (p*7+6))=Z (I e.7))):=λl h1 h2=>by have hw:=λb B=>(h1 b B).E (P.H.1.2 b B).y;refine⟨(iO (a:=F cb 11) (hw cb fP)).E ZA,(iO (a:=F Q o) (hw Q fT)).E cj,?_⟩;obtain⟨jd,hJ,e1,hc⟩:=yV h2 Y;cases e1;have k:=A0 HP.H.1;rw[<-t2,<-t3,<-t4,<-t5];exact⟨hc _ _ (k 0 Y),hc _ _ (k 1 Y),hc _ _ (k 2 Y),hc _ _ (k 3 Y),hc _ _ (k 4 Y),hc _ _ (k 5 Y),hc _ _ (k 6 Y)⟩
    have S0:=RC.H V J.H.2.2.2.1 J.H.2.1;clear y1 y2 y3 y4 b1 br k0 k1 k2 k3 k4 k5 k6 cj ZA fO fR dh t0 t1 t2 t3 t4 t5;refine ga (S:=λl=>kD l (F cb 11)=Z (ζ (Z (F Q 0)) N bG)/\kD l (F Q o)=Z (jp qr)/\(kD l (F C (p*7))=Z (I e.1)/\kD l (F C (p*7+1))=Z (I e.2)/\kD l (F C (p*7+2))=Z (I r.3)/\kD l (F C (p*7+3))=Z (I r.4)/\kD l (F C (p*7+4))=Z (I r.5)/\kD l (F C (p*7+5))=Z (I r.6)/\kD l (F C (p*7+6))=Z (I e.7))) S0 λiC=>?_;apply tl [0,1,2,3,4,5,6,7];apply tl [8,9,10,11];refine rH 12 λK hK=>?_;go_simp;go_at_call 51;refine HD.H.V ?_;rintro e' w5 ⟨rfl,h5⟩;have H5:=Dv h5;refine hK.H _ _ (RC.H w5 h5.1.2 h5.4) (λhH=>?_);clear hK K h5;apply tl [13];refine dJ ?_;go_wp2
    go_roundw
    case rel=>exact⟨p+1,Y,by go_num,H5⟩
    case measure=>simp[dw];omega
  have uo:¬(p:Int)<(d:Int):=Y;have gl:p=d:=Y;rw[gl]at HX;go_wp2
  go_loopw [10] (λiv bN=>∃i:Nat,i<=N/\iv=I i/\bc (bA w n c.W f.rh X sb ab rv (ζ T d lc) d bN)) (λiv _=>N-pD (dw iv))
  case atStart=>exact⟨0,cO _,U,HX⟩
  case round=>as_aux_lemma=>
   obtain⟨i,hi,rfl,J⟩:=hrel;have ZA:=J.H.head G.H O.H
   by_cases iH:i<N
   ·have fW:(i:Int)<(N:Int):=Y;have iG:0<=(i:Int)/\(i:Int)<(N:Int):=Y;obtain⟨x,D⟩:∃x,c.W[i]? =Z x:=⟨_,dj Y⟩;obtain⟨Q,qx,eo,ci,bx,-⟩:=J.H.Jy G.H O.H D;subst eo;have gO:=aJ wr qx 8 (I x.9) bx;have pa:=J.H.place (j:=i) Y;generalize hA:((fL f.rh c.W d i:Nat):Int)=A at pa
    have r5:0<=x.9->¬A=0:=λB=>by obtain⟨q,e,h1,h2⟩:=H.H.9 i x D B;have:=W9 H.H.5 (j:=i) (W:=c.W) h1 (by rw[h2];unfold iW;rw[D]) (q:=d) (by rw[<-cT];exact(bY.1 h1).1);omega
    have bq:bc (c.W[i]? =Z x):=D;clear D bx
    go_upto_region 22 with fail
    go_cut [138] from 112 to 248 (λv E=>v=ω aa/\E=wr)
    case first=>as_aux_lemma=>
     by_cases B:0<=x.9
     ·have fV:x.9≥0:=B;have fC:=r5 B;clear r5 B;go_wp2
      go_meet
      case rel=>exact⟨by simp[fC],U⟩
     have fV:¬x.9≥0:=B;clear r5 B;go_wp2
     go_meet
     case rel=>exact⟨U,U⟩
    case rest=>
     obtain⟨rfl,rfl⟩:=hcut;clear r5 gO pa ci ZA;go_wp2
     go_loopw [11] (λaQ bN=>∃j:Nat,j<=N/\aQ=I j/\bc (bA w n c.W f.rh X sb ab rv (ζ T d lc) d bN)) (λaQ _=>N-pD (dw aQ))
     case atStart=>exact⟨0,cO _,U,J⟩
     case round=>as_aux_lemma=>
      obtain⟨j,hj,rfl,HZ⟩:=hrel;have ZA:=HZ.H.head G.H O.H
      by_cases gh:j<N
      ·have cX:(j:Int)<(N:Int):=Y;have gb:0<=(j:Int)/\(j:Int)<(N:Int):=Y;obtain⟨s,hy⟩:∃s,c.W[j]? =Z s:=⟨_,dj Y⟩;obtain⟨hO,qy,eo,-,-,-⟩:=HZ.H.Jy G.H O.H hy;cases eo;obtain⟨ia,jm,eo,eW,-,gm⟩:=HZ.H.Jy G.H O.H bq.H;cases eo
       have RL:bc (∀l:aq,bA w n c.W f.rh X sb ab rv (ζ T d lc) d l->∃qx qy:Nat,kD l (F cb 11)=Z (ζ (Z (F Q 0)) N bG)/\(kD l (F Q i)=Z (jp qx)/\kD l (F Q j)=Z (jp qy))/\(kD l (F ab i)=Z (I ((fL f.rh c.W d i:Nat):Int))/\kD l (F ab j)=Z (I ((fL f.rh c.W d j:Nat):Int)))/\(kD l (F qx 0)=Z (I (x.u:Nat))/\kD l (F qx 7)=Z (I x.8))/\(kD l (F qy 0)=Z (I (s.u:Nat))/\kD l (F qy 8)=Z (I s.9))/\l.1[qx]? =Z (au (mI x) 53 (0,0))/\l.1[qy]? =Z (au (mI s) 53 (0,0))):=λl h=>by obtain⟨_,q1,e1,c1,b1,_⟩:=h.Jy G.H O.H bq.H;cases e1;obtain⟨_,q2,e2,c2,b2,_⟩:=h.Jy G.H O.H hy;cases e2;exact⟨q1,q2,h.head G.H O.H,⟨c1,c2⟩,⟨h.place Y,h.place Y⟩,⟨aD b1 U,aD b1 U⟩,⟨aD b2 U,aD b2 U⟩,b1,b2⟩
       have c9:=H.H.4 i x bq.H;have dc:=H.H.4 j s hy
       have c8:(decide (0<fL f.rh c.W d i)&&decide (fL f.rh c.W d i<fL f.rh c.W d j))=M->(decide (s.9≥0)&&decide (s.9<x.8))=aa/\(decide (j<i)&&(decide (s.u=x.u)&&JN x s))=aa:=λhl=>by
        simp only[cQ,tB]at hl;obtain⟨p1,e1,h1,h2,h3,h4⟩:=p6 hl.1;obtain⟨p2,e2,h5,h6,h7,h8⟩:=p6 (lo:=f.rh) (W:=c.W) (j:=j) (p:=d) Y;have E4:iW c.W i=x.2:=by unfold iW;rw[bq.H]
        have gu:iW c.W j=s.2:=by unfold iW;rw[hy]
        rw[E4]at h4;rw[gu]at h8;obtain⟨o1,o2⟩:=H.H.10 i j p1 p2 x s e1 e2 bq.H hy h3 h4 h7 h8 Y;refine⟨EH.2 λh=>o1 ?_,EH.2 λh=>o2 ?_⟩;simp only[cQ,tB]at h;exact h;simp only[cQ,tB]at h;exact h
       clear hy eW gm;obtain⟨Z1,cV⟩:∃z:Int,((fL f.rh c.W d i:Nat):Int)=z:=⟨_,U⟩;obtain⟨Z2,cW⟩:∃z:Int,((fL f.rh c.W d j:Nat):Int)=z:=⟨_,U⟩;obtain⟨U1,cv⟩:∃z:Int,((x.u:Nat):Int)=z:=⟨_,U⟩;obtain⟨U2,cw⟩:∃z:Int,((s.u:Nat):Int)=z:=⟨_,U⟩;obtain⟨V,hV⟩:∃v,JN x s=v:=⟨_,U⟩
       have gk:(decide (Z1>0)&&decide (Z1<Z2))=M->(decide (s.9≥0)&&decide (s.9<x.8))=aa/\(decide (j<i)&&(decide (U2=U1)&&V))=aa:=λhl=>by rw[<-cv,<-cw,<-hV,show decide (((s.u:Nat):Int)=((x.u:Nat):Int))=decide (s.u=x.u) from decide_eq_decide.2 Y];refine c8 ?_;simp only[cQ,tB]at hl⊢;omega
       rw[cV,cW,cv,cw]at RL
       have HT:bc (∀(l:aq) (k a b:Nat),l.1[a]? =Z (au (mI x) 53 (0,0))->l.1[b]? =Z (au (mI s) 53 (0,0))->ax ai 52 #[jp a,jp b] (l.drewN k) λe E=>e=aG (ω V)/\∃m,E=(l.drewN k).drewN m):=λl k a b ha B=>by rw[<-hV];exact aqS a b x s (l.drewN k) ha B c9 dc
       clear c8 cV cW cv cw hV c9 dc;obtain⟨q1,q2,-,⟨-,-⟩,⟨a1,a2⟩,-⟩:=RL.H _ HZ.H;have zf:bc (∀k,bA w n c.W f.rh X sb ab rv (ζ T d lc) d (wr.drewN k)):=λk=>HZ.H.same U
       go_upto_region 27 with fail
       go_cut [12] from 139 to 248 (λv E=>v=ω (decide (Z1>0)&&decide (Z1<Z2))/\bc (bA w n c.W f.rh X sb ab rv (ζ T d lc) d E))
       case first=>as_aux_lemma=>
        cases g1:decide (Z1>0)<;>(
         go_quiet (fail)
         go_wp2
         go_meet
         exact⟨by simp[g1],zf.H _⟩)
       case rest=>
        obtain⟨rfl,bV⟩:=hcut;clear a1 a2 zf;obtain⟨q3,q4,d11,⟨di,e4⟩,-,⟨-,d7⟩,⟨-,d8⟩,-⟩:=RL.H _ bV.H;have zf:bc (∀k,bA w n c.W f.rh X sb ab rv (ζ T d lc) d (wc.drewN k)):=λk=>bV.H.same U;generalize iq:(decide (Z1>0)&&decide (Z1<Z2))=B1 at*
        go_upto_region 28 with fail
        go_cut [13] from 139 to 248 (λv E=>v=ω (decide (s.9≥0)&&decide (s.9<x.8))/\bc (bA w n c.W f.rh X sb ab rv (ζ T d lc) d E))
        case first=>as_aux_lemma=>
         cases g1:decide (s.9≥0)<;>(
          go_quiet (fail)
          go_wp2
          go_meet
          exact⟨by simp[g1],zf.H _⟩)
        case rest=>
         obtain⟨rfl,bW⟩:=hcut;clear d11 di e4 d7 d8 zf bV;generalize MH:(decide (s.9≥0)&&decide (s.9<x.8))=B2 at*;obtain⟨q5,q6,f11,⟨fi,fj⟩,-,-,-,fx,cL⟩:=RL.H _ bW.H;have zf:bc (∀k,bA w n c.W f.rh X sb ab rv (ζ T d lc) d (wc.drewN k)):=λk=>bW.H.same U;have cC:bc (∀k,ax ai 52 #[jp q5,jp q6] (wc.drewN k) λe E=>e=aG (ω V)/\∃m,E=(wc.drewN k).drewN m):=λk=>HT.H wc k q5 q6 fx cL;clear fx cL
         go_upto_region 29 with fail
         go_cut [14] from 139 to 248 (λv E=>v=ω V/\bc (bA w n c.W f.rh X sb ab rv (ζ T d lc) d E))
         case first=>as_aux_lemma=>
          go_quiet ((go_at_call 52;exact ax.quiet_of (cC.H _)))
          go_wp2
          go_meet
          case rel=>exact⟨U,zf.H _⟩
         case rest=>
          obtain⟨rfl,bX⟩:=hcut;clear f11 fi fj cC zf bW;obtain⟨q7,q8,e9,⟨fq,gj⟩,-,⟨g0,-⟩,⟨g8,-⟩,-⟩:=RL.H _ bX.H;have zf:bc (∀k,bA w n c.W f.rh X sb ab rv (ζ T d lc) d (wc.drewN k)):=λk=>bX.H.same U
          go_upto_region 30 with fail
          go_cut [15] from 139 to 248 (λv E=>v=ω (decide (j<i)&&(decide (U2=U1)&&V))/\bc (bA w n c.W f.rh X sb ab rv (ζ T d lc) d E))
          case first=>as_aux_lemma=>
           cases g1:decide (j<i)<;>cases g2:decide (U2=U1)<;>(
            have g3:(U2==U1)=_:=g2
            go_quiet (fail)
            go_wp2
            go_meet
            exact⟨by simp[g1,g2],zf.H _⟩)
          case rest=>
           obtain⟨rfl,cD⟩:=hcut;clear e9 fq gj g0 g8 zf bX;generalize ir:(decide (j<i)&&(decide (U2=U1)&&V))=B3 at*;cases B1
           ·go_wp2
            go_roundw
            case rel=>exact⟨j+1,Y,by go_num,cD⟩
            case measure=>simp[dw];omega
           obtain⟨z1,z2⟩:=gk U;subst z1 z2;go_wp2
           go_roundw
           case rel=>exact⟨j+1,Y,by go_num,cD⟩
           case measure=>simp[dw];omega
      have cX:¬(j:Int)<(N:Int):=Y;go_wp2
      go_roundw
      case rel=>exact⟨i+1,Y,by go_num,HZ⟩
      case measure=>simp[dw];omega
   have fW:¬(i:Int)<(N:Int):=Y;go_wp2;go_ret;exact⟨sb,rv,U,cT▸J.H.2,J.H.1⟩
section
variable [an] {P:Program} {l:av aZ} {Q:Exit->Act->aq->Prop} {a:Act} {u:aq} {jt:aF Oper} {i n:Nat} {kj:av Nat} {Lf:aZ->av Nat} {f0:aZ} {L:av (Nat×aB)} {ty:aY} {ps:String} {af:aF Edge} {gd:aV (Nat×Bool)}
def FX.sj{c:Code}(J:Act->aq->Prop)(b:FX Lf f0 P (kv c) (Exit.then J Q) a u)(d:∀a u,J a u->FX Lf f0 P (dg c) Q a u)(hc:XQ c=M:=by kernel_rfl):FX Lf f0 P c Q a u:=
 FX.sq (b.V λe a u h=>by cases e<;>first|exact d a u h|exact h) hc
def FE.l1{d:Nat}{v:aB}{ad:Addr}(E:Fa n a L)(B:kD u ad=Z v)(c:∀b,iD a b d v->Fa n b ((d,v)::L)->FO Lf f0 P jt Q kj b u)(f:jt[i]? =Z ⟨Z d,.load t (.tmp k),ty,ps,af,gd⟩:=by rfl) (m:lk L k=Z (π (Z ad)):=by rfl) (g:(iu jt L gd&&iH jt n gd)=M:=by rfl) (hc:mE (Lf f0) n d L (.load t (.tmp k))=M:=by rfl)
  (hr:∀w:aq,kD w ad=Z v->(execOp (gS L) ⟨Z d,.load t (.tmp k),ty,ps,af,gd⟩).run P w=.ok (.value v) w:=by(intro w j;go_simp)) (e:vb P l:=by assumption):FO Lf f0 P jt Q (i::kj) a u:=
 FE.ow E c f g U hc (λh=>hr _ (show(u.tp h).cell? ad=_ from B)) e
end
section
attribute [local go_sem] cz cE Dj Dl vB
open Go.ConcR (Payload)
section
variable [an] {Q:Exit->Act->aq->Prop} {a:Act} {u:aq} {jt:aF Oper} {i n d k:Nat} {kj:av Nat} {Lf:aZ->av Nat} {f0:aZ} {L:av (Nat×aB)} {ty:aY} {ps:String} {af:aF Edge} {gd:aV (Nat×Bool)}
end
section
variable [an] [oM] {l:av aZ} {u:aq} {g:Cf} {cb xb:Nat} {t:Nat} {aqd:Nat->Fx->Cw->Prop} {sa:aV Addr} {ls cs:Nat} {ps:av Nat}
end
end
def Wi.Good.acc(h:r.Good g):ta r.msg=M:=by have:=h.1;simp[ta];omega
def aaY{us}(h:s.1.1=[]):first g.1 g.4 2 us s=(.zero,0):=by
 let a:pC s=0:=by show pB s.1=0;rw[<-lQ,h];rfl
 show mH g.1 g.4 us s=_;rw[mH];rw[aO Y]
def pg(W:av Wi)(j:Nat):bh:=match W[j]? with
 |some r=>r.msg
 |none=>bh.zero
def rz(W:av Wi)(j:Nat):av UInt8:=match W[j]? with
 |some r=>r.dV.1.1
 |none=>[]
def UQ(lo:av En)(ck:Int)(e:UInt8)(x:av UInt8):Prop:=∃a∈lo,a.2=ck/\a.7=(e.toNat:Int)/\a.8=x
structure cK(g:Cf)(W:av Wi)(i:Nat)(lg:av En)(jr:av Rq)(k:Ck)(un wq wf:av Nat)(ts:av Tk):Prop where
 ph:k.ph=2\/k.ph=0/\wq=[]/\wf=[]/\ts=[]
 aN:k.aN.data.toList=(if k.ph=0 then gm.data.toList else[])++un.flatMap (rz W)
 q:k.q.map (·.m)=wq.map (pg W)
 fl:jr.map (·.m)=wf.map (pg W)
 H:k.H.data.toList=ts.flatMap (iY W)
 tk:∀t∈ts,mU i W t
 nd:(un++wq++wf++ts.filterMap Tk.no).Nodup
 ok:∀j∈un++wq++wf++ts.filterMap Tk.no,∃r,W[j]? =Z r/\r.u=i/\r.Good g
 us:∀j∈un,(iW W j:Int)∉k.us
 lo:∀x∈k.us,∃(j:Nat) (a:Wi),W[j]? =Z a/\a.u=i/\(a.ck:Int)=x
 all:∀(j:Nat) r,W[j]? =Z r->r.u=i->r.bk= -1->j∈un++wq++wf++ts.filterMap Tk.no
 inc:(wq++un).Pairwise (·<·)
 seg:∀(j:Nat) r,W[j]? =Z r->r.u=i->j∉wq++un->∀b∈wq++un,j<b
 nl:∀j∈wq++un,∀e∈lg,e.ck≠(iW W j:Int)
 tq:∀j e x,(.inr (j,e,x):Tk)∈ts->UQ lg (iW W j) e x
def wO(g:Cf)(W:av Wi)(i:Nat)(lo:av En)(jr:av Rq)(k:Ck):Prop:=∃un wq wf ts,cK g W i lo jr k un wq wf ts
def Dn{a e:Type}{l:av a}{f f':a->av e}(h:∀x∈l,f x=f' x):l.flatMap f=l.flatMap f':=by
 induction l with
 |nil=>rfl
 |cons x l c=>rw[pH,pH,h x fJ,c λd b=>h d (gC _ b)]
def Da(h:W[j]? =Z r)(x:Wi):(W++[x])[j]? =Z r:=by grind
structure Alike(W W':av Wi)(j:Nat):Prop where
 msg:pg W' j=pg W j
 dV:rz W' j=rz W j
 ck:iW W' j=iW W j
def LF(h:W[j]? =Z r)(a:W'[j]? =Z r):Alike W W' j:=by refine⟨?_,?_,?_⟩;unfold pg;rw[h,a];unfold rz;rw[h,a];unfold iW;rw[h,a]
def Tw{t}(h:∀j,t.no=Z j->Alike W W' j):iY W' t=iY W t:=by
 match t with
 |.inl b=>rfl
 |.inr (j,e,x)=>show 82::e::(cu (iW W' j)++x)=82::e::(cu (iW W j)++x);rw[(h j U).3]
variable{k:Ck}{t:av UInt8}{X:Nat->Nat->av ByteArray}
def cK.ri{jr:av Rq}(h:cK g W i lo jr k un wq wf ts)(o:∀(j:Nat) r,W[j]? =Z r->r.u=i->W'[j]? =Z r)(z:∀(j:Nat) r,W'[j]? =Z r->r.u=i->r.9= -1->W[j]? =Z r)(A:∀(j:Nat) r,W'[j]? =Z r->r.u=i->∃f,W[j]? =Z f/\f.u=i):cK g W' i lo jr k un wq wf ts:=by
 let m:∀j∈un++wq++wf++ts.filterMap Tk.no,Alike W W' j:=λj a=>by obtain⟨r,c,d,l⟩:=h.8 j a;exact LF c (o j r c d)
 let m1:∀j∈un,Alike W W' j:=λj a=>m j (by simp[a]);let m2:∀j∈wq,Alike W W' j:=λj a=>m j (by simp[a]);let C:∀j∈wf,Alike W W' j:=λj a=>m j (by simp[a]);let v:∀t∈ts,∀j,t.no=Z j->Alike W W' j:=λt n j a=>m j (Kq _ (sX.2 ⟨t,n,a⟩));refine⟨h.1,?_,?_,?_,?_,λt n=>?_,h.7,λj a=>?_,λj a=>?_,λx B=>?_,λj r a p s=>h.11 j r (z j r a p s) p s,h.12,λj r a p=>?_,λj a e w=>?_,λj e x hm=>?_⟩;rw[h.2]
 congr 1
 exact Dn λj a=>(m1 j a).2.y;rw[h.q];exact rN λj a=>(m2 j a).1.y;rw[h.4];exact rN λj a=>(C j a).1.y;rw[h.H];exact Dn λt n=>(Tw (v t n)).y;have:=h.6 t n
 match t,this with
 |.inl b,c=>exact c
 |.inr (j,e,x),⟨r,c,d,l⟩=>exact⟨r,o j r c d,d,l⟩
 obtain⟨r,c,d,l⟩:=h.8 j a;exact⟨r,o j r c d,d,l⟩;rw[(m1 j a).3];exact h.9 j a;obtain⟨j,f,c,d,l⟩:=h.lo x B;exact⟨j,f,o j f c d,d,l⟩;obtain⟨f,c,d⟩:=A j r a p;exact h.13 j f c d;rw[(m j (by obtain h|h:=jg.1 a<;>simp[h])).3];exact h.nl j a e w;rw[(v _ hm j U).3];exact h.tq j e x hm
def cK.rh{lo':av En}{jr:av Rq}(h:cK g W i lo jr k un wq wf ts)(f:∀e∈lo,e∈lo')(l:∀e∈lo',e∈lo\/∀j∈wq++un,e.ck≠(iW W j:Int)):cK g W i lo' jr k un wq wf ts:=
 ⟨h.ph,h.aN,h.q,h.fl,h.H,h.tk,h.nd,h.ok,h.us,h.lo,h.all,h.inc,h.seg,λj d e m=>(l e m).e (h.nl j d e) λh=>h j d,λj e x hm=>by obtain⟨c,a,b⟩:=h.tq j e x hm;exact⟨c,f c a,b⟩⟩
def cK.other{jr:av Rq}(h:cK g W i lo jr k un wq wf ts)(hr:r.u≠i):cK g (W++[r]) i lo jr k un wq wf ts:=
 h.ri (λj x a _=>Da a r) (λj x a b _=>by
  rw[zH]at a;split at a;exact a
  ·have:=jC a;rw[iz]at this;exact absurd (this▸b) hr) λj x a b=>by
  grind
def RQ(W)(r:Wi):(W++[r])[pA W]? =Z r:=ay
def cK.sp{jr:av Rq}(h:cK g W i lo jr k un wq wf ts)(C:r.u=i)(z:r.Good g)(hc:∀(j:Nat) x,W[j]? =Z x->x.2≠r.2)(J:∀e∈lo,e.2≠(r.2:Int)):cK g (W++[r]) i lo jr (k.sp r.dV) (un++[pA W]) wq wf ts:=by
 have lt:∀j∈un++wq++wf++ts.filterMap Tk.no,j<pA W:=λj hj=>by obtain⟨x,h1,_⟩:=h.8 j hj;exact(bY.1 h1).1
 have d:∀j∈un++wq++wf++ts.filterMap Tk.no,Alike W (W++[r]) j:=λj hj=>by obtain⟨x,h1,_⟩:=h.8 j hj;exact LF h1 (Da h1 r)
 have m1:∀j∈un,Alike W (W++[r]) j:=λj hj=>d j (by simp[hj]);have m2:∀j∈wq,Alike W (W++[r]) j:=λj hj=>d j (by simp[hj]);have E:∀j∈wf,Alike W (W++[r]) j:=λj hj=>d j (by simp[hj]);have v:∀t∈ts,∀j,t.no=Z j->Alike W (W++[r]) j:=λt l j hj=>d j (Kq _ (sX.2 ⟨t,l,hj⟩))
 have mem:∀j,j∈un++[pA W]++wq++wf++ts.filterMap Tk.no↔j=pA W\/j∈un++wq++wf++ts.filterMap Tk.no:=λj=>by grind
 refine⟨h.1,?_,?_,?_,?_,λt l=>?_,?_,λj hj=>?_,λj hj=>?_,λx D=>?_,λj x hj n p=>?_,?_,λj x hj n hm o s=>?_,λj hj e w=>?_,λj e x hm=>?_⟩;show(k.4++r.dV).1.1=_;rw[zB,uh,h.2,rL,lS]
 congr 1
 rw[Dn λj hj=>(m1 j hj).2.y]
 congr 1
 rw[Kk];rw[rz];rw[RQ];exact h.q.E (rN λj hj=>(m2 j hj).1.y);exact h.4.E (rN λj hj=>(E j hj).1.y);exact h.H.E (Dn λt l=>(Tw (v t l)).y)
 ·have:=h.6 t l
  match t,this with
  |.inl b,h1=>exact h1
  |.inr (j,e,x),⟨m,h1,c⟩=>exact⟨m,Da h1 r,c⟩
 have B:(un++[pA W]++wq++wf++ts.filterMap Tk.no).Perm (pA W::(un++wq++wf++ts.filterMap Tk.no)):=by grind
 rw[B.nodup_iff,vV];exact⟨λhm=>by have:=lt _ hm;omega,h.7⟩
 ·rcases(mem j).1 hj with rfl|hj;exact⟨r,RQ W r,C,z⟩;obtain⟨x,h1,c,f⟩:=h.8 j hj;exact⟨x,Da h1 r,c,f⟩
 show(iW (W++[r]) j:Int)∉k.us;obtain hj|hj:=jg.1 hj;rw[(m1 j hj).3];exact h.9 j hj;rw[iz.1 hj];intro hm;obtain⟨o,m,h1,c,f⟩:=h.lo _ hm;refine hc o m h1 ?_;rw[iW]at f
 grind
 ·obtain⟨j,m,h1,c,f⟩:=h.lo x D;exact⟨j,m,Da h1 r,c,f⟩
 rw[mem];rw[zH]at hj;split at hj;exact .inr (h.11 j x hj n p);rename_i H
 grind
 rw[<-lS];refine Kt.2 ⟨h.12,List.pairwise_singleton ..,λa G b p=>?_⟩
 grind
 rw[<-lS]at hm s;have K:j≠pA W:=λe=>hm (by rw[e];simp)
 have A:j<pA W:=by grind
 rw[BS A]at hj;obtain h1|h1:=jg.1 s;exact h.13 j x hj n (λc=>hm (Fl _ c)) o h1
 rwa [iz.1 h1]
 rw[<-lS]at hj;obtain h1|h1:=jg.1 hj;rw[(d j (by obtain h|h:=jg.1 h1<;>simp[h])).3];exact h.nl j h1 e w;rw[iz.1 h1];rw[iW]
 simp_all
 rw[(v _ hm j U).3];exact h.tq j e x hm
def Jw(h:W[j]? =Z r):rz W j=r.dV.data.toList:=by rw[rz];rw[h]
def We(h:W[j]? =Z r):pg W j=r.msg:=by rw[pg];rw[h]
def Gv(h:W[j]? =Z r):iW W j=r.2:=by rw[iW];rw[h]
def cK.qt{jr:av Rq}(h:cK g W i lo jr k (j::un) wq wf ts)(C:k.3=2)(b:W[j]? =Z r)(wo:mA W):cK g W i lo jr (k.qt g (r.msg,(pC r.dV:Int))) un (wq++[j]) wf ts/\Aj k (k.qt g (r.msg,(pC r.dV:Int))):=by
 obtain⟨G,u,w,t⟩:=h.8 j ay;rw[b]at u;cases u;have s:=t.acc;have E:=t.1
 have n:ua k.3 r.msg=k.3:=by have A:¬r.3=5:=Y;simp[ua,A]
 have B:(k.qt g (r.msg,(pC r.dV:Int))).4.1.1=un.flatMap (rz W):=by
  have p:=h.2;rw[aI Y,jZ,pH,Jw b]at p;show(mS k.4 (pD ((r.dV.size:Int))) k.4.size).1.1=_;rw[Ke,AB,p]
  simp_all
 have z:(k.qt g (r.msg,(pC r.dV:Int))).us=k.us++[(r.2:Int)]:=by show(if ta r.msg=M then k.us++[(r.2:Int)]else k.us)=_;rw[aO s]
 have v:k.H++gM g r.msg=k.H:=by have:gM g r.msg=⟨#[]⟩:=U;rw[this];exact ByteArray.append_empty
 have l:(un++(wq++[j])++wf++ts.filterMap Tk.no).Perm (j::un++wq++wf++ts.filterMap Tk.no):=by grind
 have f:wq++j::un=wq++[j]++un:=ay;refine⟨⟨.inl (n.E C),?_,?_,h.4,?_,h.6,l.nodup_iff.2 h.7,λx a=>h.8 x (l.mem_iff.1 a),λx a=>?_,λx a=>?_,λx o h1 c d=>l.mem_iff.2 (h.11 x o h1 c d),f▸h.12,f▸h.13,f▸h.nl,h.tq⟩,⟨U,U,U,U,U,U,v,n⟩⟩;rw[B,aI (by show ¬ua k.3 r.msg=0;rw[n];omega)];rfl;show(if ta r.msg=M then k.q++[⟨r.msg,-1⟩]else k.q).map (·.m)=_;rw[aO s,sV,sV,h.q];simp[We b];show(k.H++gM g r.msg).1.1=_;rw[v];exact h.H;rw[z];intro hm;obtain h1|h1:=jg.1 hm;exact h.9 x (gC _ a) h1;obtain⟨o,c,d,_⟩:=h.8 x (by simp[a]);have e:=iz.1 h1;rw[Gv c]at e;have D:=wo.3 x j o r c b (d.E w.y) Y;subst D;have:=h.7
 grind
 rw[z]at a;obtain h1|h1:=jg.1 a;exact h.lo x h1;exact⟨j,r,b,w,(iz.1 h1).y⟩
def cK.read{jr:av Rq}(hI:g.Is)(wo:mA W):∀(n:Nat) (k:Ck) (un wq:av Nat),cK g W i lo jr k un wq wf ts->k.ph=2->∃d f,un=d++f/\cK g W i lo jr (et g n k) f (wq++d) wf ts/\Aj k (et g n k)
 |0,k,un,wq,h,a=>⟨[],un,U,by rw[lf];exact h,⟨U,U,U,U,U,U,U,U⟩⟩
 |n+1,k,un,wq,h,a=>by
  rw[et];have b:=h.aN;rw[aI Y,jZ]at b;split;obtain _|⟨j,un⟩:=un;let e:first g.sz g.mx k.ph k.us k.aN=(.zero,0):=by rw[a];exact aaY b
  simp only[e];exact⟨[],[],U,by rw[lf];exact h,⟨U,U,U,U,U,U,U,U⟩⟩;obtain⟨r,c,u,p⟩:=h.ok j ay;have l:=h.us j fJ;rw[Gv c]at l;rw[pH,Jw c]at b
  let e:first g.sz g.mx k.ph k.us k.aN=(r.msg,(pC r.dV:Int)):=by rw[a];exact Ub k.us hI p (wo.one j r c).1 l b
  let v:=ED r;obtain⟨q,m⟩:=h.qt a c wo;simp only[e];rw[aI Y,aI (by show ¬(3:Int)=4;decide)];obtain⟨d,f,s,o,t⟩:=cK.read hI wo n _ un (wq++[j]) q (m.ph.E a);exact⟨j::d,f,by rw[s];rfl,by rw[lS]at o;exact o,m.E t⟩;exact⟨[],un,U,by rw[lf];exact h,⟨U,U,U,U,U,U,U,U⟩⟩
def zb{l}(h:s.1.1=l):pC s=pA l:=by show pB s.1=_;rw[<-lQ,h]
def Tb{l}(h:s.1.1=l)(a b):mS s a b=⟨((l.drop a).take (b-a)).toArray⟩:=by refine rG (BB.1 ?_);rw[rE,zz,h,Kh]
def acg(h:s.1.1=gm.1.1++t):qb s=(⟨1,⟨#[97]⟩,0,0,0,0,0,⟨#[]⟩,0⟩,6):=by have h:s.1.1=70::69::82::82::89::97::103::t:=h;have f:=zb h;simp at f;let b:=wU h;let a:bt s 0=qg 0:=b 0;let b1:bt s 1=qg 1:=b 1;let c:bt s 2=qg 2:=b 2;let d:bt s 3=qg 3:=b 3;let e:bt s 4=qg 4:=b 4;let j:mS s 5 6=⟨#[97]⟩:=Tb h 5 6;rw[qb];rw[cL,aI Y,aO a,cL,aI Y,aO b1,cL,aI Y,aO c,cL,aI Y,aO d,cL,aI Y,aO e,cL,aI Y,j]
def aeK(h:s.data.toList=103::t):CK s=(⟨2,⟨#[103]⟩,0,0,0,0,0,⟨#[]⟩,0⟩,1):=by have b:=zb h;simp at b;let a:bt s 0=103:=wU h 0;let c:mS s 0 1=⟨#[103]⟩:=Tb h 0 1;rw[CK];rw[aI Y,a,aI aM,c]
def cK.UJ{jr:av Rq}(hI:g.Is)(h:cK g W i lo jr k un wq wf ts)(l:k.3=0)(hm:k.7=0)(n):∃b,et g (n+2) k=et g n b/\cK g W i lo jr b un [] [] [.inl 89,.inl 71]/\b.3=2/\(b.1=k.1/\b.2=k.2/\b.9=k.9/\b.de=k.de/\b.sv=k.sv/\b.7=k.7/\b.6=k.6):=by
 obtain⟨no,wt,ph,a,q,bw,prom,out,tok,d,sv,c⟩:=k;have l:=l;have hm:=hm;subst l hm;obtain⟨rfl,rfl,rfl⟩:wq=[]/\wf=[]/\ts=[]:=h.1.e (λe=>absurd e (by show ¬(0:Int)=2;decide)) λe=>e.2;have w:q=[]:=by simpa using h.q
 have v:out=⟨#[]⟩:=rG (BB.1 h.H);subst w v;let o:a.1.1=gm.1.1++un.flatMap (rz W):=h.2;let H:=hI.3;let G:=hI.9;let E:=hI.4;let m:∀(ph:Int) (out:ByteArray),ph≠4->pC out<=2->(ph≠4/\(pA ([]:av Rq):Int)<g.3/\(pC out:Int)+0+ww []<=g.9):=λph out f u=>⟨f,by show(0:Int)<g.3;omega,by show(pC out:Int)+0+6<=g.9;omega⟩;let A:((⟨#[97]⟩:ByteArray).toList==[97])=M:=by decide+kernel
 let B:((⟨#[103]⟩:ByteArray).toList==[103])=M:=by decide+kernel
 let C:((⟨#[103]⟩:ByteArray).toList==[105])=aa:=by decide+kernel
 let p:(mS a 6 a.size).1.1=103::un.flatMap (rz W):=by rw[AB,o];rfl
 let z:(mS (mS a 6 a.size) 1 (mS a 6 a.size).size).1.1=un.flatMap (rz W):=by rw[AB,p];rfl
 let f1:first g.1 g.4 0 c a=(⟨1,⟨#[97]⟩,0,0,0,0,0,⟨#[]⟩,0⟩,6):=acg o
 let f2:first g.1 g.4 1 c (mS a 6 a.size)=(⟨2,⟨#[103]⟩,0,0,0,0,0,⟨#[]⟩,0⟩,1):=aeK p
 let f:Ck.qt g ⟨no,wt,0,a,[],bw,0,⟨#[]⟩,tok,d,sv,c⟩ (⟨1,⟨#[97]⟩,0,0,0,0,0,⟨#[]⟩,0⟩,6)=⟨no,wt,1,mS a 6 a.size,[],bw,0,⟨#[89]⟩,tok,d,sv,c⟩:=by rw[Ck.qt];simp[ua,gM,vt,ta,A];rfl
 let u:∀X:ByteArray,Ck.qt g ⟨no,wt,1,X,[],bw,0,⟨#[89]⟩,tok,d,sv,c⟩ (⟨2,⟨#[103]⟩,0,0,0,0,0,⟨#[]⟩,0⟩,1)=⟨no,wt,2,mS X 1 X.size,[],bw,0,⟨#[89,71]⟩,tok,d,sv,c⟩:=λX=>by unfold Ck.qt;simp only[ua,gM,vt,ta,B,C];rfl
 let D:=h.7;let ok:=h.8;let r:=h.11;refine⟨⟨no,wt,2,mS (mS a 6 a.size) 1 (mS a 6 a.size).size,[],bw,0,⟨#[89,71]⟩,tok,d,sv,c⟩,?_,⟨.inl U,?_,U,h.4,U,λt ht=>?_,?_,?_,h.9,h.lo,?_,h.12,h.13,h.nl,λj e x hm=>(by simp at hm)⟩,U,U,U,U,U,U,U,U⟩;rw[et,aO (m 0 ⟨#[]⟩ aM aM)];simp only[f1];rw[aI aM,aI aM,f,et,aO (m 1 ⟨#[89]⟩ aM aM)]
 grind
 rw[aI (by show ¬(2:Int)=0;decide)];exact z;obtain rfl|ht:=jh.1 ht;exact .inl rfl;rw[iz.1 ht];exact .inr rfl;exact D;exact ok;exact r
def NL{z A:Type}{f}{l:av A}{b}(h:l.Perm (b.map f)):∃d:av z,d.Perm b/\l=d.map f:=by
 generalize hm:b.map f=m at h;induction h generalizing b with
 |nil=>exact⟨[],by rw[Fi.1 hm],U⟩
 |cons x _ u=>
  obtain⟨o,t,rfl,rfl,n⟩:=Fh.1 hm
  let⟨d,e,j⟩:=u n
  exact⟨o::d,e.cons o,by rw[j];rfl⟩
 |swap x o l=>
  obtain⟨a,t,rfl,rfl,n⟩:=Fh.1 hm;obtain⟨c,p,rfl,rfl,rfl⟩:=Fh.1 n;exact⟨c::a::p,.swap a c p,U⟩
 |trans _ _ v w=>
  let⟨b1,e,j⟩:=w hm
  let⟨q,r,s⟩:=v j.y
  exact⟨q,r.E e,s⟩
def cK.like{jr:av Rq}(h:cK g W i lo jr k un wq wf ts)(a:k'.3=k.3)(c:k'.4=k.4)(d:k'.q.map (·.m)=k.q.map (·.m))(e:k'.H=k.H)(b:k'.us=k.us):cK g W i lo jr k' un wq wf ts:=
 ⟨by rw[a];exact h.1,by rw[a,c];exact h.2,by rw[d];exact h.q,h.4,by rw[e];exact h.H,h.6,h.7,h.8,by rw[b];exact h.9,by rw[b];exact h.lo,h.11,h.12,h.13,h.nl,h.tq⟩
def Nz:∀(l:av Rq) (n:Int),(bL n l).1.map (·.m)=l.map (·.m)
 |[],n=>rfl
 |r::t,n=>by rw[bL];split;simp[Nz t];simp[Nz t]
def cK.dh{jr:av Rq}(h:cK g W i lo jr k un wq wf ts):cK g W i lo jr (k.dh g) un wq wf ts:=h.like U U U U U
def cK.dQ{jr:av Rq}(hI:g.Is)(wo:mA W)(h:cK g W i lo jr k un wq wf ts)(hm:k.3=0->k.7=0):∃b c v,un=b++c/\cK g W i lo jr (k.dQ g) c (wq++b) wf (ts++v)/\(k.dQ g).3=2/\(k.dQ g).1=k.1:=by rw[Ck.dQ];obtain a|⟨a,l,m,o⟩:=h.1;obtain⟨b,c,e,f,d⟩:=cK.read hI wo (pC k.4+1) k un wq h a;exact⟨b,c,[],e,by rw[lf];exact f,d.8.E a,d.1⟩;have r:=zb h.2;rw[aO a,fQ]at r;let w:pA gm.1.1=7:=U;obtain⟨n,q⟩:∃n,pC k.4+1=n+2:=⟨pC k.4-1,Y⟩;rw[q];obtain⟨u,e,f,d,p⟩:=h.UJ hI a (hm a) n;rw[e];obtain⟨b,c,s,t,j⟩:=cK.read hI wo n u un [] f d;subst l m o;exact⟨b,c,_,s,t,j.8.E d,j.1.E p.1⟩
structure qK(k:Ck)(l:av Rq)(k':Ck):Prop where
 q:k.q=l++k'.q
 ph:k'.ph=k.ph
 aN:k'.aN=k.aN
 H:k'.H=k.H
 us:k'.us=k.us
 no:k'.no=k.no
def qK.refl(k):qK k [] k:=⟨U,U,U,U,U,U⟩
def qK.E{k1 k2 l1 l2}(h:qK k l1 k1)(a:qK k1 l2 k2):qK k (l1++l2) k2:=
 ⟨by rw[h.q,a.q,lS],a.2.E h.2,a.3.E h.3,a.H.E h.H,a.5.E h.5,a.6.E h.6⟩
def MC(h:k.q≠[]):qK k [k.fst] k.next:=by
 refine⟨?_,U,U,U,U,U⟩;show k.q=[k.fst]++k.q.tail;rw[Ck.fst]
 grind
def Iw(h:k.eM g=M):k.q≠[]:=λe=>by rw[Ck.eM]at h;rw[e]at h;cases h
variable{s:Nat}{A:Nat->Prop}
def GR:∀(n:Nat) (k:Ck) (rs:av Rq),∃l,(f.eK s n k rs).2=rs++l/\qK k l (f.eK s n k rs).1
 |0,k,rs=>⟨[],by simp[Fx.eK],.refl k⟩
 |n+1,k,rs=>by
  rw[Fx.eK];split
  ·rename_i h
   let hr:k.eM (f.at s k).g=M:=by unfold Fx.along Fx.qm at h;simp at h;exact h.1.1
   obtain⟨l,a,b⟩:=GR n k.next (rs++[k.fst])
   exact⟨k.fst::l,by rw[a];simp,(MC (Iw hr)).E b⟩
  exact⟨[],ay,.refl k⟩
def cK.se{jr:av Rq}{l}(h:cK g W i lo jr k un wq wf ts)(c:qK k l k')(a:lF.Perm (l++jr))(C:k.ph=2):∃b,cK g W i lo lF k' un (wq.drop (pA l)) b ts/\b.Perm (wq.take (pA l)++wf):=by
 have o:=h.q;rw[c.q,sV]at o
 let v:l.map (·.m)=(wq.take (pA l)).map (pg W):=by
  have:=congrArg (List.take (pA l)) o
  rwa [C8 ay,qE ay,<-asL]at this
 let w:k'.q.map (·.m)=(wq.drop (pA l)).map (pg W):=by
  have:=congrArg (List.drop (pA l)) o
  rwa [Kg ay,BR ay,jZ,<-List.map_drop]at this
 let z:(lF.map (·.m)).Perm ((wq.take (pA l)++wf).map (pg W)):=by rw[sV,<-v,<-h.fl,<-sV];exact a.map _
 obtain⟨b,d,e⟩:∃b:av Nat,b.Perm (wq.take (pA l)++wf)/\lF.map (·.m)=b.map (pg W):=NL z
 let n:(un++wq.drop (pA l)++b++ts.filterMap Tk.no).Perm (un++wq++wf++ts.filterMap Tk.no):=by refine Kf _ ?_;rw[lS,lS];refine List.Perm.append_left _ ?_;refine((d.append_left _).E ?_);rw[<-lS];refine Kf _ ?_;refine C4.E ?_;rw[pL]
 let f:wq++un=wq.take (pA l)++(wq.drop (pA l)++un):=by rw[<-lS,pL]
 have s:=h.inc;rw[f]at s;obtain⟨_,A,E⟩:=Kt.1 s;let p:∀j∈wq.drop (pA l)++un,j∈wq++un:=λj a=>by rw[f];exact Kq _ a
 refine⟨b,⟨.inl (c.ph.E C),by rw[c.ph,c.aN];exact h.aN,w,e,by rw[c.H];exact h.H,h.tk,n.nodup_iff.2 h.nd,λj a=>h.ok j (n.mem_iff.1 a),by rw[c.us];exact h.us,by rw[c.us];exact h.lo,λj r d e x=>n.mem_iff.2 (h.all j r d e x),A,λj r a D hm u B=>?_,λj a=>h.nl j (p j a),h.tq⟩,d⟩
 by_cases t:j∈wq++un
 rw[f]at t
 grind
 exact h.seg j r a D t u (p u B)
def afY(er:UInt8)(ck d):(jy er ck d).data.toList=82::er::(cu ck++d.data.toList):=by rw[jy];simp[zB,uh]
def cK.whose{jr:av Rq}{r:Rq}(h:cK g W i lo jr k un wq wf ts)(p:jr.Perm (r::lF)):∃(j:Nat) (a:Wi) (b:av Nat),wf.Perm (j::b)/\W[j]? =Z a/\a.u=i/\a.Good g/\r.m=a.msg/\lF.map (·.m)=b.map (pg W):=by
 let q:((r::lF).map (·.m)).Perm (wf.map (pg W)):=by rw[<-h.fl];exact(p.map _).y
 obtain⟨s,c,e⟩:=NL q;obtain⟨j,b,rfl,f,l⟩:=Fh.1 e.y;let hm:=c.mem_iff.1 fJ;obtain⟨a,d,n,o⟩:=h.ok j (by simp[hm]);exact⟨j,a,b,c.y,d,n,o,f.y.E (We d),l.y⟩
def cK.nQ{jr:av Rq}{r:Rq}(h:cK g W i lo jr k un wq wf ts)(u:k.ph=2)(B:jr.Perm (r::lF)){er d}(he:er=0\/er=5)(hd:pC d=if r.m.kd=0/\er=0 then pD r.m.ln else 0)(A:UQ lo r.m.ck er d.data.toList):∃l t,cK g W i lo lF (k.nQ r er d) un wq l (ts++[t])/\(k.nQ r er d).ph=2:=by
 obtain⟨j,D,l,p,c,n,v,s,w⟩:=h.whose B
 have C:k.nQ r er d={k with bw:=k.bw-1,pc:=k.pc-sy r.m,H:=k.H++jy er r.m.ck d,us:=AO k.us r.m.ck}:=by rw[Ck.nQ];rw[aI Y]
 have o:(un++wq++l++(ts++[(.inr (j,er,d.data.toList):Tk)]).filterMap Tk.no).Perm (un++wq++wf++ts.filterMap Tk.no):=by
  have e:(ts++[(.inr (j,er,d.data.toList):Tk)]).filterMap Tk.no=ts.filterMap Tk.no++[j]:=by rw[List.filterMap_append];rfl
  grind
 rw[C];refine⟨l,.inr (j,er,d.data.toList),⟨.inl u,h.aN,h.q,w,?_,λt ht=>?_,o.nodup_iff.2 h.nd,λx f=>h.ok x (o.mem_iff.1 f),λx f hm=>h.us x f (rO.1 hm).1,λx f=>h.lo x (rO.1 f).1,λx z p c n=>o.mem_iff.2 (h.all x z p c n),h.inc,h.seg,h.nl,λa b x hm=>?_⟩,u⟩;show(k.H++jy er r.m.ck d).data.toList=_;rw[zB,uh,h.H,rL,afY,Kk];show _=_++82::er::(cu (iW W j)++d.data.toList);rw[Gv c,s];obtain ht|ht:=jg.1 ht;exact h.tk t ht;rw[iz.1 ht];refine⟨D,c,n,by have:=v.er.2.2;omega,he,?_⟩
 simp_all
 obtain hm|hm:=jg.1 hm;exact h.tq a b x hm;cases iz.1 hm;rw[Gv c]
 rwa [s]at A
def cK.pr{B}:∀(rs:av Rq) (k:Ck) (jr:av Rq) (wf:av Nat) (ts:av Tk),cK g W i lo jr k un wq wf ts->k.ph=2->jr.Perm (rs++lF)->(pB B:Int)=g.sz->(∀r∈rs,UQ lo r.m.ck (sF ft) (lO B (mZ 0 r ft.eJ)).data.toList)->∃J G,cK g W i lo lF (k.pr B ft rs) un wq J (ts++G)/\(k.pr B ft rs).ph=2
 |[],k,jr,wf,ts,h,b,a,p,j=>by
  let A:((lF.map (·.m))).Perm (wf.map (pg W)):=by rw[<-h.fl];exact(a.map _).y
  obtain⟨o,c,f⟩:=NL A;let l:(un++wq++o++ts.filterMap Tk.no).Perm (un++wq++wf++ts.filterMap Tk.no):=(c.append_left _).append_right _;exact⟨o,[],by rw[lf];exact⟨.inl b,h.aN,h.q,f,h.H,h.tk,l.nodup_iff.2 h.nd,λx n=>h.ok x (l.mem_iff.1 n),h.us,h.lo,λx z c f u=>l.mem_iff.2 (h.all x z c f u),h.inc,h.seg,h.nl,h.tq⟩,b⟩
 |r::rs,k,jr,wf,ts,h,b,a,p,j=>by
  obtain⟨_,O,_,_,_,_,w,hm,_⟩:=h.whose (lF:=rs++lF) a;let N:=w.of
  let v:pC (lO B (mZ k.no r ft.eJ))=if r.m.kd=0/\sF ft=0 then pD r.m.ln else 0:=by
   unfold lO mZ sF;cases ft.eJ;simp
   by_cases e:r.m.kd=0
   rw[aO e,aO e];show(B.extract (pD r.m.of) (pD r.m.of+pD r.m.ln)).size=_
   grind
   rw[aI e,aI e];rfl;rw[aI ay,aI ay];rfl
  obtain⟨K,t,C,D⟩:=h.nQ (lF:=rs++lF) b a (er:=sF ft) (d:=lO B (mZ k.no r ft.eJ)) (by rw[sF];split<;>simp) v (j r fJ);obtain⟨L,H,s,E⟩:=cK.pr rs (k.hrd B ft r) (rs++lF) K (ts++[t]) C D (.refl _) p λx n=>j x (gC _ n);exact⟨L,t::H,by rw[lS]at s;exact s,E⟩
def NH{t:Tk}(h:t.no≠Z j):(t.on now W)[j]? =W[j]? :=by
 match t,h with
 |.inl b,_=>rfl
 |.inr (m,e,x),h=>
  let c:m≠j:=λa=>h (by rw[a];rfl);rw[Tk.on]
  grind
def tS:∀(ts:av Tk) (W:av Wi),j∉ts.filterMap Tk.no->(dS now W ts)[j]? =W[j]?
 |[],W,_=>rfl
 |t::ts,W,h=>by let a:t.no≠Z j:=λe=>h (sX.2 ⟨t,fJ,e⟩);let b:j∉ts.filterMap Tk.no:=λhm=>h (by grind);exact(tS ts (t.on now W) b).E (NH a)
def WK{e x}(h:W[j]? =Z r):(Tk.on now W (.inr (j,e,x)))[j]? =Z (r.had now e x):=by
 rw[Tk.on]
 grind
def AV:∀(ts:av Tk) (W:av Wi) (r:Wi),j∈ts.filterMap Tk.no->W[j]? =Z r->∃e x,(.inr (j,e,x):Tk)∈ts/\(dS now W ts)[j]? =Z (r.had now e x)
 |[],W,r,hm,_=>by cases hm
 |t::ts,W,r,hm,hr=>by
  by_cases b:j∈ts.filterMap Tk.no
  obtain⟨a,h,l⟩:∃a,(t.on now W)[j]? =Z a/\∀e x,a.had now e x=r.had now e x:=by
   by_cases e:t.no=Z j
   match t,e with
   |.inr (m,c,f),e=>
    have e:=ey e;subst e;exact⟨_,WK hr,λ_ _=>U⟩
   exact⟨r,(NH e).E hr,λ_ _=>U⟩
  let⟨e,x,n,o⟩:=AV ts (t.on now W) a b h
  exact⟨e,x,gC _ n,by rw[<-l];exact o⟩
  let⟨d,ht',e⟩:=sX.1 hm
  obtain rfl|ht':=jh.1 ht'
  match d,e with
  |.inr (m,c,f),e=>
   have e:=ey e;subst e;exact⟨c,f,fJ,(tS ts _ b).E (WK hr)⟩
  exact absurd (sX.2 ⟨d,ht',e⟩) b
def DW:∀(ts:av Tk) (W:av Wi),W[j]? =aj->(dS now W ts)[j]? =aj
 |[],W,h=>h
 |t::ts,W,h=>DW ts _ (by
  by_cases e:t.no=Z j
  match t,e with
  |.inr (m,a,b),e=>
   have e:m=j:=ey e;subst e;unfold Tk.on;dsimp only;rw[h];exact h
  exact(NH e).E h)
def cK.took{jr:av Rq}{i' b}(h:cK g W i lo jr k un wq wf ts)(s:i'≠i)(v:0<=now)(o:∀t∈b,mU i' W t):cK g (dS now W b) i lo jr k un wq wf ts:=by
 let no:∀(j:Nat) r,W[j]? =Z r->r.u=i->j∉b.filterMap Tk.no:=λj r a d hm=>by
  obtain⟨t,f,c⟩:=sX.1 hm;let n:=o t f
  match t,c,n with
  |.inr (m,e,x),c,⟨lm,p,q,_⟩=>
   let c:=ey c
   grind
 refine h.ri (λj r a d=>(tS b W (no j r a d)).E a) (λj r a d f=>?_) λj r a d=>?_
 rotate_left
 ·rcases e:W[j]? with _|lm;rw[DW b W e]at a;cases a;refine⟨lm,rfl,?_⟩
  by_cases hm:j∈b.filterMap Tk.no
  obtain⟨l,x,_,c⟩:=AV (now:=now) b W lm hm e
  grind
  rw[tS b W hm,e]at a;cases a;exact d
 by_cases hm:j∈b.filterMap Tk.no
 rcases e:W[j]? with _|lm;rw[DW b W e]at a;cases a;obtain⟨l,x,_,c⟩:=AV (now:=now) b W lm hm e
 grind
 rwa [tS b W hm]at a
def cK.pl{jr:av Rq}(h:cK g W i lo jr k un wq wf ts)(G:0<=now)(l:k'.ph=k.ph)(v:k'.aN=k.aN)(w:k'.q=k.q)(A:k'.H=⟨#[]⟩)(o:k'.us=k.us):cK g (dS now W ts) i lo jr k' un wq wf []:=by
 let p:=Ca.1 h.nd;let no:∀j∈un++wq++wf,j∉ts.filterMap Tk.no:=λj a hm=>p.2.2 j a j hm U
 let c:∀j∈un++wq++wf,Alike W (dS now W ts) j:=λj a=>by obtain⟨r,b,_⟩:=h.ok j (Fl _ a);exact LF b ((tS ts W (no j a)).E b)
 let m1:∀j∈un,Alike W (dS now W ts) j:=λj a=>c j (by simp[a]);let m2:∀j∈wq,Alike W (dS now W ts) j:=λj a=>c j (by simp[a]);let E:∀j∈wf,Alike W (dS now W ts) j:=λj a=>c j (by simp[a]);refine⟨h.ph.imp (λe=>l.E e) λe=>⟨l.E e.1,e.2.1,e.2.2.1,U⟩,?_,?_,?_,by rw[A];rfl,λt D=>(by cases D),?_,λj a=>?_,λj a=>?_,λx s=>?_,λj r a n B=>?_,h.inc,λj r a n=>?_,λj a e C=>?_,λj e x hm=>(by cases hm)⟩;rw[l,v,h.aN]
 congr 1
 exact Dn λj a=>(m1 j a).dV.y;rw[w,h.q];exact rN λj a=>(m2 j a).msg.y;rw[h.fl];exact rN λj a=>(E j a).msg.y;rw[Ki,lf];exact p.1;rw[Ki,lf]at a;obtain⟨r,b,d,f⟩:=h.ok j (Fl _ a);exact⟨r,(tS ts W (no j a)).E b,d,f⟩;rw[(m1 j a).ck,o];exact h.us j a;rw[o]at s;obtain⟨j,lm,b,d,f⟩:=h.lo x s
 by_cases hm:j∈ts.filterMap Tk.no
 obtain⟨e,z,_,m⟩:=AV (now:=now) ts W lm hm b;exact⟨j,_,m,d,f⟩;exact⟨j,lm,(tS ts W hm).E b,d,f⟩;rw[Ki,lf]
 by_cases hm:j∈ts.filterMap Tk.no
 rcases e:W[j]? with _|lm;rw[DW ts W e]at a;cases a;obtain⟨u,x,_,m⟩:=AV (now:=now) ts W lm hm e
 grind
 rw[tS ts W hm]at a;exact(jg.1 (h.all j r a n B)).resolve_right hm;rcases e:W[j]? with _|lm;rw[DW ts W e]at a;cases a;refine h.seg j lm e ?_
 by_cases hm:j∈ts.filterMap Tk.no
 obtain⟨u,x,_,m⟩:=AV (now:=now) ts W lm hm e
 grind
 rw[tS ts W hm,e]at a;cases a;exact n;rw[(c j (by obtain h|h:=jg.1 a<;>simp[h])).ck];exact h.nl j a e C
def gO:av Jb->Nat->av Rq
 |[],_=>[]
 |b::l,s=>(if b.s=s then b.rs else[])++gO l s
def eT(g:Cf)(W:av Wi)(i s:Nat)(f:Fx):Prop:=∃k,f.K[s]? =Z (Z k)/\k.no=i/\k.ph=2/\wO g W i f.rh (gO f.fl s) k
def Nb(s):∀a b:av Jb,gO (a++b) s=gO a s++gO b s
 |[],b=>rfl
 |x::a,b=>by show(if x.s=s then x.rs else[])++gO (a++b) s=((if x.s=s then x.rs else[])++gO a s)++gO b s;rw[Nb s a b,lS]
def acO(b fl s):(gO (fP b fl) s).Perm ((if b.s=s then b.2 else[])++gO fl s):=by unfold fP jw;rw[Nb];let e:gO (b::fl.drop (oq b fl)) s=(if b.s=s then b.2 else[])++gO (fl.drop (oq b fl)) s:=U;rw[e,<-lS];apply(Kf _ C4).E;rw[lS,<-Nb,pL]
def cK.bw{jr x}(h:cK g W i lo jr k un wq wf ts)(o:x∈jr):∃(j:Nat) (a:Wi),j∈wf/\W[j]? =Z a/\a.u=i/\a.Good g/\x.m=a.msg:=by have b:x.m∈jr.map (·.m):=K2 o;rw[h.4]at b;obtain⟨j,d,e⟩:=jY.1 b;obtain⟨a,c,l,n⟩:=h.8 j (by simp[d]);exact⟨j,a,d,c,l,n,e.y.E (We c)⟩
def P5(f:Fx)(b):(f.does b).rh=f.rh\/∃k,f.K[b.s]? =Z (Z k)/\(f.does b).rh=f.rh++f.lgs b k:=by
 rw[Fx.does]
 grind
variable{b:Jb}{t:Nat}
def u9(h:e∈f.lgs b k):∃x∈b.rs,e=Do (f.dk.pj b.rs b.ft).B (mZ k.no x b.ft.eJ):=by grind
def q9(W:av Wi)(i s:Nat)(b:Jb):Prop:=b.s≠s->∀x∈b.rs,∀(j:Nat) a,W[j]? =Z a->a.u=i->x.m.ck≠(a.ck:Int)
def eT.does{r}(wo:mA W)(h:eT g W i s f)(K:f.fl=b::r)(HJ:q9 W i s b)(w:pB (({f with fl:=r}:Fx).does b).B=g.1):eT g W i s (({f with fl:=r}:Fx).does b):=by
 obtain⟨k,A,C,D,p,q,v,o,a⟩:=h;rw[K]at a
 by_cases e:b.s=s
 subst e;let J:=sE (f:={f with fl:=r}) (b:=b) (k:=k) A;rw[J]at w⊢
 let l:gO (b::r) b.s=b.2++gO r b.s:=by show(if b.s=b.s then b.2 else[])++_=_;rw[aO U]
 rw[l]at a
 have a:=a.rh (lo':=f.rh++({f with fl:=r}:Fx).lgs b k) (λe d=>Fl _ d) λe d=>(jg.1 d).imp id λd j l c=>by
  obtain⟨x,n,rfl⟩:=u9 d;obtain⟨N,E,a1,G,a3,_,H⟩:=a.bw (x:=x) (Fl _ n);have z:j∈p++q:=by obtain h|h:=jg.1 l<;>simp[h]
  obtain⟨t,b1,u,_⟩:=a.8 j (by simp only[lS]at z⊢;simp[jg.1 z |>.e Or.inl λh=>Or.inr (Or.inl h)]);have c:x.m.5=(iW W j:Int):=c;rw[Gv b1,H]at c;have c:(E.2:Int)=(t.2:Int):=c;have:=wo.3 N j E t G b1 (a3.E u.y) Y;subst this;let S:=a.7
  grind
 obtain⟨P,O,Q,R⟩:=cK.pr (ft:=b.3) b.2 k _ v o a D (.refl _) w λx n=>⟨_,Kq _ (K2 (K2 (by rw[pM];exact n))),U,by show(if b.3.2=M then(5:Int)else 0)=_;rw[sF];split<;>rfl,U⟩;have L:=(bY.1 A).1;refine⟨k.pr (({f with fl:=r}:Fx).dk.pj b.2 b.3).B b.3 (b.2.take (pA b.2)),iy L,(Gk ..).E C,?_,p,q,P,o++O,?_⟩
 rwa [pM]
 rwa [pM]
 have l:gO (b::r) s=gO r s:=by show(if b.s=s then b.2 else[])++_=_;rw[aI e];rfl
 rw[l]at a
 have a:cK g W i (({f with fl:=r}:Fx).does b).rh (gO r s) k p q v o:=by rcases P5 {f with fl:=r} b with c|⟨T,_,c⟩;rw[c];exact a;rw[c];refine a.rh (λe d=>Fl _ d) λe d=>(jg.1 d).imp id λd j l c=>?_;obtain⟨x,n,rfl⟩:=u9 d;obtain⟨t,b1,u,_⟩:=a.8 j (by rcases jg.1 l with h|h<;>simp[h]);rw[Gv b1]at c;exact HJ e x n j t b1 u c
 refine⟨k,?_,C,D,p,q,v,o,?_⟩;rw[Fx.does]
 grind
 rwa [(uR {f with fl:=r} b).1]
def eT.fin(wo:mA W):∀(n:Nat) (f:Fx),f.nK->f.g=g->(∀b∈f.fl,q9 W i s b)->eT g W i s f->eT g W i s (Fx.fin n f)
 |0,f,_,_,_,h=>h
 |n+1,f,k,m,HJ,h=>by rw[Fx.fin];split;exact h;rename_i b r a;split;rename_i l;let d:=(wY.does f b r k a l).2.2;let e:=(uR {f with fl:=r} b).2.2.E m;have c:=d.ov.B;rw[e]at c;exact eT.fin wo n _ d e (λx j=>HJ x (by rw[(uR {f with fl:=r} b).1]at j;rw[a];exact gC _ j)) (h.does wo a (HJ b (by rw[a];exact fJ)) c);exact h
def eT.at {s'}(h:eT g W i s f)(c:f.K[s']? =Z (Z k))(b:k'.3=k.3)(t:k'.4=k.4)(u:k'.q.map (·.m)=k.q.map (·.m))(v:k'.H=k.H)(w:k'.us=k.us)(x:k'.1=k.1):eT g W i s (f.at s' k'):=by
 let⟨z,a,d,j,o,r,p,n,l⟩:=h
 by_cases e:s'=s
 subst e;rw[a]at c;cases c;exact⟨k',iy (bY.1 a).1,x.E d,b.E j,o,r,p,n,l.like b t u v w⟩;exact⟨z,(gQ e).E a,d,j,o,r,p,n,l⟩
def eT.use(h:eT g W i s f):eT g W i s f.bg.1:=by
 rcases ek:f.K[f.8]? with _|o;rw[Fx.bg];rw[ek];exact h;cases o with
 |none=>rw[Fx.bg];rw[ek];exact h
 |some k=>
  rw[Bs ek];let C:=(bY.1 ek).1
  have t1:eT g W i s (f.om k):=by have:=h.at (k':=f.aT k) ek (by rw[Fx.aT];split<;>rfl) (by rw[Fx.aT];split<;>rfl) (by rw[Fx.aT];split<;>rfl) (by rw[Fx.aT];split<;>rfl) (by rw[Fx.aT];split<;>rfl) (by rw[Fx.aT];split<;>rfl);exact this
  let m:(f.om k).K[f.8]? =Z (Z (f.aT k)):=iy C;split
  ·rename_i B;split
   ·let hr:(f.aT k).eM (f.om k).g=M:=by
     rw[Fx.qm]at B
     grind
    obtain⟨l,x,z⟩:=GR (f:=f.om k) (s:=f.8) (pA (f.aT k).next.q) (f.aT k).next [(f.aT k).fst]
    let d:=(MC (Iw hr)).E z;obtain⟨u,j,r,b,w,E,D,v,t⟩:=t1;let A:((f.om k).gN f.8 (f.aT k)).fl=fP ⟨f.8,((f.om k).eK f.8 (pA (f.aT k).next.q) (f.aT k).next [(f.aT k).fst]).2,(f.om k).dG,(f.om k).6+(f.om k).dG.1,(f.om k).5⟩ (f.om k).fl:=U;let p:((f.om k).gN f.8 (f.aT k)).K=(f.om k).K.set f.8 (Z ((f.om k).eK f.8 (pA (f.aT k).next.q) (f.aT k).next [(f.aT k).fst]).1):=U;have a:=acO ⟨f.8,((f.om k).eK f.8 (pA (f.aT k).next.q) (f.aT k).next [(f.aT k).fst]).2,(f.om k).dG,(f.om k).6+(f.om k).dG.1,(f.om k).5⟩ (f.om k).fl s;rw[<-A]at a
    by_cases e:f.8=s
    subst e;rw[m]at j;cases j;rw[aO U,x]at a;obtain⟨n,c,_⟩:=t.se d a b;exact⟨_,by rw[p];exact iy (bY.1 m).1,d.6.E r,d.2.E b,w,_,n,v,c⟩;rw[aI e,jZ]at a;obtain⟨n,c,_⟩:=t.se (qK.refl u) a b;exact⟨u,by rw[p];exact(gQ e).E j,r,b,w,_,n,v,c⟩
   exact t1
  exact t1.at (k':=(f.aT k).px) m U U U U U U
def eT.rn:∀(n p:Nat) (f:Fx),eT g W i s f->eT g W i s (Fx.rn n p f)
 |0,p,f,h=>h
 |n+1,p,f,h=>by rw[Fx.rn];split;split;exact eT.rn n 0 _ h.use;refine eT.rn n (p+1) _ ?_;obtain⟨k,a,b⟩:=h.use;exact⟨k,a,b⟩;exact h
abbrev Wi.base(r:Wi):Wi:={r with bk:=-1,er:=0,tx:=⟨#[]⟩}
def td(l:av Jb):av Rq:=l.flatMap (·.rs)
structure En.Of(e:En)(a:Wi):Prop where
 no:e.no=a.u
 ck:e.ck=a.ck
 kd:e.kd=a.kd
 fl:e.fl=a.fl
 of:e.of=a.of
 ln:e.ln=a.ln
 er:e.er=0\/e.er=5
def Fx.gx(f:Fx):av Int:=f.rh.map (·.ck)++(td f.fl).map (·.m.5)
structure arS(V:av Wi)(n:Nat)(lo:av En)(a:Nat->Nat->av UInt8):Prop where
 zero:∀k,k<n->a 0 k=[0,0,0,0]
 step:∀(p:Nat) e,lo[p]? =Z e->∃(j:Nat) (c:Wi),V[j]? =Z c/\e.Of c/\(∀k,Wm c.msg e.er k (a p k) (a (p+1) k))/\(e.kd=0->∃B:aF UInt8,B.size=4*n/\(∀k,a p k=qc B k)/\e.tx=(lO B e).data.toList)
structure Lg(g:Cf)(n:Nat)(V:av Wi)(f:Fx):Prop where
 fl:∀b∈f.fl,xf g b.2/\b.2≠[]/\∀k,f.K[b.s]? =Z (Z k)->∀r∈b.2,∃(j:Nat) (c:Wi),V[j]? =Z c/\r.m=c.msg/\(c.u:Int)=k.no
 two:∀(i j:Nat) x c,V[i]? =Z x->V[j]? =Z c->x.ck=c.ck->i=j
 gd:∀(j:Nat) c,V[j]? =Z c->c.Good g
 nd:f.gx.Nodup
 ap:(td f.fl).Pairwise λa b=>a.ss b=aa/\b.ss a=aa
 dc:∀(i j:Nat) x c,V[i]? =Z x->V[j]? =Z c->j<i->c.u=x.u->(x.ck:Int)∈f.gx->(c.ck:Int)∈f.gx
 od:∀(i j:Nat) x c,V[i]? =Z x->V[j]? =Z c->j<i->c.u=x.u->JN x c=M->∀(p:Nat) e,f.rh[p]? =Z e->e.ck=x.ck->∃(p':Nat) (d:En),p'<p/\f.rh[p']? =Z d/\d.ck=c.ck
 dk:f.B.size=4*n
 hi:∃h,arS V n f.rh h/\∀k,h f.rh.length k=qc f.B k
def aqG{x lm}{a c:Rq}(h:JN x lm=M)(d:a.m=x.msg)(hc:c.m=lm.msg):a.ss c=M:=by
 rw[JN]at h;rw[Rq.ss]
 grind
def Lg.bw{V:av Wi}(h:Lg g n V f)(u:∀b∈f.fl,∃k,f.K[b.s]? =Z (Z k)){lm}(l:V[j]? =Z lm)(hm:(lm.ck:Int)∈(td f.fl).map (·.m.ck)):∃x∈td f.fl,x.m=lm.msg:=by
 obtain⟨x,p,e⟩:=jY.1 hm;obtain⟨b,a,q⟩:=BY.1 p;obtain⟨k,o⟩:=u b a;obtain⟨t,c,d,i,_⟩:=(h.fl b a).2.2 k o x q;rw[i]at e;have e:(c.ck:Int)=(lm.ck:Int):=e;have:=h.two t j c lm d l Y
 grind
def arL{d:Type}{R}{l:av d}(h:l.Pairwise R)(m:∀a b,R a b->R b a){a b}(c:a∈l)(i:b∈l)(j:a≠b):R a b:=by
 induction h with
 |nil=>cases c
 |cons e _ o=>
  grind
def arK(f:Fx)(b k):(f.lgs b k).map (·.ck)=b.2.map (·.m.5):=by unfold Fx.lgs oW;rw[pM,MB,MB];rfl
def YL(h:(f.lgs b k)[i]? =Z e):∃x,b.2[i]? =Z x/\e=Do (f.dk.pj b.2 b.3).B (mZ k.1 x b.3.2):=by grind
def Lg.does{V:av Wi}{r:av Jb}(hn:g.sz=4*(n:Int))(h:Lg g n V f)(jb:∀b∈f.fl,∃k,f.K[b.s]? =Z (Z k))(Q:f.fl=b::r)(S:f.K[b.s]? =Z (Z k)):Lg g n V (({f with fl:=r}:Fx).does b):=by
 rw[sE (f:={f with fl:=r}) S];obtain⟨hs,aX,O⟩:=h.fl b (by rw[Q];exact fJ);let O:=O k S;obtain⟨d1,af,s0,s1,s2⟩:=hs.did (d:=f.dk) (ft:=b.ft) hn h.dk aX;obtain⟨σ,hH,hE⟩:=h.hi;let aT:pA (({f with fl:=r}:Fx).lgs b k)=pA b.rs:=by simp[Fx.lgs,oW]
 let R:td f.fl=b.rs++td r:=by rw[Q];rfl
 let ho:f.rh.map (·.ck)++(td f.fl).map (·.m.ck)=(f.rh++({f with fl:=r}:Fx).lgs b k).map (·.ck)++(td r).map (·.m.ck):=by rw[R,sV,sV,arK,lS]
 let aS:∀e∈({f with fl:=r}:Fx).lgs b k,∃(j:Nat) (a:Wi),V[j]? =Z a/\e.Of a:=λe l=>by obtain⟨x,q,rfl⟩:=u9 l;obtain⟨j,a,t,o,G⟩:=O x q;refine⟨j,a,t,G.y,congrArg (·.ck) o,congrArg (·.kd) o,congrArg (·.fl) o,congrArg (·.of) o,congrArg (·.ln) o,?_⟩;show(if b.ft.eJ=M then(5:Int)else 0)=0\/(if b.ft.eJ=M then(5:Int)else 0)=5;split;exact az U;exact aA U
 let P:∀(i k:Nat),(if pA f.rh+i<=pA f.rh then σ (pA f.rh+i) k else af (pA f.rh+i-pA f.rh) k)=af i k:=λi k=>by
  rw[Cd]
  by_cases e:i=0
  subst e;rw[xU,aO (aR _)];exact(hE k).E (s0 k).y;rw[aI Y]
 refine⟨λc w=>?_,h.two,h.gd,?_,?_,λi j x a A C L N hm=>?_,λi j x a A C L N ht p e l w=>?_,d1,λp k=>if p<=pA f.rh then σ p k else af (p-pA f.rh) k,⟨λz hz=>?_,λp e l=>?_⟩,λz=>?_⟩;have w:=w;obtain⟨u,c2,c3⟩:=h.fl c (by rw[Q];exact gC _ w);refine⟨u,c2,λk' T x q=>?_⟩;have T:=T;obtain⟨e1,E⟩|⟨_,E⟩:=oy T;rw[E,Gk];exact c3 k (by rw[e1];exact S) x q;exact c3 k' E x q;have:=h.nd;rw[Fx.gx]at this;rw[ho]at this;exact this;have:=h.ap;rw[R]at this;exact(Kt.1 this).2.1;have:=h.dc i j x a A C L N;rw[Fx.gx]at this;rw[ho]at this;exact this hm;have l:(f.rh++({f with fl:=r}:Fx).lgs b k)[p]? =Z e:=l;show ∃(D:Nat) (v:En),D<p/\(f.rh++({f with fl:=r}:Fx).lgs b k)[D]? =Z v/\v.ck=a.ck;rw[zH]at l;split at l;rename_i W;obtain⟨D,v,a1,a2,a3⟩:=h.od i j x a A C L N ht p e l w;exact⟨D,v,a1,by rw[BS Y];exact a2,a3⟩;rename_i W
 let q:(x.ck:Int)∈(td f.fl).map (·.m.ck):=by obtain⟨x1,t,o⟩:=YL l;rw[<-w,o,R];exact jY.2 ⟨x1,Fl _ (jC t),U⟩
 let hy:=h.dc i j x a A C L N (Kq _ q);obtain hy|hy:=jg.1 hy;obtain⟨v,t,o⟩:=jY.1 hy;obtain⟨D,G⟩:=Km t;have H:=(bY.1 G).1;exact⟨D,v,Y,by rw[BS H];exact G,o⟩;obtain⟨rx,m1,m2⟩:=h.bw jb A q;obtain⟨ry,m3,m4⟩:=h.bw jb C hy
 have:=(arL h.ap (λ_ _ h=>⟨h.2,h.1⟩) m1 m3 λe=>by
  subst e
  let E:x.ck=a.ck:=by have:=congrArg (·.ck) (m2.y.E m4);have:(x.ck:Int)=(a.ck:Int):=this;omega
  have:=h.two i j x a A C E;omega).1
 rw[aqG ht m2 m4]at this;cases this;rw[aO (cO _)];exact hH.zero z hz;have l:(f.rh++({f with fl:=r}:Fx).lgs b k)[p]? =Z e:=l;rw[zH]at l;split at l;rename_i W;have:=hH.step p e l;simp[aO (show p<=pA f.rh by omega),aO (show p+1<=pA f.rh by omega)];exact this;rename_i W;obtain⟨i,rfl⟩:∃i,p=pA f.rh+i:=⟨p-pA f.rh,Y⟩;rw[Cd]at l;obtain⟨x,q,J⟩:=YL l;obtain⟨j,a,t,o,G⟩:=O x (jC q);obtain⟨t1,t2⟩:=s2 i x q;obtain⟨_,X,H,h5⟩:=aS e (jC l)
 let bh:e.Of a:=by have u:=h5.ck;rw[J]at u;have u:x.m.ck=(X.ck:Int):=u;rw[o]at u;have u:(a.ck:Int)=(X.ck:Int):=u;have:=h.two _ _ a X t H Y;subst this;rw[t]at H;cases H;exact h5
 refine⟨j,a,t,bh,λk=>?_,λh0=>⟨(f.dk.pj b.rs b.ft).B,d1,λk=>?_,?_⟩⟩;rw[P,jv,P,<-o,J];exact t1 k;rw[P];refine t2 ?_ k;rw[J]at h0;exact h0;rw[J];rfl;show(if(f.rh++({f with fl:=r}:Fx).lgs b k).length<=pA f.rh then _ else _)=_;rw[fQ,aT,P];exact s1 z
end Go.Proofs.YtpobhljcainmdaaGreat
