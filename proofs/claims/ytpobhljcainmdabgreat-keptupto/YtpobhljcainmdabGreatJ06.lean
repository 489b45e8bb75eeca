/- Kept answers true and leaves its arguments as they were; bulk at most 1048576. -/
import Derived.Deep.Slices
import Derived.OpenShut
import Derived.Test.YtpobhljcainmdabGreatJ05
set_option maxRecDepth 100000
set_option maxHeartbeats 8000000
set_option linter.all false
namespace Go.Proofs.YtpobhljcainmdabGreat
abbrev Aj.t:=@Aj.trans
open Go.Value renaming slice->ζ,string->ξ,pointer->π,bool->ω,tuple->θ,agg->ν,int->ι
abbrev jx:=@Array.size_setIfInBounds
abbrev fe:=@List.mem_map_of_mem
abbrev pd:=@of_decide_eq_false
abbrev me:=@List.map_map
open Go renaming World->aq,Value->aB,heap_alloc_new->eh,maxLen->cP,run_append_own_at->pc,Ending->jA,info_parts->nG,results->iq,trodAll_cons_mk->oE,TypeId->aY,FuncId->aZ,undef->y
open Go.IntKind renaming i64->cJ
open Go.World renaming cell?_of_block->iO,ownsRow_lit->ja,news_of_block->wu
open Go.RowKit renaming intOf->dw
open Go.RowKit.Below renaming refl->ee,heap_alloc->se,trod->pj
open _root_.Array renaming getElem?_setIfInBounds->rh
open Go.Value renaming string->ix,cells->zR,oneCell'->zS,int->BX
open _root_.List renaming perm_append_comm_assoc->qV,range->dA,perm_append_comm->C4,length_singleton->tn,length_pos_iff->B8,take_sublist->ta,length_range->sy,filter_cons->ss,nodup_range->C3,filter_nil->sc,take_set->rn,map_take->rk
open _root_.List.Pairwise renaming nil->y9,imp_of_mem->qL
open Go.DataW renaming trod->il,trod_lt->po
open Go.Builtin renaming append_->rD
open _root_.Classical renaming choose_spec->ti,choose->sd
open Go.ByteArray renaming toList_eq->tf
open Go.Lib renaming repeatL_length->te,repeatL->BN
open _root_.List.Sublist renaming refl->tb
open _root_.Bool renaming and_false->rW,and_comm->ri
open _root_.Nat renaming add_assoc->jv
open Go.Sem renaming run_bind->Cn
open Go.Addr renaming add_lit->Bw
open Go.Ending renaming returned->aG
open Go.Obj renaming cells->au
open _root_.Bool renaming false->aa,true->M
open _root_.Option renaming none->aj,some->Z
open _root_.Or renaming inl->aA,inr->az
attribute [local go_sem ↓] Go.wp_at_zero Go.wp_at_succ
attribute [local go_sem] cz cE
open Go.Conc Go.RowKit
open Go.Proofs.Tryz
abbrev Ld(w:aq)(v:aB)(l:av ByteArray):Prop:=w.ownsRow 0 9 1 v l.length (l.map ix)
def vb(l:av ByteArray)(s:ByteArray)(i:Nat):Prop:=∀k,k<i->l[k]? ≠Z s
def Pr(l:av ByteArray)(s:ByteArray)(w:aq)(e:jA)(w':aq):Prop:=∃b,e=aG (ω b)/\(b=M↔s∈l)/\w'=w
def xn(v l s w)(h:Ld w v l)(hl:l.length<=1099511627776):
  Calls prog 9 #[v,ξ s] w (Pr l s w):=by
 obtain⟨a,A,ev⟩:=gP h;subst ev;have q:=h;go_enter func9,ntmps9;go_wp2
 go_loopw [5] (λm wr=>∃i:Nat,i<=l.length/\vb l s i/\m=I i/\wr=w) (λm _=>l.length-(dw m).toNat)
 case atStart=>exact⟨0,cO _,λk b=>absurd b (rR _),U,U⟩
 case round=>
  obtain⟨i,E,g,rfl,rfl⟩:=hrel
  by_cases u:i<l.length
  ·have t:(i:Int)<(l.length:Int):=Y;have D:0<=(i:Int)/\(i:Int)<(l.length:Int):=Y;obtain⟨C,z,e,p⟩:=yV q Y;cases e;obtain⟨x,j⟩:∃x,l[i]? =Z x:=⟨_,dj u⟩;have B:=p i (ξ x) (by rw[qC,j];rfl);have c:Hid (l[i]? =Z x/\vb l s i):=⟨j,g⟩;clear p j g;cases o:(x.toList==s.toList)with
   |true=>
    have d:x=s:=by have n:=eq_of_beq o;rw[tf,tf]at n;exact rG (BB.1 n)
    subst d;go_wp2;go_ret;exact⟨M,U,⟨λ_=>jC c.1,λ_=>U⟩,U⟩
   |false=>
    have d:x≠s:=λe=>by subst e;simp at o
    go_wp2;refine⟨⟨i+1,Y,λk b f=>?_,by go_num,trivial⟩,by simp[dw];omega⟩
    by_cases r:k=i
    subst r;rw[c.1]at f;exact d (ey f);exact c.2 k Y f
  have t:¬(i:Int)<(l.length:Int):=Y
  have hm:s∉l:=λhm=>by obtain⟨k,b,e⟩:=List.getElem_of_mem hm;exact g k Y (by rw[dj b,e])
  go_wp2;go_ret;exact⟨aa,U,⟨λe=>(by cases e),λe=>absurd e hm⟩,U⟩
def Pf:(prog.info? 9).map (λi=>(i.zero,i.size,i.bytes))=Z (Z (ξ ⟨#[]⟩),1,16):=aW
def Ha(l:av ByteArray):∀u∈l.map ix,u.oneCell'=M:=λu a=>by obtain⟨x,_,rfl⟩:=jY.1 a;rfl
def eQ{P ops rest o a Q w w' s x}{t u:aY}{v z v'}(hr:(rD #[t,u] o.type #[v,z]).run P w=.ok v' w')(c:o.guard=aj:=by rfl) (d:o.op=.call {callee:=.builtin .append,args:=#[s,x],argTypes:=#[t,u]}:=by rfl) (e:a.eval s=v:=by rfl) (hx:a.eval x=z:=by rfl) (h:wpList P ops Q rest (a.put o.dst v') w'):wpList P ops Q (o::rest) a w:=by refine wpList_plain c λK b=>?_;unfold Oper.wp execOp;simp only[d,resolve,invoke,builtin,Cn,Sem.run_pure,Result.andThen_ok,sW,nC,xR,e,hx,hr];exact b _ _ h
def Ml(l:av ByteArray)(w:aq)(e:jA)(w':aq):Prop:=∃a,e=aG a/\Ld w' a l/\aK w w'
def GF(v l s w)(h:Ld w v l)(h0:l=[]->v=ζ aj 0 0)(hl:l.length<=1099511627776):
  Calls prog 72 #[v,ξ s] w (Ml (l++[s]) w):=by
 obtain⟨r,m,o,p,q⟩:=nG Pf;have n:w.ownsRow 0 9 1 (ζ aj 0 0) 0 []:=⟨U,aA ⟨U,U⟩⟩
 obtain⟨d,a,N,t,k,B⟩:∃d a,(rD #[41,41] 41 #[ζ aj 0 0,v]).run prog w=.ok d a/\Ld a d l/\w.grownBy a aj/\∀g,d.ownBlock=Z g->w.heap.size<=g:=by
  by_cases e:l=[]
  subst e;rw[h0 U];exact⟨_,w,run_append_owned_none w 0 _ _ _ r 1 underlying41 m _ 0 [] n,n,World.grownBy.refl ..,λg i=>by cases i⟩;have A:=B8.2 e;obtain⟨g,H,ev,K⟩:=yV h A;subst ev;obtain⟨d,a,hr,a1,E,a3⟩:=LH w 41 41 9 r _ 1 16 underlying41 m o p q U Y (by simp[zR,mN]) (ζ aj 0 0) 0 [] n ⟨g,0,aj⟩ l.length H (l.map ix) ay (λj u L=>by have:=K j u L;unfold Addr.add;split<;>simp_all) (Ha l) A (by unfold cP;omega) Y;refine⟨d,a,hr,by simpa using a1,E,λg i=>?_⟩;rcases a3.at_ with e|e;rw[i]at e;cases e;exact e g i
 have z:=eh a (au #[ξ s] 9);have c:aK a (a.alloc (au #[ξ s] 9)):=bq;obtain⟨C,x,O,b1,f,G⟩:=LH (a.alloc (au #[ξ s] 9)) 41 41 9 r _ 1 16 underlying41 m o p q U Y (by simp[zR,mN]) d l.length (l.map ix) (eF t λg i=>c.block g (jJ t g i)) ⟨a.heap.size,0,aj⟩ 1 1 [ξ s] U (wu z) (by simp[zS]) Y (by unfold cP;omega) Y
 have D:Hid (Ld x C (l++[s])/\aK w x):=by refine⟨by show x.ownsRow 0 _ 1 C (l++[s]).length ((l++[s]).map ix);rw[fQ,sV];exact b1,?_⟩;have P:=k.size;have Q:=c.size;have R:=f.size;refine⟨f.os.t (c.os.t k.os),f.tape.t (c.tape.t k.tape),f.output.t (c.output.t k.output),Y,λb J=>?_⟩;refine(f.block b Y λe=>?_).t ((c.block b Y).t (k.block b J λe=>by cases e));have:=B b e.y;omega
 clear h h0 t k B b1 f G c z n o p q m;go_enter func72,ntmps72;go_wp2_with (at_builtin;first|refine eQ N (h:=?_)|refine eQ O (h:=?_));go_ret;exact⟨_,U,D.u⟩
def ql(l:av UInt8)(k:Nat):av UInt8:=(l.drop (4*k)).take 4
abbrev Wm(A:aF UInt8)(k:Nat):av UInt8:=ql A.toList k
def pA:∀(xs:av UInt8) (B:aF UInt8) (o i:Nat),o+xs.length<=B.size->(fq B o xs)[i]? =if o<=i/\i<o+xs.length then xs[i-o]? else B[i]?
 |[],B,o,i,_=>by rw[aI (by simp only[nB];omega)];rfl
 |x::xs,B,o,i,h=>by
  rw[gH]at h⊢;rw[fq,pA xs _ (o+1) i (by rw[jx];omega),rh]
  by_cases e:o=i
  subst e;rw[aI Y,aO U,aO Y,aO Y,Nat.sub_self];rfl;rw[aI e]
  by_cases a:o+1<=i/\i<o+1+xs.length
  rw[aO a,aO Y,show i-o=(i-(o+1))+1 by omega];rfl;rw[aI a,aI Y]
def vd(l k j):(ql l k)[j]? =if j<4 then l[4*k+j]? else aj:=by
 unfold ql
 grind
def km{a b k k'}(h:∀j,j<4->a[4*k+j]? =b[4*k'+j]?):ql a k=ql b k':=by
 apply ux;intro j;rw[vd,vd]
 grind
def mv{xs B q m}(hx:xs.length=4*m)(b:4*(q+m)<=B.size)(k):Wm (fq B (4*q) xs) k=if q<=k/\k<q+m then ql xs (k-q)else Wm B k:=by
 split;refine km λj a=>?_;rw[zw,pA _ _ _ _ Y,aO Y]
 congr 1
 omega;refine km λj a=>?_;rw[zw,pA _ _ _ _ Y,aI Y,zw]
def Uo(C:av (Nat×av UInt8))(k:Nat):av (av UInt8):=(C.filter λc=>decide (c.1=4*k)).map (·.2)
def pr(n:Nat)(C:av (Nat×av UInt8)):Prop:=∀c∈C,c.1%4=0/\c.2.length=4/\c.1+4<=n
def vj(a b:av (Nat×av UInt8))(k):Uo (a++b) k=Uo a k++Uo b k:=by simp[Uo]
def Ix{l}(h:l.length=4):ql l 0=l:=by unfold ql;rw[Nat.mul_zero,List.drop_zero,qE Y]
def pD:∀(C:av (Nat×av UInt8)) (D:aF UInt8) (k:Nat),pr D.size C->Wm (qT D C) k=(Uo C k).getLast?.getD (Wm D k)
 |[],D,k,h=>rfl
 |c::C,D,k,h=>by
  obtain⟨j,f,l⟩:=h c fJ;obtain⟨q,b⟩:∃q,c.1=4*q:=⟨c.1 / 4,Y⟩;have g:=mv (xs:=c.2) (B:=D) (q:=q) (m:=1) Y Y k;have e:Wm (qT D (c::C)) k=Wm (qT (fq D (4*q) c.2) C) k:=by rw[<-b];rfl
  rw[e,pD C _ k (λx i=>by rw[AP];exact h x (gC _ i)),g]
  by_cases d:q=k
  subst d;have a:Uo (c::C) q=c.2::Uo C q:=by simp[Uo,b]
  rw[a,aO Y,Nat.sub_self,Ix f]
  grind
  have a:Uo (c::C) k=Uo C k:=by unfold Uo;rw[List.filter_cons_of_neg (by rw[b];simp;omega)]
  rw[a,aI Y]
structure cc where
 b:av UInt8
 d:av UInt8
 c:av (av UInt8)
abbrev Dk.sec(d:Dk)(k:Nat):cc:=⟨Wm d.B k,Wm d.D k,Uo d.C k⟩
structure Dk.Ok(d:Dk)(n:Nat):Prop where
 bs:d.B.size=4*n
 ds:d.D.size=4*n
 cs:pr (4*n) d.C
 all:∀k,(d.sec k).b=(d.sec k).c.getLast?.getD (d.sec k).d
def Hd{off q m s}(a:off=4*q)(k):Uo (secs off s m) k=if q<=k/\k<q+m then[ql s (k-q)]else[]:=by
 subst a;induction m with
 |zero=>rw[aI Y];rfl
 |succ m b=>
  rw[yk,vj,b]
  by_cases e:k=q+m
  subst e;rw[aI Y,aO Y];have:decide (4*q+4*m=4*(q+m))=M:=bV;simp only[Uo,ss,this,dN,sc,nC,xR,jZ];rw[show q+m-q=m by omega];rfl;have:decide (4*q+4*m=4*k)=aa:=bV;simp only[Uo,ss,this,ff,dM,sc,xR,lf]
  by_cases h:q<=k/\k<q+m
  rw[aO h,aO Y];rw[aI h,aI Y]
def MD{q m n s}(hm:s.length=4*m)(d:q+m<=n):pr (4*n) (secs (4*q) s m):=λc a=>by
 obtain⟨i,b,rfl⟩:=jY.1 a
 grind
def Dk.Ok.write{d:Dk}{n q m s}(h:d.Ok n)(hm:s.length=4*m)(e:q+m<=n):(⟨fq d.B (4*q) s,d.D,d.C++secs (4*q) s m⟩:Dk).Ok n/\
  ∀k,(⟨fq d.B (4*q) s,d.D,d.C++secs (4*q) s m⟩:Dk).sec k=if q<=k/\k<q+m then⟨ql s (k-q),(d.sec k).d,(d.sec k).c++[ql s (k-q)]⟩else d.sec k:=by
 have f:=h.bs
 have a:∀k,(⟨fq d.B (4*q) s,d.D,d.C++secs (4*q) s m⟩:Dk).sec k=if q<=k/\k<q+m then⟨ql s (k-q),(d.sec k).d,(d.sec k).c++[ql s (k-q)]⟩else d.sec k:=λk=>by
  show cc.mk (Wm (fq d.B (4*q) s) k) _ (Uo (d.C++secs (4*q) s m) k)=_;rw[mv hm Y,vj,Hd U]
  grind
 refine⟨⟨(AP ..).t h.bs,h.ds,λc b=>(jg.1 b).e (h.cs c) (MD hm e c),λk=>?_⟩,a⟩;rw[a k];split;simp;exact h.all k
def Dk.Ok.through{d:Dk}{n q m s}(h:d.Ok n)(hm:s.length=4*m)(i:q+m<=n):(⟨fq d.B (4*q) s,fq d.D (4*q) s,stay (4*q) (4*q+s.length) d.C⟩:Dk).Ok n/\
  ∀k,(⟨fq d.B (4*q) s,fq d.D (4*q) s,stay (4*q) (4*q+s.length) d.C⟩:Dk).sec k=if q<=k/\k<q+m then⟨ql s (k-q),ql s (k-q),[]⟩else d.sec k:=by
 have f:=h.bs;have g:=h.ds
 have b:∀k,(⟨fq d.B (4*q) s,fq d.D (4*q) s,stay (4*q) (4*q+s.length) d.C⟩:Dk).sec k=if q<=k/\k<q+m then⟨ql s (k-q),ql s (k-q),[]⟩else d.sec k:=λk=>by
  have a:Uo (stay (4*q) (4*q+s.length) d.C) k=if q<=k/\k<q+m then[]else Uo d.C k:=by
   unfold Uo stay;rw[List.filter_filter];split;rw[Ff.2 λc a=>?_];rfl;simp[jQ];omega
   congr 1
   refine List.filter_congr λc a=>?_
   by_cases e:c.1=4*k
   simp[e,jQ];omega;simp[e]
  show cc.mk (Wm (fq d.B (4*q) s) k) (Wm (fq d.D (4*q) s) k) _=_;rw[mv hm Y,mv hm Y,a];split<;>rfl
 refine⟨⟨(AP ..).t h.bs,(AP ..).t h.ds,λc a=>h.cs c (rO.1 a).1,λk=>?_⟩,b⟩;rw[b k];split;rfl;exact h.all k
def Dk.Ok.flush{d:Dk}{n}(h:d.Ok n):(⟨d.B,qT d.D d.C,[]⟩:Dk).Ok n/\∀k,(⟨d.B,qT d.D d.C,[]⟩:Dk).sec k=⟨(d.sec k).b,(d.sec k).b,[]⟩:=by have a:∀k,Wm (qT d.D d.C) k=Wm d.B k:=λk=>(pD _ _ k (by rw[h.ds];exact h.cs)).t (h.all k).y;refine⟨⟨h.bs,(VH ..).t h.ds,λc e=>(by cases e),λk=>(a k).y⟩,λk=>?_⟩;show cc.mk _ (Wm (qT d.D d.C) k) _=_;rw[a k];rfl
def PC{d:Dk}{n C}(h:d.Ok n)(a:C.Sublist d.C)(k):Wm (qT d.D C) k=(d.sec k).d\/Wm (qT d.D C) k∈(d.sec k).c:=by rw[pD _ _ k (by rw[h.ds];exact λc b=>h.cs c (a.mem b))];rcases e:(Uo C k).getLast? with _|x;exact aA rfl;refine az ?_;have f:(Uo C k).Sublist (Uo d.C k):=(a.filter _).map _;exact f.mem (List.mem_of_getLast? e)
abbrev bh.wr(m:bh):Prop:=m.kd=1\/m.kd=3\/m.kd=4
def bh.sv(m:bh)(k:Nat):av UInt8:=ql (Rq.piece ⟨m,0⟩) k
def bj(m:bh)(er:Int)(k:Nat)(a e:cc):Prop:=
 if m.kd=2/\er=0 then e=⟨a.b,a.b,[]⟩
 else if m.wr/\m.of<=4*k/\4*(k:Int)<m.of+m.ln then
  if er=0 then e=if m.fl=1 then⟨m.sv (k-m.of.toNat / 4),m.sv (k-m.of.toNat / 4),[]⟩else⟨m.sv (k-m.of.toNat / 4),a.d,a.c++[m.sv (k-m.of.toNat / 4)]⟩
  else e=a\/e=⟨m.sv (k-m.of.toNat / 4),a.d,a.c++[m.sv (k-m.of.toNat / 4)]⟩
 else e=a
structure bo(g:Cf)(rs:av Rq):Prop where
 gd:∀r∈rs,r.Gd g/\r.m.of %4=0/\(r.m.fl=1->r.m.wr)
 at_:∀(i:Nat) r,rs[i]? =Z r->r.m.of=(rs[0]?.getD qZ).m.of+oo (rs.take i)
 kd:∀r∈rs,r.m.kd=(rs[0]?.getD qZ).m.kd/\r.m.fl=(rs[0]?.getD qZ).m.fl
 one:(rs[0]?.getD qZ).m.kd=2->rs.length=1
def GN{a b c x k}(e:a.length=4*x)(f:4*(k+1)<=b.length):ql (a++(b++c)) (x+k)=ql b k:=by
 refine km λj h=>?_
 grind
def Ii{l w k}(h:k<w):ql (l.take (4*w)) k=ql l k:=by refine km λj a=>?_;rw[vP,aO Y]
section
variable {g:Cf} {rs:av Rq} {ft:Ft} {d:Dk} {n:Nat}
def xr{r:Rq}(h:r.Gd g)(a:r.m.wr):(r.piece.length:Int)=r.m.ln:=by
 have b:=h.of;unfold Rq.piece;rcases a with e|e|e;rw[aO e];exact h.dt e;rw[aI Y,aO Y,te]
 grind
 rw[aI Y,aO Y,te]
 grind
def pW:∀{rs:av Rq},(∀r∈rs,r.Gd g/\r.m.wr)->((dF rs).length:Int)=oo rs
 |[],_=>rfl
 |r::rs,h=>by
  have b:=xr (h r fJ).1 (h r fJ).2;have c:=pW λx a=>h x (gC _ a)
  have e:(dF (r::rs)).length=r.piece.length+(dF rs).length:=by unfold dF;rw[pH,fQ]
  rw[e];show((r.piece.length+(dF rs).length:Nat):Int)=r.m.ln+oo rs;omega
def xi:∀{rs:av Rq},(∀r∈rs,¬r.m.wr)->dF rs=[]
 |[],_=>rfl
 |r::rs,h=>by
  have a:=h r fJ;unfold bh.wr at a
  have b:r.piece=[]:=by unfold Rq.piece;rw[aI Y,aI Y]
  unfold dF;rw[pH,b];exact xi λx c=>h x (gC _ c)
def jF:∀{rs:av Rq},(∀r∈rs,r.Gd g)->0<=oo rs/\oo rs %4=0
 |[],_=>⟨fI 0,U⟩
 |r::rs,h=>by have b:=(h r fJ).of;have c:=jF λx a=>h x (gC _ a);show 0<=r.m.ln+oo rs/\(r.m.ln+oo rs)%4=0;omega
def mT{i r}(h:rs[i]? =Z r):oo (rs.take (i+1))=oo (rs.take i)+r.m.ln:=by rw[rQ,h,Option.toList_some,Nj];show _+(r.m.ln+0)=_;omega
def Pe(B o):fq B o []=B:=U
def bo.did(h:bo g rs)(hn:g.sz=4*(n:Int))(hd:d.Ok n)(ak:rs≠[]):(d.change rs ft).Ok n/\∃z:Nat->Nat->cc,(∀k,z 0 k=d.sec k)/\(∀k,z rs.length k=(d.change rs ft).sec k)/\
  ∀(i:Nat) r,rs[i]? =Z r->(∀k,bj r.m (if ft.eJ then 5 else 0) k (z i k) (z (i+1) k))/\(r.m.kd=0->∀k,(z i k).b=Wm (d.change rs ft).B k):=by
 obtain⟨a,t,rfl⟩:∃a t,rs=a::t:=by rcases rs with _|⟨r,t⟩;exact absurd rfl ak;exact⟨r,t,rfl⟩
 have g0:=(h.gd a fJ).1;have m0:=(h.gd a fJ).2;have kd:∀r∈a::t,r.m.kd=a.m.kd/\r.m.fl=a.m.fl:=h.kd;have one:=h.one;have at_:∀(i:Nat) r,(a::t)[i]? =Z r->r.m.of=a.m.of+oo ((a::t).take i):=h.at_
 by_cases l:a.m.wr
 ·
  obtain⟨q,hq⟩:∃q:Nat,a.m.of=4*(q:Int):=⟨(a.m.of / 4).toNat,by have:=g0.of;omega⟩;have P:a.m.of.toNat=4*q:=Y;have f:∀r∈a::t,r.Gd g/\r.m.wr:=λr hr=>⟨(h.gd r hr).1,by unfold bh.wr at l⊢;rw[(kd r hr).1];exact l⟩;have aT:=pW f;have aW:=jF (g:=g) (rs:=a::t) λr hr=>(f r hr).1;obtain⟨p,hM⟩:∃p:Nat,(dF (a::t)).length=4*p:=⟨(dF (a::t)).length / 4,Y⟩
  have aQ:q+p<=n:=by obtain⟨r,hr⟩:∃r,(a::t)[t.length]? =Z r:=⟨_,dj ay⟩;have h1:=at_ _ r hr;have A:=mT hr;rw[qE ay]at A;have h3:=(f r (jC hr)).1.of;omega
  obtain⟨w,E,bl,aE⟩:∃w,eG (a::t) ft=(dF (a::t)).take (4*w)/\w<=p/\(ft.eJ=aa->w=p):=by unfold eG;split;rename_i e;exact⟨_,U,Y,λj=>by rw[e]at j;cases j⟩;exact⟨p,by rw[qE Y],aR _,λ_=>U⟩
  have R:(eG (a::t) ft).length=4*w:=by rw[E,vS];omega
  have A:¬a.m.kd=2:=by unfold bh.wr at l;omega
  have hv:∀k,q<=k/\k<q+w->ql (eG (a::t) ft) (k-q)=ql (dF (a::t)) (k-q):=λk J=>by rw[E];exact Ii Y
  obtain⟨an,K⟩:(d.change (a::t) ft).Ok n/\∀k,(d.change (a::t) ft).sec k=if q<=k/\k<q+w then(if a.m.fl=1/\ft.eJ=aa then⟨ql (dF (a::t)) (k-q),ql (dF (a::t)) (k-q),[]⟩else⟨ql (dF (a::t)) (k-q),(d.sec k).d,(d.sec k).c++[ql (dF (a::t)) (k-q)]⟩)else d.sec k:=by unfold Dk.change;dsimp only;rw[aI λe=>A e.1];split;rw[P];obtain⟨a1,u⟩:=hd.through (q:=q) R Y;refine⟨a1,λk=>(u k).t ?_⟩;split;rename_i e;rw[hv k e];rfl;rw[P,show(eG (a::t) ft).length / 4=w by omega];obtain⟨a1,u⟩:=hd.write (q:=q) R Y;refine⟨a1,λk=>(u k).t ?_⟩;split;rename_i e;rw[hv k e];rfl
  refine⟨an,λi k=>if 4*(k:Int)<a.m.of+oo ((a::t).take i)then(d.change (a::t) ft).sec k else d.sec k,λk=>?_,λk=>?_,λi r hr=>⟨λk=>?_,λe=>?_⟩⟩;show(if 4*(k:Int)<a.m.of+0 then _ else _)=_;split;rw[K k,aI Y];rfl;dsimp only;rw[pM];split;rfl;rw[K k,aI Y];have v:=jC hr;have L:=at_ i r hr;have j:=mT hr;have e3:=(f r v).1.of;have O:=kd r v;have bk:=jF (g:=g) (rs:=(a::t).take i) λx o=>(f x (uA o)).1
  have aS:oo ((a::t).take (i+1))<=oo (a::t):=by have T:=Nj ((a::t).take (i+1)) ((a::t).drop (i+1));rw[pL]at T;have:=jF (g:=g) (rs:=(a::t).drop (i+1)) λx o=>(f x (BZ o)).1;omega
  dsimp only;rw[j];unfold bj;rw[aI (by rw[O.1];exact λe=>A e.1)]
  by_cases Q:r.m.of<=4*(k:Int)/\4*(k:Int)<r.m.of+r.m.ln
  have V:¬4*(k:Int)<a.m.of+oo ((a::t).take i):=Y;have W:4*(k:Int)<a.m.of+(oo ((a::t).take i)+r.m.ln):=Y;rw[aO ⟨(f r v).2,Q⟩,aI V,aO W,K k]
  have aD:ql (dF (a::t)) (k-q)=r.m.sv (k-r.m.of.toNat / 4):=by
   have aC:dF (a::t)=dF ((a::t).take i)++(r.piece++dF ((a::t).drop (i+1))):=by
    have:a::t=(a::t).take i++r::(a::t).drop (i+1):=by obtain⟨N,e⟩:=bY.1 hr;rw[<-e,<-BQ N,pL]
    calc dF (a::t)=dF ((a::t).take i++r::(a::t).drop (i+1)):=by rw[<-this]
     _=_:=by unfold dF;rw[rL,pH]
   have l1:=pW (g:=g) (rs:=(a::t).take i) λx o=>f x (uA o);have l2:=xr (f r v).1 (f r v).2;obtain⟨x,o⟩:∃x:Nat,(dF ((a::t).take i)).length=4*x:=⟨(dF ((a::t).take i)).length / 4,Y⟩;rw[aC,show k-q=x+(k-r.m.of.toNat / 4) by omega];refine(GN o Y).t ?_;rfl
  rw[aD,O.2];cases H:ft.eJ;have:=aE H;rw[aO (show(if aa=M then(5:Int)else 0)=0 from U),aO (show q<=k/\k<q+w by omega)];split;rename_i e;rw[aO e.1];rename_i e;rw[aI λj=>e ⟨j,U⟩];rw[aI (show ¬(if M=M then(5:Int)else 0)=0 by decide),aI (show ¬(a.m.fl=1/\M=aa) from λe=>by cases e.2)]
  by_cases e:q<=k/\k<q+w
  rw[aO e];exact az U;rw[aI e];exact aA U;rw[aI λe=>Q e.2]
  by_cases e:4*(k:Int)<a.m.of+oo ((a::t).take i)
  rw[aO e,aO Y];rw[aI e,aI Y];have:=(f r (jC hr)).2;unfold bh.wr at this;omega
 have X:dF (a::t)=[]:=xi λr hr=>by unfold bh.wr at l⊢;rw[(kd r hr).1];exact l
 have E:eG (a::t) ft=[]:=by unfold eG;rw[X];split<;>simp
 have af:¬a.m.fl=1:=λe=>l (m0.2 e)
 by_cases s:a.m.kd=2/\ft.eJ=aa
 ·
  have G:d.change (a::t) ft=⟨d.B,qT d.D d.C,[]⟩:=by unfold Dk.change;dsimp only;rw[aO s]
  obtain⟨a1,u⟩:=hd.flush;have hl:=one s.1;rw[G];refine⟨a1,λi k=>if i=0 then d.sec k else(⟨d.B,qT d.D d.C,[]⟩:Dk).sec k,λk=>U,λk=>by rw[hl];rfl,λi r hr=>⟨λk=>?_,λe=>?_⟩⟩;have N:=(bY.1 hr).1;have S:i=0:=Y;subst S;cases hr;unfold bj;rw[s.2,aO ⟨s.1,U⟩];exact u k;rw[(kd r (jC hr)).1]at e;omega
 ·
  have G:d.change (a::t) ft=d:=by unfold Dk.change;dsimp only;rw[aI s,aI λe=>af e.1,E,Pe];show Dk.mk d.B d.D (d.C++[])=d;rw[lf]
  rw[G];refine⟨hd,λ_ k=>d.sec k,λ_=>U,λ_=>U,λi r hr=>⟨λk=>?_,λ_ k=>U⟩⟩;have J:=kd r (jC hr);unfold bj;rw[aI ?_,aI λe=>l ?_];have:=e.1;unfold bh.wr at this⊢;rw[<-J.1];exact this;rw[J.1];rintro⟨L,j⟩;refine s ⟨L,?_⟩;cases H:ft.eJ;rfl;rw[H]at j;cases j
end
structure eU(w:aq)(sb:Nat)(rv:Nat->aB)(X:Nat->Nat->av ByteArray)(n:Nat):Prop where
 box:w.heap[sb]? =Z (au #[rv 0,rv 1,rv 2] 39 (0,0))
 row:∀t,t<3->∃c:av aB,w.ownsRow 0 41 1 (rv t) n c/\∀(k:Nat) v,c[k]? =Z v->Ld w v (X t k)/\(X t k=[]->v=ζ aj 0 0)
 ne:∀t a b,t<3->a<3->(rv t).ownBlock=Z b->(rv a).ownBlock=Z b->t=a
def uo(X:Nat->Nat->av ByteArray)(t k:Nat)(l:av ByteArray):Nat->Nat->av ByteArray:=λb a=>if b=t/\a=k then l else X b a
section
variable {w w':aq} {sb n t k gb cap:Nat} {rv:Nat->aB} {X:Nat->Nat->av ByteArray} {v:aB} {l:av ByteArray}
def eU.old(T:eU w sb rv X n)(c:∀b,b<w.heap.size->w'.heap[b]? =w.heap[b]?):eU w' sb rv X n:=by refine⟨(c sb (bf.1 T.box).1).t T.box,λt f=>?_,T.ne⟩;obtain⟨g,d,a⟩:=T.row t f;exact⟨g,eF d λb e=>c b (jJ d b e),λk v hv=>⟨eF (a k v hv).1 λb e=>c b (jJ (a k v hv).1 b e),(a k v hv).2⟩⟩
def eU.at (T:eU w sb rv X n)(d:t<3)(m:k<n):∃gb cap a v,rv t=ζ (Z (F gb 0)) n cap/\w.heap[gb]? =Z (au a 41 (0,0))/\a[k]? =Z v/\Ld w v (X t k)/\(X t k=[]->v=ζ aj 0 0):=by
 obtain⟨e,b,f⟩:=T.row t d;rcases b.2 with⟨_,c⟩|⟨gb,cap,a,c,_,g,h,_,i,j⟩;omega;have o:=b.1;obtain⟨v,hv⟩:∃v,e[k]? =Z v:=⟨_,dj Y⟩
 grind
def eU.put(T:eU w sb rv X n)(z:t<3)(S:k<n)(p:rv t=ζ (Z (F gb 0)) n cap)(hv:Ld w v l)(h0:l=[]->v=ζ aj 0 0):eU (w.setCell (F gb k) v) sb rv (uo X t k l) n/\aS (·=gb) w (w.setCell (F gb k) v):=by
 obtain⟨C,q,P⟩:=T.row t z
 obtain⟨d,g,r,s,E,u⟩:∃d:aF aB,w.heap[gb]? =Z (au d 41 (0,0))/\n<=cap/\cap<=cP/\d.size=cap/\d.toList.take n=C:=by
  rcases q.2 with⟨_,g⟩|⟨O,N,d,g,_,r,s,Q,E,u⟩;omega;rw[p]at g
  grind
 have off:∀b,b≠gb->(w.setCell (F gb k) v).heap[b]? =w.heap[b]? :=λb h=>bC h
 have x:∀{b:Nat} {c:aF aB} {m:Nat},w.heap[b]? =Z (au c m (0,0))->m≠41->(w.setCell (F gb k) v).heap[b]? =w.heap[b]? :=λ{b c m} h R=>off b λe=>by grind
 have V:∀{j:aB} {B:av ByteArray},Ld w j B->Ld (w.setCell (F gb k) v) j B:=λh=>eF h λb e=>by obtain⟨c,H⟩:=yW h e;exact x H aM
 refine⟨⟨(x T.box aM).t T.box,λa A=>?_,T.ne⟩,⟨U,ay,λb _ h=>off b h⟩⟩
 by_cases e:a=t
 subst e;have J:=q.1;refine⟨C.set k v,?_,λf j i=>?_⟩;rw[p];refine⟨by rw[jB];exact J,az ⟨gb,cap,d.setIfInBounds k v,U,cO _,bG g k v,r,s,by rw[jx];omega,?_⟩⟩;rw[JH,Nat.mul_one,rn,u]
 by_cases o:k=f
 subst o;rw[iy Y]at i;cases i;have:uo X a k l a k=l:=by simp[uo]
 grind
 rw[gQ o]at i;have:uo X a k l a f=X a f:=by simp[uo,dB o]
 grind
 obtain⟨K,a1,L⟩:=T.row a A;refine⟨K,eF a1 λb G=>off b λD=>?_,λf j i=>?_⟩;subst D;exact e (T.ne a t b A z G (by rw[p];rfl));have:uo X t k l a f=X a f:=by simp[uo,e]
 grind
end
def dp(x a:Wi):Bool:=!((x.kd==2)||((a.kd==2)||((x.kd==0)&&(a.kd==0))))&&(decide (x.of<a.of+a.ln)&&decide (a.of<x.of+x.ln))
def Ic(a b)(x c:Wi)(w)(d:w.heap[a]? =Z (au (mI x) 68 (0,0)))(f:w.heap[b]? =Z (au (mI c) 68 (0,0)))(hx:0<=x.of/\x.of<=65535/\0<=x.ln/\x.ln<=65535)(hy:0<=c.of/\c.of<=65535/\0<=c.ln/\c.ln<=65535):
  Calls prog 21 #[jp a,jp b] w λe n=>e=aG (ω (dp x c))/\∃k,n=w.drewN k:=by
 have o:=aJ w a 2 (I x.kd) d;have p:=aJ w a 4 (I x.of) d;have q:=aJ w a 5 (I x.ln) d;have r:=aJ w b 2 (I c.kd) f;have s:=aJ w b 4 (I c.of) f;have t:=aJ w b 5 (I c.ln) f;have u:cJ.wrap (x.of+x.ln)=x.of+x.ln:=dI Y Y;have v:cJ.wrap (c.of+c.ln)=c.of+c.ln:=dI Y Y;clear d f hx hy;have g:Hid (dp x c=(!((x.kd==2)||((c.kd==2)||((x.kd==0)&&(c.kd==0))))&&(decide (x.of<c.of+c.ln)&&decide (c.of<x.of+x.ln)))):=U;generalize dp x c=V at*;go_enter func21,ntmps21;cases h:(x.kd==2)<;>cases i:(c.kd==2)<;>cases j:(x.kd==0)<;>cases l:(c.kd==0)<;>cases m:decide (x.of<c.of+c.ln)<;>rw[h,i,j,l,m]at g
 all_goals first
  |(go_upto_region 3 with fail
    go_quiet (fail)
    go_wp2;go_ret;exact⟨by rw[g.u];simp,_,U⟩)
  |(go_wp2
    go_ret;exact⟨by rw[g.u];simp,0,U⟩)
def oB(w:aq)(rv:Nat->aB)(w':aq):Prop:=w.heap.size<=w'.heap.size/\∀b,b<w.heap.size->(∀t,t<3->(rv t).ownBlock≠Z b)->w'.heap[b]? =w.heap[b]?
def oB.refl(w rv):oB w rv w:=⟨aR _,λ_ _ _=>U⟩
def oB.trans{w w1 w2 rv}(h:oB w rv w1)(k:oB w1 rv w2):oB w rv w2:=⟨cM h.1 k.1,λb a c=>(k.2 b (cS a h.1) c).t (h.2 b a c)⟩
abbrev oB.t:=@oB.trans
def oB.below{w w' rv}(h:aK w w'):oB w rv w':=⟨h.size,λb a _=>h.block b a⟩
def oB.put{w w' rv t gb n cap}(f:t<3)(d:rv t=ζ (Z (F gb 0)) n cap)(h:aS (·=gb) w w'):oB w rv w':=⟨h.size,λb a c=>h.block b a λe=>c t f (by rw[d,e];rfl)⟩
def ai(X:Nat->Nat->av ByteArray)(i:Nat):Nat->Nat->av ByteArray:=λt k=>if k<i then(if t=1 then X 0 k else if t=2 then[]else X t k)else X t k
def Hk(X:Nat->Nat->av ByteArray)(i):uo (uo (ai X i) 1 i (X 0 i)) 2 i []=ai X (i+1):=by
 funext t k
 simp only[uo,ai]
 by_cases e:k=i
 subst e
 by_cases b:t=2<;>by_cases a:t=1<;>simp[a,b]
 have a:(k<i+1)=(k<i):=bV;simp[e,a]
def vz(a:Nat)(rv:Nat->aB)(X:Nat->Nat->av ByteArray)(n:Nat)(w:aq)(e:jA)(w':aq):Prop:=e=aG (θ #[])/\eU w' a rv (ai X n) n/\oB w rv w'
def Sk(sb n rv)(X:Nat->Nat->av ByteArray)(w)(h:eU w sb rv X n)(hn:n<=65536)(h0:0<n):
  Calls prog 41 #[jp sb] w (vz sb rv X n w):=by
 obtain⟨g0,m,_,_,z,_⟩:=h.at (t:=0) aM h0;obtain⟨b,p1,_,_,A,_⟩:=h.at (t:=1) (k:=0) aM h0;obtain⟨g2,C,_,_,B,_⟩:=h.at (t:=2) (k:=0) aM h0;have a:Hid (rv 0=ζ (Z (F g0 0)) n m/\rv 1=ζ (Z (F b 0)) n p1/\rv 2=ζ (Z (F g2 0)) n C):=⟨z,A,B⟩;have D:Hid (eU w sb rv (ai X 0) n/\oB w rv w):=⟨by have:ai X 0=X:=by{funext t k;simp[ai]};rw[this];exact h,oB.refl _ _⟩;clear h z A B;go_enter func41,ntmps41;go_wp2
 go_loopw [2] (λp wr=>∃i:Nat,i<=n/\p=I i/\Hid (eU wr sb rv (ai X i) n/\oB w rv wr)) (λp _=>n-(dw p).toNat)
 case atStart=>exact⟨0,cO _,U,D⟩
 case round=>
  obtain⟨i,hi,rfl,c⟩:=hrel;have E:wr.cell? (F sb 0)=Z (ζ (Z (F g0 0)) n m):=by rw[<-a.u.1];exact aD c.u.1.box U
  by_cases j:i<n
  ·have L:(i:Int)<(n:Int):=Y;have hh:0<=(i:Int)/\(i:Int)<(n:Int):=Y;obtain⟨af,aH,R,v0,v,a1,x,a3,o⟩:=c.u.1.at (t:=0) (k:=i) aM j;rw[a.u.1]at v;cases v;have G:ai X i 0 i=X 0 i:=by simp[ai]
   rw[G]at a3 o;obtain⟨d,f,ev⟩:=gP a3;generalize (X 0 i).length=g at ev;subst ev;obtain⟨ah,aJ,T,O,d0,d1,d2,_⟩:=c.u.1.at (t:=1) (k:=i) aM j;rw[a.u.2.1]at d0;cases d0;have b1:wr.cell? (F sb 1)=Z (ζ (Z (F b 0)) n p1):=by rw[<-a.u.2.1];exact aD c.u.1.box U
   have Q:wr.cell? (F g0 i)=Z (ζ d g f):=aD a1 x;have x1:wr.cell? (F b i)=Z O:=aD d1 d2;have z1:=bp d1 i;obtain⟨l,s⟩:=c.u.1.put (t:=1) aM j a.u.2.1 a3 o;obtain⟨ak,aK,V,P,f0,f1,f2,_⟩:=l.at (t:=2) (k:=i) aM j;rw[a.u.2.2]at f0;cases f0;have N:Ld (wr.setCell (F b i) (ζ d g f)) (ζ aj 0 0) []:=⟨U,aA ⟨U,U⟩⟩;obtain⟨r,u⟩:=l.put (t:=2) aM j a.u.2.2 N λ_=>U;have q:Hid (eU ((wr.setCell (F b i) (ζ d g f)).setCell (F g2 i) (ζ aj 0 0)) sb rv (ai X (i+1)) n/\oB w rv ((wr.setCell (F b i) (ζ d g f)).setCell (F g2 i) (ζ aj 0 0))):=⟨by rw[<-Hk];exact r,(c.u.2.t (.put (t:=1) aM a.u.2.1 s)).t (.put (t:=2) aM a.u.2.2 u)⟩;have y2:(wr.setCell (F b i) (ζ d g f)).cell? (F sb 2)=Z (ζ (Z (F g2 0)) n C):=by rw[<-a.u.2.2];exact aD l.box U
   have y3:(wr.setCell (F b i) (ζ d g f)).cell? (F g2 i)=Z P:=aD f1 f2;have y4:=bp f1 i;clear l r s u a1 x a3 o d1 d2 f1 f2 c
   go_upto_region 3 with fail
   refine wp_region_noPanic ?_;have J:wr.drew.cell? (F sb 0)=Z (ζ (Z (F g0 0)) n m)/\wr.drew.cell? (F sb 1)=Z (ζ (Z (F b 0)) n p1)/\wr.drew.cell? (F g0 i)=Z (ζ d g f):=⟨E,b1,Q⟩;refine Ze (S:=λW=>W.cell? (F sb 0)=Z (ζ (Z (F g0 0)) n m)/\W.cell? (F sb 1)=Z (ζ (Z (F b 0)) n p1)/\W.cell? (F g0 i)=Z (ζ d g f)) 13 aW J ?_;intro hS;apply tg [0,1,2,3,4,5,6,7];apply tg [8,9,10,11,12];refine gz λK H=>?_;go_simp;refine H.u _ _ ?_;refine gl ?_;go_wp2;refine⟨⟨i+1,Y,by go_num,?_⟩,by simp[dw];omega⟩;exact⟨q.u.1.old λ_ _=>U,q.u.2.t ⟨aR _,λ_ _ _=>U⟩⟩
  have L:¬(i:Int)<(n:Int):=Y;have e:i=n:=Y;subst e;go_wp2;exact bodyPost_ret (results_none U _ _ _) U ⟨U,c.u⟩
abbrev Bd(s:ByteArray)(i:Nat):ByteArray:=s.extract (4*i) (4*i+4)
def ae(X:Nat->Nat->av ByteArray)(q:Nat)(s:ByteArray)(i:Nat):Nat->Nat->av ByteArray:=λt k=>if t=0/\q<=k/\k<q+i then[Bd s (k-q)]else X t k
def GV(X:Nat->Nat->av ByteArray)(q s i):uo (ae X q s i) 0 (q+i) [Bd s i]=ae X q s (i+1):=by
 funext t k
 simp only[uo,ae]
 by_cases e:k=q+i
 subst e
 by_cases h:t=0
 simp[h,show q+i-q=i by omega];simp[h];have a:(q<=k/\k<q+(i+1))=(q<=k/\k<q+i):=bV;simp[e,a]
def vy(a:Nat)(rv:Nat->aB)(X:Nat->Nat->av ByteArray)(n:Nat)(w:aq)(e:jA)(w':aq):Prop:=e=aG (ω M)/\eU w' a rv X n/\oB w rv w'
def IH(f a n q m j:Nat)(rv)(X:Nat->Nat->av ByteArray)(r:Wi)(w)(h:eU w f rv X n)(C:w.heap[a]? =Z (au (mI r) 68 (0,0)))(ho:r.of=4*(q:Int))(hl:r.ln=4*(m:Int))(hn:q+m<=n)(aS:n<=65536)(aT:r.tx.size=4*m)(O:∀k,(X 0 k).length<=j)(N:j<=1099511627776)(R:∀i,i<m->Bd r.tx i∈X 0 (q+i))(V:∀t,t<3->(rv t).ownBlock≠Z a):
  Calls prog 40 #[jp f,jp a] w (vy f rv (ae X q r.tx m) n w):=by
 have H:Hid (eU w f rv (ae X q r.tx 0) n/\oB w rv w):=⟨by have:ae X q r.tx 0=X:=by{funext t k;simp only[ae];rw[aI Y]};rw[this];exact h,oB.refl _ _⟩
 have v:Hid (∀W,oB w rv W->W.cell? (F a 10)=Z (ξ r.tx)/\W.cell? (F a 5)=Z (I (4*(m:Int)))/\W.cell? (F a 4)=Z (I (4*(q:Int)))):=λW g=>by have g:=(g.2 a (bf.1 C).1 V).t C;rw[<-ho,<-hl];exact⟨aD g U,aD g U,aD g U⟩
 obtain⟨aH,c5,_⟩:=v w (oB.refl _ _);have l:Hid ((∀k,(X 0 k).length<=j)/\j<=1099511627776/\∀i,i<m->Bd r.tx i∈X 0 (q+i)):=⟨O,N,R⟩;have hz:((r.tx.size:Nat):Int)=4*(m:Int):=Y;have t1:(4*(m:Int)).tdiv 4=m:=by rw[EX Y];omega
 have t2:(4*(q:Int)).tdiv 4=q:=by rw[EX Y];omega
 have u1:cJ.wrap (m:Int)=m:=dI Y Y;have u2:cJ.wrap (q:Int)=q:=dI Y Y;go_enter func40,ntmps40
 go_upto_region 1 with fail
 go_quiet (fail)
 go_wp2
 go_loopw [5] (λu wr=>∃i:Nat,i<=m/\u=I i/\Hid (eU wr f rv (ae X q r.tx i) n/\oB w rv wr)) (λu _=>m-(dw u).toNat)
 case atStart=>exact⟨0,cO _,U,H.u.1.old λ_ _=>U,aR _,λ_ _ _=>U⟩
 case round=>
  obtain⟨i,hi,rfl,c⟩:=hrel;obtain⟨d10,d5,d4⟩:=v.u wr c.u.2
  by_cases T:i<m
  ·have S:(i:Int)<(m:Int):=Y;obtain⟨g0,p0,aL,v0,o,a1,s,a3,K⟩:=c.u.1.at (t:=0) (k:=q+i) aM Y;have L:ae X q r.tx i 0 (q+i)=X 0 (q+i):=by simp[ae]
   rw[L]at a3;have HM:Hid (Ld wr v0 (X 0 (q+i))):=a3;obtain⟨D,E,ev⟩:=gP a3;generalize (X 0 (q+i)).length=G at ev;subst ev;have b0:wr.cell? (F f 0)=Z (ζ (Z (F g0 0)) n p0):=by rw[<-o];exact aD c.u.1.box U
   have x0:wr.cell? (F g0 (q+i))=Z (ζ D G E):=aD a1 s;have z0:=bp a1 (q+i);have d:aK wr (wr.alloc (au #[ξ (Bd r.tx i)] 9)):=bq;have x:Ld (wr.alloc (au #[ξ (Bd r.tx i)] 9)) (ζ (Z (F wr.heap.size 0)) 1 1) [Bd r.tx i]:=ja wr #[ξ (Bd r.tx i)] 1 (cO _) (by unfold cP;omega) U;have z:=c.u.1.old λb P=>d.block b P;obtain⟨A,B⟩:=z.put (t:=0) (k:=q+i) aM Y o x λe=>by cases e
   have p:=(d.block g0 (bf.1 a1).1).t a1;have x1:(wr.alloc (au #[ξ (Bd r.tx i)] 9)).cell? (F g0 (q+i))=Z (ζ D G E):=aD p s;have z1:=bp p (q+i);have J:Hid (eU ((wr.alloc (au #[ξ (Bd r.tx i)] 9)).setCell (F g0 (q+i)) (ζ (Z (F wr.heap.size 0)) 1 1)) f rv (ae X q r.tx (i+1)) n/\oB w rv ((wr.alloc (au #[ξ (Bd r.tx i)] 9)).setCell (F g0 (q+i)) (ζ (Z (F wr.heap.size 0)) 1 1))):=⟨by rw[<-GV];exact A,(c.u.2.t (.below d)).t (.put (t:=0) aM o B)⟩;have k1:cJ.wrap ((q:Int)+i)=(q:Int)+i:=dI Y Y;have k2:cJ.wrap (4*(i:Int))=4*(i:Int):=dI Y Y;have k3:cJ.wrap (4*(i:Int)+4)=4*(i:Int)+4:=dI Y Y;have j1:((q:Int)+i).toNat=q+i:=Y;have j2:(4*(i:Int)).toNat=4*i:=Y;have j3:(4*(i:Int)+4).toNat=4*i+4:=Y;have l1:0<=(q:Int)+i/\(q:Int)+i<(n:Int):=Y;have l2:0<=4*(i:Int)/\4*(i:Int)<=4*(i:Int)+4/\4*(i:Int)+4<=((r.tx.size:Nat):Int):=Y;have HC:Hid (r.tx.extract (4*i) (4*i+4)=Bd r.tx i):=U;clear z A B a1 p s a3 K c d x z0;go_wp2_with (go_at_call 9;refine(xn _ _ _ _ HM.u (cM (l.u.1 _) l.u.2.1)).m ?_;rintro e w1 ⟨b,rfl,d,rfl⟩;have Q:b=M:=d.2 (l.u.2.2 i T);subst Q;clear d);refine⟨⟨i+1,Y,by go_num,?_⟩,by simp[dw];omega⟩;exact J
  have S:¬(i:Int)<(m:Int):=Y;have e:i=m:=Y;subst e;go_wp2;go_ret;exact⟨U,c.u⟩
def Wi.vB(r:Wi)(i:Nat):ByteArray:=if r.kd=1 then Bd r.dt i else⟨#[0,0,0,0]⟩
def ei(r:Wi)(er:Int)(v:ByteArray)(t:Nat)(l:av ByteArray):av ByteArray:=
 if er=0 then(if r.fl=1 then(if t=2 then[]else[v])else if t=0 then[v]else if t=2 then l++[v]else l)else if t=1 then l else l++[v]
def JL(X:Nat->Nat->av ByteArray)(q:Nat)(r:Wi)(er:Int)(i:Nat):Nat->Nat->av ByteArray:=λt k=>if t<3/\q<=k/\k<q+i then ei r er (r.vB (k-q)) t (X t k)else X t k
def pC(X:Nat->Nat->av ByteArray)(q)(r:Wi)(er i)(a:Nat->Nat->av ByteArray)(h:∀t k,a t k=if k=q+i/\t<3 then ei r er (r.vB i) t (X t (q+i))else JL X q r er i t k):a=JL X q r er (i+1):=by
 funext t k
 rw[h t k];simp only[JL]
 by_cases e:k=q+i
 subst e;rw[show q+i-q=i by omega]
 by_cases c:t<3
 rw[aO ⟨U,c⟩,aO Y];rw[aI Y,aI Y,aI Y];rw[aI Y]
 by_cases b:t<3/\q<=k/\k<q+i
 rw[aO b,aO Y];rw[aI b,aI Y]
section
variable {er:Int} (X:Nat->Nat->av ByteArray) (q:Nat) (r:Wi) (i:Nat)
def Ex(he:¬er=0):uo (uo (JL X q r er i) 0 (q+i) (JL X q r er i 0 (q+i)++[r.vB i])) 2 (q+i) (uo (JL X q r er i) 0 (q+i) (JL X q r er i 0 (q+i)++[r.vB i]) 2 (q+i)++[r.vB i])=JL X q r er (i+1):=
 pC X q r er i _ λt k=>by
  by_cases e:k=q+i
  subst e;rcases t with _|_|_|t<;>simp[uo,ei,JL,he]<;>(intro h;omega);simp[uo,e]
def MB(he:er=0)(hf:r.fl=1):uo (uo (uo (JL X q r er i) 0 (q+i) [r.vB i]) 1 (q+i) [r.vB i]) 2 (q+i) []=JL X q r er (i+1):=
 pC X q r er i _ λt k=>by
  by_cases e:k=q+i
  subst e;rcases t with _|_|_|t<;>simp[uo,ei,JL,he,hf]<;>(intro h;omega);simp[uo,e]
def Lw(he:er=0)(hf:¬r.fl=1):uo (uo (JL X q r er i) 0 (q+i) [r.vB i]) 2 (q+i) (uo (JL X q r er i) 0 (q+i) [r.vB i] 2 (q+i)++[r.vB i])=JL X q r er (i+1):=
 pC X q r er i _ λt k=>by
  by_cases e:k=q+i
  subst e;rcases t with _|_|_|t<;>simp[uo,ei,JL,he,hf]<;>(intro h;omega);simp[uo,e]
end
structure K1(W:aq)(sb:Nat)(rv:Nat->aB)(X:Nat->Nat->av ByteArray)(n t k gb cap:Nat)(v:aB)(l:av ByteArray)(W':aq):Prop where
 sea:eU (W'.setCell (F gb k) v) sb rv (uo X t k l) n
 arc:oB W rv (W'.setCell (F gb k) v)
 cell:∃u,W'.cell? (F gb k)=Z u
 fz:W'.frozen? (F gb k)=aa
def eU.arb{W W' sb n t k gb cap rv X v l}(T:eU W sb rv X n)(a:∀b,b<W.heap.size->W'.heap[b]? =W.heap[b]?)(m:W.heap.size<=W'.heap.size)(d:t<3)(f:k<n)(c:rv t=ζ (Z (F gb 0)) n cap)(hv:Ld W' v l)(h0:l=[]->v=ζ aj 0 0):K1 W sb rv X n t k gb cap v l W':=by obtain⟨S,h⟩:=(T.old a).put d f c hv h0;obtain⟨s,o,p,u,e,a1,g,_⟩:=(T.old a).at d f;rw[c]at e;cases e;exact⟨S,oB.t ⟨m,λb j _=>a b j⟩ (.put d c h),⟨u,aD a1 g⟩,bp a1 k⟩
section
variable {W:aq} {sb n t k gb cap:Nat} {rv:Nat->aB} {X:Nat->Nat->av ByteArray}
def eU.own(T:eU W sb rv X n)(c:t<3)(a:rv t=ζ (Z (F gb 0)) n cap){z:aq}(b:z.heap[sb]? =W.heap[sb]?):z.cell? (F sb t)=Z (ζ (Z (F gb 0)) n cap):=by rw[<-a];exact aD (b.t T.box) (by rcases(by omega:t=0\/t=1\/t=2)with rfl|rfl|rfl<;>rfl)
def eU.lit(T:eU W sb rv X n)(c:t<3)(f:k<n)(a:rv t=ζ (Z (F gb 0)) n cap)(s:ByteArray):W.cell? (F sb t)=Z (ζ (Z (F gb 0)) n cap)/\(∃u,(W.alloc (au #[ξ s] 9)).cell? (F gb k)=Z u)/\(W.alloc (au #[ξ s] 9)).frozen? (F gb k)=aa/\Hid (eU ((W.alloc (au #[ξ s] 9)).setCell (F gb k) (ζ (Z (F W.heap.size 0)) 1 1)) sb rv (uo X t k [s]) n/\oB W rv ((W.alloc (au #[ξ s] 9)).setCell (F gb k) (ζ (Z (F W.heap.size 0)) 1 1))):=by
 have h:=(ee W.heap.size W).alloc (aR _) (au #[ξ s] 9);have N:Ld (W.alloc (au #[ξ s] 9)) (ζ (Z (F W.heap.size 0)) 1 1) [s]:=ja W #[ξ s] 1 (cO _) (by unfold cP;omega) U;have P:=T.arb (λb d=>h.block b d) h.size c f a N λe=>by cases e
 exact⟨T.own c a U,P.cell,P.fz,P.sea,P.arc⟩
def eU.wth(T:eU W sb rv X n)(o:t<3)(C:k<n)(l:rv t=ζ (Z (F gb 0)) n cap)(s:ByteArray)(hl:(X t k).length<=1099511627776):∃a A d,W.cell? (F sb t)=Z (ζ (Z (F gb 0)) n cap)/\W.cell? (F gb k)=Z (ζ a A d)/\Hid (Calls prog 72 #[ζ a A d,ξ s] W.drew λe x=>∃w B z,e=aG (ζ w B z)/\(x.cell? (F sb t)=Z (ζ (Z (F gb 0)) n cap)/\x.cell? (F gb k)=Z (ζ a A d))/\(∃u,x.cell? (F gb k)=Z u)/\x.frozen? (F gb k)=aa/\Hid (eU (x.setCell (F gb k) (ζ w B z)) sb rv (uo X t k (X t k++[s])) n/\oB W rv (x.setCell (F gb k) (ζ w B z)))):=by obtain⟨g,p,c,v,e,f,h,E,m⟩:=T.at o C;rw[l]at e;cases e;obtain⟨a,d,ev⟩:=gP E;subst ev;refine⟨a,_,d,T.own o l U,aD f h,(GF _ _ s W.drew (eF E λ_ _=>U) m hl).m ?_⟩;rintro e x ⟨J,rfl,D,j⟩;have P:=T.arb (λb H=>j.block b H) j.size o C l D λe=>absurd e ay;obtain⟨w,z,G⟩:=gP D;subst G;exact⟨_,_,_,U,⟨T.own o l (j.block _ (bf.1 T.box).1),aD ((j.block _ (bf.1 f).1).t f) h⟩,P.cell,P.fz,P.sea,P.arc⟩
end
def wG(sb:Nat)(rv:Nat->aB)(X:Nat->Nat->av ByteArray)(n:Nat)(w:aq)(e:jA)(w':aq):Prop:=e=aG (θ #[])/\eU w' sb rv X n/\oB w rv w'
def PD(sb a n q m C:Nat)(rv:Nat->aB)(X:Nat->Nat->av ByteArray)(r:Wi)(er:Int)(w:aq)(h:eU w sb rv X n)(N:w.heap[a]? =Z (au (mI r) 68 (0,0)))(ho:r.of=4*(q:Int))(hl:r.ln=4*(m:Int))(hn:q+m<=n)(hb:n<=65536)(bu:r.kd=1->r.dt.size=4*m)(hX:∀t k,(X t k).length<=C)(hM:C<=1099511627776)(aT:∀t,t<3->(rv t).ownBlock≠Z a)(h0:0<n):
  Calls prog 42 #[jp sb,jp a,I er] w (wG sb rv (JL X q r er m) n w):=by
 obtain⟨g0,p0,_,_,e0,_⟩:=h.at (t:=0) (k:=0) aM h0;obtain⟨g1,p1,_,_,e1,_⟩:=h.at (t:=1) (k:=0) aM h0;obtain⟨g2,H,_,_,e2,_⟩:=h.at (t:=2) (k:=0) aM h0;have g:Hid (rv 0=ζ (Z (F g0 0)) n p0/\rv 1=ζ (Z (F g1 0)) n p1/\rv 2=ζ (Z (F g2 0)) n H):=⟨e0,e1,e2⟩;have H0:Hid (eU w sb rv (JL X q r er 0) n/\oB w rv w):=⟨by have:JL X q r er 0=X:=by{funext t k;simp only[JL];rw[aI Y]};rw[this];exact h,oB.refl _ _⟩
 have HA:Hid (∀W,oB w rv W->(W.cell? (F a 2)=Z (I r.kd)/\W.cell? (F a 3)=Z (I r.fl)/\W.cell? (F a 6)=Z (ξ r.dt))/\W.cell? (F a 5)=Z (I (4*(m:Int)))/\W.cell? (F a 4)=Z (I (4*(q:Int)))):=λW o=>by have o:=(o.2 a (bf.1 N).1 aT).t N;rw[<-ho,<-hl];exact⟨⟨aD o U,aD o U,aD o U⟩,aD o U,aD o U⟩
 have p:Hid ((∀t k,(X t k).length<=C)/\C<=1099511627776):=⟨hX,hM⟩;clear h N hX aT e0 e1 e2;have t1:(4*(m:Int)).tdiv 4=m:=by rw[EX Y];omega
 have t2:(4*(q:Int)).tdiv 4=q:=by rw[EX Y];omega
 have u1:cJ.wrap (m:Int)=m:=dI Y Y;have u2:cJ.wrap (q:Int)=q:=dI Y Y;go_enter func42,ntmps42;go_wp2
 go_loopw [6] (λV wr=>∃i:Nat,i<=m/\V=I i/\Hid (eU wr sb rv (JL X q r er i) n/\oB w rv wr)) (λV _=>m-(dw V).toNat)
 case atStart=>exact⟨0,cO _,U,H0⟩
 case round=>
  obtain⟨i,hi,rfl,j⟩:=hrel;obtain⟨⟨d2,d3,d6⟩,d5,d4⟩:=HA.u wr j.u.2
  by_cases bQ:i<m
  ·have bz:(i:Int)<(m:Int):=Y;have k1:cJ.wrap ((q:Int)+i)=(q:Int)+i:=dI Y Y;have j1:((q:Int)+i).toNat=q+i:=Y;have l1:0<=(q:Int)+i/\(q:Int)+i<(n:Int):=Y
   have bt:(r.kd==1)=M/\r.vB i=r.dt.extract (4*i) (4*i+4)/\r.dt.size=4*m\/(r.kd==1)=aa/\r.vB i=⟨#[0,0,0,0]⟩:=by
    by_cases B:r.kd=1
    exact aA ⟨by simp[B],aO B,bu B⟩;exact az ⟨by simp[B],aI B⟩
   have k2:cJ.wrap (4*(i:Int))=4*(i:Int):=dI Y Y;have k3:cJ.wrap (4*(i:Int)+4)=4*(i:Int)+4:=dI Y Y;have j2:(4*(i:Int)).toNat=4*i:=Y;have j3:(4*(i:Int)+4).toNat=4*i+4:=Y;rcases bt with⟨UX,x,hz⟩|⟨UX,x⟩
   all_goals
    first
     |(have l2:0<=4*(i:Int)/\4*(i:Int)<=4*(i:Int)+4/\4*(i:Int)+4<=((r.dt.size:Nat):Int):=Y
       have z:Hid (r.dt.extract (4*i) (4*i+4)=r.vB i):=x.y;clear x hz
       go_upto_region 9 with fail
       rw[z.u];clear z)
     |(have z:Hid ((⟨#[0,0,0,0]⟩:ByteArray)=r.vB i):=x.y
       clear x
       go_upto_region 9 with fail
       rw[z.u];clear z)
   all_goals
    by_cases P:er=0
    ·subst P
     by_cases G:r.fl=1
     ·have bw:(r.fl==1)=M:=by simp[G]
      obtain⟨b5,⟨y5,x5⟩,z5,v⟩:=j.u.1.lit (t:=0) (k:=q+i) aM Y g.u.1 (r.vB i)
      go_upto_region 14 with fail
      generalize (wr.alloc (au #[ξ (r.vB i)] 9)).setCell (F g0 (q+i)) (ζ (Z (F wr.heap.size 0)) 1 1)=D at*;obtain⟨b6,⟨y6,x6⟩,z6,J⟩:=v.u.1.lit (t:=1) (k:=q+i) aM Y g.u.2.1 (r.vB i)
      go_upto_region 15 with fail
      generalize (D.alloc (au #[ξ (r.vB i)] 9)).setCell (F g1 (q+i)) (ζ (Z (F D.heap.size 0)) 1 1)=E at*;have A:=J.u.1.arb (λb _=>U) (aR _) (t:=2) (k:=q+i) aM Y g.u.2.2 (show Ld E (ζ aj 0 0) [] from⟨U,aA ⟨U,U⟩⟩) λ_=>U;obtain⟨⟨cw,cu⟩,z7⟩:(∃u,E.cell? (F g2 (q+i))=Z u)/\E.frozen? (F g2 (q+i))=aa:=⟨A.cell,A.fz⟩;have b7:E.cell? (F sb 2)=Z (ζ (Z (F g2 0)) n H):=by rw[<-g.u.2.2];exact aD J.u.1.box U
      have aJ:=Dv (And.intro A.sea A.arc);clear A;go_wp2;have f:=Dv (And.intro (Eq.mp (congrArg (eU _ sb rv · n) (MB X q r i U G)) aJ.u.1) (((j.u.2.t v.u.2).t J.u.2).t aJ.u.2))
      first
       |exact⟨⟨i+1,Y,by go_num,f⟩,by simp[dw];omega⟩
       |(go_roundw
         case rel=>exact⟨i+1,Y,by go_num,f⟩
         case measure=>simp[dw];omega)
     have bw:(r.fl==1)=aa:=by simpa using G
     obtain⟨b5,⟨y5,x5⟩,z5,v⟩:=j.u.1.lit (t:=0) (k:=q+i) aM Y g.u.1 (r.vB i)
     go_upto_region 8 with fail
     generalize (wr.alloc (au #[ξ (r.vB i)] 9)).setCell (F g0 (q+i)) (ζ (Z (F wr.heap.size 0)) 1 1)=D at*;obtain⟨ah,aE,an,O,R,L⟩:=v.u.1.wth (t:=2) (k:=q+i) aM Y g.u.2.2 (r.vB i) (by simp only[uo,JL];rw[aI Y,aI Y];exact cM (p.u.1 _ _) p.u.2);refine gY (S:=λl=>l.cell? (F sb 2)=Z (ζ (Z (F g2 0)) n H)/\l.cell? (F g2 (q+i))=Z (ζ ah aE an)) 15 ⟨O,R⟩ λhS=>?_;apply tg [0,1,2,3,4,5,6,7];apply tg [8,9,10,11,12];refine gr 13 λK c=>?_;go_simp;go_at_call 72;refine L.u.m ?_;rintro e W4 ⟨af,aC,ak,rfl,d,⟨aX,T⟩,Q,s⟩;refine c.u _ _ d (λd=>?_);clear c K;apply tg [14];refine gz λK c=>?_;go_simp;refine c.u _ _ ?_;refine gl ?_;go_wp2;have f:=Dv (And.intro (Eq.mp (congrArg (eU _ sb rv · n) (Lw X q r i U G)) s.u.1) ((j.u.2.t v.u.2).t s.u.2))
     first
      |exact⟨⟨i+1,Y,by go_num,f⟩,by simp[dw];omega⟩
      |(go_roundw
        case rel=>exact⟨i+1,Y,by go_num,f⟩
        case measure=>simp[dw];omega)
    have bT:(er==0)=aa:=by simpa using P
    go_upto_region 10 with fail
    obtain⟨bD,bG,bE,UL,bB,bk⟩:=j.u.1.wth (t:=0) (k:=q+i) aM Y g.u.1 (r.vB i) (by simp only[JL];rw[aI Y];exact cM (p.u.1 _ _) p.u.2);refine gY (S:=λl=>l.cell? (F sb 0)=Z (ζ (Z (F g0 0)) n p0)/\l.cell? (F g0 (q+i))=Z (ζ bD bG bE)) 15 ⟨UL,bB⟩ λhS=>?_;apply tg [0,1,2,3,4,5,6,7];apply tg [8,9,10,11,12];refine gr 13 λK c=>?_;go_simp;go_at_call 72;refine bk.u.m ?_;rintro e W3 ⟨af,aC,ak,rfl,d,⟨aX,T⟩,Q,aH⟩;refine c.u _ _ d (λd=>?_);clear c K;apply tg [14];refine gz λK c=>?_;go_simp;refine c.u _ _ ?_;refine gl ?_
    go_upto_region 11 with fail
    generalize W3.setCell (F g0 (q+i)) (ζ af aC ak)=D at*;clear T Q d;obtain⟨ah,aE,an,O,R,L⟩:=aH.u.1.wth (t:=2) (k:=q+i) aM Y g.u.2.2 (r.vB i) (by simp only[uo,JL];rw[aI Y,aI Y];exact cM (p.u.1 _ _) p.u.2);refine gY (S:=λl=>l.cell? (F sb 2)=Z (ζ (Z (F g2 0)) n H)/\l.cell? (F g2 (q+i))=Z (ζ ah aE an)) 15 ⟨O,R⟩ λhS=>?_;apply tg [0,1,2,3,4,5,6,7];apply tg [8,9,10,11,12];refine gr 13 λK c=>?_;go_simp;go_at_call 72;refine L.u.m ?_;rintro e W4 ⟨af,aC,ak,rfl,d,⟨aX,T⟩,Q,s⟩;refine c.u _ _ d (λd=>?_);clear c K;apply tg [14];refine gz λK c=>?_;go_simp;refine c.u _ _ ?_;refine gl ?_;go_wp2;have f:=Dv (And.intro (Eq.mp (congrArg (eU _ sb rv · n) (Ex X q r i P)) s.u.1) ((j.u.2.t aH.u.2).t s.u.2))
    first
     |exact⟨⟨i+1,Y,by go_num,f⟩,by simp[dw];omega⟩
     |(go_roundw
       case rel=>exact⟨i+1,Y,by go_num,f⟩
       case measure=>simp[dw];omega)
  have bz:¬(i:Int)<(m:Int):=Y;have e:i=m:=Y;subst e;go_wp2;exact bodyPost_ret (results_none U _ _ _) U ⟨U,j.u⟩
def ax(X:Nat->Nat->av ByteArray)(n q m:Nat)(r:Wi)(er:Int):Nat->Nat->av ByteArray:=
 if r.kd=0 then(if er=0/\0<=r.bk then ae X q r.tx m else X)else if r.kd=2 then(if er=0 then ai X n else X)else JL X q r er m
def Mz(a:Nat)(rv:Nat->aB)(X:Nat->Nat->av ByteArray)(n:Nat)(w:aq)(e:jA)(w':aq):Prop:=e=aG (ω M)/\eU w' a rv X n/\oB w rv w'
def Hm(c a n q m p:Nat)(rv:Nat->aB)(X:Nat->Nat->av ByteArray)(r:Wi)(no ck er:Int)(w:aq)(h:eU w c rv X n)(A:w.heap[a]? =Z (au (mI r) 68 (0,0)))(o:r.of=4*(q:Int))(hl:r.ln=4*(m:Int))(B:q+m<=n)(u:n<=65536)(h0:0<n)(UX:0<=r.kd/\r.kd<=4)(N:r.kd=1->r.dt.size=4*m)(he:er=0\/er=5)(L:0<=r.bk->r.er=er)(hr:r.kd=0->er=0->0<=r.bk->r.tx.size=4*m/\∀i,i<m->Bd r.tx i∈X 0 (q+i))(z:∀t k,(X t k).length<=p)(x:p<=1099511627776)(C:∀t,t<3->(rv t).ownBlock≠Z a):
  Calls prog 20 #[jp c,jp a,ν (iX ⟨no,ck,r.kd,r.fl,r.of,r.ln,er,[]⟩)] w (Mz c rv (ax X n q m r er) n w):=by
 have s:=(ee w.heap.size w).alloc (aR _) (au (iX ⟨no,ck,r.kd,r.fl,r.of,r.ln,er,[]⟩) 71);have g:=eh w (au (iX ⟨no,ck,r.kd,r.fl,r.of,r.ln,er,[]⟩) 71);have K:=h.old λb ah=>s.block b ah;have d:=(s.block a (bf.1 A).1).t A;have E:Hid (oB w rv (w.alloc (au (iX ⟨no,ck,r.kd,r.fl,r.of,r.ln,er,[]⟩) 71))):=.below s;have V:Hid (ax X n q m r er=if r.kd=0 then(if er=0/\0<=r.bk then ae X q r.tx m else X)else if r.kd=2 then(if er=0 then ai X n else X)else JL X q r er m):=U;generalize ax X n q m r er=ak at*;clear A h s
 replace o:=Dv o
 replace hl:=Dv hl
 replace hr:=Dv hr
 have yH:(decide (r.bk≥0)=M/\(r.er !=er)=aa)\/decide (r.bk≥0)=aa:=by
  by_cases e:0<=r.bk
  exact aA ⟨by simp[e],by simp[L e]⟩;exact az bV
 have n1:(r.kd !=r.kd)=aa:=ay;have n2:(r.fl !=r.fl)=aa:=ay;have n3:(r.of !=r.of)=aa:=ay;have n4:(r.ln !=r.ln)=aa:=ay;go_enter func20,ntmps20
 go_upto_region 1 with fail
 generalize w.alloc (au (iX ⟨no,ck,r.kd,r.fl,r.of,r.ln,er,[]⟩) 71)=W at*;generalize w.heap.size=l at*;have c2:=aJ W l 2 (I r.kd) g;have c3:=aJ W l 3 (I r.fl) g;have c4:=aJ W l 4 (I r.of) g;have c5:=aJ W l 5 (I r.ln) g;have c6:=aJ W l 6 (I er) g;have a2:=aJ W a 2 (I r.kd) d;have a3:=aJ W a 3 (I r.fl) d;have a4:=aJ W a 4 (I r.of) d;have a5:=aJ W a 5 (I r.ln) d;have a8:=aJ W a 8 (I r.bk) d;have a9:=aJ W a 9 (I r.er) d;have j:∀k,eU (W.drewN k) c rv X n:=λk=>K.old λ_ _=>U;have S:Hid (r.kd=0->er=0->0<=r.bk->∀k,Calls prog 40 #[jp c,jp a] (W.drewN k) (vy c rv (ae X q r.tx m) n (W.drewN k))):=λO P Q k=>IH c a n q m p rv X r _ (j k) d o hl B u (hr O P Q).1 (z 0) x (hr O P Q).2 C;have T:Hid (∀k,Calls prog 41 #[jp c] (W.drewN k) (vz c rv X n (W.drewN k))):=λk=>Sk c n rv X _ (j k) u h0;have HW:Hid (∀k,Calls prog 42 #[jp c,jp a,I er] (W.drewN k) (wG c rv (JL X q r er m) n (W.drewN k))):=λk=>PD c a n q m p rv X r er _ (j k) d o hl B u N z x C h0;have G:Hid (∀k,eU (W.drewN k) c rv X n):=j;clear K j g d hr z x C N o hl B u h0 L;have R:r.kd=0\/r.kd=2\/(r.kd=1\/r.kd=3\/r.kd=4):=Y;clear UX;have D:Hid (∀k,oB W rv (W.drewN k)):=λk=>⟨aR _,λ_ _ _=>U⟩;rcases he with rfl|rfl
 all_goals
  go_quiet (fail)
  go_wp2;rcases yH with⟨h1,h2⟩|h1
 all_goals
  go_quiet (fail)
  rcases R with e|e|e|e|e
 all_goals
  go_wp2_with ((first|(go_at_call 40;refine(S.u e (by first|rfl|trivial) (by simpa using h1) _).m ?_)|(go_at_call 41;refine(T.u _).m ?_)|(go_at_call 42;refine(HW.u _).m ?_));rintro e1 w1 ⟨rfl,H,J⟩;have v:=Dv (And.intro H J);clear H J);go_ret
  first
   |refine⟨rfl,?_,(E.u.t (D.u _)).t v.u.2⟩
   |refine⟨rfl,?_,E.u.t (D.u _)⟩
  have f:=V.u;simp only[e,dN,dM,reduceIte,Int.reduceEq,true_and,false_and]at f
  first
   |(rw[aI (by simpa using h1)]at f;rw[f];exact G.u _)
   |(rw[aO (by simpa using h1)]at f;rw[f];exact v.u.1)
   |(rw[f];exact v.u.1)
   |(rw[f];exact G.u _)
def LX(t:Nat):av ByteArray:=if t=2 then[]else[⟨#[0,0,0,0]⟩]
def fg(w:aq)(v:aB)(n:Nat)(l:av ByteArray)(vs:av aB):Prop:=w.ownsRow 0 41 1 v n vs/\∀(k:Nat) u,vs[k]? =Z u->Ld w u l/\(l=[]->u=ζ aj 0 0)
structure L9(w0 w:aq)(sb:Nat)(v:Nat->aB)(n:Nat->Nat):Prop where
 box:w.heap[sb]? =Z (au #[v 0,v 1,v 2] 39 (0,0))
 row:∀t,t<3->∃vs,fg w (v t) (n t) (LX t) vs
 ne:∀t a b,t<3->a<3->(v t).ownBlock=Z b->(v a).ownBlock=Z b->t=a
 new:w0.heap.size<=sb/\∀t b,t<3->(v t).ownBlock=Z b->w0.heap.size<=b
 low:w0.heap.size<=w.heap.size/\∀b,b<w0.heap.size->w.heap[b]? =w0.heap[b]?
section
variable {w0 w w' W2 w3:aq} {sb t:Nat} {v:Nat->aB} {n:Nat->Nat} {v1 u:aB} {vs:av aB} {l:av ByteArray} {m:Nat} {x:aB}
def fg.keep(h:fg w x m l vs)(f:∀(b:Nat) (c:aF aB),w.heap[b]? =Z (au c 9 (0,0))->w'.heap[b]? =w.heap[b]?)(hv:∀b,x.ownBlock=Z b->w'.heap[b]? =w.heap[b]?):fg w' x m l vs:=by refine⟨eF h.1 hv,λk u a=>⟨eF (h.2 k u a).1 λb e=>?_,(h.2 k u a).2⟩⟩;obtain⟨c,d⟩:=yW (h.2 k u a).1 e;exact f b c d
def L9.ata(T:L9 w0 w sb v n)(f:fg w (v t) m l vs)(i:w.heap.size<=W2.heap.size)(g:∀b,b<w.heap.size->W2.heap[b]? =w.heap[b]?)(h:W2.grownBy w3 (v t).ownBlock):w3.heap[sb]? =Z (au #[v 0,v 1,v 2] 39 (0,0)):=by have d:=(bf.1 T.box).1;refine(h.block sb (cS d i) λe=>?_).t ((g sb d).t T.box);obtain⟨c,a⟩:=yW f.1 e.y;rw[T.box]at a;cases a
def L9.as{n'}(T:L9 w0 w sb v n)(h:∀t,t<3->n t=n' t):L9 w0 w sb v n':=⟨T.box,λt a=>h t a▸T.row t a,T.ne,T.new,T.low⟩
def L9.grow(T:L9 w0 w sb v n)(A:t<3)(B:fg w (v t) (n t) (LX t) vs)(hz:w.heap.size<=W2.heap.size)(q:∀b,b<w.heap.size->W2.heap[b]? =w.heap[b]?)(hu:Ld W2 u (LX t))(h0:LX t=[]->u=ζ aj 0 0)(W:w3.ownsRow 0 41 1 v1 (n t+1) (vs++[u]))(J:W2.grownBy w3 (v t).ownBlock)(R:v1.ownBlock=(v t).ownBlock\/∀g,v1.ownBlock=Z g->W2.heap.size<=g):
  L9 w0 (w3.setCell (F sb t) v1) sb (λf=>if f=t then v1 else v f) (λf=>if f=t then n t+1 else n f):=by
 have lt:∀{b:Nat} {o:Obj},w.heap[b]? =Z o->b<w.heap.size:=λh=>(bf.1 h).1;have aX:=J.size;have N:∀b,b<W2.heap.size->Z b≠(v t).ownBlock->b≠sb->(w3.setCell (F sb t) v1).heap[b]? =W2.heap[b]? :=λb B p h3=>(bC h3).t (J.block b B p)
 have af:∀{b:Nat} {c:aF aB} {G:Nat},W2.heap[b]? =Z (au c G (0,0))->G≠41->Z b≠(v t).ownBlock:=λ{b c G} h hU e=>by obtain⟨c',d⟩:=yW B.1 e.y;rw[q b (lt d),d]at h;cases h;exact hU U
 have H:=(q sb (lt T.box)).t T.box;have V:=(J.block sb (cS (lt T.box) hz) (af H aM)).t H
 have X:∀(b:Nat) (c:aF aB),W2.heap[b]? =Z (au c 9 (0,0))->(w3.setCell (F sb t) v1).heap[b]? =W2.heap[b]? :=λb c h=>N b (bf.1 h).1 (af h aM) λe=>by subst e;rw[H]at h;cases h
 have aS:∀{E:aB} {k:Nat} {xs:av aB} {b:Nat},w.ownsRow 0 41 1 E k xs->E.ownBlock=Z b->b≠sb:=λh e j=>by obtain⟨c,d⟩:=yW h e;subst j;rw[T.box]at d;cases d
 have n3:∀b,v1.ownBlock=Z b->b≠sb:=λb e j=>by obtain⟨c,d⟩:=yW W e;subst j;rw[V]at d;cases d
 refine⟨?_,λf C=>?_,λa b c Q S r i=>?_,⟨T.new.1,λf b C e=>?_⟩,by have:=T.low.1;simp;omega,λb aK=>?_⟩;rw[bG V]
 match t,A with
 |0,_=>rfl
 |1,_=>rfl
 |2,_=>rfl
 by_cases e:f=t
 subst e;simp only[dN];refine⟨vs++[u],eF W λb e=>bC (n3 b e),λk E D=>?_⟩;rw[zH]at D
 have ks:∀{x:aB} {l':av ByteArray},Ld W2 x l'->Ld (w3.setCell (F sb f) v1) x l':=λh=>eF h λb e=>by obtain⟨c,d⟩:=yW h e;exact X b c d
 split at D;obtain⟨a1,a2⟩:=B.2 k E D;exact⟨ks (eF a1 λb e=>q b (jJ a1 b e)),a2⟩;have:=jC D;rw[iz]at this;subst this;exact⟨ks hu,h0⟩;simp only[e,dM];obtain⟨ws,p⟩:=T.row f C;refine⟨ws,p.keep (λb c d=>?_) λb hv=>?_⟩;have aJ:=(q b (lt d)).t d;exact(X b c aJ).t (q b (lt d));have K:=jJ p.1 b hv;exact(N b (cS K hz) (λi=>e (T.ne f t b C A hv i.y)) (aS p.1 hv)).t (q b K)
 have key:∀s,s<3->s≠t->v1.ownBlock=Z c->(v s).ownBlock≠Z c:=λs L aL O P=>by obtain⟨ws,p⟩:=T.row s L;have K:=jJ p.1 c P;rcases R with h|h;exact aL (T.ne s t c L A P (h▸O));have:=h c O;omega
 by_cases z:a=t<;>by_cases j:b=t
 rw[z,j];simp only[z,j,dN,dM]at r i;exact absurd i (key b S j r);simp only[z,j,dN,dM]at r i;exact absurd r (key a Q z i);simp only[z,j,dM]at r i;exact T.ne a b c Q S r i
 by_cases i:f=t
 simp only[i,dN]at e;rcases R with h|h;exact T.new.2 t b A (h▸e);have:=h b e;have:=T.low.1;omega;simp only[i,dM]at e;exact T.new.2 f b C e;have L:=T.low.1;have:=T.new.1;refine(N b Y (λe=>?_) Y).t ((q b Y).t (T.low.2 b aK));have:=T.new.2 t b A e.y;omega
end
def Hc:(prog.info? 41).map (λi=>(i.zero,i.size,i.bytes))=Z (Z (ζ aj 0 0),1,24):=aW
def L9.app{w0 w W2:aq}{a pb:Nat}{v:Nat->aB}{n:Nat->Nat}{u:aB}(T:L9 w0 w a v n)(t k:Nat)(q:t<3)(N:k<=65536)(h:(∀b,b<w.heap.size->W2.heap[b]? =w.heap[b]?)/\w.heap.size<=W2.heap.size/\Ld W2 u (LX t)/\W2.heap[pb]? =Z (au #[u] 41 (0,0)))(h0:LX t=[]->u=ζ aj 0 0)(B:u.oneCell'=M)(A:n t=k:=by rfl):
  ∃f j i o V L m,k+1=m/\w.cell? (F a t)=Z (ζ f k j)/\(rD #[37,37] 37 #[ζ f k j,ζ (Z (F pb 0)) 1 1]).run prog W2=.ok (ζ i m o) V/\V.cell? (F a t)=Z L/\V.frozen? (F a t)=aa/\Hid (L9 w0 (V.setCell (F a t) (ζ i m o)) a (λd=>if d=t then ζ i m o else v d) λd=>if d=t then k+1 else n d):=by
 subst A;obtain⟨J,s,D,E,H⟩:=nG Hc;obtain⟨K,R⟩:=T.row t q;obtain⟨f,j,ev⟩:=gP R.1;obtain⟨x,V,hr,r,l,_,m⟩:=pc (P:=prog) W2 0 37 37 41 J _ 1 24 underlying37 s D E H U Y (v t) (n t) K (eF R.1 λb e=>h.1 b (jJ R.1 b e)) ⟨pb,0,aj⟩ 1 1 [u] U (by simpa using wu h.2.2.2) (by simp[B]) (by unfold cP;omega) Y (cO _);have G:=T.grow q R h.2.1 h.1 h.2.2.1 h0 r l (m.imp id λh g p=>by rw[h]at p;cases p;exact aR _);have X:=T.ata R h.2.1 h.1 l;have c:∀{z:aq},z.heap[a]? =Z (au #[v 0,v 1,v 2] 39 (0,0))->z.cell? (F a t)=Z (v t):=λC=>aD C (by rcases(by omega:t=0\/t=1\/t=2)with rfl|rfl|rfl<;>rfl);obtain⟨i,o,e⟩:=gP r;subst e;exact⟨f,j,_,_,V,_,_,U,ev▸c T.box,ev▸hr,c X,bp X t,G⟩
def yi(w:aq)(t:Nat)(c:t≠2):(∀b,b<w.heap.size->((w.alloc (au #[ξ ⟨#[0,0,0,0]⟩] 9)).alloc (au #[ζ (Z (F w.heap.size 0)) 1 1] 41)).heap[b]? =w.heap[b]?)/\w.heap.size<=((w.alloc (au #[ξ ⟨#[0,0,0,0]⟩] 9)).alloc (au #[ζ (Z (F w.heap.size 0)) 1 1] 41)).heap.size/\Ld ((w.alloc (au #[ξ ⟨#[0,0,0,0]⟩] 9)).alloc (au #[ζ (Z (F w.heap.size 0)) 1 1] 41)) (ζ (Z (F w.heap.size 0)) 1 1) (LX t)/\((w.alloc (au #[ξ ⟨#[0,0,0,0]⟩] 9)).alloc (au #[ζ (Z (F w.heap.size 0)) 1 1] 41)).heap[w.heap.size+1]? =Z (au #[ζ (Z (F w.heap.size 0)) 1 1] 41 (0,0)):=by refine⟨λb a=>((bq.alloc ay _).block b a),bV,?_,by simpa using eh (w.alloc (au #[ξ ⟨#[0,0,0,0]⟩] 9)) (au #[ζ (Z (F w.heap.size 0)) 1 1] 41)⟩;rw[show LX t=[⟨#[0,0,0,0]⟩] from aI c];exact eF (ja w #[ξ ⟨#[0,0,0,0]⟩] 1 (cO _) (by unfold cP;omega) U) λb e=>by cases e;exact((ee (w.heap.size+1) (w.alloc (au #[ξ ⟨#[0,0,0,0]⟩] 9))).alloc ay _).block w.heap.size Y
def ua(n:Nat)(w:aq)(e:jA)(w':aq):Prop:=∃a v,e=aG (jp a)/\L9 w w' a v λ_=>n
def QP(n:Nat)(w:aq)(hn:n<=65536):Calls prog 18 #[I (4*(n:Int))] w (ua n w):=by
 have t1:(4*(n:Int)).tdiv 4=n:=by rw[EX Y];omega
 have u1:cJ.wrap (n:Int)=n:=dI Y Y
 have p:Hid (L9 w (w.alloc (au #[ζ aj 0 0,ζ aj 0 0,ζ aj 0 0] 39)) w.heap.size (λ_=>ζ aj 0 0) λ_=>0):=
  ⟨eh w _,λt _=>⟨[],⟨U,aA ⟨U,U⟩⟩,λk u H=>(by cases H)⟩,λt t' b _ _ e=>(by cases e),⟨aR _,λt b _ e=>(by cases e)⟩,ay,λb g=>bq.block b g⟩
 go_enter func18,ntmps18;go_wp2;generalize w.alloc (au #[ζ aj 0 0,ζ aj 0 0,ζ aj 0 0] 39)=w1 at*;generalize aH:w.heap.size=a at*
 go_loopw [4] (λj wr=>∃i:Nat,i<=n/\j=I i/\Hid (∃v,L9 w wr a v λ_=>i)) (λj _=>n-(dw j).toNat)
 case atStart=>exact⟨0,cO _,U,_,p⟩
 case round=>
  obtain⟨i,hi,rfl,f⟩:=hrel
  by_cases aD:i<n
  ·have B:(i:Int)<(n:Int):=Y;obtain⟨v,T⟩:=f.u;have r:=Dv T;clear f T;obtain⟨aK,aQ,c,d,s,y5,J,ah,N,C,Q,V,m⟩:=r.u.app 0 i aM Y (yi wr 0 aM) (λh=>by cases h) U
   go_upto_region 6 with(at_builtin;refine eQ C (h:=?_))
   generalize s.setCell (F a 0) (ζ c J d)=z at*;obtain⟨aL,aS,c,d,x,y6,K,ak,O,D,R,W,o⟩:=m.u.app 1 i aM Y (yi z 1 aM) (λh=>by cases h) U
   go_upto_region 7 with(at_builtin;refine eQ D (h:=?_))
   generalize x.setCell (F a 1) (ζ c K d)=A at*;obtain⟨aN,aT,c,d,V7,bl,i7,an,P,E,S,X,q⟩:=o.u.app (W2:=A.alloc (au #[ζ aj 0 0] 41)) 2 i aM Y ⟨λb g=>bq.block b g,ay,⟨U,aA ⟨U,U⟩⟩,eh _ _⟩ (λ_=>U) U
   go_upto_region 4 with(at_builtin;refine eQ E (h:=?_))
   go_wp2;have l:=Dv (⟨_,q.u.as (n':=λ_=>i+1) λt G=>by match t,G with|0,_=>rfl|1,_=>rfl|2,_=>rfl⟩:∃L,L9 w _ a L λ_=>i+1)
   first
    |exact⟨⟨i+1,Y,by go_num,l⟩,by simp[dw];omega⟩
    |(go_roundw
      case rel=>exact⟨i+1,Y,by go_num,l⟩
      case measure=>simp[dw];omega)
  have B:¬(i:Int)<(n:Int):=Y;have e:i=n:=Y;subst e;go_wp2;go_ret;obtain⟨v,T⟩:=f.u;exact⟨a,v,U,T⟩
def pT{P}{t e:aY}(h:P.underlying t=Z (.slice e))(a n c w):(binOp .eql t (.slice a n c) (.slice aj 0 0)).run P w=.ok (.bool a.isNone) w:=by
 have b:(Op.equal t (.slice a n c) (.slice aj 0 0)).run P w=.ok a.isNone w:=by unfold Op.equal;rw[show Op.maxDepth=9999+1 from U];unfold Op.equalIn;rw[Cn,run_underlying h];cases a<;>rfl
 unfold binOp;simp[b]
def fh(T k n:Nat)(xs:av aB)(w:aq)(e:jA)(w':aq):Prop:=∃a,e=aG a/\w'.ownsRow 0 T k a n xs/\aK w w'/\∀b,a.ownBlock=Z b->w.heap.size<=b
def R0(v n xs w)(h:w.ownsRow 0 71 7 v n xs)(m:∀u∈xs,u.oneCell'=M)(H:n<=1099511627776):
  Calls prog 39 #[v] w (fh 71 7 n xs w):=by
 obtain⟨C,l,o,p,q⟩:=nG Vu;rcases h.2 with⟨rfl,rfl⟩|⟨g,f,D,rfl,_,G,E,hm,J,K⟩
 ·have B:=List.eq_nil_of_length_eq_zero (by have:=h.1;omega);subst B;have A:(binOp .eql 62 (ζ aj 0 0) (ζ aj 0 0)).run prog w=.ok (ω M) w:=pT underlying62 ..;go_enter func39,ntmps39;go_wp2;go_ret;exact⟨_,U,⟨U,aA ⟨U,U⟩⟩,ee _ _,λb e=>by cases e⟩
 have a:=(ee w.heap.size w).alloc (aR _) (au #[] 71);have j:(w.alloc (au #[] 71)).ownsRow 0 71 7 (ζ (Z (F w.heap.size 0)) 0 0) 0 []:=ja w #[] 0 (cO _) (by unfold cP;omega) U;have i:=eF (W':=w.alloc (au #[] 71)) h λb e=>a.block b (jJ h b e);obtain⟨t,x,hr,r,c,_,s⟩:=pc (P:=prog) (w.alloc (au #[] 71)) 0 62 62 71 C _ 7 56 underlying62 l o p q U Y _ 0 [] j ⟨g,0,aj⟩ n f xs h.1 (i.cells U) m (by unfold cP;omega) Y (cO _)
 have z:Hid (x.ownsRow 0 71 7 t n xs/\aK w x/\∀b,t.ownBlock=Z b->w.heap.size<=b):=by refine⟨by simpa using r,⟨c.os.t a.os,c.tape.t a.tape,c.output.t a.output,cM a.size c.size,λb d=>(c.block b (cS d a.size) λe=>?_).t (a.block b d)⟩,λb e=>?_⟩;cases e;exact absurd d (uD _);rcases s with k|k<;>rw[k]at e<;>cases e;exact aR _;simp
 have A:(binOp .eql 62 (ζ (Z (F g 0)) n f) (ζ aj 0 0)).run prog w=.ok (ω aa) w:=pT underlying62 ..;clear h j i r c s a o p q l m;go_enter func39,ntmps39;go_wp2_with (at_builtin;refine eQ hr (h:=?_));go_ret;exact⟨_,U,z.u⟩
def O5(xb f L w)(h:aE w f xb L)(j:f.log.length<=1099511627776):
  Calls prog 19 #[jp xb] w (fh 71 7 f.log.length (f.log.flatMap mX) w):=by
 have b:Hid (Calls prog 39 #[L.lv] w (fh 71 7 f.log.length (f.log.flatMap mX) w)):=R0 _ _ _ w h.log (λu g=>by obtain⟨e,_,l⟩:=BY.1 g;clear g;revert u;simp[zS]) j
 have c:=aJ w xb 20 L.lv h.box;obtain⟨a,k,ev⟩:=gP h.log;rw[ev]at c b;clear h ev;go_enter func19,ntmps19;go_wp2_with (go_at_call 39;refine b.m ?_;rintro e n ⟨m,rfl,d⟩;have i:=Dv d;clear d);go_ret;exact⟨_,U,i⟩
def L9.sea{w0 w sb n v}(T:L9 w0 w sb v λ_=>n):eU w sb v (λt _=>LX t) n:=⟨T.box,T.row,T.ne⟩
def NB(l:av UInt8):∀u∈l.map bP,u.oneCell'=M:=λu a=>by obtain⟨x,_,rfl⟩:=jY.1 a;rfl
def Sh(db n D w)(h:pQ w db D)(d:D.size=n)(v:n<=65536):
  Calls prog 37 #[ζ (Z (F db 0)) n n] w (fh 5 1 n (D.toList.map bP) w):=by
 obtain⟨u,j,l,m,o⟩:=nG infoByte;have hR:w.ownsRow 0 5 1 (ζ (Z (F db 0)) n n) n (D.toList.map bP):=⟨by simp[d],az ⟨db,n,_,U,cO _,h,aR _,by unfold cP;omega,by simp[d],by rw[qE (by simp[d])];simp⟩⟩;have a:=(ee w.heap.size w).alloc (aR _) (au #[] 5);have i:(w.alloc (au #[] 5)).ownsRow 0 5 1 (ζ (Z (F w.heap.size 0)) 0 0) 0 []:=ja w #[] 0 (cO _) (by unfold cP;omega) U;have g:=eF hR λb e=>a.block b (jJ hR b e);obtain⟨r,s,hr,p,c,_,q⟩:=pc (w.alloc (au #[] 5)) 0 99 99 5 u _ 1 1 underlying99 j l m o U Y _ 0 [] i ⟨db,0,aj⟩ n n (D.toList.map bP) hR.1 (g.cells U) (NB _) (by unfold cP;omega) Y (cO _)
 have t:Hid (s.ownsRow 0 5 1 r n (D.toList.map bP)/\aK w s/\∀b,r.ownBlock=Z b->w.heap.size<=b):=by refine⟨by simpa using p,⟨c.os.t a.os,c.tape.t a.tape,c.output.t a.output,cM a.size c.size,λb f=>(c.block b (cS f a.size) λe=>?_).t (a.block b f)⟩,λb e=>?_⟩;cases e;exact absurd f (uD _);rcases q with k|k<;>rw[k]at e<;>cases e;exact aR _;simp
 have x:(binOp .eql 99 (ζ (Z (F db 0)) n n) (ζ aj 0 0)).run prog w=.ok (ω aa) w:=pT underlying99 ..;clear h hR i g p c q a l m o j d;go_enter func37,ntmps37;go_wp2_with (at_builtin;refine eQ hr (h:=?_));go_ret;exact⟨_,U,t.u⟩
structure ba(W:aq)(g n cap:Nat)(D:aF UInt8)(a:aF aB):Prop where
 blk:W.heap[g]? =Z (au a 5 (0,0))
 size:a.size=cap
 take:a.toList.take n=D.toList.map bP
 len:D.size=n
 le:n<=cap
def ba.set{g n cap}:∀(xs:av UInt8) (o:Nat) (W:aq) (D:aF UInt8) (e:aF aB),ba W g n cap D e->∃j,ba (W.setCells g o (xs.map bP)) g n cap (fq D o xs) j/\(∀k,k≠g->(W.setCells g o (xs.map bP)).heap[k]? =W.heap[k]?)/\(W.setCells g o (xs.map bP)).heap.size=W.heap.size/\(W.setCells g o (xs.map bP)).os=W.os
 |[],o,W,D,e,h=>⟨e,h,λ_ _=>U,U,U⟩
 |x::xs,o,W,D,e,h=>by have l:ba (W.setCell (F g o) (bP x)) g n cap (D.setIfInBounds o x) (e.setIfInBounds o (bP x)):=⟨bG h.blk o (bP x),by rw[jx];exact h.size,by rw[JH,rn,h.take,JH,Fj],by rw[jx];exact h.len,h.le⟩;obtain⟨c,a,b,i,d⟩:=ba.set xs (o+1) _ _ _ l;exact⟨c,a,λk f=>(b k f).t (bC f),i.t ay,d.t U⟩
def Rd(g n cap o)(c b1 d f:UInt8)(D cur w)(h:ba w g n cap D cur)(R:o+4<=n)(O:n<=65536):
  Calls prog 38 #[ν (eN o c b1 d f),ζ (Z (F g 0)) n cap] w λe m=>e=aG (θ #[])/\(∃i,ba m g n cap (fq D o [c,b1,d,f]) i)/\aS (·=g) w m:=by
 have C:=(bf.1 h.blk).1;have L:=h.le;have E:=h.size;have q:(w.alloc (au (eN o c b1 d f) 106)).heap[w.heap.size]? =Z (au (eN o c b1 d f) 106 (0,0)):=eh w _;have l:ba (w.alloc (au (eN o c b1 d f) 106)).drew g n cap D cur:=⟨(se w _ g C).t h.blk,h.size,h.take,h.len,h.le⟩;have u:=aJ (w.alloc (au (eN o c b1 d f) 106)) w.heap.size 0 (I (o:Int)) q;have Q:¬cap=o:=Y;have T:(o:Int)<=(n:Int):=Y
 have z:Hid ((Builtin.copy_ #[99,99] 3 #[ζ (Z (F g o)) (n-o) (cap-o),ζ (Z (F w.heap.size 1)) 4 4]).run prog (w.alloc (au (eN o c b1 d f) 106)).drew=.ok (goInt 4) ((w.alloc (au (eN o c b1 d f) 106)).drew.setCells g o ([c,b1,d,f].map bP))):=by
  refine run_copy_cells (P:=prog) _ 99 99 3 5 g o (n-o) (cap-o) ⟨w.heap.size,1,aj⟩ 4 4 ([c,b1,d,f].map bP) underlying99 aW ?_ ?_ ?_ ?_ (WL _);show 4=Nat.min 4 (n-o);exact(uE Y).y;intro j v k;rw[Bw]
  match j with
  |0|1|2|3=>exact(aD q U).t k
  |j+4=>simp at k
  intro j k;have N:j<4:=k;rw[aD l.blk (gi Y)];rfl;exact λj k=>bp l.blk _
 obtain⟨i,a1,p,a3,s⟩:=ba.set [c,b1,d,f] o _ D cur l;have r:Hid ((∃i,ba ((w.alloc (au (eN o c b1 d f) 106)).drew.setCells g o ([c,b1,d,f].map bP)) g n cap (fq D o [c,b1,d,f]) i)/\aS (·=g) w ((w.alloc (au (eN o c b1 d f) 106)).drew.setCells g o ([c,b1,d,f].map bP))):=⟨⟨i,a1⟩,s,by rw[a3];simp,λb B G=>(p b G).t (se w _ b B)⟩;have x:((w.alloc (au (eN o c b1 d f) 106)).drew.setCells g o ([c,b1,d,f].map bP)).cell? (F w.heap.size 0)=Z (I (o:Int)):=(iO (a:=F w.heap.size 0) (p w.heap.size Y)).t u;have A:Hid (((w.alloc (au (eN o c b1 d f) 106)).drew.setCells g o ([c,b1,d,f].map bP)).cell? (F w.heap.size 0)=Z (I (o:Int))):=x;clear h q l x a1 p a3 s E;go_enter func38,ntmps38
 go_upto_region 1 with fail
 refine ga (S:=λm=>m.cell? (F w.heap.size 0)=Z (I (o:Int))) u λJ=>?_;apply tl [0,1,2,3,4,5];refine rH 6 λK t=>?_
 (refine IA U U U U z.u ?_;simp only[Act.put,B4,uz,BT,Fq,Fv,Fu])
 refine t.u _ _ A.u (λH=>?_);clear t K;refine dJ ?_;go_wp2;exact fC U U ⟨U,r.u.1,r.u.2⟩
def dc.stay{w w' d bb db n cv B D C}(h:dc w d bb db cv n B D C)(a:∀b,b<w.heap.size->w'.heap[b]? =w.heap[b]?):dc w' d bb db cv n B D C:=
 have k:∀{b:Nat} {o:Obj},w.heap[b]? =Z o->w'.heap[b]? =Z o:=λh=>(a _ (bf.1 h).1).t h
 ⟨k h.box,k h.bytes,k h.fX,eF h.cache λb e=>a b (jJ h.cache b e),h.sizes,h.fits,h.apart,h.small⟩
def yb(w W:aq):Prop:=w.heap.size<=W.heap.size/\∀b,b<w.heap.size->W.heap[b]? =w.heap[b]?
def ml(w:aq)(c n cp:Nat)(D:aF UInt8)(C:av (Nat×av UInt8))(keep:ByteArray)(i:Nat)(W:aq):Prop:=
 ∃a b,a.Sublist (C.take i)/\(keep.size=0->a=[])/\ba W c n cp (qT D a) b/\yb w W
def mr(w:aq)(D:aF UInt8)(C:av (Nat×av UInt8))(keep:ByteArray)(e:jA)(w':aq):Prop:=
 ∃a,a.Sublist C/\(keep.size=0->a=[])/\e=aG (ξ ⟨qT D a⟩)/\yb w w'
def RP(d bb db n cv B D)(C:av (Nat×av UInt8))(keep w)(h:dc w d bb db cv n B D C)(hC:C.length<=1099511627776)(hk:keep.size<=1099511627776)(h0:0<n):
  Calls prog 17 #[jp d,ξ keep] w (mr w D C keep):=by
 have bn:Hid (Calls prog 37 #[ζ (Z (F db 0)) n n] w (fh 5 1 n (D.toList.map bP) w)):=Sh db n D w h.fX h.sizes.2 h.small;have HD:Hid (dc w d bb db cv n B D C):=h;obtain⟨Q,G,rfl⟩:=gP h.cache
 have hb:C.length<=G:=by rcases h.cache.2 with⟨t,E⟩|⟨g,V,A,t,_,E,K,_⟩;omega;cases t;exact K
 have c1:=aJ w d 1 (ζ (Z (F db 0)) n n) h.box;have bV:d<w.heap.size:=(bf.1 h.box).1;have bJ:=h.small;clear h;go_enter func17,ntmps17
 go_upto_region 2 with(go_at_call 37;refine bn.u.m ?_;rintro e T ⟨v1,rfl,R,b1,o1⟩)
 obtain⟨a,cp,A,rfl,Hg,bE,aQ,aS⟩:∃a cp A,v1=ζ (Z (F a 0)) n cp/\T.heap[a]? =Z (au A 5 (0,0))/\n<=cp/\A.size=cp/\A.toList.take n=D.toList.map bP:=by rcases R.2 with⟨_,E⟩|⟨g,V,A,t,_,E,K,_,X,h6⟩;omega;exact⟨g,V,A,t,E,K,Y,by simpa using h6⟩
 have bW:w.heap.size<=a:=o1 a U;have x:dc T d bb db (ζ Q C.length G) n B D C:=HD.u.below b1;have c2:=aJ T d 2 (ζ Q C.length G) x.box;have H0:Hid (ml w a n cp D C keep 0 T.drew):=⟨[],A,tb _,λ_=>U,⟨Hg,aQ,aS,x.sizes.2,bE⟩,b1.size,λb u=>b1.block b u⟩;clear R o1 Hg aQ aS b1 x;obtain⟨m,hM⟩:∃m:Nat,m=min keep.size C.length:=⟨_,U⟩;have bR:m<=keep.size:=Y;have bQ:m<=C.length:=Y;have bH:min (keep.size:Int) (C.length:Int)=(m:Int):=Y;have m0:(0:Int)<=(m:Int):=Y;have m1:(m:Int)<=(G:Int):=Y;refine ga (S:=λW=>W.cell? (F d 2)=Z (ζ Q C.length G)) c2 λbD=>?_;apply tl [0,1,2,3,4,5,6,7];apply tl [8,9,10,11];rw[<-hM];clear hM bH;have m2:m<=G:=Y;apply tl [12,13,14];refine dJ ?_;clear bD c2;go_wp2
 go_loopw [27] (λiv wr=>∃i:Nat,i<=m/\iv=I i/\Hid (ml w a n cp D C keep i wr)) (λiv _=>m-(dw iv).toNat)
 case atStart=>exact⟨0,cO _,U,H0⟩
 case round=>
  obtain⟨i,hi,rfl,HR⟩:=hrel
  by_cases cg:i<m
  ·have h4:(i:Int)<(m:Int):=Y;have b7:0<=(i:Int)/\(i:Int)<(m:Int):=Y;have b8:0<=(i:Int)/\(i:Int)<(keep.size:Int):=Y;obtain⟨v,N,H,L,f,p⟩:=HR.u;have x:=HD.u.stay p.2;obtain⟨c,O⟩:∃c,C[i]? =Z c:=⟨_,dj Y⟩;obtain⟨aH,f4⟩:=x.fits c (jC O);obtain⟨o,bs⟩:=c
   obtain⟨q,b1,r,s,rfl⟩:∃q b1 r s:UInt8,bs=[q,b1,r,s]:=by
    match bs,f4 with
    |[q,b1,r,s],_=>exact⟨q,b1,r,s,U⟩
   obtain⟨g,J,rfl,hg,aW⟩:∃g J,Q=Z ⟨g,0,aj⟩/\wr.heap[g]? =Z (au J 106 (0,0))/\J.toList.take (C.length*5)=C.flatMap dZ:=by rcases x.cache.2 with⟨t,E⟩|⟨g,V,J,t,_,E,_,_,_,K⟩;omega;cases t;exact⟨g,J,rfl,E,K⟩
   obtain⟨k0,k1,k2,k3,k4⟩:=XL hg aW O (λc h=>(x.fits c h).2);have z:aK wr (wr.alloc (au (eN o q b1 r s) 106)):=bq;have af:a<wr.heap.size:=(bf.1 f.blk).1;have HN:Hid (ml w a n cp D C keep (i+1) (wr.alloc (au (eN o q b1 r s) 106))):=⟨v,N,H.t (List.take_sublist_take_left Y),L,⟨(z.block a af).t f.blk,f.size,f.take,f.len,f.le⟩,cM p.1 z.size,λb u=>(z.block b (cS u p.1)).t (p.2 b u)⟩
   have HL:Hid (∀k,Calls prog 38 #[ν (eN o q b1 r s),ζ (Z (F a 0)) n cp] ((wr.alloc (au (eN o q b1 r s) 106)).drewN k) λe w'=>e=aG (θ #[])/\ml w a n cp D C keep (i+1) w'):=λk=>by refine(Rd a n cp o q b1 r s (qT D v) N _ (show ba ((wr.alloc (au (eN o q b1 r s) 106)).drewN k) a n cp (qT D v) N from⟨(z.block a af).t f.blk,f.size,f.take,f.len,f.le⟩) aH bJ).m ?_;rintro e w' ⟨rfl,⟨bz,R⟩,r2⟩;refine⟨U,v++[(o,[q,b1,r,s])],bz,?_,λe=>by omega,by rw[yn];exact R,cM (cM p.1 z.size) r2.size,λb u=>(r2.block b (cS (cS u p.1) z.size) Y).t ((z.block b (cS u p.1)).t (p.2 b u))⟩;rw[rQ,O];exact H.append (tb _)
   have e0:=pV keep i Y;clear hg aW z af H L f p x O f4 aH
   by_cases u:bt keep i=49
   ·rw[u]at e0;go_wp2_with (go_at_call 38;refine(HL.u 0).m ?_;rintro e w5 ⟨rfl,X⟩;have H5:=Dv X;clear X);exact⟨⟨i+1,Y,by go_num,H5⟩,by simp[dw];omega⟩
   have lD:(bt keep i==49)=aa:=by simp[u]
   go_wp2;exact⟨⟨i+1,Y,by go_num,HN⟩,by simp[dw];omega⟩
  have h4:¬(i:Int)<(m:Int):=Y;obtain⟨v,N,H,L,f,p⟩:=HR.u;have aT:(qT D v).toList.length=n:=by rw[lQ];exact f.len
  have bT:(convert 99 9 (ζ (Z (F a 0)) n cp)).run prog wr=.ok (ξ ⟨qT D v⟩) wr:=by
   have:=run_convert_bytes_back (P:=prog) wr 99 9 5 ⟨a,0,aj⟩ cp (qT D v).toList underlying99 underlying5 underlying9 (λj hj=>by rw[Bw];refine aD f.blk ?_;have t:=congrArg (λl:av aB=>l[j]?) f.take;simp only[qC]at t;rw[vP,aO Y,zw]at t;rw[jM,t,dj hj];rfl)
   rw[aT]at this;exact this
  have HF:Hid (mr w D C keep (aG (ξ ⟨qT D v⟩)) wr):=⟨v,H.t (ta _ _),L,U,p⟩;clear H L f p aT;go_wp2;go_ret;exact HF.u
def He(xb f L keep w)(h:aE w f xb L)(k:f.C.length<=1099511627776)(l:keep.size<=1099511627776)(h0:0<f.B.size):
  Calls prog 7 #[jp xb,ξ keep] w (mr w f.D f.C keep):=by
 have j:Hid (Calls prog 17 #[jp L.d,ξ keep] w (mr w f.D f.C keep)):=RP L.d L.bb L.db f.B.size L.cv f.B f.D f.C keep w h.fG k l h0;have m:=aJ w xb 19 (jp L.d) h.box;clear h;go_enter func7,ntmps7;go_wp2_with (go_at_call 17;refine j.m ?_;rintro e n ⟨i,b,c,rfl,g⟩;have a:=Dv (And.intro b (And.intro c g));clear b c g);go_ret;exact⟨i,a.1,a.2.1,U,a.2.2⟩
def Tm(lo:av En)(W:av Wi):Nat->Nat->Nat
 |0,_=>0
 |p+1,j=>if lo[p]?.map (·.ck)=Z (iW W j:Int)then p+1 else Tm lo W p j
def E9(lo:av En)(W:av Wi)(p:Nat):aF aB:=((dA W.length).map λj=>BX .i64 ((Tm lo W p j:Nat):Int)).toArray
section
variable {lo:av En} {W:av Wi} {p j j0:Nat} {e:En}
def pw(p)(a:j<W.length):(E9 lo W p)[j]? =Z (I ((Tm lo W p j:Nat):Int)):=by
 unfold E9
 grind
def Hn(h:lo[p]? =Z e)(g:j0<W.length)(hc:e.ck=(iW W j0:Int))(i:∀j,j<W.length->iW W j=iW W j0->j=j0):(E9 lo W p).setIfInBounds j0 (I ((p:Int)+1))=E9 lo W (p+1):=by
 apply By;intro j
 by_cases c:j<W.length
 rw[rh,pw (p+1) c];have a:(E9 lo W p).size=W.length:=by simp[E9]
 have d:Tm lo W (p+1) j=if lo[p]?.map (·.ck)=Z (iW W j:Int)then p+1 else Tm lo W p j:=U
 rw[d,h];split;rename_i b
 grind
 rename_i b;rw[aI λf=>b ?_,pw _ c]
 grind
 have a:∀p,(E9 lo W p).size=W.length:=λp=>by simp[E9]
 rw[vC (by rw[jx,a];omega),vC (by rw[a];omega)]
def mP:∀{p:Nat},0<Tm lo W p j->∃q e,q+1=Tm lo W p j/\q<p/\lo[q]? =Z e/\e.ck=(iW W j:Int)
 |0,h=>absurd h (uD 0)
 |p+1,h=>by
  unfold Tm at h⊢;split at h;rename_i a;rw[aO a];cases b:lo[p]? with
  |none=>rw[b]at a;cases a
  |some e=>rw[b]at a;exact⟨p,e,U,FA _,b,ey a⟩
  rename_i a;rw[aI a];obtain⟨q,e,a1,c,a3⟩:=mP h;exact⟨q,e,a1,Y,a3⟩
def ui(d:∀(p q:Nat) e c,lo[p]? =Z e->lo[q]? =Z c->e.ck=c.ck->p=q)(h:lo[p]? =Z e)(hc:e.ck=(iW W j:Int)):∀{q:Nat},p<q->Tm lo W q j=p+1
 |0,h=>absurd h (rR _)
 |q+1,f=>by
  unfold Tm;split;rename_i a;cases b:lo[q]? with
  |none=>rw[b]at a;cases a
  |some c=>
   rw[b]at a;have:=d p q e c h b (hc.t (ey a).y);omega
  rename_i a;refine ui d h hc (Nat.lt_of_le_of_ne Y λb=>a ?_);rw[<-b,h,eO,hc]
def Mc(d:∀(p q:Nat) e a,lo[p]? =Z e->lo[q]? =Z a->e.ck=a.ck->p=q)(h:lo[p]? =Z e)(hc:e.ck=(iW W j:Int)):Tm lo W p j=0:=by
 rcases qF (Tm lo W p j)with h1|h1;exact h1;obtain⟨q,a,a1,b,a3,c⟩:=mP h1
 grind
def pv:∀{lo:av En} {p:Nat},lo[p]? =Z e->∀i,i<7->(lo.flatMap mX)[p*7+i]? =(mX e)[i]?
 |a::lo,0,h,i,b=>by cases h;rw[pH,BS bV,xX,jM]
 |a::lo,p+1,h,i,b=>by
  rw[pH,vO bV];have:=pv (p:=p) h i b
  grind
def Og(lo W)(g:W.length<=65535)(w):(Instr.makeSlice 22 (I (W.length:Int)) (I (W.length:Int))).run prog w=.ok (ζ (Z (F w.heap.size 0)) W.length W.length) (w.alloc (au (E9 lo W 0) 3)):=by
 have hI:(prog.info? 3).map (λi=>(i.zero,i.size,i.bytes))=Z (Z (I 0),1,8):=aW;obtain⟨f,a,b,c,d⟩:=nG hI;have h:=run_make w 22 3 f (I 0) underlying22 a b .i64 .i64 (W.length:Int) (W.length:Int) Y Y (by rw[d];omega) Y;rw[c]at h;simp at h
 have e:madeCells (BX .i64 0).cells W.length=E9 lo W 0:=by apply Bx;rw[show(BX .i64 0).cells=#[I 0] from U,toList_madeCells_one];unfold E9 Tm;rw[List.map_const',sy];rfl
 rw[e]at h;exact h
structure mf(n c:Nat)(W:av Wi)(lo:av En)(X:Nat->Nat->Nat->av ByteArray):Prop where
 dO:W.length<=65535/\lo.length<=1099511627776/\c<=1099511627776
 nn:0<n/\n<=65536
 one:∀(i j:Nat) x a,W[i]? =Z x->W[j]? =Z a->x.ck=a.ck->i=j
 small:∀(j:Nat) r,W[j]? =Z r->0<=r.of/\r.of<=65535/\0<=r.ln/\r.ln<=65535
 nd:∀(p q:Nat) e b,lo[p]? =Z e->lo[q]? =Z b->e.ck=b.ck->p=q
 zero:X 0=λt _=>LX t
 most:∀p t k,p<=lo.length->(X p t k).length<=c
 step:∀(p:Nat) e,lo[p]? =Z e->∃(j q m:Nat) (r:Wi),W[j]? =Z r/\(e.no=r.u/\e.ck=r.ck/\e.kd=r.kd/\e.fl=r.fl/\e.of=r.of/\e.ln=r.ln)/\(r.of=4*(q:Int)/\r.ln=4*(m:Int)/\q+m<=n)/\(0<=r.kd/\r.kd<=4)/\(r.kd=1->r.dt.size=4*m)/\(e.er=0\/e.er=5)/\(0<=r.bk->r.er=e.er)/\(r.kd=0->e.er=0->0<=r.bk->r.tx.size=4*m/\∀i,i<m->Bd r.tx i∈X p 0 (q+i))/\X (p+1)=ax (X p) n q m r e.er
 nQ:∀(j:Nat) r,W[j]? =Z r->0<=r.bk->∃(p:Nat) (e:En),lo[p]? =Z e/\e.ck=r.ck
 ord:∀(i j p q:Nat) x a e b,W[i]? =Z x->W[j]? =Z a->lo[p]? =Z e->e.ck=x.ck->lo[q]? =Z b->b.ck=a.ck->p<q->¬(0<=a.bk/\a.bk<x.at_)/\¬(j<i/\a.u=x.u/\dp x a=M)
end
structure sj(w:aq)(n:Nat)(W:av Wi)(lo:av En)(X:Nat->Nat->Nat->av ByteArray)(sb ab:Nat)(rv:Nat->aB)(lv:aB)(p:Nat)(wr:aq):Prop where
 low:w.heap.size<=wr.heap.size/\∀b,b<w.heap.size->wr.heap[b]? =w.heap[b]?
 sea:eU wr sb rv (X p) n
 new:∀t b,t<3->(rv t).ownBlock=Z b->w.heap.size<=b
 lg:wr.ownsRow 0 71 7 lv lo.length (lo.flatMap mX)
 at_:wr.heap[ab]? =Z (au (E9 lo W p) 3 (0,0))
 abn:w.heap.size<=ab
section
variable {w wr wr':aq} {n:Nat} {W:av Wi} {lo:av En} {X:Nat->Nat->Nat->av ByteArray} {sb ab p:Nat} {rv:Nat->aB} {lv:aB}
def sj.same(h:sj w n W lo X sb ab rv lv p wr)(a:wr'.heap=wr.heap):sj w n W lo X sb ab rv lv p wr':=
 ⟨by rw[a];exact h.low,h.sea.old λb _=>by rw[a],h.new,eF h.lg λb _=>by rw[a],by rw[a];exact h.at_,h.abn⟩
def sj.note{j0 e r}(h:sj w n W lo X sb ab rv lv p wr)(R:∀(i j:Nat) x a,W[i]? =Z x->W[j]? =Z a->x.ck=a.ck->i=j)(he:lo[p]? =Z e)(f:W[j0]? =Z r)(hc:e.ck=r.ck):eU (wr.setCell (F ab j0) (I ((p:Int)+1))) sb rv (X p) n/\(wr.setCell (F ab j0) (I ((p:Int)+1))).ownsRow 0 71 7 lv lo.length (lo.flatMap mX)/\(wr.setCell (F ab j0) (I ((p:Int)+1))).heap[ab]? =Z (au (E9 lo W (p+1)) 3 (0,0))/\∀b,b<w.heap.size->(wr.setCell (F ab j0) (I ((p:Int)+1))).heap[b]? =w.heap[b]? :=by
 have off:∀{b:Nat} {c:aF aB} {l:aY},wr.heap[b]? =Z (au c l (0,0))->l≠3->(wr.setCell (F ab j0) (I ((p:Int)+1))).heap[b]? =wr.heap[b]? :=λd u=>bC (mC d h.at_ u)
 have g:∀{S k m:Nat} {v:aB} {q:av aB},wr.ownsRow 0 S k v m q->S≠3->(wr.setCell (F ab j0) (I ((p:Int)+1))).ownsRow 0 S k v m q:=λh hS=>eF h λb d=>by obtain⟨x,C⟩:=yW h d;exact off C hS
 have A:=(bY.1 f).1;refine⟨⟨(off h.sea.box aM).t h.sea.box,λt B=>?_,h.sea.ne⟩,g h.lg aM,?_,λb d=>(bC ?_).t (h.low.2 b d)⟩;obtain⟨E,a1,o⟩:=h.sea.row t B;exact⟨E,g a1 aM,λk v hv=>⟨g (o k v hv).1 aM,(o k v hv).2⟩⟩;rw[bG h.at_,Hn he A (by rw[hc];unfold iW;rw[f]) λj z s=>?_];obtain⟨a,D⟩:∃a,W[j]? =Z a:=⟨_,dj z⟩;refine R j j0 a r D f ?_;unfold iW at s
 grind
 have:=h.abn;omega
def sj.next{w1}(h:sj w n W lo X sb ab rv lv p wr)(a1:(wr'.ownsRow 0 71 7 lv lo.length (lo.flatMap mX)))(i:wr'.heap[ab]? =Z (au (E9 lo W (p+1)) 3 (0,0)))(a3:∀b,b<w.heap.size->wr'.heap[b]? =w.heap[b]?)(o:w.heap.size<=wr'.heap.size)(l:eU w1 sb rv (X (p+1)) n)(d:oB wr' rv w1)(k:eU wr' sb rv (X p) n):sj w n W lo X sb ab rv lv (p+1) w1:=by
 have off:∀{b:Nat} {c:aF aB} {f:aY},wr'.heap[b]? =Z (au c f (0,0))->f≠41->w1.heap[b]? =wr'.heap[b]? :=λ{b c f} a s=>d.2 b (bf.1 a).1 λt g e=>by
  obtain⟨v,q,_⟩:=k.row t g;obtain⟨r,u⟩:=yW q e
  grind
 refine⟨⟨cM o d.1,λb a=>(d.2 b Y λt g e=>?_).t (a3 b a)⟩,l,h.new,eF a1 λb a=>?_,(off i aM).t i,h.abn⟩;have:=h.new t b g e;omega;obtain⟨c,m⟩:=yW a1 a;exact off m aM
end
section
variable {w wr:aq} {n:Nat} {lo:av En} {X:Nat->Nat->Nat->av ByteArray} {sb ab p:Nat} {rv:Nat->aB} {lv:aB} {g:Cf} {cb xb:Nat} {f:Fx} {c:Cw} {L:cZ} {m:Cm}
def sj.Jy{j r oa N cap}(h:sj w n c.W lo X sb ab rv lv p wr)(T:bz w g cb xb f c L m)(ev:m.wv=ζ oa N cap)(e:c.W[j]? =Z r):∃b q,oa=Z ⟨b,0,aj⟩/\wr.cell? (F b j)=Z (jp q)/\wr.heap[q]? =Z (au (mI r) 68 (0,0))/\q<w.heap.size:=by
 obtain⟨b,o,q,i,_,d,k⟩:=(T.old h.low.2).spot e;obtain⟨x,t,u,_⟩:=T.Jy e;rw[ev]at i;cases i;refine⟨b,q,U,d,k,?_⟩;obtain⟨v,s,z,f1,f2,f3,f4⟩:=T.spot e;rw[ev]at f1;cases f1
 have l:b<w.heap.size:=by refine jJ T.jW b ?_;rw[ev];rfl
 have:=iO (a:=F b j) (h.low.2 b l);rw[this,f3]at d;cases d;exact(bf.1 f4).1
def sj.head{oa N cap}(h:sj w n c.W lo X sb ab rv lv p wr)(T:bz w g cb xb f c L m)(ev:m.wv=ζ oa N cap):wr.cell? (F cb 11)=Z (ζ oa N cap):=by rw[<-ev];exact aD (T.old h.low.2).cr U
def sj.ent{la l lc e}(h:sj w n c.W lo X sb ab rv (ζ la l lc) p wr)(he:lo[p]? =Z e):∃a,la=Z ⟨a,0,aj⟩/\wr.cell? (F a (p*7))=Z (I e.no)/\wr.cell? (F a (p*7+1))=Z (I e.ck)/\wr.cell? (F a (p*7+2))=Z (I e.kd)/\wr.cell? (F a (p*7+3))=Z (I e.fl)/\wr.cell? (F a (p*7+4))=Z (I e.of)/\wr.cell? (F a (p*7+5))=Z (I e.ln)/\wr.cell? (F a (p*7+6))=Z (I e.er):=by have j:=(bY.1 he).1;obtain⟨a,i,d,b⟩:=yV h.lg Y;cases d;have k:=pv he;exact⟨a,U,b _ _ (k 0 Y),b _ _ (k 1 Y),b _ _ (k 2 Y),b _ _ (k 3 Y),b _ _ (k 4 Y),b _ _ (k 5 Y),b _ _ (k 6 Y)⟩
def sj.place{j}(h:sj w n c.W lo X sb ab rv lv p wr)(a:j<c.W.length):wr.cell? (F ab j)=Z (I ((Tm lo c.W p j:Nat):Int)):=aD h.at_ (pw _ a)
end
def Mr(w:aq)(n:Nat)(a:Nat->Nat->av ByteArray)(e:jA)(w':aq):Prop:=∃sb rv,e=aG (jp sb)/\eU w' sb rv a n/\w.heap.size<=w'.heap.size/\∀b,b<w.heap.size->w'.heap[b]? =w.heap[b]?
def Nf(cb xb:Nat)(g:Cf)(f:Fx)(c:Cw)(L:cZ)(m:Cm)(w:aq)(h:bz w g cb xb f c L m)(n cu:Nat)(X:Nat->Nat->Nat->av ByteArray)(hn:g.sz=4*(n:Int))(R:mf n cu c.W f.log X):
  Calls prog 8 #[jp cb] w (Mr w n (X f.log.length)):=by
 have HN:Hid (Calls prog 18 #[I g.sz] w (ua n w)):=by rw[hn];exact QP n w R.nn.2
 have G:Hid (bz w g cb xb f c L m):=h;have H:Hid (mf n cu c.W f.log X):=R;have c0:=aJ w cb 0 (I g.sz) h.cr;obtain⟨oa,bJ,ev⟩:=gP h.jW;have P:Hid (m.wv=ζ oa c.W.length bJ):=ev;have hN:c.W.length<=65535:=R.dO.1;have jc:f.log.length<=1099511627776:=R.dO.2.1;clear h R ev hn;go_enter func8,ntmps8
 go_upto_region 2 with(go_at_call 18;refine HN.u.m ?_;rintro e w1 ⟨sb,rv,rfl,S1⟩)
 have T1:bz w1 g cb xb f c L m:=G.u.old S1.low.2;have iE:=aJ w1 cb 9 (jp xb) T1.cr;have HL:Hid (Calls prog 19 #[jp xb] w1 (fh 71 7 f.log.length (f.log.flatMap mX) w1)):=O5 xb f L w1 T1.fx H.u.dO.2.1;have bt:=Dv S1;clear S1 T1
 go_upto_region 3 with(go_at_call 19;refine HL.u.m ?_;rintro e w2 ⟨lv,rfl,l1,l2,l3⟩)
 have bH:w.heap.size<=w2.heap.size/\∀b,b<w.heap.size->w2.heap[b]? =w.heap[b]? :=⟨cM bt.u.low.1 l2.size,λb B=>(l2.block b (cS B bt.u.low.1)).t (bt.u.low.2 b B)⟩;have aX:w2.cell? (F cb 11)=Z (ζ oa c.W.length bJ):=by rw[<-P.u];exact aD (G.u.old bH.2).cr U
 have hM:=Og f.log c.W hN;obtain⟨la,lc,fC⟩:=gP l1;subst fC
 have H0:Hid (sj w n c.W f.log X sb w2.heap.size rv (ζ la f.log.length lc) 0 (w2.alloc (au (E9 f.log c.W 0) 3))):=by have B:=(ee w2.heap.size w2).alloc (aR _) (au (E9 f.log c.W 0) 3);refine⟨⟨cM bH.1 B.size,λb D=>(B.block b Y).t (bH.2 b D)⟩,?_,bt.u.new.2,eF l1 λb e=>B.block b (jJ l1 b e),eh w2 _,bH.1⟩;rw[H.u.zero];exact(bt.u.sea.old λb D=>l2.block b D).old λb D=>B.block b D
 clear l1 l2 l3 bH bt
 go_upto_region 4 with fail
 generalize w2.alloc (au (E9 f.log c.W 0) 3)=w3 at*;generalize w2.heap.size=ab at*;clear aX hM;generalize fW:c.W.length=N at*;generalize dr:f.log.length=d at*;go_wp2
 go_loopw [6] (λiv wr=>∃p:Nat,p<=d/\iv=I p/\Hid (sj w n c.W f.log X sb ab rv (ζ la d lc) p wr)) (λiv _=>d-(dw iv).toNat)
 case atStart=>exact⟨0,cO _,U,H0⟩
 case round=>
  obtain⟨p,hp,rfl,HX⟩:=hrel
  by_cases jl:p<d
  ·have gz:(p:Int)<(d:Int):=Y;have jo:0<=(p:Int)/\(p:Int)<(d:Int):=Y;obtain⟨e,he⟩:∃e,f.log[p]? =Z e:=⟨_,dj Y⟩;obtain⟨o,q0,m0,r,s1,⟨t0,t1,t2,t3,t4,t5⟩,s3,s4,s5,s6,s7,s8,s9⟩:=H.u.step p e he;have gu:o<N:=by rw[<-fW];exact(bY.1 s1).1
   have HP:Hid (f.log[p]? =Z e/\c.W[o]? =Z r/\(r.of=4*(q0:Int)/\r.ln=4*(m0:Int)/\q0+m0<=n)/\(0<=r.kd/\r.kd<=4)/\(r.kd=1->r.dt.size=4*m0)/\(e.er=0\/e.er=5)/\(0<=r.bk->r.er=e.er)/\(r.kd=0->e.er=0->0<=r.bk->r.tx.size=4*m0/\∀i,i<m0->Bd r.tx i∈X p 0 (q0+i))/\X (p+1)=ax (X p) n q0 m0 r e.er):=⟨he,s1,s3,s4,s5,s6,s7,s8,s9⟩;obtain⟨C,el,-⟩:=HX.u.ent he;subst el;clear he s1 s3 s4 s5 s6 s7 s8 s9;go_wp2
   go_loopw [7,8] (λkv bn bP=>∃j:Nat,j<=N/\bn=I j/\kv=I (if o<j then(o:Int)else -1)/\Hid (sj w n c.W f.log X sb ab rv (ζ (Z (F C 0)) d lc) p bP)) (λ_ bn _=>N-(dw bn).toNat)
   case atStart=>exact⟨0,cO _,U,U,HX⟩
   case round=>as_aux_lemma=>
    obtain⟨j,hj,rfl,rfl,Q⟩:=hrel;have aX:=Q.u.head G.u P.u;obtain⟨ju,el,k0,k1,k2,k3,k4,k5,k6⟩:=Q.u.ent HP.u.1;cases el
    by_cases gx:j<N
    ·have gw:(j:Int)<(N:Int):=Y;have dD:0<=(j:Int)/\(j:Int)<(N:Int):=Y;obtain⟨x,D⟩:∃x,c.W[j]? =Z x:=⟨_,dj Y⟩;obtain⟨T,qx,eo,cA,bx,-⟩:=Q.u.Jy G.u P.u D;subst eo;have x0:=aJ wr qx 0 (I (x.u:Nat)) bx;have x1:=aJ wr qx 1 (I (x.ck:Nat)) bx;have cg:Hid (∀k,sj w n c.W f.log X sb ab rv (ζ (Z (F C 0)) d lc) p (wr.drewN k)):=λk=>Q.u.same U
     by_cases hm:j=o
     ·subst hm
      have gN:x=r:=by have:=HP.u.2.1;rw[D]at this;exact ey this
      subst gN;have g0:decide (((x.u:Nat):Int)=e.no)=M:=by simp[t0]
      have g1:decide (((x.ck:Nat):Int)=e.ck)=M:=by simp[t1]
      clear D bx k2 k3 k4 k5 k6
      go_upto_region 11 with fail
      go_quiet (fail)
      go_wp2;exact⟨⟨j+1,Y,by go_num,by rw[aO Y],cg.u _⟩,by simp[dw];omega⟩
     have hk:(if o<j then(o:Int)else -1)=if o<j+1 then(o:Int)else -1:=by
      by_cases h1:o<j
      rw[aO h1,aO Y];rw[aI h1,aI Y]
     have dL:¬(x.u=r.u/\x.ck=r.ck):=λe1=>hm (H.u.one j o x r D HP.u.2.1 e1.2);clear D bx k2 k3 k4 k5 k6
     by_cases hu:x.u=r.u
     ·have g0:decide (((x.u:Nat):Int)=e.no)=M:=by simp[t0,hu]
      have g1:decide (((x.ck:Nat):Int)=e.ck)=aa:=by rw[decide_eq_false_iff_not,t1];exact λe1=>dL ⟨hu,Y⟩
      have g2:(((x.ck:Nat):Int)==e.ck)=aa:=by rw[beq_eq_false_iff_ne];exact pd g1
      generalize (if o<j then(o:Int)else -1)=kz at*
      go_upto_region 11 with fail
      go_quiet (fail)
      go_wp2;exact⟨⟨j+1,Y,by go_num,by rw[hk],cg.u _⟩,by simp[dw];omega⟩
     have g0:decide (((x.u:Nat):Int)=e.no)=aa:=by rw[decide_eq_false_iff_not,t0];exact λe1=>hu Y
     have g2:(((x.u:Nat):Int)==e.no)=aa:=by rw[beq_eq_false_iff_ne];exact pd g0
     have g3:¬((x.u:Nat):Int)=e.no:=pd g0;clear t0 t1 t2 t3 t4 t5 hu dL;generalize (if o<j then(o:Int)else -1)=kz at*
     go_upto_region 11 with fail
     go_quiet (fail)
     go_wp2;exact⟨⟨j+1,Y,by go_num,by rw[hk],cg.u _⟩,by simp[dw];omega⟩
    have gw:¬(j:Int)<(N:Int):=Y;have dH:(if o<j then(o:Int)else -1)=(o:Int):=aO Y;rw[dH];clear dH;have MU:¬(o:Int)<0:=Y;have jk:0<=(o:Int)/\(o:Int)<(N:Int):=Y
    have gb:wr.cell? (F ab o)=Z (I 0):=by have:=Q.u.place (j:=o) Y;rw[Mc H.u.nd HP.u.1 (by rw[t1];unfold iW;rw[HP.u.2.1])]at this;exact this
    have gh:wr.frozen? (F ab o)=aa:=bp Q.u.at_ _;obtain⟨T,qr,eo,cA,br,jq⟩:=Q.u.Jy G.u P.u HP.u.2.1;subst eo;obtain⟨y1,y2,y3,y4⟩:=Q.u.note H.u.one HP.u.1 HP.u.2.1 t1;have jr:cJ.wrap ((p:Int)+1)=(p:Int)+1:=dI Y Y;have b1:(wr.setCell (F ab o) (I ((p:Int)+1))).heap[qr]? =Z (au (mI r) 68 (0,0)):=(bC (by have:=Q.u.abn;omega)).t br;have dV:(wr.setCell (F ab o) (I ((p:Int)+1))).heap.size=wr.heap.size:=ay
    go_upto_region 16 with fail
    generalize wr.setCell (F ab o) (I ((p:Int)+1))=V at*;have O:Hid (eU V sb rv (X p) n/\V.ownsRow 0 71 7 (ζ (Z (F C 0)) d lc) f.log.length (f.log.flatMap mX)/\V.heap[ab]? =Z (au (E9 f.log c.W (p+1)) 3 (0,0))/\(∀b,b<w.heap.size->V.heap[b]? =w.heap[b]?)/\w.heap.size<=V.heap.size):=⟨y1,y2,y3,y4,by rw[dV];exact Q.u.low.1⟩
    have HD:Hid (Calls prog 20 #[jp sb,jp qr,ν (iX ⟨e.no,e.ck,r.kd,r.fl,r.of,r.ln,e.er,[]⟩)] V.drew (λe' E=>e'=aG (ω M)/\sj w n c.W f.log X sb ab rv (ζ (Z (F C 0)) d lc) (p+1) E)):=by obtain⟨_,h2,h3,h4,h5,h6,h7,h8,h9⟩:=HP.u;refine(Hm sb qr n q0 m0 cu rv (X p) r e.no e.ck e.er V.drew (y1.old λ_ _=>U) b1 h3.1 h3.2.1 h3.2.2 H.u.nn.2 H.u.nn.1 h4 h5 h6 h7 h8 (λt k=>H.u.most p t k Y) H.u.dO.2.2 λt ht e2=>?_).m ?_;have:=Q.u.new t qr ht e2;omega;rintro e' E ⟨rfl,d1,d2⟩;rw[<-h9]at d1;exact⟨U,Q.u.next (wr':=V) O.u.2.1 O.u.2.2.1 O.u.2.2.2.1 O.u.2.2.2.2 d1 ⟨d2.1,d2.2⟩ O.u.1⟩
    have gd:cb<w.heap.size:=(bf.1 G.u.cr).1
    have gk:T<w.heap.size:=by refine jJ G.u.jW T ?_;rw[P.u];rfl
    have RC:Hid (∀l:aq,(∀b,b<w.heap.size->l.heap[b]? =w.heap[b]?)->l.ownsRow 0 71 7 (ζ (Z (F C 0)) d lc) f.log.length (f.log.flatMap mX)->l.cell? (F cb 11)=Z (ζ (Z (F T 0)) N bJ)/\l.cell? (F T o)=Z (jp qr)/\(l.cell? (F C (p*7))=Z (I e.no)/\l.cell? (F C (p*7+1))=Z (I e.ck)/\l.cell? (F C (p*7+2))=Z (I r.kd)/\l.cell? (F C (p*7+3))=Z (I r.fl)/\l.cell? (F C (p*7+4))=Z (I r.of)/\l.cell? (F C (p*7+5))=Z (I r.ln)/\l.cell? (F C (p*7+6))=Z (I e.er))):=λl h1 h2=>by have hw:=λb B=>(h1 b B).t (Q.u.low.2 b B).y;refine⟨(iO (a:=F cb 11) (hw cb gd)).t aX,(iO (a:=F T o) (hw T gk)).t cA,?_⟩;obtain⟨jw,iG,e1,hc⟩:=yV h2 Y;cases e1;have k:=pv HP.u.1;rw[<-t2,<-t3,<-t4,<-t5];exact⟨hc _ _ (k 0 Y),hc _ _ (k 1 Y),hc _ _ (k 2 Y),hc _ _ (k 3 Y),hc _ _ (k 4 Y),hc _ _ (k 5 Y),hc _ _ (k 6 Y)⟩
    have S0:=RC.u V O.u.2.2.2.1 O.u.2.1;clear y1 y2 y3 y4 b1 br k0 k1 k2 k3 k4 k5 k6 cA aX gb gh dV t0 t1 t2 t3 t4 t5;refine ga (S:=λl=>l.cell? (F cb 11)=Z (ζ (Z (F T 0)) N bJ)/\l.cell? (F T o)=Z (jp qr)/\(l.cell? (F C (p*7))=Z (I e.no)/\l.cell? (F C (p*7+1))=Z (I e.ck)/\l.cell? (F C (p*7+2))=Z (I r.kd)/\l.cell? (F C (p*7+3))=Z (I r.fl)/\l.cell? (F C (p*7+4))=Z (I r.of)/\l.cell? (F C (p*7+5))=Z (I r.ln)/\l.cell? (F C (p*7+6))=Z (I e.er))) S0 λiV=>?_;apply tl [0,1,2,3,4,5,6,7];apply tl [8,9,10,11];refine rH 12 λK hK=>?_;go_simp;go_at_call 20;refine HD.u.m ?_;rintro e' w5 ⟨rfl,h5⟩;have H5:=Dv h5;refine hK.u _ _ (RC.u w5 h5.low.2 h5.lg) (λhH=>?_);clear hK K h5;apply tl [13];refine dJ ?_;go_wp2
    go_roundw
    case rel=>exact⟨p+1,Y,by go_num,H5⟩
    case measure=>simp[dw];omega
  have gz:¬(p:Int)<(d:Int):=Y;have gD:p=d:=Y;rw[gD]at HX;go_wp2
  go_loopw [10] (λiv bP=>∃i:Nat,i<=N/\iv=I i/\Hid (sj w n c.W f.log X sb ab rv (ζ la d lc) d bP)) (λiv _=>N-(dw iv).toNat)
  case atStart=>exact⟨0,cO _,U,HX⟩
  case round=>as_aux_lemma=>
   obtain⟨i,hi,rfl,O⟩:=hrel;have aX:=O.u.head G.u P.u
   by_cases jf:i<N
   ·have gm:(i:Int)<(N:Int):=Y;have je:0<=(i:Int)/\(i:Int)<(N:Int):=Y;obtain⟨x,D⟩:∃x,c.W[i]? =Z x:=⟨_,dj Y⟩;obtain⟨T,qx,eo,ci,bx,-⟩:=O.u.Jy G.u P.u D;subst eo;have ij:=aJ wr qx 8 (I x.bk) bx;have pa:=O.u.place (j:=i) Y;generalize hA:((Tm f.log c.W d i:Nat):Int)=A at pa
    have bV:0<=x.bk->¬A=0:=λB=>by obtain⟨q,e,h1,h2⟩:=H.u.nQ i x D B;have:=ui H.u.nd (j:=i) (W:=c.W) h1 (by rw[h2];unfold iW;rw[D]) (q:=d) (by rw[<-dr];exact(bY.1 h1).1);omega
    have bB:Hid (c.W[i]? =Z x):=D;clear D bx
    go_upto_region 22 with fail
    go_cut [138] from 112 to 248 (λv E=>v=ω aa/\E=wr)
    case first=>as_aux_lemma=>
     by_cases B:0<=x.bk
     ·have gl:x.bk≥0:=B;have fR:=bV B;clear bV B;go_wp2
      go_meet
      case rel=>exact⟨by simp[fR],U⟩
     have gl:¬x.bk≥0:=B;clear bV B;go_wp2
     go_meet
     case rel=>exact⟨U,U⟩
    case rest=>
     obtain⟨rfl,rfl⟩:=hcut;clear bV ij pa ci aX;go_wp2
     go_loopw [11] (λbn bP=>∃j:Nat,j<=N/\bn=I j/\Hid (sj w n c.W f.log X sb ab rv (ζ la d lc) d bP)) (λbn _=>N-(dw bn).toNat)
     case atStart=>exact⟨0,cO _,U,O⟩
     case round=>as_aux_lemma=>
      obtain⟨j,hj,rfl,HZ⟩:=hrel;have aX:=HZ.u.head G.u P.u
      by_cases gx:j<N
      ·have dD:(j:Int)<(N:Int):=Y;have gu:0<=(j:Int)/\(j:Int)<(N:Int):=Y;obtain⟨s,hy⟩:∃s,c.W[j]? =Z s:=⟨_,dj Y⟩;obtain⟨iJ,qy,eo,-,-,-⟩:=HZ.u.Jy G.u P.u hy;cases eo;obtain⟨iK,jP,eo,fo,-,gE⟩:=HZ.u.Jy G.u P.u bB.u;cases eo
       have RL:Hid (∀l:aq,sj w n c.W f.log X sb ab rv (ζ la d lc) d l->∃qx qy:Nat,l.cell? (F cb 11)=Z (ζ (Z (F T 0)) N bJ)/\(l.cell? (F T i)=Z (jp qx)/\l.cell? (F T j)=Z (jp qy))/\(l.cell? (F ab i)=Z (I ((Tm f.log c.W d i:Nat):Int))/\l.cell? (F ab j)=Z (I ((Tm f.log c.W d j:Nat):Int)))/\(l.cell? (F qx 0)=Z (I (x.u:Nat))/\l.cell? (F qx 7)=Z (I x.at_))/\(l.cell? (F qy 0)=Z (I (s.u:Nat))/\l.cell? (F qy 8)=Z (I s.bk))/\l.heap[qx]? =Z (au (mI x) 68 (0,0))/\l.heap[qy]? =Z (au (mI s) 68 (0,0))):=λl h=>by obtain⟨_,q1,e1,c1,b1,_⟩:=h.Jy G.u P.u bB.u;cases e1;obtain⟨_,q2,e2,c2,b2,_⟩:=h.Jy G.u P.u hy;cases e2;exact⟨q1,q2,h.head G.u P.u,⟨c1,c2⟩,⟨h.place Y,h.place Y⟩,⟨aD b1 U,aD b1 U⟩,⟨aD b2 U,aD b2 U⟩,b1,b2⟩
       have dQ:=H.u.small i x bB.u;have dR:=H.u.small j s hy
       have dP:(decide (0<Tm f.log c.W d i)&&decide (Tm f.log c.W d i<Tm f.log c.W d j))=M->(decide (s.bk≥0)&&decide (s.bk<x.at_))=aa/\(decide (j<i)&&(decide (s.u=x.u)&&dp x s))=aa:=λhl=>by
        simp only[cQ,tB]at hl;obtain⟨p1,e1,h1,h2,h3,h4⟩:=mP hl.1;obtain⟨p2,e2,h5,h6,h7,h8⟩:=mP (lo:=f.log) (W:=c.W) (j:=j) (p:=d) Y;have gL:iW c.W i=x.ck:=by unfold iW;rw[bB.u]
        have gO:iW c.W j=s.ck:=by unfold iW;rw[hy]
        rw[gL]at h4;rw[gO]at h8;obtain⟨o1,o2⟩:=H.u.ord i j p1 p2 x s e1 e2 bB.u hy h3 h4 h7 h8 Y;refine⟨EH.2 λh=>o1 ?_,EH.2 λh=>o2 ?_⟩;simp only[cQ,tB]at h;exact h;simp only[cQ,tB]at h;exact h
       clear hy fo gE;obtain⟨Z1,dx⟩:∃z:Int,((Tm f.log c.W d i:Nat):Int)=z:=⟨_,U⟩;obtain⟨Z2,dz⟩:∃z:Int,((Tm f.log c.W d j:Nat):Int)=z:=⟨_,U⟩;obtain⟨U1,cK⟩:∃z:Int,((x.u:Nat):Int)=z:=⟨_,U⟩;obtain⟨U2,cL⟩:∃z:Int,((s.u:Nat):Int)=z:=⟨_,U⟩;obtain⟨V,hV⟩:∃v,dp x s=v:=⟨_,U⟩
       have gA:(decide (Z1>0)&&decide (Z1<Z2))=M->(decide (s.bk≥0)&&decide (s.bk<x.at_))=aa/\(decide (j<i)&&(decide (U2=U1)&&V))=aa:=λhl=>by rw[<-cK,<-cL,<-hV,show decide (((s.u:Nat):Int)=((x.u:Nat):Int))=decide (s.u=x.u) from decide_eq_decide.2 Y];refine dP ?_;simp only[cQ,tB]at hl⊢;omega
       rw[dx,dz,cK,cL]at RL
       have HT:Hid (∀(l:aq) (k a b:Nat),l.heap[a]? =Z (au (mI x) 68 (0,0))->l.heap[b]? =Z (au (mI s) 68 (0,0))->Calls prog 21 #[jp a,jp b] (l.drewN k) λe E=>e=aG (ω V)/\∃m,E=(l.drewN k).drewN m):=λl k a b ha B=>by rw[<-hV];exact Ic a b x s (l.drewN k) ha B dQ dR
       clear dP dx dz cK cL hV dQ dR;obtain⟨q1,q2,-,⟨-,-⟩,⟨a1,a2⟩,-⟩:=RL.u _ HZ.u;have J:Hid (∀k,sj w n c.W f.log X sb ab rv (ζ la d lc) d (wr.drewN k)):=λk=>HZ.u.same U
       go_upto_region 27 with fail
       go_cut [12] from 139 to 248 (λv E=>v=ω (decide (Z1>0)&&decide (Z1<Z2))/\Hid (sj w n c.W f.log X sb ab rv (ζ la d lc) d E))
       case first=>as_aux_lemma=>
        by_cases aT:Z1>0
        ·have g1:decide (Z1>0)=M:=by simp[aT]
         go_quiet (fail)
         go_wp2
         go_meet
         case rel=>exact⟨by rw[g1];simp,J.u _⟩
        have g1:decide (Z1>0)=aa:=by simp[aT]
        go_quiet (fail)
        go_wp2
        go_meet
        case rel=>exact⟨by rw[g1];simp,J.u _⟩
       case rest=>
        obtain⟨rfl,cj⟩:=hcut;clear a1 a2 J;obtain⟨q3,q4,d11,⟨di,fA⟩,-,⟨-,d7⟩,⟨-,d8⟩,-⟩:=RL.u _ cj.u;have J:Hid (∀k,sj w n c.W f.log X sb ab rv (ζ la d lc) d (wc.drewN k)):=λk=>cj.u.same U;generalize iR:(decide (Z1>0)&&decide (Z1<Z2))=B1 at*
        go_upto_region 28 with fail
        go_cut [13] from 139 to 248 (λv E=>v=ω (decide (s.bk≥0)&&decide (s.bk<x.at_))/\Hid (sj w n c.W f.log X sb ab rv (ζ la d lc) d E))
        case first=>as_aux_lemma=>
         by_cases aT:s.bk≥0
         ·have g1:decide (s.bk≥0)=M:=by simp[aT]
          go_quiet (fail)
          go_wp2
          go_meet
          case rel=>exact⟨by rw[g1];simp,J.u _⟩
         have g1:decide (s.bk≥0)=aa:=by simp[aT]
         go_quiet (fail)
         go_wp2
         go_meet
         case rel=>exact⟨by rw[g1];simp,J.u _⟩
        case rest=>
         obtain⟨rfl,cm⟩:=hcut;clear d11 di fA d7 d8 J cj;generalize MH:(decide (s.bk≥0)&&decide (s.bk<x.at_))=B2 at*;obtain⟨q5,q6,f11,⟨fi,fj⟩,-,-,-,fx,dh⟩:=RL.u _ cm.u;have J:Hid (∀k,sj w n c.W f.log X sb ab rv (ζ la d lc) d (wc.drewN k)):=λk=>cm.u.same U;have c8:Hid (∀k,Calls prog 21 #[jp q5,jp q6] (wc.drewN k) λe E=>e=aG (ω V)/\∃m,E=(wc.drewN k).drewN m):=λk=>HT.u wc k q5 q6 fx dh;clear fx dh
         go_upto_region 29 with fail
         go_cut [14] from 139 to 248 (λv E=>v=ω V/\Hid (sj w n c.W f.log X sb ab rv (ζ la d lc) d E))
         case first=>as_aux_lemma=>
          go_quiet ((go_at_call 21;exact Calls.quiet_of (c8.u _)))
          go_wp2
          go_meet
          case rel=>exact⟨U,J.u _⟩
         case rest=>
          obtain⟨rfl,cq⟩:=hcut;clear f11 fi fj c8 J cm;obtain⟨q7,q8,fH,⟨fN,gj⟩,-,⟨g0,-⟩,⟨g8,-⟩,-⟩:=RL.u _ cq.u;have J:Hid (∀k,sj w n c.W f.log X sb ab rv (ζ la d lc) d (wc.drewN k)):=λk=>cq.u.same U
          go_upto_region 30 with fail
          go_cut [15] from 139 to 248 (λv E=>v=ω (decide (j<i)&&(decide (U2=U1)&&V))/\Hid (sj w n c.W f.log X sb ab rv (ζ la d lc) d E))
          case first=>as_aux_lemma=>
           by_cases aT:j<i
           ·have e1:(j:Int)<(i:Int):=Y;have e2:decide (j<i)=M:=by simp[aT]
            by_cases bT:U2=U1
            ·have e3:decide (U2=U1)=M:=by simp[bT]
             have e4:(U2==U1)=M:=by simp[bT]
             go_quiet (fail)
             go_wp2
             go_meet
             case rel=>exact⟨by rw[e2,e3];simp,J.u _⟩
            have e3:decide (U2=U1)=aa:=by simp[bT]
            have e4:(U2==U1)=aa:=by simp[bT]
            go_quiet (fail)
            go_wp2
            go_meet
            case rel=>exact⟨by rw[e2,e3];simp,J.u _⟩
           have e1:¬(j:Int)<(i:Int):=Y;have e2:decide (j<i)=aa:=by simp[aT]
           go_quiet (fail)
           go_wp2
           go_meet
           case rel=>exact⟨by rw[e2];simp,J.u _⟩
          case rest=>
           obtain⟨rfl,c9⟩:=hcut;clear fH fN gj g0 g8 J cq;generalize iS:(decide (j<i)&&(decide (U2=U1)&&V))=B3 at*;cases B1
           ·go_wp2
            go_roundw
            case rel=>exact⟨j+1,Y,by go_num,c9⟩
            case measure=>simp[dw];omega
           obtain⟨z1,z2⟩:=gA U;subst z1 z2;go_wp2
           go_roundw
           case rel=>exact⟨j+1,Y,by go_num,c9⟩
           case measure=>simp[dw];omega
      have dD:¬(j:Int)<(N:Int):=Y;go_wp2
      go_roundw
      case rel=>exact⟨i+1,Y,by go_num,HZ⟩
      case measure=>simp[dw];omega
   have gm:¬(i:Int)<(N:Int):=Y;go_wp2;go_ret;exact⟨sb,rv,U,dr▸O.u.sea,O.u.low⟩
section
attribute [local go_sem] cz cE Dj Dl vB
open Go.ConcR (Payload)
section
variable [an] {Q:Exit->Act->aq->Prop} {a:Act} {u:aq} {ops:aF Oper} {i n d k:Nat} {rest:av Nat} {Lf:aZ->av Nat} {f0:aZ} {L:av (Nat×aB)} {ty:aY} {ps:String} {af:aF Edge} {gd:aV (Nat×Bool)}
end
section
variable [an] [Payload] {l:av aZ} {u:aq} {g:Cf} {cb xb:Nat} {t:Nat} {aqd:Nat->Fx->Cw->Prop} {sa:aV Addr} {ls cs:Nat} {ps:av Nat}
def PlL(g:Cf)(aqd:Nat->Fx->Cw->Prop)(t cb xb:Nat)(ps:av Nat)(sa:aV Addr)(ls cs:Nat)(a:Act)(u:aq):Prop:=∃i:Nat,Fa 21 a [(0,pt cb),(1,ζ sa ls cs),(5,I (i:Int))]/\i<=ls/\gL g aqd (t+i) cb xb ps u
def DV(G:wH l)(O:an.known 16)(S:tI g (λ_ _=>True) aqd)(X:t+ls<1073741824)(H:wN sa ls)(B:gL g aqd t cb xb ps u):
  iT dR prog 6 #[pt cb,.slice sa ls cs] u λe P=>e=aG (.bool M)/\gL g aqd (t+ls) cb xb ps P:=by
 have V:=G.x.fit;refine iT.AU 21 func6 λa E=>?_;refine FX.sq (FX.reg [0] ?_);refine FE.ow E λa _ E=>GO.nil ?_;refine FX.sq (FX.sq (FX.reg [0] ?_));refine FE.ow E λa _ E=>GO.nil ?_;refine FX.bk 0 (FX.lp (PlL g aqd t cb xb ps sa ls cs) (λa _=>leftOf ls 5 a) ⟨0,E.to,cO _,B⟩ ?_);clear B E;rintro a u ⟨i,E,W,B⟩;have A:=tP (n:=ls) (E.at_ 5 _ U);refine FX.sq (FX.sq (FX.reg [0,1,2,3] ?_));refine FE.ow E λa _ E=>?_;refine FE.bl E λa _ E=>?_;refine FE.ln E λa _ E=>?_
 by_cases o:i<ls
 ·have s:(i:Int)<(ls:Int):=Y;refine FE.ow (v:=.bool M) E λa _ E=>GO.nil ?_;refine FX.cT E (FX.sk ?_)
  replace E:Fa 21 a [(0,pt cb),(1,.slice sa ls cs),(5,I (i:Int))]:=E.to
  obtain⟨p,tq,ob,tz,rfl,J,K⟩:=H.resolve_left Y;have z:0<=(i:Int)/\(i:Int)<(ls:Int):=Y;obtain⟨f,c,h,q,m,T,C⟩:=B;have b:=K i o;refine FX.sq (FX.bk 1 (FX.sq (FX.reg [0,1,2,3,4,5,6] ?_)));refine FE.ow E λa _ E=>?_;refine FE.bl E λa _ E=>?_;refine FE.ow E λa _ E=>?_;refine FE.bl (v:=.pointer (Z (F p (tq+i*4)))) E (hr:=λw=>by go_simp) (he:=λw=>Dm (m:=ls) (c0:=cs) (ad:=F p tq) (j:=i) w U U aW z) λa _ E=>?_;refine FE.stp (tq:=tq+i*4) (tz:=tz i) J b E λa E=>?_;refine FE.cp (v0:=pt cb) (k0:=0) E func16 O Xs (λR N=>Tl cb _ _ _ _ R N) ((Tn G S h Y ⟨q,T⟩ _ _ _ _ (b 1 aM).1 (b 2 aM).1 (b 3 aM).1 ⟨λ_=>trivial,λ_ _ _ _=>trivial⟩).mono ?_);rintro e u2 ⟨rfl,D⟩;refine⟨_,U,λa _ E=>?_⟩;refine FE.ow E λa _ E=>GO.nil ?_;refine FX.sq (FX.reg [0,1] ?_);refine FE.ow E λa _ E=>?_;refine FE.ow (v:=.bool aa) E λa _ E=>GO.nil ?_;refine FX.cF E (FX.sk ?_);refine FX.reg [0,1,2] ?_;refine FE.ow E λa _ E=>?_;refine FE.ar E λa _ E=>?_;refine FE.ow E λa _ E=>GO.nil ?_;rw[show(i:Int)+1=((i+1:Nat):Int) by simp]at E;refine⟨⟨i+1,E.to,o,by rw[<-jv];exact D.mono C⟩,?_⟩;rw[A,tP (n:=ls) (E.at_ 5 _ U)];omega
 have s:¬(i:Int)<(ls:Int):=Y;refine FE.ow (v:=.bool aa) E λa _ E=>GO.nil ?_;refine FX.cF E (FX.ex 0 ?_);have e:i=ls:=Y;subst e;refine FX.sq (FX.reg [0] ?_);refine FE.ow E λa _ E=>GO.nil ?_;refine FX.rt ⟨U,E.defers,.bool M,?_,U,B⟩;have r:=ev (E.at_ 4 _ U);simp[iq,results6,go_sem,r]
end
end
section
variable {g:Cf} {r:Wi}
def Wi.Good.acc(h:r.Good g):accepted r.msg=M:=by have:=h.kd;simp[accepted];omega
def aaY{us s}(h:s.data.toList=[]):first g.sz g.mx 2 us s=(.zero,0):=by
 have a:s.size=0:=by show s.data.size=0;rw[<-lQ,h];rfl
 show mH g.sz g.mx us s=_;unfold mH;rw[aO Y]
end
def pg(W:av Wi)(j:Nat):bh:=match W[j]? with
 |some r=>r.msg
 |none=>bh.zero
def rz(W:av Wi)(j:Nat):av UInt8:=match W[j]? with
 |some r=>r.dV.data.toList
 |none=>[]
def qf(lo:av En)(ck:Int)(e:UInt8)(x:av UInt8):Prop:=∃a∈lo,a.ck=ck/\a.er=(e.toNat:Int)/\a.tx=x
structure cK(g:Cf)(W:av Wi)(i:Nat)(lg:av En)(jr:av Rq)(k:Ck)(un wq wf:av Nat)(ts:av Tk):Prop where
 ph:k.ph=2\/k.ph=0/\wq=[]/\wf=[]/\ts=[]
 aN:k.aN.data.toList=(if k.ph=0 then gm.data.toList else[])++un.flatMap (rz W)
 q:k.q.map (·.m)=wq.map (pg W)
 fl:jr.map (·.m)=wf.map (pg W)
 out:k.u.data.toList=ts.flatMap (iY W)
 tk:∀t∈ts,mU i W t
 nd:(un++wq++wf++ts.filterMap Tk.no).Nodup
 ok:∀j∈un++wq++wf++ts.filterMap Tk.no,∃r,W[j]? =Z r/\r.u=i/\r.Good g
 us:∀j∈un,(iW W j:Int)∉k.us
 lo:∀x∈k.us,∃(j:Nat) (a:Wi),W[j]? =Z a/\a.u=i/\(a.ck:Int)=x
 all:∀(j:Nat) r,W[j]? =Z r->r.u=i->r.bk= -1->j∈un++wq++wf++ts.filterMap Tk.no
 inc:(wq++un).Pairwise (·<·)
 seg:∀(j:Nat) r,W[j]? =Z r->r.u=i->j∉wq++un->∀b∈wq++un,j<b
 nl:∀j∈wq++un,∀e∈lg,e.ck≠(iW W j:Int)
 tq:∀j e x,(.inr (j,e,x):Tk)∈ts->qf lg (iW W j) e x
abbrev cK.u:=@cK.out
def wO(g:Cf)(W:av Wi)(i:Nat)(lo:av En)(jr:av Rq)(k:Ck):Prop:=∃un wq wf ts,cK g W i lo jr k un wq wf ts
def Dn{b m:Type}{l:av b}{f a:b->av m}(h:∀x∈l,f x=a x):l.flatMap f=l.flatMap a:=by
 induction l with
 |nil=>rfl
 |cons x l d=>rw[pH,pH,h x fJ,d λe c=>h e (gC _ c)]
section
variable {g:Cf} {W W':av Wi} {i j:Nat} {lo lo':av En} {jr:av Rq} {k:Ck} {un wq wf:av Nat} {ts:av Tk} {r:Wi}
def Da(h:W[j]? =Z r)(x:Wi):(W++[x])[j]? =Z r:=by grind
structure Alike(W W':av Wi)(j:Nat):Prop where
 msg:pg W' j=pg W j
 dV:rz W' j=rz W j
 ck:iW W' j=iW W j
def LF(h:W[j]? =Z r)(a:W'[j]? =Z r):Alike W W' j:=by refine⟨?_,?_,?_⟩;unfold pg;rw[h,a];unfold rz;rw[h,a];unfold iW;rw[h,a]
def Tw{t}(h:∀j,t.no=Z j->Alike W W' j):iY W' t=iY W t:=by
 match t with
 |.inl b=>rfl
 |.inr (j,e,x)=>show 82::e::(cu (iW W' j)++x)=82::e::(cu (iW W j)++x);rw[(h j U).ck]
def cK.keep(h:cK g W i lo jr k un wq wf ts)(o:∀(j:Nat) r,W[j]? =Z r->r.u=i->W'[j]? =Z r)(z:∀(j:Nat) r,W'[j]? =Z r->r.u=i->r.bk= -1->W[j]? =Z r)(A:∀(j:Nat) r,W'[j]? =Z r->r.u=i->∃f,W[j]? =Z f/\f.u=i):cK g W' i lo jr k un wq wf ts:=by
 have m:∀j∈un++wq++wf++ts.filterMap Tk.no,Alike W W' j:=λj a=>by obtain⟨r,c,d,l⟩:=h.ok j a;exact LF c (o j r c d)
 have m1:∀j∈un,Alike W W' j:=λj a=>m j (by simp[a]);have m2:∀j∈wq,Alike W W' j:=λj a=>m j (by simp[a]);have C:∀j∈wf,Alike W W' j:=λj a=>m j (by simp[a]);have v:∀t∈ts,∀j,t.no=Z j->Alike W W' j:=λt n j a=>m j (Kq _ (sX.2 ⟨t,n,a⟩));refine⟨h.ph,?_,?_,?_,?_,λt n=>?_,h.nd,λj a=>?_,λj a=>?_,λx B=>?_,λj r a p s=>h.all j r (z j r a p s) p s,h.inc,λj r a p=>?_,λj a e w=>?_,λj e x hm=>?_⟩;rw[h.aN]
 congr 1
 exact Dn λj a=>(m1 j a).dV.y;rw[h.q];exact rN λj a=>(m2 j a).msg.y;rw[h.fl];exact rN λj a=>(C j a).msg.y;rw[h.u];exact Dn λt n=>(Tw (v t n)).y;have:=h.tk t n
 match t,this with
 |.inl b,c=>exact c
 |.inr (j,e,x),⟨r,c,d,l⟩=>exact⟨r,o j r c d,d,l⟩
 obtain⟨r,c,d,l⟩:=h.ok j a;exact⟨r,o j r c d,d,l⟩;rw[(m1 j a).ck];exact h.us j a;obtain⟨j,f,c,d,l⟩:=h.lo x B;exact⟨j,f,o j f c d,d,l⟩;obtain⟨f,c,d⟩:=A j r a p;exact h.seg j f c d;rw[(m j (by rcases jg.1 a with h|h<;>simp[h])).ck];exact h.nl j a e w;rw[(v _ hm j U).ck];exact h.tq j e x hm
def cK.log(h:cK g W i lo jr k un wq wf ts)(f:∀e∈lo,e∈lo')(l:∀e∈lo',e∈lo\/∀j∈wq++un,e.ck≠(iW W j:Int)):cK g W i lo' jr k un wq wf ts:=
 ⟨h.ph,h.aN,h.q,h.fl,h.u,h.tk,h.nd,h.ok,h.us,h.lo,h.all,h.inc,h.seg,λj d e m=>(l e m).e (h.nl j d e) λh=>h j d,λj e x hm=>by obtain⟨c,a,b⟩:=h.tq j e x hm;exact⟨c,f c a,b⟩⟩
def cK.other(h:cK g W i lo jr k un wq wf ts)(hr:r.u≠i):cK g (W++[r]) i lo jr k un wq wf ts:=
 h.keep (λj x a _=>Da a r) (λj x a b _=>by
  rw[zH]at a;split at a;exact a
  ·have:=jC a;rw[iz]at this;exact absurd (this▸b) hr) λj x a b=>by
  grind
def RQ(W)(r:Wi):(W++[r])[W.length]? =Z r:=ay
def cK.send(h:cK g W i lo jr k un wq wf ts)(C:r.u=i)(z:r.Good g)(hc:∀(j:Nat) x,W[j]? =Z x->x.ck≠r.ck)(J:∀e∈lo,e.ck≠(r.ck:Int)):cK g (W++[r]) i lo jr (k.send r.dV) (un++[W.length]) wq wf ts:=by
 have lt:∀j∈un++wq++wf++ts.filterMap Tk.no,j<W.length:=λj hj=>by obtain⟨x,h1,_⟩:=h.ok j hj;exact(bY.1 h1).1
 have d:∀j∈un++wq++wf++ts.filterMap Tk.no,Alike W (W++[r]) j:=λj hj=>by obtain⟨x,h1,_⟩:=h.ok j hj;exact LF h1 (Da h1 r)
 have m1:∀j∈un,Alike W (W++[r]) j:=λj hj=>d j (by simp[hj]);have m2:∀j∈wq,Alike W (W++[r]) j:=λj hj=>d j (by simp[hj]);have E:∀j∈wf,Alike W (W++[r]) j:=λj hj=>d j (by simp[hj]);have v:∀t∈ts,∀j,t.no=Z j->Alike W (W++[r]) j:=λt l j hj=>d j (Kq _ (sX.2 ⟨t,l,hj⟩))
 have mem:∀j,j∈un++[W.length]++wq++wf++ts.filterMap Tk.no↔j=W.length\/j∈un++wq++wf++ts.filterMap Tk.no:=λj=>by grind
 refine⟨h.ph,?_,?_,?_,?_,λt l=>?_,?_,λj hj=>?_,λj hj=>?_,λx D=>?_,λj x hj n p=>?_,?_,λj x hj n hm o s=>?_,λj hj e w=>?_,λj e x hm=>?_⟩;show(k.aN++r.dV).data.toList=_;rw[zB,uh,h.aN,rL,lS]
 congr 1
 rw[Dn λj hj=>(m1 j hj).dV.y]
 congr 1
 rw[Kk];unfold rz;rw[RQ];exact h.q.t (rN λj hj=>(m2 j hj).msg.y);exact h.fl.t (rN λj hj=>(E j hj).msg.y);exact h.u.t (Dn λt l=>(Tw (v t l)).y)
 ·have:=h.tk t l
  match t,this with
  |.inl b,h1=>exact h1
  |.inr (j,e,x),⟨m,h1,c⟩=>exact⟨m,Da h1 r,c⟩
 have B:(un++[W.length]++wq++wf++ts.filterMap Tk.no).Perm (W.length::(un++wq++wf++ts.filterMap Tk.no)):=by grind
 rw[B.nodup_iff,vV];exact⟨λhm=>by have:=lt _ hm;omega,h.nd⟩
 ·rcases(mem j).1 hj with rfl|hj;exact⟨r,RQ W r,C,z⟩;obtain⟨x,h1,c,f⟩:=h.ok j hj;exact⟨x,Da h1 r,c,f⟩
 show(iW (W++[r]) j:Int)∉k.us;rcases jg.1 hj with hj|hj;rw[(m1 j hj).ck];exact h.us j hj;rw[iz.1 hj];intro hm;obtain⟨o,m,h1,c,f⟩:=h.lo _ hm;refine hc o m h1 ?_;unfold iW at f
 grind
 ·obtain⟨j,m,h1,c,f⟩:=h.lo x D;exact⟨j,m,Da h1 r,c,f⟩
 rw[mem];rw[zH]at hj;split at hj;exact .inr (h.all j x hj n p);rename_i H
 grind
 rw[<-lS];refine Kt.2 ⟨h.inc,List.pairwise_singleton ..,λa G b p=>?_⟩
 grind
 rw[<-lS]at hm s;have K:j≠W.length:=λe=>hm (by rw[e];simp)
 have A:j<W.length:=by grind
 rw[BS A]at hj;rcases jg.1 s with h1|h1;exact h.seg j x hj n (λc=>hm (Fl _ c)) o h1
 rwa [iz.1 h1]
 rw[<-lS]at hj;rcases jg.1 hj with h1|h1;rw[(d j (by rcases jg.1 h1 with h|h<;>simp[h])).ck];exact h.nl j h1 e w;rw[iz.1 h1];unfold iW
 simp_all
 rw[(v _ hm j U).ck];exact h.tq j e x hm
end
section
variable {g:Cf} {W:av Wi} {i j:Nat} {lo:av En} {jr:av Rq} {k:Ck} {un wq wf:av Nat} {ts:av Tk} {r:Wi}
def Jw(h:W[j]? =Z r):rz W j=r.dV.data.toList:=by unfold rz;rw[h]
def We(h:W[j]? =Z r):pg W j=r.msg:=by unfold pg;rw[h]
def Gv(h:W[j]? =Z r):iW W j=r.ck:=by unfold iW;rw[h]
def cK.hear(h:cK g W i lo jr k (j::un) wq wf ts)(C:k.ph=2)(b:W[j]? =Z r)(wo:mA W):cK g W i lo jr (k.hear g (r.msg,(r.dV.size:Int))) un (wq++[j]) wf ts/\Aj k (k.hear g (r.msg,(r.dV.size:Int))):=by
 obtain⟨G,u,w,t⟩:=h.ok j ay;rw[b]at u;cases u;have s:=t.acc;have E:=t.kd
 have n:after k.ph r.msg=k.ph:=by have A:¬r.kd=5:=Y;simp[after,A]
 have B:(k.hear g (r.msg,(r.dV.size:Int))).aN.data.toList=un.flatMap (rz W):=by
  have p:=h.aN;rw[aI Y,jZ,pH,Jw b]at p;show(k.aN.extract ((r.dV.size:Int)).toNat k.aN.size).data.toList=_;rw[Ke,AB,p]
  simp_all
 have z:(k.hear g (r.msg,(r.dV.size:Int))).us=k.us++[(r.ck:Int)]:=by show(if accepted r.msg=M then k.us++[(r.ck:Int)]else k.us)=_;rw[aO s]
 have v:k.u++gM g r.msg=k.u:=by have:gM g r.msg=⟨#[]⟩:=U;rw[this];exact ByteArray.append_empty
 have l:(un++(wq++[j])++wf++ts.filterMap Tk.no).Perm (j::un++wq++wf++ts.filterMap Tk.no):=by grind
 have f:wq++j::un=wq++[j]++un:=ay;refine⟨⟨.inl (n.t C),?_,?_,h.fl,?_,h.tk,l.nodup_iff.2 h.nd,λx a=>h.ok x (l.mem_iff.1 a),λx a=>?_,λx a=>?_,λx o h1 c d=>l.mem_iff.2 (h.all x o h1 c d),f▸h.inc,f▸h.seg,f▸h.nl,h.tq⟩,⟨U,U,U,U,U,U,v,n⟩⟩;rw[B,aI (by show ¬after k.ph r.msg=0;rw[n];omega)];rfl;show(if accepted r.msg=M then k.q++[⟨r.msg,-1⟩]else k.q).map (·.m)=_;rw[aO s,sV,sV,h.q];simp[We b];show(k.u++gM g r.msg).data.toList=_;rw[v];exact h.u;rw[z];intro hm;rcases jg.1 hm with h1|h1;exact h.us x (gC _ a) h1;obtain⟨o,c,d,_⟩:=h.ok x (by simp[a]);have e:=iz.1 h1;rw[Gv c]at e;have D:=wo.two x j o r c b (d.t w.y) Y;subst D;have:=h.nd
 grind
 rw[z]at a;rcases jg.1 a with h1|h1;exact h.lo x h1;exact⟨j,r,b,w,(iz.1 h1).y⟩
def cK.read(hI:g.Is)(wo:mA W):∀(n:Nat) (k:Ck) (un wq:av Nat),cK g W i lo jr k un wq wf ts->k.ph=2->∃d f,un=d++f/\cK g W i lo jr (Ck.read g n k) f (wq++d) wf ts/\Aj k (Ck.read g n k)
 |0,k,un,wq,h,a=>⟨[],un,U,by rw[lf];exact h,⟨U,U,U,U,U,U,U,U⟩⟩
 |n+1,k,un,wq,h,a=>by
  unfold Ck.read;have b:=h.aN;rw[aI Y,jZ]at b;split;rcases un with _|⟨j,un⟩;have e:first g.sz g.mx k.ph k.us k.aN=(.zero,0):=by rw[a];exact aaY b
  simp only[e];exact⟨[],[],U,by rw[lf];exact h,⟨U,U,U,U,U,U,U,U⟩⟩;obtain⟨r,c,u,p⟩:=h.ok j ay;have l:=h.us j fJ;rw[Gv c]at l;rw[pH,Jw c]at b
  have e:first g.sz g.mx k.ph k.us k.aN=(r.msg,(r.dV.size:Int)):=by rw[a];exact Ub k.us hI p (wo.one j r c).1 l b
  have v:=ED r;obtain⟨q,m⟩:=h.hear a c wo;simp only[e];rw[aI Y,aI (by show ¬(3:Int)=4;decide)];obtain⟨d,f,s,o,t⟩:=cK.read hI wo n _ un (wq++[j]) q (m.ph.t a);exact⟨j::d,f,by rw[s];rfl,by rw[lS]at o;exact o,m.t t⟩;exact⟨[],un,U,by rw[lf];exact h,⟨U,U,U,U,U,U,U,U⟩⟩
end
section
variable {g:Cf} {W:av Wi} {i:Nat} {lo:av En} {jr:av Rq} {k:Ck} {un wq wf:av Nat} {ts:av Tk} {s:ByteArray} {t:av UInt8}
def zb{l}(h:s.data.toList=l):s.size=l.length:=by show s.data.size=_;rw[<-lQ,h]
def Tb{l}(h:s.data.toList=l)(a b):s.extract a b=⟨((l.drop a).take (b-a)).toArray⟩:=by refine rG (BB.1 ?_);rw[rE,zz,h,Kh]
def acg(h:s.data.toList=gm.data.toList++t):qb s=(⟨1,⟨#[97]⟩,0,0,0,0,0,⟨#[]⟩,0⟩,6):=by have h:s.data.toList=70::69::82::82::89::97::103::t:=h;have f:=zb h;simp at f;have b:=wU h;have a:bt s 0=qg 0:=b 0;have b1:bt s 1=qg 1:=b 1;have c:bt s 2=qg 2:=b 2;have d:bt s 3=qg 3:=b 3;have e:bt s 4=qg 4:=b 4;have j:s.extract 5 6=⟨#[97]⟩:=Tb h 5 6;unfold qb;rw[cL,aI Y,aO a,cL,aI Y,aO b1,cL,aI Y,aO c,cL,aI Y,aO d,cL,aI Y,aO e,cL,aI Y,j]
def aeK(h:s.data.toList=103::t):opt s=(⟨2,⟨#[103]⟩,0,0,0,0,0,⟨#[]⟩,0⟩,1):=by have b:=zb h;simp at b;have a:bt s 0=103:=wU h 0;have c:s.extract 0 1=⟨#[103]⟩:=Tb h 0 1;unfold opt;rw[aI Y,a,aI aM,c]
def cK.UJ(hI:g.Is)(h:cK g W i lo jr k un wq wf ts)(l:k.ph=0)(hm:k.prom=0)(n):∃b,Ck.read g (n+2) k=Ck.read g n b/\cK g W i lo jr b un [] [] [.inl 89,.inl 71]/\b.ph=2/\(b.no=k.no/\b.wt=k.wt/\b.tok=k.tok/\b.de=k.de/\b.sv=k.sv/\b.prom=k.prom/\b.bw=k.bw):=by
 obtain⟨no,wt,ph,a,q,bw,prom,out,tok,d,sv,c⟩:=k;have l:=l;have hm:=hm;subst l hm;obtain⟨rfl,rfl,rfl⟩:wq=[]/\wf=[]/\ts=[]:=h.ph.e (λe=>absurd e (by show ¬(0:Int)=2;decide)) λe=>e.2;have w:q=[]:=by simpa using h.q
 have v:out=⟨#[]⟩:=rG (BB.1 h.u);subst w v;have o:a.data.toList=gm.data.toList++un.flatMap (rz W):=h.aN;have H:=hI.qu;have G:=hI.ou;have E:=hI.mx;have m:∀(ph:Int) (out:ByteArray),ph≠4->out.size<=2->(ph≠4/\(([]:av Rq).length:Int)<g.qu/\(out.size:Int)+0+needs []<=g.ou):=λph out f u=>⟨f,by show(0:Int)<g.qu;omega,by show(out.size:Int)+0+6<=g.ou;omega⟩;have A:((⟨#[97]⟩:ByteArray).toList==[97])=M:=by decide+kernel
 have B:((⟨#[103]⟩:ByteArray).toList==[103])=M:=by decide+kernel
 have C:((⟨#[103]⟩:ByteArray).toList==[105])=aa:=by decide+kernel
 have p:(a.extract 6 a.size).data.toList=103::un.flatMap (rz W):=by rw[AB,o];rfl
 have z:((a.extract 6 a.size).extract 1 (a.extract 6 a.size).size).data.toList=un.flatMap (rz W):=by rw[AB,p];rfl
 have f1:first g.sz g.mx 0 c a=(⟨1,⟨#[97]⟩,0,0,0,0,0,⟨#[]⟩,0⟩,6):=acg o
 have f2:first g.sz g.mx 1 c (a.extract 6 a.size)=(⟨2,⟨#[103]⟩,0,0,0,0,0,⟨#[]⟩,0⟩,1):=aeK p
 have f:Ck.hear g ⟨no,wt,0,a,[],bw,0,⟨#[]⟩,tok,d,sv,c⟩ (⟨1,⟨#[97]⟩,0,0,0,0,0,⟨#[]⟩,0⟩,6)=⟨no,wt,1,a.extract 6 a.size,[],bw,0,⟨#[89]⟩,tok,d,sv,c⟩:=by unfold Ck.hear;simp only[after,gM,answer,accepted,A];rfl
 have u:∀X:ByteArray,Ck.hear g ⟨no,wt,1,X,[],bw,0,⟨#[89]⟩,tok,d,sv,c⟩ (⟨2,⟨#[103]⟩,0,0,0,0,0,⟨#[]⟩,0⟩,1)=⟨no,wt,2,X.extract 1 X.size,[],bw,0,⟨#[89,71]⟩,tok,d,sv,c⟩:=λX=>by unfold Ck.hear;simp only[after,gM,answer,accepted,B,C];rfl
 have D:=h.nd;have ok:=h.ok;have r:=h.all;refine⟨⟨no,wt,2,(a.extract 6 a.size).extract 1 (a.extract 6 a.size).size,[],bw,0,⟨#[89,71]⟩,tok,d,sv,c⟩,?_,⟨.inl U,?_,U,h.fl,U,λt ht=>?_,?_,?_,h.us,h.lo,?_,h.inc,h.seg,h.nl,λj e x hm=>(by simp at hm)⟩,U,U,U,U,U,U,U,U⟩;rw[Ck.read,aO (m 0 ⟨#[]⟩ aM aM)];simp only[f1];rw[aI aM,aI aM,f,Ck.read,aO (m 1 ⟨#[89]⟩ aM aM)]
 grind
 rw[aI (by show ¬(2:Int)=0;decide)];exact z;rcases jh.1 ht with rfl|ht;exact .inl rfl;rw[iz.1 ht];exact .inr rfl;exact D;exact ok;exact r
end
def NL{z A:Type}{f}{l:av A}{b}(h:l.Perm (b.map f)):∃d:av z,d.Perm b/\l=d.map f:=by
 generalize hm:b.map f=m at h;induction h generalizing b with
 |nil=>exact⟨[],by rw[Fi.1 hm],U⟩
 |cons x _ u=>
  obtain⟨o,t,rfl,rfl,n⟩:=Fh.1 hm
  let⟨d,e,j⟩:=u n
  exact⟨o::d,e.cons o,by rw[j];rfl⟩
 |swap x o l=>
  obtain⟨a,t,rfl,rfl,n⟩:=Fh.1 hm;obtain⟨c,p,rfl,rfl,rfl⟩:=Fh.1 n;exact⟨c::a::p,.swap a c p,U⟩
 |trans _ _ v w=>
  let⟨b1,e,j⟩:=w hm
  let⟨q,r,s⟩:=v j.y
  exact⟨q,r.t e,s⟩
section
variable {g:Cf} {W:av Wi} {i:Nat} {lo:av En} {jr lF:av Rq} {k k':Ck} {un wq wf:av Nat} {ts:av Tk}
def cK.like(h:cK g W i lo jr k un wq wf ts)(a:k'.ph=k.ph)(c:k'.aN=k.aN)(d:k'.q.map (·.m)=k.q.map (·.m))(e:k'.u=k.u)(b:k'.us=k.us):cK g W i lo jr k' un wq wf ts:=
 ⟨by rw[a];exact h.ph,by rw[a,c];exact h.aN,by rw[d];exact h.q,h.fl,by rw[e];exact h.u,h.tk,h.nd,h.ok,by rw[b];exact h.us,by rw[b];exact h.lo,h.all,h.inc,h.seg,h.nl,h.tq⟩
def Nz:∀(l:av Rq) (n:Int),(bL n l).1.map (·.m)=l.map (·.m)
 |[],n=>rfl
 |r::t,n=>by unfold bL;split;simp[Nz t];simp[Nz t]
def cK.dQ(hI:g.Is)(wo:mA W)(h:cK g W i lo jr k un wq wf ts)(hm:k.ph=0->k.prom=0):∃b c v,un=b++c/\cK g W i lo jr (k.dQ g) c (wq++b) wf (ts++v)/\(k.dQ g).ph=2/\(k.dQ g).no=k.no:=by unfold Ck.dQ;rcases h.ph with a|⟨a,l,m,o⟩;obtain⟨b,c,e,f,d⟩:=cK.read hI wo (k.aN.size+1) k un wq h a;exact⟨b,c,[],e,by rw[lf];exact f,d.ph.t a,d.no⟩;have r:=zb h.aN;rw[aO a,fQ]at r;have w:gm.data.toList.length=7:=U;obtain⟨n,q⟩:∃n,k.aN.size+1=n+2:=⟨k.aN.size-1,Y⟩;rw[q];obtain⟨u,e,f,d,p⟩:=h.UJ hI a (hm a) n;rw[e];obtain⟨b,c,s,t,j⟩:=cK.read hI wo n u un [] f d;subst l m o;exact⟨b,c,_,s,t,j.ph.t d,j.no.t p.1⟩
structure qK(k:Ck)(l:av Rq)(k':Ck):Prop where
 q:k.q=l++k'.q
 ph:k'.ph=k.ph
 aN:k'.aN=k.aN
 out:k'.u=k.u
 us:k'.us=k.us
 no:k'.no=k.no
abbrev qK.u:=@qK.out
def qK.refl(k):qK k [] k:=⟨U,U,U,U,U,U⟩
def qK.trans{k1 k2 l1 l2}(h:qK k l1 k1)(a:qK k1 l2 k2):qK k (l1++l2) k2:=
 ⟨by rw[h.q,a.q,lS],a.ph.t h.ph,a.aN.t h.aN,a.u.t h.u,a.us.t h.us,a.no.t h.no⟩
abbrev qK.t:=@qK.trans
def MC(h:k.q≠[]):qK k [k.fst] k.next:=by
 refine⟨?_,U,U,U,U,U⟩;show k.q=[k.fst]++k.q.tail;unfold Ck.fst
 grind
def Iw(h:k.eM g=M):k.q≠[]:=λe=>by unfold Ck.eM at h;rw[e]at h;cases h
def GR{f:Fx}{s}:∀(n:Nat) (k:Ck) (rs:av Rq),∃l,(f.eK s n k rs).2=rs++l/\qK k l (f.eK s n k rs).1
 |0,k,rs=>⟨[],by simp[Fx.eK],.refl k⟩
 |n+1,k,rs=>by
  unfold Fx.eK;split
  ·rename_i h
   have hr:k.eM (f.at s k).g=M:=by unfold Fx.along Fx.free at h;simp at h;exact h.1.1
   obtain⟨l,a,b⟩:=GR n k.next (rs++[k.fst])
   exact⟨k.fst::l,by rw[a];simp,(MC (Iw hr)).t b⟩
  exact⟨[],ay,.refl k⟩
def cK.goes{l}(h:cK g W i lo jr k un wq wf ts)(c:qK k l k')(a:lF.Perm (l++jr))(C:k.ph=2):∃b,cK g W i lo lF k' un (wq.drop l.length) b ts/\b.Perm (wq.take l.length++wf):=by
 have o:=h.q;rw[c.q,sV]at o
 have v:l.map (·.m)=(wq.take l.length).map (pg W):=by
  have:=congrArg (List.take l.length) o
  rwa [C8 ay,qE ay,<-rk]at this
 have w:k'.q.map (·.m)=(wq.drop l.length).map (pg W):=by
  have:=congrArg (List.drop l.length) o
  rwa [Kg ay,BR ay,jZ,<-List.map_drop]at this
 have z:(lF.map (·.m)).Perm ((wq.take l.length++wf).map (pg W)):=by rw[sV,<-v,<-h.fl,<-sV];exact a.map _
 obtain⟨b,d,e⟩:∃b:av Nat,b.Perm (wq.take l.length++wf)/\lF.map (·.m)=b.map (pg W):=NL z
 have n:(un++wq.drop l.length++b++ts.filterMap Tk.no).Perm (un++wq++wf++ts.filterMap Tk.no):=by refine Kf _ ?_;rw[lS,lS];refine List.Perm.append_left _ ?_;refine((d.append_left _).t ?_);rw[<-lS];refine Kf _ ?_;refine C4.t ?_;rw[pL]
 have f:wq++un=wq.take l.length++(wq.drop l.length++un):=by rw[<-lS,pL]
 have s:=h.inc;rw[f]at s;obtain⟨_,A,E⟩:=Kt.1 s;have p:∀j∈wq.drop l.length++un,j∈wq++un:=λj a=>by rw[f];exact Kq _ a
 refine⟨b,⟨.inl (c.ph.t C),by rw[c.ph,c.aN];exact h.aN,w,e,by rw[c.u];exact h.u,h.tk,n.nodup_iff.2 h.nd,λj a=>h.ok j (n.mem_iff.1 a),by rw[c.us];exact h.us,by rw[c.us];exact h.lo,λj r d e x=>n.mem_iff.2 (h.all j r d e x),A,λj r a D hm u B=>?_,λj a=>h.nl j (p j a),h.tq⟩,d⟩
 by_cases t:j∈wq++un
 rw[f]at t
 grind
 exact h.seg j r a D t u (p u B)
end
section
variable {g:Cf} {W:av Wi} {i:Nat} {lo:av En} {jr lF:av Rq} {k:Ck} {un wq wf:av Nat} {ts:av Tk} {r:Rq}
def afY(er:UInt8)(ck d):(jy er ck d).data.toList=82::er::(cu ck++d.data.toList):=by unfold jy;simp[zB,uh]
def cK.whose(h:cK g W i lo jr k un wq wf ts)(p:jr.Perm (r::lF)):∃(j:Nat) (a:Wi) (b:av Nat),wf.Perm (j::b)/\W[j]? =Z a/\a.u=i/\a.Good g/\r.m=a.msg/\lF.map (·.m)=b.map (pg W):=by
 have q:((r::lF).map (·.m)).Perm (wf.map (pg W)):=by rw[<-h.fl];exact(p.map _).y
 obtain⟨s,c,e⟩:=NL q;obtain⟨j,b,rfl,f,l⟩:=Fh.1 e.y;have hm:=c.mem_iff.1 fJ;obtain⟨a,d,n,o⟩:=h.ok j (by simp[hm]);exact⟨j,a,b,c.y,d,n,o,f.y.t (We d),l.y⟩
def cK.nQ(h:cK g W i lo jr k un wq wf ts)(u:k.ph=2)(B:jr.Perm (r::lF)){er d}(he:er=0\/er=5)(hd:d.size=if r.m.kd=0/\er=0 then r.m.ln.toNat else 0)(A:qf lo r.m.ck er d.data.toList):∃l t,cK g W i lo lF (k.nQ r er d) un wq l (ts++[t])/\(k.nQ r er d).ph=2:=by
 obtain⟨j,D,l,p,c,n,v,s,w⟩:=h.whose B
 have C:k.nQ r er d={k with bw:=k.bw-1,prom:=k.prom-sizeOf' r.m,out:=k.u++jy er r.m.ck d,us:=freed k.us r.m.ck}:=by unfold Ck.nQ;rw[aI Y]
 have o:(un++wq++l++(ts++[(.inr (j,er,d.data.toList):Tk)]).filterMap Tk.no).Perm (un++wq++wf++ts.filterMap Tk.no):=by
  have e:(ts++[(.inr (j,er,d.data.toList):Tk)]).filterMap Tk.no=ts.filterMap Tk.no++[j]:=by rw[List.filterMap_append];rfl
  grind
 rw[C];refine⟨l,.inr (j,er,d.data.toList),⟨.inl u,h.aN,h.q,w,?_,λt ht=>?_,o.nodup_iff.2 h.nd,λx f=>h.ok x (o.mem_iff.1 f),λx f hm=>h.us x f (rO.1 hm).1,λx f=>h.lo x (rO.1 f).1,λx z p c n=>o.mem_iff.2 (h.all x z p c n),h.inc,h.seg,h.nl,λa b x hm=>?_⟩,u⟩;show(k.u++jy er r.m.ck d).data.toList=_;rw[zB,uh,h.u,rL,afY,Kk];show _=_++82::er::(cu (iW W j)++d.data.toList);rw[Gv c,s];rcases jg.1 ht with ht|ht;exact h.tk t ht;rw[iz.1 ht];refine⟨D,c,n,by have:=v.er.2.2;omega,he,?_⟩
 simp_all
 rcases jg.1 hm with hm|hm;exact h.tq a b x hm;cases iz.1 hm;rw[Gv c]
 rwa [s]at A
def cK.answers{B ft}:∀(rs:av Rq) (k:Ck) (jr:av Rq) (wf:av Nat) (ts:av Tk),cK g W i lo jr k un wq wf ts->k.ph=2->jr.Perm (rs++lF)->(B.size:Int)=g.sz->(∀r∈rs,qf lo r.m.ck (sF ft) (lO B (mZ 0 r ft.eJ)).data.toList)->∃J G,cK g W i lo lF (k.answers B ft rs) un wq J (ts++G)/\(k.answers B ft rs).ph=2
 |[],k,jr,wf,ts,h,b,a,p,j=>by
  have A:((lF.map (·.m))).Perm (wf.map (pg W)):=by rw[<-h.fl];exact(a.map _).y
  obtain⟨o,c,f⟩:=NL A;have l:(un++wq++o++ts.filterMap Tk.no).Perm (un++wq++wf++ts.filterMap Tk.no):=(c.append_left _).append_right _;exact⟨o,[],by rw[lf];exact⟨.inl b,h.aN,h.q,f,h.u,h.tk,l.nodup_iff.2 h.nd,λx n=>h.ok x (l.mem_iff.1 n),h.us,h.lo,λx z c f u=>l.mem_iff.2 (h.all x z c f u),h.inc,h.seg,h.nl,h.tq⟩,b⟩
 |r::rs,k,jr,wf,ts,h,b,a,p,j=>by
  obtain⟨_,O,_,_,_,_,w,hm,_⟩:=h.whose (lF:=rs++lF) a;have N:=w.of
  have v:(lO B (mZ k.no r ft.eJ)).size=if r.m.kd=0/\sF ft=0 then r.m.ln.toNat else 0:=by
   unfold lO mZ sF;cases ft.eJ;simp
   by_cases e:r.m.kd=0
   rw[aO e,aO e];show(B.extract r.m.of.toNat (r.m.of.toNat+r.m.ln.toNat)).size=_
   grind
   rw[aI e,aI e];rfl;rw[aI ay,aI ay];rfl
  obtain⟨K,t,C,D⟩:=h.nQ (lF:=rs++lF) b a (er:=sF ft) (d:=lO B (mZ k.no r ft.eJ)) (by unfold sF;split<;>simp) v (j r fJ);obtain⟨L,H,s,E⟩:=cK.answers rs (k.hrd B ft r) (rs++lF) K (ts++[t]) C D (.refl _) p λx n=>j x (gC _ n);exact⟨L,t::H,by rw[lS]at s;exact s,E⟩
end
section
variable {g:Cf} {W:av Wi} {i j:Nat} {lo:av En} {jr:av Rq} {k k':Ck} {un wq wf:av Nat} {ts:av Tk} {now:Int} {r:Wi}
def NH{t:Tk}(h:t.no≠Z j):(t.on now W)[j]? =W[j]? :=by
 match t,h with
 |.inl b,_=>rfl
 |.inr (m,e,x),h=>
  have c:m≠j:=λa=>h (by rw[a];rfl);unfold Tk.on
  grind
def tS:∀(ts:av Tk) (W:av Wi),j∉ts.filterMap Tk.no->(dS now W ts)[j]? =W[j]?
 |[],W,_=>rfl
 |t::ts,W,h=>by have a:t.no≠Z j:=λe=>h (sX.2 ⟨t,fJ,e⟩);have b:j∉ts.filterMap Tk.no:=λhm=>h (by grind);exact(tS ts (t.on now W) b).t (NH a)
def WK{e x}(h:W[j]? =Z r):(Tk.on now W (.inr (j,e,x)))[j]? =Z (r.had now e x):=by
 unfold Tk.on
 grind
def AV:∀(ts:av Tk) (W:av Wi) (r:Wi),j∈ts.filterMap Tk.no->W[j]? =Z r->∃e x,(.inr (j,e,x):Tk)∈ts/\(dS now W ts)[j]? =Z (r.had now e x)
 |[],W,r,hm,_=>by cases hm
 |t::ts,W,r,hm,hr=>by
  by_cases b:j∈ts.filterMap Tk.no
  obtain⟨a,h,l⟩:∃a,(t.on now W)[j]? =Z a/\∀e x,a.had now e x=r.had now e x:=by
   by_cases e:t.no=Z j
   match t,e with
   |.inr (m,c,f),e=>
    have e:=ey e;subst e;exact⟨_,WK hr,λ_ _=>U⟩
   exact⟨r,(NH e).t hr,λ_ _=>U⟩
  let⟨e,x,n,o⟩:=AV ts (t.on now W) a b h
  exact⟨e,x,gC _ n,by rw[<-l];exact o⟩
  let⟨d,ht',e⟩:=sX.1 hm
  rcases jh.1 ht' with rfl|ht'
  match d,e with
  |.inr (m,c,f),e=>
   have e:=ey e;subst e;exact⟨c,f,fJ,(tS ts _ b).t (WK hr)⟩
  exact absurd (sX.2 ⟨d,ht',e⟩) b
def DW:∀(ts:av Tk) (W:av Wi),W[j]? =aj->(dS now W ts)[j]? =aj
 |[],W,h=>h
 |t::ts,W,h=>DW ts _ (by
  by_cases e:t.no=Z j
  match t,e with
  |.inr (m,a,b),e=>
   have e:m=j:=ey e;subst e;unfold Tk.on;dsimp only;rw[h];exact h
  exact(NH e).t h)
def cK.took{i' b}(h:cK g W i lo jr k un wq wf ts)(s:i'≠i)(v:0<=now)(o:∀t∈b,mU i' W t):cK g (dS now W b) i lo jr k un wq wf ts:=by
 have no:∀(j:Nat) r,W[j]? =Z r->r.u=i->j∉b.filterMap Tk.no:=λj r a d hm=>by
  obtain⟨t,f,c⟩:=sX.1 hm;have n:=o t f
  match t,c,n with
  |.inr (m,e,x),c,⟨aqi,p,q,_⟩=>
   have c:=ey c
   grind
 refine h.keep (λj r a d=>(tS b W (no j r a d)).t a) (λj r a d f=>?_) λj r a d=>?_
 rotate_left
 ·rcases e:W[j]? with _|aqi;rw[DW b W e]at a;cases a;refine⟨aqi,rfl,?_⟩
  by_cases hm:j∈b.filterMap Tk.no
  obtain⟨l,x,_,c⟩:=AV (now:=now) b W aqi hm e
  grind
  rw[tS b W hm,e]at a;cases a;exact d
 by_cases hm:j∈b.filterMap Tk.no
 rcases e:W[j]? with _|aqi;rw[DW b W e]at a;cases a;obtain⟨l,x,_,c⟩:=AV (now:=now) b W aqi hm e
 grind
 rwa [tS b W hm]at a
def cK.takes(h:cK g W i lo jr k un wq wf ts)(G:0<=now)(l:k'.ph=k.ph)(v:k'.aN=k.aN)(w:k'.q=k.q)(A:k'.u=⟨#[]⟩)(o:k'.us=k.us):cK g (dS now W ts) i lo jr k' un wq wf []:=by
 have p:=Ca.1 h.nd;have no:∀j∈un++wq++wf,j∉ts.filterMap Tk.no:=λj a hm=>p.2.2 j a j hm U
 have c:∀j∈un++wq++wf,Alike W (dS now W ts) j:=λj a=>by obtain⟨r,b,_⟩:=h.ok j (Fl _ a);exact LF b ((tS ts W (no j a)).t b)
 have m1:∀j∈un,Alike W (dS now W ts) j:=λj a=>c j (by simp[a]);have m2:∀j∈wq,Alike W (dS now W ts) j:=λj a=>c j (by simp[a]);have E:∀j∈wf,Alike W (dS now W ts) j:=λj a=>c j (by simp[a]);refine⟨h.ph.imp (λe=>l.t e) λe=>⟨l.t e.1,e.2.1,e.2.2.1,U⟩,?_,?_,?_,by rw[A];rfl,λt D=>(by cases D),?_,λj a=>?_,λj a=>?_,λx s=>?_,λj r a n B=>?_,h.inc,λj r a n=>?_,λj a e C=>?_,λj e x hm=>(by cases hm)⟩;rw[l,v,h.aN]
 congr 1
 exact Dn λj a=>(m1 j a).dV.y;rw[w,h.q];exact rN λj a=>(m2 j a).msg.y;rw[h.fl];exact rN λj a=>(E j a).msg.y;rw[Ki,lf];exact p.1;rw[Ki,lf]at a;obtain⟨r,b,d,f⟩:=h.ok j (Fl _ a);exact⟨r,(tS ts W (no j a)).t b,d,f⟩;rw[(m1 j a).ck,o];exact h.us j a;rw[o]at s;obtain⟨j,aqi,b,d,f⟩:=h.lo x s
 by_cases hm:j∈ts.filterMap Tk.no
 obtain⟨e,z,_,m⟩:=AV (now:=now) ts W aqi hm b;exact⟨j,_,m,d,f⟩;exact⟨j,aqi,(tS ts W hm).t b,d,f⟩;rw[Ki,lf]
 by_cases hm:j∈ts.filterMap Tk.no
 rcases e:W[j]? with _|aqi;rw[DW ts W e]at a;cases a;obtain⟨u,x,_,m⟩:=AV (now:=now) ts W aqi hm e
 grind
 rw[tS ts W hm]at a;exact(jg.1 (h.all j r a n B)).resolve_right hm;rcases e:W[j]? with _|aqi;rw[DW ts W e]at a;cases a;refine h.seg j aqi e ?_
 by_cases hm:j∈ts.filterMap Tk.no
 obtain⟨u,x,_,m⟩:=AV (now:=now) ts W aqi hm e
 grind
 rw[tS ts W hm,e]at a;cases a;exact n;rw[(c j (by rcases jg.1 a with h|h<;>simp[h])).ck];exact h.nl j a e C
end
def gO:av Jb->Nat->av Rq
 |[],_=>[]
 |b::l,s=>(if b.s=s then b.rs else[])++gO l s
def eT(g:Cf)(W:av Wi)(i s:Nat)(f:Fx):Prop:=∃k,f.K[s]? =Z (Z k)/\k.no=i/\k.ph=2/\wO g W i f.log (gO f.fl s) k
section
variable {g:Cf} {W:av Wi} {i s:Nat} {f:Fx}
def Nb(s):∀a b:av Jb,gO (a++b) s=gO a s++gO b s
 |[],b=>rfl
 |x::a,b=>by show(if x.s=s then x.rs else[])++gO (a++b) s=((if x.s=s then x.rs else[])++gO a s)++gO b s;rw[Nb s a b,lS]
def acO(b fl s):(gO (fP b fl) s).Perm ((if b.s=s then b.rs else[])++gO fl s):=by unfold fP jw;rw[Nb];have e:gO (b::fl.drop (oq b fl)) s=(if b.s=s then b.rs else[])++gO (fl.drop (oq b fl)) s:=U;rw[e,<-lS];apply(Kf _ C4).t;rw[lS,<-Nb,pL]
def cK.bw{lo jr k un wq wf ts x}(h:cK g W i lo jr k un wq wf ts)(hx:x∈jr):∃(j:Nat) (a:Wi),j∈wf/\W[j]? =Z a/\a.u=i/\a.Good g/\x.m=a.msg:=by have b:x.m∈jr.map (·.m):=fe hx;rw[h.fl]at b;obtain⟨j,d,e⟩:=jY.1 b;obtain⟨a,c,l,n⟩:=h.ok j (by simp[d]);exact⟨j,a,d,c,l,n,e.y.t (We c)⟩
def wx(f:Fx)(b):(f.does b).log=f.log\/∃k,f.K[b.s]? =Z (Z k)/\(f.does b).log=f.log++f.lgs b k:=by
 unfold Fx.does
 grind
def px{b k e}(h:e∈f.lgs b k):∃x∈b.rs,e=toldE (f.dk.change b.rs b.ft).B (mZ k.no x b.ft.eJ):=by grind
def mi(W:av Wi)(i s:Nat)(b:Jb):Prop:=b.s≠s->∀x∈b.rs,∀(j:Nat) a,W[j]? =Z a->a.u=i->x.m.ck≠(a.ck:Int)
def eT.does{b r}(wo:mA W)(h:eT g W i s f)(K:f.fl=b::r)(hot:mi W i s b)(w:(({f with fl:=r}:Fx).does b).B.size=g.sz):eT g W i s (({f with fl:=r}:Fx).does b):=by
 obtain⟨k,A,C,D,p,q,v,o,a⟩:=h;rw[K]at a
 by_cases e:b.s=s
 subst e;have J:=sE (f:={f with fl:=r}) (b:=b) (k:=k) A;rw[J]at w⊢
 have l:gO (b::r) b.s=b.rs++gO r b.s:=by show(if b.s=b.s then b.rs else[])++_=_;rw[aO U]
 rw[l]at a
 have a:=a.log (lo':=f.log++({f with fl:=r}:Fx).lgs b k) (λe d=>Fl _ d) λe d=>(jg.1 d).imp id λd j l c=>by
  obtain⟨x,n,rfl⟩:=px d;obtain⟨N,E,a1,G,a3,_,H⟩:=a.bw (x:=x) (Fl _ n);have z:j∈p++q:=by rcases jg.1 l with h|h<;>simp[h]
  obtain⟨t,b1,u,_⟩:=a.ok j (by simp only[lS]at z⊢;simp[jg.1 z |>.elim Or.inl λh=>Or.inr (Or.inl h)]);have c:x.m.ck=(iW W j:Int):=c;rw[Gv b1,H]at c;have c:(E.ck:Int)=(t.ck:Int):=c;have:=wo.two N j E t G b1 (a3.t u.y) Y;subst this;have S:=a.nd
  grind
 obtain⟨P,O,Q,R⟩:=cK.answers (ft:=b.ft) b.rs k _ v o a D (.refl _) w λx n=>⟨_,Kq _ (fe (fe (by rw[pM];exact n))),U,by show(if b.ft.eJ=M then(5:Int)else 0)=_;unfold sF;split<;>rfl,U⟩;have L:=(bY.1 A).1;refine⟨k.answers (({f with fl:=r}:Fx).dk.change b.rs b.ft).B b.ft (b.rs.take b.rs.length),iy L,(Gk ..).t C,?_,p,q,P,o++O,?_⟩
 rwa [pM]
 rwa [pM]
 have l:gO (b::r) s=gO r s:=by show(if b.s=s then b.rs else[])++_=_;rw[aI e];rfl
 rw[l]at a
 have a:cK g W i (({f with fl:=r}:Fx).does b).log (gO r s) k p q v o:=by rcases wx {f with fl:=r} b with c|⟨T,_,c⟩;rw[c];exact a;rw[c];refine a.log (λe d=>Fl _ d) λe d=>(jg.1 d).imp id λd j l c=>?_;obtain⟨x,n,rfl⟩:=px d;obtain⟨t,b1,u,_⟩:=a.ok j (by rcases jg.1 l with h|h<;>simp[h]);rw[Gv b1]at c;exact hot e x n j t b1 u c
 refine⟨k,?_,C,D,p,q,v,o,?_⟩;unfold Fx.does
 grind
 rwa [(uR {f with fl:=r} b).1]
def eT.fin(wo:mA W):∀(n:Nat) (f:Fx),f.nK->f.g=g->(∀b∈f.fl,mi W i s b)->eT g W i s f->eT g W i s (Fx.fin n f)
 |0,f,_,_,_,h=>h
 |n+1,f,k,m,hot,h=>by unfold Fx.fin;split;exact h;rename_i b r a;split;rename_i l;have d:=(wY.does f b r k a l).2.2;have e:=(uR {f with fl:=r} b).2.2.t m;have c:=d.core.B;rw[e]at c;exact eT.fin wo n _ d e (λx j=>hot x (by rw[(uR {f with fl:=r} b).1]at j;rw[a];exact gC _ j)) (h.does wo a (hot b (by rw[a];exact fJ)) c);exact h
def eT.at {s' k k'}(h:eT g W i s f)(c:f.K[s']? =Z (Z k))(b:k'.ph=k.ph)(t:k'.aN=k.aN)(u:k'.q.map (·.m)=k.q.map (·.m))(v:k'.u=k.u)(w:k'.us=k.us)(x:k'.no=k.no):eT g W i s (f.at s' k'):=by
 let⟨z,a,d,j,o,r,p,n,l⟩:=h
 by_cases e:s'=s
 subst e;rw[a]at c;cases c;exact⟨k',iy (bY.1 a).1,x.t d,b.t j,o,r,p,n,l.like b t u v w⟩;exact⟨z,(gQ e).t a,d,j,o,r,p,n,l⟩
def eT.use(h:eT g W i s f):eT g W i s f.bg.1:=by
 rcases ek:f.K[f.aC]? with _|o;unfold Fx.bg;rw[ek];exact h;cases o with
 |none=>unfold Fx.bg;rw[ek];exact h
 |some k=>
  rw[Bs ek];have C:=(bY.1 ek).1
  have t1:eT g W i s (f.turned k):=by have:=h.at (k':=f.aT k) ek (by unfold Fx.aT;split<;>rfl) (by unfold Fx.aT;split<;>rfl) (by unfold Fx.aT;split<;>rfl) (by unfold Fx.aT;split<;>rfl) (by unfold Fx.aT;split<;>rfl) (by unfold Fx.aT;split<;>rfl);exact this
  have m:(f.turned k).K[f.aC]? =Z (Z (f.aT k)):=iy C;split
  ·rename_i B;split
   ·have hr:(f.aT k).eM (f.turned k).g=M:=by
     unfold Fx.free at B
     grind
    obtain⟨l,x,z⟩:=GR (f:=f.turned k) (s:=f.aC) (f.aT k).next.q.length (f.aT k).next [(f.aT k).fst]
    have d:=(MC (Iw hr)).t z;obtain⟨u,j,r,b,w,E,D,v,t⟩:=t1;have A:((f.turned k).gN f.aC (f.aT k)).fl=fP ⟨f.aC,((f.turned k).eK f.aC (f.aT k).next.q.length (f.aT k).next [(f.aT k).fst]).2,(f.turned k).dG,(f.turned k).clock+(f.turned k).dG.delay,(f.turned k).bO⟩ (f.turned k).fl:=U;have p:((f.turned k).gN f.aC (f.aT k)).K=(f.turned k).K.set f.aC (Z ((f.turned k).eK f.aC (f.aT k).next.q.length (f.aT k).next [(f.aT k).fst]).1):=U;have a:=acO ⟨f.aC,((f.turned k).eK f.aC (f.aT k).next.q.length (f.aT k).next [(f.aT k).fst]).2,(f.turned k).dG,(f.turned k).clock+(f.turned k).dG.delay,(f.turned k).bO⟩ (f.turned k).fl s;rw[<-A]at a
    by_cases e:f.aC=s
    subst e;rw[m]at j;cases j;rw[aO U,x]at a;obtain⟨n,c,_⟩:=t.goes d a b;exact⟨_,by rw[p];exact iy (bY.1 m).1,d.no.t r,d.ph.t b,w,_,n,v,c⟩;rw[aI e,jZ]at a;obtain⟨n,c,_⟩:=t.goes (qK.refl u) a b;exact⟨u,by rw[p];exact(gQ e).t j,r,b,w,_,n,v,c⟩
   exact t1
  exact t1.at (k':=(f.aT k).lose) m U U U U U U
def eT.turns:∀(n p:Nat) (f:Fx),eT g W i s f->eT g W i s (Fx.turns n p f)
 |0,p,f,h=>h
 |n+1,p,f,h=>by unfold Fx.turns;split;split;exact eT.turns n 0 _ h.use;refine eT.turns n (p+1) _ ?_;obtain⟨k,a,b⟩:=h.use;exact⟨k,a,b⟩;exact h
end
abbrev Wi.base(r:Wi):Wi:={r with bk:=-1,er:=0,tx:=⟨#[]⟩}
def ao(l:av Jb):av Rq:=l.flatMap (·.rs)
structure En.Of(e:En)(a:Wi):Prop where
 no:e.no=a.u
 ck:e.ck=a.ck
 kd:e.kd=a.kd
 fl:e.fl=a.fl
 of:e.of=a.of
 ln:e.ln=a.ln
 er:e.er=0\/e.er=5
def Fx.Zz(f:Fx):av Int:=f.log.map (·.ck)++(ao f.fl).map (·.m.ck)
abbrev Lv:cc:=⟨[0,0,0,0],[0,0,0,0],[]⟩
structure K2(V:av Wi)(n:Nat)(lo:av En)(a:Nat->Nat->cc):Prop where
 zero:∀k,k<n->a 0 k=Lv
 step:∀(p:Nat) e,lo[p]? =Z e->∃(j:Nat) (c:Wi),V[j]? =Z c/\e.Of c/\(∀k,bj c.msg e.er k (a p k) (a (p+1) k))/\(e.kd=0->∃B:aF UInt8,B.size=4*n/\(∀k,(a p k).b=Wm B k)/\e.tx=(lO B e).data.toList)
structure Lg(g:Cf)(n:Nat)(V:av Wi)(f:Fx):Prop where
 fl:∀b∈f.fl,bo g b.rs/\b.rs≠[]/\∀k,f.K[b.s]? =Z (Z k)->∀r∈b.rs,∃(j:Nat) (c:Wi),V[j]? =Z c/\r.m=c.msg/\(c.u:Int)=k.no
 two:∀(i j:Nat) x c,V[i]? =Z x->V[j]? =Z c->x.ck=c.ck->i=j
 gd:∀(j:Nat) c,V[j]? =Z c->c.Good g
 nd:f.Zz.Nodup
 ap:(ao f.fl).Pairwise λa b=>a.touch b=aa/\b.touch a=aa
 dc:∀(i j:Nat) x c,V[i]? =Z x->V[j]? =Z c->j<i->c.u=x.u->(x.ck:Int)∈f.Zz->(c.ck:Int)∈f.Zz
 od:∀(i j:Nat) x c,V[i]? =Z x->V[j]? =Z c->j<i->c.u=x.u->dp x c=M->∀(p:Nat) e,f.log[p]? =Z e->e.ck=x.ck->∃(p':Nat) (d:En),p'<p/\f.log[p']? =Z d/\d.ck=c.ck
 dk:f.dk.Ok n
 hi:∃h,K2 V n f.log h/\∀k,h f.log.length k=f.dk.sec k
section
variable {g:Cf} {n:Nat} {V:av Wi} {f:Fx} {b:Jb} {r:av Jb} {k:Ck}
def PG{x aqi}{a c:Rq}(h:dp x aqi=M)(d:a.m=x.msg)(hc:c.m=aqi.msg):a.touch c=M:=by
 unfold dp at h;unfold Rq.touch
 grind
def Lg.bw(h:Lg g n V f)(u:∀b∈f.fl,∃k,f.K[b.s]? =Z (Z k)){j:Nat}{aqi}(l:V[j]? =Z aqi)(hm:(aqi.ck:Int)∈(ao f.fl).map (·.m.ck)):∃x∈ao f.fl,x.m=aqi.msg:=by
 obtain⟨x,p,e⟩:=jY.1 hm;obtain⟨b,a,q⟩:=BY.1 p;obtain⟨k,o⟩:=u b a;obtain⟨t,c,d,i,_⟩:=(h.fl b a).2.2 k o x q;rw[i]at e;have e:(c.ck:Int)=(aqi.ck:Int):=e;have:=h.two t j c aqi d l Y
 grind
def LO{d:Type}{R}{l:av d}(h:l.Pairwise R)(m:∀a b,R a b->R b a){a b}(c:a∈l)(i:b∈l)(j:a≠b):R a b:=by
 induction h with
 |nil=>cases c
 |cons e _ o=>
  grind
def LP(f:Fx)(b k):(f.lgs b k).map (·.ck)=b.rs.map (·.m.ck):=by unfold Fx.lgs oW;rw[pM,me,me];rfl
def ub{i:Nat}{e}(h:(f.lgs b k)[i]? =Z e):∃x,b.rs[i]? =Z x/\e=toldE (f.dk.change b.rs b.ft).B (mZ k.no x b.ft.eJ):=by grind
def Lg.does(hn:g.sz=4*(n:Int))(h:Lg g n V f)(jb:∀b∈f.fl,∃k,f.K[b.s]? =Z (Z k))(P:f.fl=b::r)(R:f.K[b.s]? =Z (Z k)):Lg g n V (({f with fl:=r}:Fx).does b):=by
 rw[sE (f:={f with fl:=r}) R];obtain⟨hs,aW,N⟩:=h.fl b (by rw[P];exact fJ);have N:=N k R;obtain⟨d1,X,s0,s1,s2⟩:=hs.did (ft:=b.ft) hn h.dk aW;obtain⟨σ,hH,hE⟩:=h.hi;have aS:(({f with fl:=r}:Fx).lgs b k).length=b.rs.length:=by simp[Fx.lgs,oW]
 have Q:ao f.fl=b.rs++ao r:=by rw[P];rfl
 have ho:f.log.map (·.ck)++(ao f.fl).map (·.m.ck)=(f.log++({f with fl:=r}:Fx).lgs b k).map (·.ck)++(ao r).map (·.m.ck):=by rw[Q,sV,sV,LP,lS]
 have aQ:∀e∈({f with fl:=r}:Fx).lgs b k,∃(j:Nat) (a:Wi),V[j]? =Z a/\e.Of a:=λe d=>by obtain⟨x,o,rfl⟩:=px d;obtain⟨j,a,q,l,E⟩:=N x o;refine⟨j,a,q,E.y,congrArg (·.ck) l,congrArg (·.kd) l,congrArg (·.fl) l,congrArg (·.of) l,congrArg (·.ln) l,?_⟩;show(if b.ft.eJ=M then(5:Int)else 0)=0\/(if b.ft.eJ=M then(5:Int)else 0)=5;split;exact az U;exact aA U
 have O:∀(i k:Nat),(if f.log.length+i<=f.log.length then σ (f.log.length+i) k else X (f.log.length+i-f.log.length) k)=X i k:=λi k=>by
  rw[Cd]
  by_cases e:i=0
  subst e;rw[xU,aO (aR _)];exact(hE k).t (s0 k).y;rw[aI Y]
 refine⟨λc v=>?_,h.two,h.gd,?_,?_,λi j x a w A J L hm=>?_,λi j x a w A J L ht p e d v=>?_,d1,λp k=>if p<=f.log.length then σ p k else X (p-f.log.length) k,⟨λz hz=>?_,λp e d=>?_⟩,λz=>?_⟩;have v:=v;obtain⟨t,c2,c3⟩:=h.fl c (by rw[P];exact gC _ v);refine⟨t,c2,λk' S x o=>?_⟩;have S:=S;rcases oy S with⟨e1,D⟩|⟨_,D⟩;rw[D,Gk];exact c3 k (by rw[e1];exact R) x o;exact c3 k' D x o;have:=h.nd;unfold Fx.Zz at this
 rwa [ho]at this
 have:=h.ap;rw[Q]at this;exact(Kt.1 this).2.1;have:=h.dc i j x a w A J L;unfold Fx.Zz at this;rw[ho]at this;exact this hm;have d:(f.log++({f with fl:=r}:Fx).lgs b k)[p]? =Z e:=d;show ∃(C:Nat) (u:En),C<p/\(f.log++({f with fl:=r}:Fx).lgs b k)[C]? =Z u/\u.ck=a.ck;rw[zH]at d;split at d;rename_i T;obtain⟨C,u,a1,a2,a3⟩:=h.od i j x a w A J L ht p e d v;exact⟨C,u,a1,by rw[BS Y];exact a2,a3⟩;rename_i T
 have o:(x.ck:Int)∈(ao f.fl).map (·.m.ck):=by obtain⟨x1,q,l⟩:=ub d;rw[<-v,l,Q];exact jY.2 ⟨x1,Fl _ (jC q),U⟩
 have hy:=h.dc i j x a w A J L (Kq _ o);rcases jg.1 hy with hy|hy;obtain⟨u,q,l⟩:=jY.1 hy;obtain⟨C,E⟩:=Km q;have G:=(bY.1 E).1;exact⟨C,u,Y,by rw[BS G];exact E,l⟩;obtain⟨rx,m1,m2⟩:=h.bw jb w o;obtain⟨ry,m3,m4⟩:=h.bw jb A hy
 have:=(LO h.ap (λ_ _ h=>⟨h.2,h.1⟩) m1 m3 λe=>by
  subst e
  have D:x.ck=a.ck:=by have:=congrArg (·.ck) (m2.y.t m4);have:(x.ck:Int)=(a.ck:Int):=this;omega
  have:=h.two i j x a w A D;omega).1
 rw[PG ht m2 m4]at this;cases this;rw[aO (cO _)];exact hH.zero z hz;have d:(f.log++({f with fl:=r}:Fx).lgs b k)[p]? =Z e:=d;rw[zH]at d;split at d;rename_i T;have:=hH.step p e d;simp only[aO (show p<=f.log.length by omega),aO (show p+1<=f.log.length by omega)];exact this;rename_i T;obtain⟨i,rfl⟩:∃i,p=f.log.length+i:=⟨p-f.log.length,Y⟩;rw[Cd]at d;obtain⟨x,o,H⟩:=ub d;obtain⟨j,a,q,l,E⟩:=N x (jC o);obtain⟨t1,t2⟩:=s2 i x o;obtain⟨_,W,G,h5⟩:=aQ e (jC d)
 have bg:e.Of a:=by have t:=h5.ck;rw[H]at t;have t:x.m.ck=(W.ck:Int):=t;rw[l]at t;have t:(a.ck:Int)=(W.ck:Int):=t;have:=h.two _ _ a W q G Y;subst this;rw[q]at G;cases G;exact h5
 refine⟨j,a,q,bg,λk=>?_,λh0=>⟨(f.dk.change b.rs b.ft).B,d1.bs,λk=>?_,?_⟩⟩;rw[O,jv,O,<-l,H];exact t1 k;rw[O];refine t2 ?_ k;rw[H]at h0;exact h0;rw[H];rfl;show(if(f.log++({f with fl:=r}:Fx).lgs b k).length<=f.log.length then _ else _)=_;rw[fQ,aS,O];exact s1 z
end
def wa(b l):(ao (fP b l)).Perm (b.rs++ao l):=by unfold fP jw ao;rw[rL,pH];refine(qV ..).t ?_;rw[<-rL,pL]
def qe{x s}:∀{l:av Jb},x∈gO l s↔∃b∈l,b.s=s/\x∈b.rs
 |[]=>⟨λh=>(by cases h),λ⟨b,h,_⟩=>(by cases h)⟩
 |c::l=>by show x∈(if c.s=s then c.rs else[])++gO l s↔_;rw[jg,qe (l:=l)];constructor;rintro(h|⟨b,h1,a⟩);split at h;rename_i e;exact⟨c,fJ,e,h⟩;cases h;exact⟨b,gC _ h1,a⟩;rintro⟨b,h1,a,d⟩;rcases jh.1 h1 with rfl|h1;rw[aO a];exact .inl d;exact .inr ⟨b,h1,a,d⟩
def xo(a b:Rq):a.touch b=b.touch a:=by unfold Rq.touch;rw[ri (decide (a.m.kd=0)),ri (decide (a.m.of<b.m.of+b.m.ln))]
section
variable {g:Cf} {rs:av Rq}
def Q9{i j}(h:∀r∈rs,r.Gd g)(a:i<=j):oo (rs.take i)<=oo (rs.take j):=by have e:=Nj ((rs.take j).take i) ((rs.take j).drop i);rw[pL,List.take_take,uE a]at e;have:=(jF (rs:=(rs.take j).drop i) λx c=>h x (uA (BZ c))).1;omega
def bo.apart(h:bo g rs):rs.Pairwise λa b=>a.touch b=aa/\b.touch a=aa:=by
 rw[List.pairwise_iff_getElem];intro i j c e d;have l:=h.at_ i _ (dj c);have o:=h.at_ j _ (dj e);have q:=mT (dj c);have t:=Q9 (i:=i+1) (λr hr=>(h.gd r hr).1) d
 have:rs[i].touch rs[j]=aa:=by unfold Rq.touch;rw[lX (p:=rs[j].m.of<_) Y,rW,rW]
 exact⟨this,(xo ..).t this⟩
def bo.ath{r}(h:r.Gd g/\r.m.of %4=0/\(r.m.fl=1->r.m.wr)):bo g [r]:=by
 refine⟨λx a=>by rw[iz.1 a];exact h,λi x a=>?_,λx a=>by rw[iz.1 a];exact⟨U,U⟩,λ_=>U⟩;have c:=(bY.1 a).1;have e:i=0:=by simpa using c
 subst e;cases a;show r.m.of=r.m.of+0;omega
def bo.snoc{r mx}(h:bo g rs)(p:rs≠[])(l:r.Gd g/\r.m.of %4=0/\(r.m.fl=1->r.m.wr))(hf:tN (rs[0]?.getD qZ) (rs[rs.length-1]?.getD qZ) r mx=M):bo g (rs++[r]):=by
 have q:=B8.2 p;have h0:(rs++[r])[0]? =rs[0]? :=BS q;obtain⟨z,a⟩:∃z,rs[rs.length-1]? =Z z:=⟨_,dj Y⟩;rw[a]at hf;unfold tN at hf;simp at hf;obtain⟨f1,f2,f3,f4,f5⟩:=hf;have c:=h.kd z (jC a);refine⟨λx hx=>?_,λi x hx=>?_,λx hx=>?_,λe=>?_⟩;rcases jg.1 hx with hx|hx;exact h.gd x hx;rw[iz.1 hx];exact l;rw[h0];rw[zH]at hx;split at hx;rename_i o;rw[C8 Y];exact h.at_ i x hx;rename_i o;have j:=(bY.1 hx).1;simp at j;have e:i=rs.length:=Y;subst e;have d:=jC hx;rw[iz]at d;subst d;have t:=h.at_ _ z a;have u:=mT a
 grind
 rw[h0];rcases jg.1 hx with hx|hx;exact h.kd x hx;rw[iz.1 hx];exact⟨f2.t c.1,f3.t c.2⟩;rw[h0]at e;exact absurd (f2.t (c.1.t e)) f1
end
structure nc(g:Cf)(f:Fx)(rs:av Rq):Prop where
 st:bo g rs
 ne:rs≠[]
 ap:∀r∈rs,∀x∈ao f.fl,r.touch x=aa
def xv{f:Fx}{k}(h:f.free k=M):k.fst∈k.q/\k.eM f.g=M/\∀x∈ao f.fl,k.fst.touch x=aa:=by
 unfold Fx.free at h;rw[cQ]at h;refine⟨?_,h.1,λx c=>?_⟩;obtain⟨r,l,d,e,_⟩:=yT h.1
 grind
 have a:=h.2;unfold Fx.held at a;rw[uk,Bool.or_eq_false_iff]at a;obtain⟨b,j,m⟩:=BY.1 c
 grind
def are{g f s}:∀(n:Nat) (k:Ck) (rs:av Rq),(∀r∈k.q,r.Gd g/\r.m.of %4=0/\(r.m.fl=1->r.m.wr))->nc g f rs->nc g f (f.eK s n k rs).2
 |0,k,rs,a,h=>h
 |n+1,k,rs,a,h=>by
  unfold Fx.eK;split;rename_i e;unfold Fx.along at e;rw[cQ,cQ]at e;obtain⟨a1,c,a3⟩:=xv e.1;refine are n _ _ (λr hr=>a r (Kr hr)) ⟨h.st.snoc h.ne (a _ a1) e.2.2,ay,λr hr=>?_⟩;rcases jg.1 hr with hr|hr;exact h.ap r hr
  rwa [iz.1 hr]
  exact h
section
variable {g:Cf} {n:Nat} {W:av Wi} {f f':Fx} {b:Jb} {s i:Nat} {k k':Ck} {un wq wf:av Nat} {ts:av Tk}
def fp{j:Nat}{aqi}(h:(W.map Wi.base)[j]? =Z aqi):∃w,W[j]? =Z w/\aqi=w.base:=by grind
def da{j:Nat}{w}(h:W[j]? =Z w):(W.map Wi.base)[j]? =Z w.base:=by rw[qC,h];rfl
def Lg.goes(h:Lg g n (W.map Wi.base) f)(hb:∀(j:Nat) w,W[j]? =Z w->w.bk= -1\/(w.ck:Int)∈f.log.map (·.ck))(jb:∀b∈f.fl,∃k,f.K[b.s]? =Z (Z k))(one:∀(t:Nat) x,f.K[t]? =Z (Z x)->x.no=k.no->t=s)(hk:f.K[s]? =Z (Z k))(aC:k.no=i)(v:cK g W i f.log (gO f.fl s) k un wq wf ts)(P:qK k b.rs k')(hR:nc g f b.rs)(hs:b.s=s)(L:f'.fl=fP b f.fl)(N:f'.log=f.log)(V:f'.K=f.K.set s (Z k'))(X:f'.dk=f.dk):Lg g n (W.map Wi.base) f':=by
 have hq:=v.q;rw[P.q,sV]at hq
 have q1:b.rs.map (·.m)=(wq.take b.rs.length).map (pg W):=by
  have:=congrArg (List.take b.rs.length) hq
  rwa [C8 ay,qE ay,<-rk]at this
 have A:∀j∈wq,∃d,W[j]? =Z d/\d.u=i/\d.Good g:=λj l=>v.ok j (by simp[l])
 have bC:∀r∈b.rs,∃j∈wq.take b.rs.length,∃d,W[j]? =Z d/\d.u=i/\r.m=d.msg:=λr hr=>by have h1:r.m∈b.rs.map (·.m):=fe hr;rw[q1]at h1;obtain⟨j,l,e⟩:=jY.1 h1;obtain⟨d,a1,B,_⟩:=A j (uA l);exact⟨j,l,d,a1,B,e.y.t (We a1)⟩
 have cks:b.rs.map (·.m.ck)=(wq.take b.rs.length).map λj=>(iW W j:Int):=by
  have h1:b.rs.map (·.m.ck)=(b.rs.map (·.m)).map (·.ck):=by rw[me];rfl
  rw[h1,q1,me];refine rN λj l=>?_;obtain⟨d,a1,_⟩:=A j (uA l);show(pg W j).ck=_;rw[We a1,Gv a1]
 have hp:f'.Zz.Perm (b.rs.map (·.m.ck)++f.Zz):=by unfold Fx.Zz;rw[L,N];refine(((wa b f.fl).map _).append_left _).t ?_;rw[sV];exact qV ..
 have aK:(un++wq++(wf++ts.filterMap Tk.no)).Nodup:=by rw[<-lS];exact v.nd
 have H:∀{a c:Nat} {x d:Wi},W[a]? =Z x->W[c]? =Z d->x.ck=d.ck->a=c:=λh1 E e=>h.two _ _ _ _ (da h1) (da E) e
 have fresh:∀j∈wq,(iW W j:Int)∉f.Zz:=λj l hm=>by obtain⟨d,a1,B,_⟩:=A j l;rcases jg.1 hm with hm|hm;obtain⟨e,he,hc⟩:=jY.1 hm;exact v.nl j (Fl _ l) e he hc;obtain⟨x,hx,hc⟩:=jY.1 hm;obtain⟨c,Q,aH⟩:=BY.1 hx;obtain⟨S,an⟩:=jb c Q;obtain⟨j',y',b1,D,J⟩:=(h.fl c Q).2.2 S an x aH;obtain⟨w',o,rfl⟩:=fp b1;rw[Gv a1,D]at hc;have hc:(w'.ck:Int)=(d.ck:Int):=hc;have bl:=H o a1 Y;subst bl;rw[a1]at o;cases o;have J:(d.u:Int)=S.no:=J;have bg:=one c.s S an (by rw[aC,<-J,B]);obtain⟨j2,y2,d1,d2,d3,_,d5⟩:=v.bw (qe.2 ⟨c,Q,bg,aH⟩);have:(d.ck:Int)=(y2.ck:Int):=congrArg (·.ck) (D.y.t d5);have:=H a1 d2 Y;subst this;exact(Ca.1 aK).2.2 j' (Kq _ l) j' (Fl _ d1) U
 have bE:(wq.take b.rs.length).Nodup:=(Ca.1 (Ca.1 aK).1).2.1.sublist (ta ..);have ah:wq++un=wq.take b.rs.length++(wq.drop b.rs.length++un):=by rw[<-lS,pL]
 refine⟨λc hc=>?_,h.two,h.gd,?_,?_,λa c x d p hc hl G hm=>?_,by rw[N];exact h.od,by rw[X];exact h.dk,by rw[N,X];exact h.hi⟩
 ·rw[L]at hc;rcases yL.1 hc with rfl|hc
  ·refine⟨hR.st,hR.ne,λx hx r hr=>?_⟩;rw[V,hs]at hx
   have bA:x=k':=by rcases oy hx with⟨_,e⟩|⟨e,_⟩;exact e;exact absurd rfl e
   obtain⟨j,_,d,a1,B,a3⟩:=bC r hr;exact⟨j,d.base,da a1,a3,by rw[bA,P.no,aC];exact congrArg _ B⟩
  obtain⟨o,c2,T⟩:=h.fl c hc;refine⟨o,c2,λx hx=>?_⟩;rw[V]at hx;rcases oy hx with⟨e5,O⟩|⟨_,O⟩;rw[O,P.no];exact T k (by rw[e5];exact hk);exact T x O
 rw[hp.nodup_iff,Ca];refine⟨?_,h.nd,λa p c hc e=>?_⟩;rw[cks];refine Fp.2 (qL (λ{a c} p hc aW e=>aW ?_) bE);obtain⟨d,a1,_⟩:=A a (uA p);obtain⟨z,o,_⟩:=A c (uA hc);rw[Gv a1,Gv o]at e;exact H a1 o Y;subst e;rw[cks]at p;obtain⟨j,l,e⟩:=jY.1 p;exact fresh j (uA l) (e▸hc);rw[L];refine(List.Perm.pairwise_iff (λh=>⟨h.2,h.1⟩) (wa b f.fl)).2 (Kt.2 ⟨hR.st.apart,h.ap,λa p c hc=>?_⟩);have:=hR.ap a p c hc;exact⟨this,(xo ..).t this⟩;rw[hp.mem_iff]at hm⊢;rcases jg.1 hm with hm|hm;obtain⟨w,a1,rfl⟩:=fp p;obtain⟨z,o,rfl⟩:=fp hc;rw[cks]at hm;obtain⟨j,l,e⟩:=jY.1 hm;obtain⟨d,d1,d2,_⟩:=A j (uA l);rw[Gv d1]at e;have e:(d.ck:Int)=(w.ck:Int):=e;have:=H d1 a1 Y;subst this;rw[d1]at a1;cases a1;have G:z.u=w.u:=G
 by_cases hx:c∈wq++un
 refine Fl _ ?_;rw[cks];rw[ah]at hx;rcases jg.1 hx with hx|hx;exact jY.2 ⟨c,hx,by rw[Gv o]⟩;have hi:=v.inc;rw[ah]at hi;have:=(Kt.1 hi).2.2 j l c hx;omega;refine Kq _ ?_;rcases hb c z o with hbk|hbk;have af:=v.all c z o (G.t d2) hbk;simp only[jg]at af hx;rcases af with((h1|h1)|h1)|h1;exact absurd (.inr h1) hx;exact absurd (.inl h1) hx;refine Kq _ ?_;have E:pg W c∈wf.map (pg W):=fe h1;rw[<-v.fl]at E;obtain⟨x,bt,bu⟩:=jY.1 E;obtain⟨D,lD,_,bz⟩:=qe.1 bt;refine jY.2 ⟨x,BY.2 ⟨D,lD,bz⟩,?_⟩;rw[bu,We o];obtain⟨t,R,C⟩:=sX.1 h1
 match t,R,C with
 |.inr (m,e',x'),R,C=>
  have C:m=c:=ey C;subst C;obtain⟨en,g1,g2,_⟩:=v.tq _ _ _ R;rw[Gv o]at g2;exact Fl _ (jY.2 ⟨en,g1,g2⟩)
 exact Fl _ hbk;exact Kq _ (h.dc a c x d p hc hl G hm)
end
def iG(g:Cf)(W:av Wi)(i s:Nat)(f:Fx):Prop:=∃k,f.K[s]? =Z (Z k)/\k.no=i/\wO g W i f.log (gO f.fl s) k
section
variable {g:Cf} {W:av Wi} {i s:Nat} {f:Fx}
def eT.u(h:eT g W i s f):iG g W i s f:=by
 let⟨k,a,b,_,c⟩:=h
 exact⟨k,a,b,c⟩
def iG.fY(h:iG g W i s f)(j):iG g W i s (f.fY j):=by
 let⟨k,b,c,m,p,n,l,d⟩:=h
 rcases a:f.K[j]? with _|o;rw[GB (az a)];exact⟨k,b,c,m,p,n,l,d⟩;rcases o with _|k';rw[GB (aA a)];exact⟨k,b,c,m,p,n,l,d⟩;rw[Mf a]
 by_cases e:j=s
 subst e;rw[b]at a;cases a;exact⟨k.dh f.g,iy (bY.1 b).1,c,m,p,n,l,d.like U U U U U⟩;exact⟨k,(gQ e).t b,c,m,p,n,l,d⟩
def uU{e d:Type}{P:d->Prop}{op}(h:∀b a,P b->P (op b a)):∀(l:av e) (b:d),P b->P (l.foldl op b)
 |[],b,c=>c
 |a::l,b,c=>uU h l (op b a) (h b a c)
def iG.early(h:iG g W i s f):iG g W i s f.early:=by exact uU (λb a c=>c.fY a) _ _ h
def Ip:∀(l:av Jb),gO l s=[]->ir l s=0
 |[],_=>rfl
 |b::l,h=>by
  have h:(if b.s=s then b.rs else[])++gO l s=[]:=h
  let⟨a,c⟩:=Fc.1 h
  show(if b.s=s then iJ b.rs else 0)+ir l s=0;rw[Ip l c];split;rename_i e;rw[aO e]at a;rw[a];rfl;rfl
def iG.read(hI:g.Is)(wo:mA W)(v:f.g=g)(h:iG g W i s f)(hm:∀k,f.K[s]? =Z (Z k)->k.prom=ir f.fl s):eT g W i s f.readAll:=by
 let⟨k,c,d,z,u,t,n,a⟩:=h
 let⟨q,r,p,x,j,l,m⟩:=a.dQ hI wo λw=>by
  rw[hm k c]
  let⟨_,_,e,_⟩:=a.ph.resolve_left Y
  have b:=a.fl;rw[e]at b;exact Ip _ (Fi.1 b)
 refine⟨k.dQ g,?_,m.t d,l,r,u++q,t,n++p,j⟩;show(f.K.map λo=>o.map (Ck.dQ f.g))[s]? =_
 grind
def eT.eV(h:eT g W i s f)(j):eT g W i s (f.eV j):=by
 rcases ek:f.K[j]? with _|o;rw[AT (az ek)];exact h;rcases o with _|k';rw[AT (aA ek)];exact h;rw[DS ek]
 let⟨k,a⟩:=h.at (k':=k'.num f.acc) ek U U (Nz k'.q f.acc) U U U
 exact⟨k,a⟩
def eT.mG(h:eT g W i s f):eT g W i s f.mG:=uU (λb a c=>c.eV a) _ _ h
def eT.dP(h:eT g W i s f)(j):eT g W i s (f.dP j):=by
 let⟨k,a,b,c,d⟩:=h
 unfold Fx.dP;split;rename_i n l;split;rename_i m
 have e:j≠s:=λe=>by
  subst e;rw[a]at l;cases l;unfold Ck.gone at m
  grind
 exact⟨k,(gQ e).t a,b,c,d⟩;exact⟨k,a,b,c,d⟩;exact⟨k,a,b,c,d⟩
def eT.bQ(h:eT g W i s f)(j):eT g W i s (f.bQ j):=uU (λb a c=>c.dP a) _ _ h
def yo(f:Fx):f.uS.g=f.g/\f.uS.fl=f.fl/\f.uS.stop=f.stop/\∀(s:Nat) k,f.uS.K[s]? =Z (Z k)->∃d,f.K[s]? =Z (Z d)/\k.prom=d.prom:=by
 refine uU (P:=λb:Fx=>b.g=f.g/\b.fl=f.fl/\b.stop=f.stop/\∀(s:Nat) k,b.K[s]? =Z (Z k)->∃d,f.K[s]? =Z (Z d)/\k.prom=d.prom) (λb a c=>?_) _ _ ⟨U,U,U,λs k h=>⟨k,h,U⟩⟩;unfold Fx.fY;split;rename_i l j;refine⟨c.1,c.2.1,c.2.2.1,λs k h=>?_⟩;have h:=h
 by_cases e:a=s
 subst e;rw[iy (bY.1 j).1]at h;cases h;exact c.2.2.2 a l j;rw[gQ e]at h;exact c.2.2.2 s k h;exact c
def iG.tick(hR:f.Rest)(hc:f.clock<1073741824)(d:f.g=g)(u:f.stop=aa)(wo:mA W)(hot:∀b∈f.fl,mi W i s b)(h:iG g W i s f):eT g W i s f.tick:=by
 have hI:=hR.core.g;rw[d]at hI;obtain⟨l,m,w,x⟩:=yo {f with clock:=f.clock+1}
 have e:f.early.goes=f.early.readAll.mG:=by unfold Fx.goes;rw[show f.early.stop=aa from w.t u];rfl
 have n:eT g W i s f.early.goes:=by rw[e];refine(h.early.read hI wo (l.t d) λk t=>?_).mG;obtain⟨v,o,p⟩:=x s k t;refine(p.t (hR.core.cl s v o).2.2).t ?_;exact congrArg (ir · s) m.y
 have j:=(hR.ok hc).next
 have r:f.early.goes.g=g:=by have:=j.core;rw[e];refine uU (P:=λb:Fx=>b.g=g) (λb a c=>?_) _ _ (l.t d);exact(WA b a).2.1.t c
 have q:f.early.goes.fl=f.fl:=by rw[e];refine uU (P:=λb:Fx=>b.fl=f.fl) (λb a c=>?_) _ _ m;unfold Fx.eV;split<;>exact c
 exact((eT.fin wo _ _ j r (by rw[q];exact hot) n).turns _ _ _).bQ _
end
def TL:∀(n:Nat) (f:Fx),f.nK->(Fx.fin n f).nK
 |0,f,h=>h
 |n+1,f,h=>by unfold Fx.fin;split;exact h;rename_i b r d;split;rename_i a;exact TL n _ (wY.does f b r h d a).2.2;exact h
def Jr:∀(n p:Nat) (f:Fx),f.mw->(Fx.turns n p f).mw
 |0,p,f,h=>h
 |n+1,p,f,h=>by
  unfold Fx.turns;split;rename_i a;cases e:f.bg.2 with
  |true=>
   rw[aO U];exact Jr n 0 _ (vw.used f h a.1 e)
  |false=>
   rw[aI aM];exact Jr n (p+1) _ (vw.pass f h e)
  exact h
def Xu{f:Fx}(h:f.Rest)(hc:f.clock<1073741824):f.tick.Rest/\f.tick.clock=f.clock+1:=
 YB h (Jr _ _ _ (TL _ _ (h.ok hc).next).trn)
def zh(W:av Wi)(f:Fx):Prop:=∀(s i:Nat) k,f.K[s]? =Z (Z k)->k.no=i->∀b∈f.fl,mi W i s b
structure eH(g:Cf)(t:Nat)(f:Fx)(c:Cw):Prop where
 is:g.Is
 rest:f.Rest
 gg:f.g=g
 stop:f.stop=aa
 bF:f.bF=c.S.length
 dO:f.clock<=t/\(0<=c.now/\c.now<=t)/\c.S.length<=t+8/\c.W.length<=t/\c.dl<=16
 ck:c.W.length<=c.ck/\c.ck<=60000
 one:∀(j:Nat) r,c.W[j]? =Z r->r.ck<=c.ck/\r.u<c.S.length/\0<=r.ln/\r.ln<=65535
 two:∀(j a:Nat) r b,c.W[j]? =Z r->c.W[a]? =Z b->r.ck=b.ck->j=a
 hd:∀(i:Nat) s,c.S[i]? =Z s->s.hd=⟨#[]⟩
 aC:∀(i:Nat) s,c.S[i]? =Z s->s.aw=aa->∃d,iG g c.W i d f
section
variable {g:Cf} {t:Nat} {f f':Fx} {c:Cw}
def eH.wo(h:eH g t f c):mA c.W:=⟨by have:=h.ck;omega,λj r e=>by have:=h.one j r e;have:=h.ck;omega,λj i r k a b _ d=>h.two j i r k a b d⟩
def eH.stay(h:eH g t f c):eH g (t+1) f c.late:=
 ⟨h.is,h.rest,h.gg,h.stop,h.bF,by have:=h.dO;show f.clock<=(t+1:Nat)/\(0<=c.now+1/\c.now+1<=(t+1:Nat))/\c.S.length<=t+1+8/\c.W.length<=t+1/\c.dl<=16;omega,h.ck,h.one,h.two,h.hd,h.aC⟩
def eH.tick(h:eH g t f c)(hot:zh c.W f)(q:t<1073741824):eH g (t+1) f.tick c.late:=by
 have b:f.clock<1073741824:=by have:=h.dO.1;omega
 obtain⟨j,p⟩:=Xu h.rest b;have a:=Jn f;refine⟨h.is,j,(congrArg (·.1) a).t h.gg,(congrArg (·.2.2) a).t h.stop,(congrArg (·.2.1) a).t h.bF,?_,h.ck,h.one,h.two,h.hd,λi s m l=>?_⟩;have:=h.dO
 grind
 obtain⟨e,d⟩:=h.aC i s m l;obtain⟨k,n,o,_⟩:=id d;exact⟨e,(d.tick h.rest b h.gg h.stop h.wo (hot e i k n o)).u⟩
def eH.dG{d'}(h:eH g t f c)(b:f'.Rest)(d:f'=f\/∃u,f'=f.sI u/\1<=u.delay/\u.delay<=d')(p:c.dl<=d'/\d'<=16):eH g (t+1) f' {c.late with dl:=d'}:=by
 have a:f'.K=f.K/\f'.fl=f.fl/\f'.g=f.g/\f'.stop=f.stop/\f'.bF=f.bF/\f'.clock=f.clock/\f'.log=f.log:=by rcases d with rfl|⟨u,rfl,_⟩<;>exact⟨rfl,rfl,rfl,rfl,rfl,rfl,rfl⟩
 refine⟨h.is,b,a.2.2.1.t h.gg,a.2.2.2.1.t h.stop,a.2.2.2.2.1.t h.bF,?_,h.ck,h.one,h.two,h.hd,λi s n m=>?_⟩;have:=h.dO
 grind
 obtain⟨o,k,e,j,l⟩:=h.aC i s n m;exact⟨o,k,by rw[a.1];exact e,j,by rw[a.2.1,a.2.2.2.2.2.2];exact l⟩
end
structure Bk(W:av Wi)(now:Int)(lo:av En):Prop where
 one:∀(j:Nat) w,W[j]? =Z w->w.at_<=now/\(w.bk= -1\/(0<=w.bk/\w.bk<=now)/\∃e∈lo,e.ck=w.ck/\e.er=w.er/\e.tx=w.tx.data.toList)
 nQ:∀(i j:Nat) x a,W[i]? =Z x->W[j]? =Z a->0<=a.bk->a.bk<x.at_->∀(p:Nat) e,lo[p]? =Z e->e.ck=x.ck->∃(p':Nat) (b:En),p'<p/\lo[p']? =Z b/\b.ck=a.ck
def Ck.nJ(k:Ck):Prop:=k.ph=4/\k.q=[]
structure LM(f f':Fx):Prop where
 kt:∀(s:Nat) k',f'.K[s]? =Z (Z k')->∃k,f.K[s]? =Z (Z k)/\k'.no=k.no/\(k.nJ->k'.nJ)
 fl:f'.fl=f.fl
 log:f'.log=f.log
 dk:f'.dk=f.dk
section
variable {g:Cf} {n:Nat} {W V:av Wi} {now:Int} {lo:av En} {f f' f'':Fx} {k k':Ck} {s i:Nat}
def Bk.log(h:Bk W now lo)(l):Bk W now (lo++l):=by refine⟨λj w d=>⟨(h.one j w d).1,(h.one j w d).2.imp id λ⟨a,e,b,c⟩=>⟨a,e,Fl _ b,c⟩⟩,λi j x u D d B E p e o C=>?_⟩;rw[zH]at o;split at o;rename_i G;obtain⟨q,m,a1,v,a3⟩:=h.nQ i j x u D d B E p e o C;exact⟨q,m,a1,by rw[BS Y];exact v,a3⟩;rename_i G;rcases(h.one j u d).2 with r|⟨_,m,r,z,_⟩;omega;obtain⟨q,t⟩:=Km r;have A:=(bY.1 t).1;exact⟨q,m,Y,by rw[BS A];exact t,z⟩
def Bk.late{ara}(h:Bk W now lo)(l:now<=ara):Bk W ara lo:=by refine⟨λj w e=>?_,h.nQ⟩;obtain⟨a,b⟩:=h.one j w e;exact⟨Y,b.imp id λ⟨c,d⟩=>⟨Y,d⟩⟩
def Bk.off(h:Bk W now lo)(j:Nat)(w:Wi)(c:W[j]? =Z w):w.bk= -1\/(w.ck:Int)∈lo.map (·.ck):=
 (h.one j w c).2.imp id λ⟨_,e,a,b,_⟩=>jY.2 ⟨e,a,b⟩
def LM.refl(f):LM f f:=⟨λs k h=>⟨k,h,U,id⟩,U,U,U⟩
def LM.trans(h:LM f f')(a:LM f' f''):LM f f'':=
 ⟨λs k e=>by obtain⟨j,a1,b,a3⟩:=a.kt s k e;obtain⟨l,b1,c,d⟩:=h.kt s j a1;exact⟨l,b1,b.t c,λx=>a3 (d x)⟩,a.fl.t h.fl,a.log.t h.log,a.dk.t h.dk⟩
abbrev LM.t:=@LM.trans
def Lg.same(h:Lg g n V f)(m:∀b∈f.fl,∀k',f'.K[b.s]? =Z (Z k')->∃k,f.K[b.s]? =Z (Z k)/\k'.no=k.no)(a:f'.fl=f.fl)(c:f'.log=f.log)(d:f'.dk=f.dk):Lg g n V f':=by
 have j:f'.Zz=f.Zz:=by unfold Fx.Zz;rw[a,c]
 refine⟨λb e=>?_,h.two,h.gd,by rw[j];exact h.nd,by rw[a];exact h.ap,by rw[j];exact h.dc,by rw[c];exact h.od,by rw[d];exact h.dk,by rw[c,d];exact h.hi⟩;rw[a]at e;obtain⟨a1,l,a3⟩:=h.fl b e
 grind
def LM.lg(m:LM f f')(h:Lg g n V f):Lg g n V f':=h.same (λb _ k c=>by obtain⟨d,b1,a,_⟩:=m.kt _ k c;exact⟨d,b1,a⟩) m.fl m.log m.dk
def et(c:f.K[s]? =Z (Z k))(a:k'.no=k.no)(b:k.nJ->k'.nJ):LM f (f.at s k'):=
 ⟨λt x d=>by rcases oy d with⟨rfl,rfl⟩|⟨_,e⟩;exact⟨k,c,a,b⟩;exact⟨x,e,rfl,id⟩,rfl,rfl,rfl⟩
def QQ(f j):LM f (f.fY j):=by unfold Fx.fY;split;rename_i k a;exact et a U id;exact .refl f
def Jo(f j):LM f (f.eV j):=by unfold Fx.eV;split;rename_i k a;have:=et (k':=k.num f.acc) a U λh=>⟨h.1,by show(bL f.acc k.q).1=[];rw[h.2];rfl⟩;exact⟨this.kt,this.fl,this.log,this.dk⟩;exact .refl f
def mS(f j):LM f (f.dP j):=by unfold Fx.dP;split;split;exact⟨λs k a=>⟨k,(xD a).2,U,id⟩,U,U,U⟩;exact .refl f;exact .refl f
def IJ(f):LM f f.readAll:=by
 refine⟨λs k' b=>?_,U,U,U⟩;obtain⟨k,a,rfl⟩:=map_some b;refine⟨k,a,(Iz f.g (k.aN.size+1) k).1,λh=>?_⟩;have:k.dQ f.g=k:=Xj (λhm=>hm.1 h.1) _
 rwa [this]
def fw{op}(h:∀f j,LM f (op f j))(l:av Nat)(f):LM f (l.foldl op f):=uU (λb a c=>c.t (h b a)) l f (.refl f)
def ca(f:Fx)(P:Nat->Nat->Prop):Prop:=∀(s:Nat) k,f.K[s]? =Z (Z k)->k.nJ\/∃i:Nat,P i s
def ca.to{P P'}(h:ca f P)(c:∀(s:Nat) k',f'.K[s]? =Z (Z k')->∃k,f.K[s]? =Z (Z k)/\k'.no=k.no/\(k.nJ->k'.nJ))(a:∀i s,P i s->P' i s):ca f' P':=λs k' d=>by obtain⟨k,a1,_,a3⟩:=c s k' d;exact(h s k a1).imp a3 λ⟨i,b⟩=>⟨i,a i s b⟩
def Lg.hot(h:Lg g n (W.map Wi.base) f)(hc:f.Core):zh W f:=λs i k q r b d t x v j a l u e=>by obtain⟨_,_,_,o,m⟩:=hc.jb b d;obtain⟨w,c,a1,p,a3⟩:=(h.fl b d).2.2 o m x v;rw[p]at e;have e:(c.ck:Int)=(a.ck:Int):=e;have:=h.two w j c a.base a1 (da l) (by show c.ck=a.ck;omega);subst this;rw[da l]at a1;cases a1;have a3:=a3;exact t (hc.one b.s s o k m q (by rw[<-a3,r,u]))
structure Vtq(g:Cf)(n:Nat)(W:av Wi)(now:Int)(f:Fx):Prop where
 lg:Lg g n (W.map Wi.base) f
 bk:Bk W now f.log
 sit:ca f λi s=>eT g W i s f
def Core.kA(hc:f.Core):∀b∈f.fl,∃k,f.K[b.s]? =Z (Z k):=λb a=>by obtain⟨_,_,_,k,c⟩:=hc.jb b a;exact⟨k,c⟩
def Vtq.fin(w:g.sz=4*(n:Int))(wo:mA W):∀(m:Nat) (f:Fx),f.nK->f.g=g->Vtq g n W now f->Vtq g n W now (Fx.fin m f)
 |0,f,_,_,h=>h
 |m+1,f,a,A,h=>by
  unfold Fx.fin;split;exact h;rename_i b r j;split;rename_i z;have l:b∈f.fl:=by rw[j];exact fJ
  have u:=(wY.does f b r a j z).2.2;have v:=(uR {f with fl:=r} b).2.2.t A;have t:=u.core.B;rw[v]at t;obtain⟨k,o⟩:=Core.kA a.core b l;have C:=(a.core.jb b l).1;refine Vtq.fin w wo m _ u v ⟨h.lg.does w (Core.kA a.core) j o,?_,λs k' c=>?_⟩;rcases wx {f with fl:=r} b with e|⟨_,_,e⟩;rw[e];exact h.bk;rw[e];exact h.bk.log _
  obtain⟨d,a1,E,a3⟩:∃d,f.K[s]? =Z (Z d)/\k'.no=d.no/\(d.nJ->k'.nJ):=by rw[sE (f:={f with fl:=r}) o]at c;rcases oy c with⟨rfl,rfl⟩|⟨_,e⟩;have p:=CZ (({f with fl:=r}:Fx).dk.change b.rs b.ft).B b.ft b.rs k C.gd;rw[pM];exact⟨k,o,p.no,λh=>⟨p.ph.t h.1,p.q.t h.2⟩⟩;exact⟨k',e,U,id⟩
  refine(h.sit s d a1).imp a3 λ⟨i,c⟩=>⟨i,c.does wo j ?_ t⟩;obtain⟨D,b1,x,_⟩:=id c;exact h.lg.hot a.core s i D b1 x b l;exact h
def Pl{r:Rq}{b:Wi}(hm:r.m=b.msg)(a:b.Good g):r.m.of %4=0/\(r.m.fl=1->r.m.wr):=by
 rw[hm];refine⟨a.of.2.1,λe=>?_⟩;have e:=e;have:=a.fl
 grind
def Vtq.use(C:f.mw)(Q:f.g=g)(h:Vtq g n W now f):Vtq g n W now f.bg.1:=by
 by_cases A:∃k,f.K[f.aC]? =Z (Z k)
 ·obtain⟨k,a⟩:=A
  have key:∀{aqc:Fx},f.bg.1=aqc->(∀(s:Nat) k',aqc.K[s]? =Z (Z k')->∃k,f.K[s]? =Z (Z k)/\k'.no=k.no/\(k.nJ->k'.nJ))->ca aqc λi s=>eT g W i s aqc:=λ{aqc} e hF=>by subst e;exact h.sit.to hF λi s w=>w.use
  have b:(f.aT k).q=k.q/\(f.aT k).ph=k.ph/\(f.aT k).no=k.no:=by unfold Fx.aT;split<;>exact⟨U,U,U⟩
  have m1:LM f (f.turned k):=by have:=et a b.2.2 λh=>⟨b.2.1.t h.1,b.1.t h.2⟩;exact⟨this.kt,this.fl,this.log,this.dk⟩
  have o:(f.turned k).K[f.aC]? =Z (Z (f.aT k)):=Pw C.core;have p:=C.core.turned a;have c:=Bs a;split at c
  ·rename_i P;split at c
   ·rename_i aJ;rw[c];have d:f.bg.1=(f.turned k).gN f.aC (f.aT k):=by rw[c]
    obtain⟨f1,f2,f3⟩:=xv P
    have E:¬k.nJ:=λu=>by rw[b.1,u.2]at f1;cases f1
    have T:=(h.sit f.aC k a).resolve_left E;obtain⟨i,k0,H,s2,s3,un,wq,wf,ts,X⟩:=T;rw[a]at H;cases H;have z:cK g W i (f.turned k).log (gO (f.turned k).fl f.aC) (f.aT k) un wq wf ts:=X.like b.2.1 (by unfold Fx.aT;split<;>rfl) (by rw[b.1]) (by unfold Fx.aT;split<;>rfl) (by unfold Fx.aT;split<;>rfl)
    have D:∀r∈(f.aT k).q,r.Gd g/\r.m.of %4=0/\(r.m.fl=1->r.m.wr):=λr hr=>by have G:=(p.cl _ _ o).1.q r hr;have L:(f.turned k).g=g:=Q;rw[L]at G;have B:r.m∈(f.aT k).q.map (·.m):=fe hr;rw[z.q]at B;obtain⟨j,S,N⟩:=jY.1 B;obtain⟨aN,b1,b2,J⟩:=z.ok j (by simp[S]);exact⟨G,Pl (N.y.t (We b1)) J⟩
    have R:nc g (f.turned k) ((f.turned k).eK f.aC (f.aT k).next.q.length (f.aT k).next [(f.aT k).fst]).2:=are _ _ _ (λr hr=>D r (Kr hr)) ⟨.ath (D _ f1),ay,λr hr=>by rw[iz.1 hr];exact f3⟩;obtain⟨l,O,g2⟩:=GR (f:=f.turned k) (s:=f.aC) (f.aT k).next.q.length (f.aT k).next [(f.aT k).fst]
    have v:=(MC (Iw f2)).t g2;rw[<-O]at v;refine⟨(m1.lg h.lg).goes (h.bk.off) (Core.kA p) (λt x hx e=>p.one t f.aC x _ hx o e) o (b.2.2.t s2) z v R U U U U U,h.bk,key d λs k' w=>?_⟩;rcases oy w with⟨rfl,rfl⟩|⟨_,e⟩;exact⟨k,a,v.no.t b.2.2,λu=>absurd u E⟩;exact m1.kt s k' e
   have d:f.bg.1=f.turned k:=by rw[c]
   rw[c];exact⟨m1.lg h.lg,h.bk,key d m1.kt⟩
  have d:f.bg.1=(f.turned k).at f.aC (f.aT k).lose:=by rw[c]
  have m2:=m1.t (et (k':=(f.aT k).lose) o U id);rw[c];exact⟨m2.lg h.lg,h.bk,key d m2.kt⟩
 rw[Js λk a=>A ⟨k,a⟩];exact h
def xc(f:Fx):f.bg.1.g=f.g:=by unfold Fx.bg;split;split;split<;>rfl;rfl;rfl
def Vtq.turns:∀(m p:Nat) (f:Fx),f.mw->f.g=g->Vtq g n W now f->Vtq g n W now (Fx.turns m p f)
 |0,p,f,_,_,h=>h
 |m+1,p,f,b,c,h=>by
  have a:=h.use b c;unfold Fx.turns;split;rename_i j;cases e:f.bg.2 with
  |true=>
   rw[aO U];exact Vtq.turns m 0 _ (vw.used f b j.1 e) ((xc f).t c) a
  |false=>
   rw[aI aM];refine Vtq.turns m (p+1) _ (vw.pass f b e) ((xc f).t c) ⟨?_,a.bk,a.sit⟩;exact LM.lg (f:=f.bg.1) ⟨λs k d=>⟨k,d,U,id⟩,U,U,U⟩ a.lg
  exact h
def tt:∀(m:Nat) (f:Fx),(Fx.fin m f).g=f.g
 |0,f=>rfl
 |m+1,f=>by unfold Fx.fin;split;rfl;split;exact(tt m _).t (uR _ _).2.2;rfl
structure Vuq(g:Cf)(n:Nat)(W:av Wi)(now:Int)(f:Fx):Prop where
 lg:Lg g n (W.map Wi.base) f
 bk:Bk W now f.log
 sit:ca f λi s=>iG g W i s f
def Vuq.tick(z:g.sz=4*(n:Int))(wo:mA W)(hR:f.Rest)(hc:f.clock<1073741824)(c:f.g=g)(A:f.stop=aa)(h:Vuq g n W now f):Vuq g n W now f.tick:=by
 have hI:=hR.core.g;rw[c]at hI;obtain⟨r,C,D,E⟩:=yo {f with clock:=f.clock+1}
 have d:f.early.goes=f.early.readAll.mG:=by unfold Fx.goes;rw[show f.early.stop=aa from D.t A];rfl
 have H:LM f f.early:=by have G:LM f {f with clock:=f.clock+1}:=⟨λs k e=>⟨k,e,U,id⟩,U,U,U⟩;exact G.t (fw QQ _ _)
 have m:LM f f.early.goes:=by rw[d];exact H.t ((IJ _).t (fw Jo _ _))
 have p:=(hR.ok hc).next
 have q:f.early.goes.g=g:=by rw[d];refine uU (P:=λb:Fx=>b.g=g) (λb a x=>?_) _ _ (r.t c);exact(WA b a).2.1.t x
 have J:Vtq g n W now f.early.goes:=by refine⟨m.lg h.lg,by rw[m.log];exact h.bk,h.sit.to m.kt λi s j=>?_⟩;rw[d];refine(j.early.read hI wo (r.t c) λk e=>?_).mG;obtain⟨B,t,v⟩:=E s k e;refine(v.t (hR.core.cl s B t).2.2).t ?_;exact congrArg (ir · s) C.y
 have K:Vtq g n W now f.early.goes.ends:=J.fin z wo _ _ p q;have w:=(TL f.early.goes.fl.length _ p).trn;have o:Vtq g n W now f.early.goes.ends.takes:=K.turns _ _ _ w ((tt _ _).t q);have l:LM f.early.goes.ends.takes f.tick:=fw mS _ _;exact⟨l.lg o.lg,by rw[l.log];exact o.bk,o.sit.to l.kt λi s j=>(j.bQ _).u⟩
end
section
variable {g:Cf} {t:Nat} {f f':Fx} {c c':Cw} {i sx:Nat} {s:Sl} {k:Ck} {b:Bool} {r:Wi}
def eH.Jp(h:eH g t f c)(m:c.S[i]? =Z s)(l:s.aw=aa)(a:f.Is i sx k):wO g c.W i f.log (gO f.fl sx) k:=by
 obtain⟨o,n,d,j,p⟩:=h.aC i s m l;have e:=a.one o n d j;subst e;have:=a.at_
 grind
def eH.Ho(h:eH g t f c)(a:c.S[i]? =Z s)(j:s.aw=aa):s.hd=⟨#[]⟩/\∃sx k,f.Is i sx k:=by
 let⟨sx,k,d,e,_⟩:=h.aC i s a j
 exact⟨h.hd i s a,sx,k,e▸h.rest.core.is d⟩
def wO.open{W lo jr}(h:wO g W i lo jr k):k.ph=2\/k.ph=0:=by obtain⟨d,j,e,a,h⟩:=h;exact h.ph.imp id (·.1)
def eH.ask{n:Int}(hn:0<=n/\n<=(t+1:Nat))(h:eH g t f c)(ah:∀e∈f.log,e.ck<=c.ck)(J:c.S[i]? =Z s)(V:s.aw=aa)(m:f.Is i sx k)(uW:c.ck<60000)(A:CI g f (c.til n) i sx k b f' c' r):b=M/\eH g (t+1) f' c':=by
 have v:=h.Jp J V m;have hp:=v.open;have hi:=(bY.1 J).1;obtain⟨a1,H,a3⟩:=A.is;have H:r.ck=c.ck+1:=H;have hr:=h.rest.send m.at_ r.dV;have aK:=h.dO;have aJ:=h.ck
 have aD:f.send sx k r.dV=(f,6)\/f.send sx k r.dV=(f.at sx (k.send r.dV),0):=by
  unfold Fx.send
  grind
 rcases aD with e|e
 ·rcases A.u with⟨_,w,a,z⟩|⟨q,_⟩
  ·rw[e]at a hr;have a:=a;subst a z;refine⟨w,h.is,h.rest,h.gg,h.stop,h.bF,?_,?_,λj x l=>?_,h.two,h.hd,h.aC⟩;show f'.clock<=(t+1:Nat)/\(0<=n/\n<=(t+1:Nat))/\c.S.length<=t+1+8/\c.W.length<=t+1/\c.dl<=16;omega;show c.W.length<=c.ck+1/\c.ck+1<=60000;omega;have:=h.one j x l
   grind
  rw[e]at q;exact absurd U q
 rcases A.u with⟨q,_⟩|⟨_,w,a,z⟩;rw[e]at q;exact absurd q (by show ¬(0:Int)=6;decide);rw[e]at w a hr;have a:f'=f.at sx (k.send r.dV):=a;subst a z;have aS:=A.good.small h.is;have fresh:∀(j:Nat) x,c.W[j]? =Z x->x.ck≠r.ck:=λj x l=>by have:=h.one j x l;omega
 have B:∀{j:Nat} {x:Wi},(c.W++[r])[j]? =Z x->c.W[j]? =Z x\/(j=c.W.length/\x=r):=λ{j x} l=>by grind
 refine⟨w,h.is,hr,h.gg,h.stop,h.bF,?_,?_,λj x l=>?_,λj L x O l af p=>?_,h.hd,λK s' an X=>?_⟩;show f.clock<=(t+1:Nat)/\(0<=n/\n<=(t+1:Nat))/\c.S.length<=t+1+8/\(c.W++[r]).length<=t+1/\c.dl<=16
 grind
 show(c.W++[r]).length<=c.ck+1/\c.ck+1<=60000
 grind
 show x.ck<=c.ck+1/\x.u<c.S.length/\0<=x.ln/\x.ln<=65535;rcases B l with d|⟨_,rfl⟩;have:=h.one j x d;omega;omega;rcases B l with d|⟨d,P⟩<;>rcases B af with o|⟨o,Q⟩;exact h.two j L x O d o p;exact absurd (p.t (by rw[Q])) (fresh j x d);exact absurd (p.y.t (by rw[P])) (fresh L O o);omega
 by_cases R:K=i
 subst R;obtain⟨D,G,E,C,v⟩:=v;exact⟨sx,k.send r.dV,iy (bY.1 m.at_).1,m.no,D++[c.W.length],G,E,C,v.send a1 A.good fresh λe p=>by have:=ah e p;omega⟩;obtain⟨N,k2,d,o,D,G,E,C,T⟩:=h.aC K s' an X
 have ak:sx≠N:=λe=>by subst e;have:=m.at_;rw[d]at this;cases this;have:=m.no;omega
 exact⟨N,k2,(gQ ak).t d,o,D,G,E,C,T.other Y⟩
end
section
variable {g:Cf} {t:Nat} {f:Fx} {c:Cw} {i sx:Nat} {s:Sl} {k:Ck} {W:av Wi} {now:Int}
def iG.dP(h:iG g W i sx f)(j):iG g W i sx (f.dP j):=by
 let⟨k,a,d,b⟩:=h
 unfold Fx.dP;split;rename_i n m;split;rename_i l
 have e:j≠sx:=λe=>by subst e;rw[a]at m;cases m;unfold Ck.gone at l;rcases b.open with h3|h3<;>rw[h3]at l<;>simp at l
 exact⟨k,(gQ e).t a,d,b⟩;exact⟨k,a,d,b⟩;exact⟨k,a,d,b⟩
def iG.bQ(h:iG g W i sx f)(j):iG g W i sx (f.bQ j):=uU (λb a d=>d.dP a) _ _ h
def MA(f:Fx)(j):(f.bQ j).g=f.g/\(f.bQ j).stop=f.stop/\(f.bQ j).bF=f.bF/\(f.bQ j).clock=f.clock:=by
 refine uU (P:=λb:Fx=>b.g=f.g/\b.stop=f.stop/\b.bF=f.bF/\b.clock=f.clock) (λb a d=>?_) _ _ ⟨U,U,U,U⟩;unfold Fx.dP
 grind
def WJ(ts W):(dS now W ts).length=W.length:=by
 refine uU (P:=λb:av Wi=>b.length=W.length) (λb a d=>?_) ts W U;unfold Tk.on
 grind
def NG{j:Nat}{x}(ts)(h:(dS now W ts)[j]? =Z x):∃aqi,W[j]? =Z aqi/\x.ck=aqi.ck/\x.u=aqi.u/\x.ln=aqi.ln:=by
 rcases e:W[j]? with _|aqi;rw[DW ts W e]at h;cases h
 by_cases hm:j∈ts.filterMap Tk.no
 obtain⟨b,z,_,a⟩:=AV ts W aqi hm e;rw[a]at h
 grind
 rw[tS ts W hm,e]at h
 grind
def Yy(k:Ck)(h:k.u.size<=1048576):k.takes 1099511627776={k with out:=⟨#[]⟩}:=by
 unfold Ck.takes Ck.much Ck.take;rw[aI aM,show(min 1099511627776 (k.u.size:Int)).toNat=k.u.size by omega]
 congr 1
 refine rG (BB.1 ?_)
 simp_all
def eH.take{n:Int}(O:0<=n/\n<=(t+1:Nat))(h:eH g t f c)(Q:c.S[i]? =Z s)(J:s.aw=aa)(b:f.Is i sx k):∃m p o a,cK g c.W i f.log (gO f.fl sx) k m p o a/\eH g (t+1) (f.take sx k 1099511627776) {c.til n with W:=dS n c.W a}:=by
 obtain⟨m,p,o,a,q⟩:=h.Jp Q J b;have ho:=(h.rest.core.cl sx k b.at_).1.u;have aS:=(h.rest.core.cl sx k b.at_).2.2;have Vj:=h.rest.core.prom sx;have aQ:=h.rest.core.g.ou;have A:=Yy k Y;have z:=O.1;have aL:=h.dO;obtain⟨V,u,X,k4⟩:=MA (f.at sx (k.takes 1099511627776)) f.K.length;refine⟨m,p,o,a,q,h.is,(h.rest.take b.at_ _).2,V.t h.gg,u.t h.stop,X.t h.bF,?_,?_,λj x r=>?_,λj T x x' r N he=>?_,h.hd,λB s' R L=>?_⟩;have e:(f.take sx k 1099511627776).clock=f.clock:=k4;show(f.take sx k 1099511627776).clock<=(t+1:Nat)/\(0<=n/\n<=(t+1:Nat))/\c.S.length<=t+1+8/\(dS n c.W a).length<=t+1/\c.dl<=16;rw[WJ];omega;show(dS n c.W a).length<=c.ck/\c.ck<=60000;rw[WJ];exact h.ck;obtain⟨v,d,l,E,G⟩:=NG a r;rw[l,E,G];exact h.one j v d;obtain⟨v,d,l,_⟩:=NG a r;obtain⟨y',D,aJ,_⟩:=NG a N;exact h.two j T v y' d D Y
 by_cases w:B=i
 subst w;refine⟨sx,iG.bQ ⟨k.takes 1099511627776,iy (bY.1 b.at_).1,?_,m,p,o,[],?_⟩ _⟩;rw[A];exact b.no;rw[A];exact q.takes z U U U U U;obtain⟨C,u,d,l,an,aE,aD,ak,H⟩:=h.aC B s' R L
 have P:sx≠C:=λe=>by subst e;have:=b.at_;rw[d]at this;cases this;have:=b.no;omega
 exact⟨C,iG.bQ (f:=f.at sx (k.takes 1099511627776)) ⟨u,(gQ P).t d,l,an,aE,aD,ak,H.took (dB w) z q.tk⟩ _⟩
end
section
variable {g:Cf} {t:Nat} {f:Fx} {c:Cw} {i sx:Nat} {s:Sl} {k:Ck} {W:av Wi} {now:Int}
def Fx.Rest.oX(h:f.Rest){s k}(d:f.K[s]? =Z (Z k)):(f.at s k.jd).Rest/\(f.oX s k).Rest:=by
 have b:=(h.core.cl s k d).1
 have a:(f.at s k.jd).Rest:=by unfold Ck.jd;split;exact h.put d b U U U U;have j:=h.core.g.qu;have e:=b.u;refine h.put d ⟨⟨by show(0:Int)<=4;decide,by show(4:Int)<=4;decide⟩,b.wt,by show(0:Nat)<=1024;decide,λr hr=>(by cases hr),by show((0:Nat):Int)<=f.g.qu;omega,by show((0:Nat):Int)+k.prom<=f.g.ou;omega,b.tok,b.de,b.sv,b.us⟩ U U U U
 exact⟨a,a.bQ _⟩
def eH.leave(h:eH g t f c)(p:c.S[i]? =Z s)(J:s.aw=aa)(l:f.Is i sx k):(f.at sx k.jd).sn/\eH g (t+1) (f.oX sx k) {c.late with S:=c.S.set i {s with aw:=M}}:=by
 let⟨G,H⟩:=h.rest.oX l.at_
 have L:=h.dO;have z:=(bY.1 p).1
 let⟨C,m,D,E⟩:=MA (f.at sx k.jd) f.K.length
 refine⟨G.core.stay,h.is,H,C.t h.gg,m.t h.stop,?_,?_,h.ck,λj x A=>?_,h.two,λd n a=>?_,λd n a w=>?_⟩;refine D.t (h.bF.t ?_);rw[jB];have e:(f.oX sx k).clock=f.clock:=E
 grind
 show x.ck<=c.ck/\x.u<(c.S.set i {s with aw:=M}).length/\0<=x.ln/\x.ln<=65535;rw[jB];exact h.one j x A;have a:=a
 by_cases b:i=d
 subst b;rw[iy z]at a;cases a;exact h.hd i s p;rw[gQ b]at a;exact h.hd d n a;have a:=a
 by_cases b:i=d
 subst b
 grind
 rw[gQ b]at a
 let⟨q,m,o,r,v⟩:=h.aC d n a w
 have B:sx≠q:=λe=>by subst e;have:=l.at_;rw[o]at this;cases this;have:=l.no;omega
 exact⟨q,iG.bQ (f:=f.at sx k.jd) ⟨m,(gQ B).t o,r,v⟩ _⟩
def eH.enter{j wt}(h:eH g t f c)(d:f.K[j]? =Z aj)(N:1<=wt/\wt<=4):eH g (t+1) (f.ku j wt) {c.late with S:=c.S++[⟨wt,⟨#[]⟩,aa⟩]}:=by
 have w:=(bY.1 d).1;have E:(f.jV j wt).K[j]? =Z (Z (Ck.fresh f.bF wt f.g.bu)):=iy w
 have hr:(f.ku j wt).Rest:=by
  have:=(h.rest.jV d N).send E gm
  have e:(f.jV j wt).send j (Ck.fresh f.bF wt f.g.bu) gm=(f.ku j wt,0):=by unfold Fx.send;rw[aI (by simp[Ck.fresh]),aI (show ¬1024<(Ck.fresh f.bF wt f.g.bu).aN.size+gm.size from(by decide:¬1024<(⟨#[]⟩:ByteArray).size+gm.size))];rfl
  rwa [e]at this
 have Q:=h.dO
 have r:(f.ku j wt).K=f.K.set j (Z ((Ck.fresh f.bF wt f.g.bu).send gm)):=by show(f.K.set j _).set j _=_;rw[pK]
 have G:∀b∈f.fl,b.s≠j:=λb u e=>by obtain⟨_,_,_,k,v⟩:=h.rest.core.jb b u;rw[e,d]at v;cases v
 have H:gO f.fl j=[]:=by
  have:∀l:av Jb,(∀b∈l,b.s≠j)->gO l j=[]:=λl=>by
   induction l with
   |nil=>exact λ_=>U
   |cons b l V=>
    intro u;show(if b.s=j then b.rs else[])++gO l j=[]
    grind
  exact this _ G
 refine⟨h.is,hr,h.gg,h.stop,?_,?_,h.ck,λo x m=>?_,h.two,λn q a=>?_,λn q a D=>?_⟩;show f.bF+1=(((c.S++[(⟨wt,⟨#[]⟩,aa⟩:Sl)]).length:Nat):Int);rw[fQ,tn,h.bF];rfl;show f.clock<=(t+1:Nat)/\(0<=c.now+1/\c.now+1<=(t+1:Nat))/\(c.S++[(⟨wt,⟨#[]⟩,aa⟩:Sl)]).length<=t+1+8/\c.W.length<=t+1/\c.dl<=16
 grind
 have:=h.one o x m
 grind
 have a:=a;rw[zH]at a;split at a;exact h.hd n q a;have:=jC a
 grind
 have a:=a;rw[zH]at a;split at a;obtain⟨z,P,p,B,C⟩:=h.aC n q a D
 have J:j≠z:=λe=>by grind
 exact⟨z,P,by rw[r];exact(gQ J).t p,B,C⟩;rename_i R;have p:=(bY.1 a).1;simp at p;have A:n=c.S.length:=Y;subst A;refine⟨j,(Ck.fresh f.bF wt f.g.bu).send gm,by rw[r];exact iy w,h.bF,[],[],[],[],az ⟨U,U,U,U⟩,?_,U,?_,U,λt L=>(by cases L),xS,λj d=>(by cases d),λj d=>(by cases d),λx O=>(by cases O),λo x m T _=>?_,y9,λ_ _ _ _ _ o m=>(by cases m),λj d=>(by cases d),λ_ _ _ hm=>(by cases hm)⟩;show((⟨#[]⟩:ByteArray)++gm).data.toList=_;rfl;show(gO f.fl j).map _=_;rw[H];rfl;have:=(h.one o x m).2.1;omega
end
def DO:∀(n:Nat) (l:av Nat),l.Nodup->(∀x∈l,x<n)->l.length<=n
 |0,l,_,h=>by
  cases l with
  |nil=>exact aR _
  |cons x l=>exact absurd (h x fJ) (rR _)
 |n+1,l,b,h=>by
  by_cases hm:n∈l
  have d:=DO n (l.erase n) (b.erase n) λx a=>by grind
  grind
  exact Nat.le_succ_of_le (DO n l b λx a=>by have i:=h x a;have j:x≠n:=λe=>hm (e▸a);omega)
def Ni(S:av Sl)(n:Nat):av Nat:=(dA n).filter λi=>match S[i]? with
 |some s=>!s.aw
 |none=>aa
def VL(S):∀n,n<=S.length->(Ni S n).length=gU (S.take n)
 |0,_=>rfl
 |n+1,h=>by
  obtain⟨s,a⟩:∃s,S[n]? =Z s:=⟨_,dj Y⟩;rw[VN a,<-VL S n Y];unfold Ni;rw[uB,zF,fQ]
  congr 1
  cases b:s.aw<;>simp[List.filter,a,b]
section
variable {g:Cf} {t:Nat} {f:Fx} {c:Cw}
def Ps{S n i}(h:i∈Ni S n):∃s,S[i]? =Z s/\s.aw=aa:=by
 have a:=(rO.1 h).2
 grind
def eH.dL(h:eH g t f c):∃l:av Nat,l.length=gU c.S/\l.Nodup/\∀x∈l,∃k,f.K[x]? =Z (Z k):=by
 have key:∀L:av Nat,L.Nodup->(∀i∈L,∃s,c.S[i]? =Z s/\s.aw=aa)->∃l:av Nat,l.length=L.length/\l.Nodup/\∀x∈l,∃k i,f.K[x]? =Z (Z k)/\k.no=(i:Nat)/\i∈L:=λL=>by
  induction L with
  |nil=>exact λ_ _=>⟨[],U,xS,λx hx=>by cases hx⟩
  |cons i L G=>
   intro C o
   let⟨a,d⟩:=vV.1 C
   let⟨l,v,w,m⟩:=G d λx hx=>o x (gC _ hx)
   let⟨s,E,A⟩:=o i fJ
   let⟨u,k,n,D,_⟩:=h.aC i s E A
   refine⟨u::l,by rw[gH,gH,v],vV.2 ⟨λhm=>?_,w⟩,λx hx=>?_⟩
   let⟨p,e,b,r,j⟩:=m u hm
   rw[n]at b;cases b;have:i=e:=Y;exact a (this▸j);rcases jh.1 hx with rfl|hx;exact⟨k,i,n,D,fJ⟩
   let⟨p,e,b,r,j⟩:=m x hx
   exact⟨p,e,b,r,gC _ j⟩
 let⟨l,a,d,z⟩:=key (Ni c.S c.S.length) (C3.sublist List.filter_sublist) λi B=>Ps B
 rw[VL _ _ (aR _),pM]at a;exact⟨l,a,d,λx hx=>by let⟨k,_,q,_⟩:=z x hx;exact⟨k,q⟩⟩
def eH.len(h:eH g t f c):(f.K.length:Int)=g.cl:=by
 have:=h.rest.core.len
 rwa [h.gg]at this
def eH.free{j:Nat}(h:eH g t f c)(k:f.K[j]? =Z aj):(gU c.S:Int)<g.cl:=by
 let⟨l,a,b,i⟩:=h.dL
 have e:j∉l:=λhm=>by grind
 have d:=DO f.K.length (j::l) (vV.2 ⟨e,b⟩) λx m=>by grind
 rw[gH,a]at d;have:=h.len;omega
def eH.full(h:eH g t f c)(p:∀i:Nat,f.K[i]? ≠Z aj):(gU c.S:Int)=g.cl\/gU c.S<c.S.length:=by
 have D:=VM c.S
 by_cases e:gU c.S<c.S.length
 exact az e;refine aA ?_
 let⟨l,A,u,B⟩:=h.dL
 have C:=DO f.K.length l u λx s=>by grind
 have v:=DO c.S.length ((dA f.K.length).map λx=>match f.K[x]? with
  |some (Z k)=>k.no.toNat
  |_=>0) (Fp.2 (qL (λ{a b} m z w n=>?_) C3)) λx s=>by obtain⟨a,m,rfl⟩:=jY.1 s;have q:=nD.1 m;rcases d:f.K[a]? with _|o;rw[dj q]at d;cases d;rcases o with _|k;exact absurd d (p a);have:=h.rest.core.lI a k d;have:=h.bF;show k.no.toNat<_;omega
 rw[pI,sy]at v;have:=h.len;omega;have q:=nD.1 m;rcases d:f.K[a]? with _|o;rw[dj q]at d;cases d;rcases o with _|k;exact p a d;rcases j:f.K[b]? with _|o;rw[dj (nD.1 z)]at j;cases j;cases o with
 |none=>exact p b j
 |some r=>
  rw[d,j]at n;have n:k.no.toNat=r.no.toNat:=n;have E:=h.rest.core.lI a k d;have G:=h.rest.core.lI b r j;exact w (h.rest.core.one a b k r d j Y)
end
def Fx.Host.bU{g f wt}{n:Nat}(hI:g.Is)(h:f.Host g wt n)(q:(n:Int)<=g.cl):eH g 0 f (nV wt n):=by
 have c:(nV wt n).S.length=n:=ay;have p:=hI.cl
 have at_:∀{i:Nat} {s:Sl},(nV wt n).S[i]? =Z s->i<n/\s=⟨wt i,⟨#[]⟩,aa⟩:=λ{i s} b=>by grind
 refine⟨hI,h.rest,h.gg,h.stop,by rw[c];exact h.bF,?_,⟨aR 0,cO _⟩,λj r a=>(by cases a),λj m r u a=>(by cases a),λi s b=>by rw[(at_ b).2],λi s b _=>?_⟩;rw[c];have o:=h.clock;refine⟨Y,⟨fI 0,fI 0⟩,Y,aR 0,by show(1:Int)<=16;decide⟩;have d:=(at_ b).1;refine⟨i,(Ck.fresh i (wt i) g.bu).send gm,h.uX i d,U,[],[],[],[],az ⟨U,U,U,U⟩,?_,U,?_,U,λt k=>(by cases k),xS,λj a=>(by cases a),λj a=>(by cases a),λx l=>(by cases l),λj x a=>(by cases a),y9,λ_ _ _ _ _ m e=>(by cases e),λj a=>(by cases a),λ_ _ _ hm=>(by cases hm)⟩;show((⟨#[]⟩:ByteArray)++gm).data.toList=_;rfl;rw[h.idle.2.1];rfl
structure EN(g:Cf)(n t:Nat)(f:Fx)(c:Cw):Prop where
 bU:eH g t f c
 vu:Vuq g n c.W c.now f
section
variable {g:Cf} {n t:Nat} {W V:av Wi} {now:Int} {f f':Fx} {c c':Cw} {k:Ck} {i sx:Nat} {s:Sl} {r:Wi} {b:Bool}
def Lg.entry(h:Lg g n V f){e}(he:e∈f.log):∃(j:Nat) (a:Wi),V[j]? =Z a/\e.Of a:=by obtain⟨q,m,_⟩:=h.hi;obtain⟨p,o⟩:=Km he;obtain⟨j,a,d,l,_⟩:=m.step p e o;exact⟨j,a,d,l⟩
def EN.cks(h:EN g n t f c)(e:En)(he:e∈f.log):e.ck<=c.ck:=by obtain⟨j,o,a,d⟩:=h.vu.lg.entry he;obtain⟨w,l,rfl⟩:=fp a;have:=(h.bU.one j w l).1;have m:e.ck=(w.ck:Int):=d.ck;omega
def EN.Zz(h:EN g n t f c){x}(hx:x∈f.Zz):x<=c.ck:=by
 rcases jg.1 hx with hx|hx;obtain⟨e,o,rfl⟩:=jY.1 hx;exact h.cks e o;obtain⟨x,d,rfl⟩:=jY.1 hx;obtain⟨b,a,q⟩:=BY.1 d;obtain⟨k,p⟩:=Core.kA h.bU.rest.core b a;obtain⟨j,v,l,u,_⟩:=(h.vu.lg.fl b a).2.2 k p x q;obtain⟨w,m,rfl⟩:=fp l;have:=(h.bU.one j w m).1
 grind
def cn{j x}(h:(V++[r])[j]? =Z x):V[j]? =Z x\/(j=V.length/\x=r):=by grind
def Lg.grow(h:Lg g n V f)(J:r.Good g)(hf:∀(j:Nat) x,V[j]? =Z x->x.ck≠r.ck)(C:(r.ck:Int)∉f.Zz):Lg g n (V++[r]) f:=by
 refine⟨λb H=>?_,λi j x d q m e=>?_,λj d m=>(cn m).e (h.gd j d) λe=>by rw[e.2];exact J,h.nd,h.ap,λi j x d q m z A hm=>?_,λi j x d q m z A N p e u w=>?_,h.dk,?_⟩
 ·obtain⟨a1,D,a3⟩:=h.fl b H;refine⟨a1,D,λk K x O=>?_⟩;obtain⟨j,d,b1,E⟩:=a3 k K x O;exact⟨j,d,Da b1 r,E⟩
 rcases cn q with a|⟨a,o⟩<;>rcases cn m with l|⟨l,v⟩;exact h.two i j x d a l e;exact absurd (e.t (by rw[v])) (hf i x a);exact absurd (e.y.t (by rw[o])) (hf j d l);omega;rcases cn q with a|⟨a,o⟩;have L:=(bY.1 a).1;rcases cn m with l|⟨l,v⟩;exact h.dc i j x d a l z A hm;omega;rw[o]at hm;exact absurd hm C;rcases cn q with a|⟨a,o⟩;have L:=(bY.1 a).1;rcases cn m with l|⟨l,v⟩;exact h.od i j x d a l z A N p e u w;omega;rw[o]at w;exact absurd (Fl _ (jY.2 ⟨e,jC u,w⟩)) C;obtain⟨P,B,G⟩:=h.hi;refine⟨P,⟨B.zero,λp e u=>?_⟩,G⟩;obtain⟨j,d,a,l⟩:=B.step p e u;exact⟨j,d,Da a r,l⟩
def EN.stay(h:EN g n t f c):EN g n (t+1) f c.late:=⟨h.bU.stay,h.vu.lg,h.vu.bk.late (by show c.now<=c.now+1;omega),h.vu.sit⟩
def EN.tick(d:g.sz=4*(n:Int))(h:EN g n t f c)(e:t<1073741824):EN g n (t+1) f.tick c.late:=by
 have a:f.clock<1073741824:=by have:=h.bU.dO.1;omega
 have v:=h.vu.tick d h.bU.wo h.bU.rest a h.bU.gg h.bU.stop;exact⟨h.bU.tick (h.vu.lg.hot h.bU.rest.core) e,v.lg,v.bk.late (by show c.now<=c.now+1;omega),v.sit⟩
def EN.dG{d'}(h:EN g n t f c)(d:f'.Rest)(a:f'=f\/∃u,f'=f.sI u/\1<=u.delay/\u.delay<=d')(e:c.dl<=d'/\d'<=16):EN g n (t+1) f' {c.late with dl:=d'}:=by refine⟨h.bU.dG d a e,?_⟩;have hv:Vuq g n c.W (c.now+1) f:=⟨h.vu.lg,h.vu.bk.late Y,h.vu.sit⟩;rcases a with rfl|⟨u,rfl,_⟩;exact hv;have m:LM f (f.sI u):=⟨λs k j=>⟨k,j,U,id⟩,U,U,U⟩;exact⟨m.lg hv.lg,hv.bk,hv.sit⟩
def EN.enter{j wt}(h:EN g n t f c)(o:f.K[j]? =Z aj)(v:1<=wt/\wt<=4):EN g n (t+1) (f.ku j wt) {c.late with S:=c.S++[⟨wt,⟨#[]⟩,aa⟩]}:=by
 have l:=h.bU.enter o v
 have p:(f.ku j wt).K=f.K.set j (Z ((Ck.fresh f.bF wt f.g.bu).send gm)):=by show(f.K.set j _).set j _=_;rw[pK]
 have z:=(bY.1 o).1;refine⟨l,h.vu.lg.same (λb q A x=>?_) U U U,h.vu.bk.late (by show c.now<=c.now+1;omega),λs k m=>?_⟩;obtain⟨k,w⟩:=Core.kA h.bU.rest.core b q
 grind
 have u:=m;rw[p]at m;rcases oy m with⟨rfl,rfl⟩|⟨_,e⟩;obtain⟨sx,d,a1,a,a3⟩:=l.aC c.S.length ⟨wt,⟨#[]⟩,aa⟩ (by show(c.S++[_])[c.S.length]? =_;simp) U;have:=l.rest.core.one sx s d _ a1 u (a.t h.bU.bF.y);subst this;exact .inr ⟨c.S.length,d,a1,a,a3⟩;refine(h.vu.sit s k e).imp id λ⟨i,d,a1,a,a3⟩=>⟨i,d,?_,a,a3⟩
 grind
def ca.bQ(h:ca f λi s=>iG g W i s f)(m):ca (f.bQ m) λi s=>iG g W i s (f.bQ m):=h.to (fw mS _ _).kt λi s a=>a.bQ m
def EN.leave(h:EN g n t f c)(a:c.S[i]? =Z s)(j:s.aw=aa)(d:f.Is i sx k):(f.at sx k.jd).sn/\EN g n (t+1) (f.oX sx k) {c.late with S:=c.S.set i {s with aw:=M}}:=by
 obtain⟨o,p⟩:=h.bU.leave a j d;have x:=(h.bU.Jp a j d).open
 have l:k.jd.nJ:=by unfold Ck.jd;rw[aI Y];exact⟨U,U⟩
 have u:k.jd.no=k.no:=by unfold Ck.jd;split<;>rfl
 have m1:=et d.at_ u λ_=>l;have m2:LM f (f.oX sx k):=m1.t (fw mS _ _);refine⟨o,p,m2.lg h.vu.lg,by rw[m2.log];exact h.vu.bk.late (by show c.now<=c.now+1;omega),ca.bQ (λs v a=>?_) _⟩;rcases oy a with⟨rfl,rfl⟩|⟨q,e⟩;exact .inl l;exact(h.vu.sit s v e).imp id λ⟨i,w,a1,m,a3⟩=>⟨i,w,(gQ (dB q)).t a1,m,a3⟩
def Fx.Is.ne(a:f.Is i sx k)(hc:f.Core){i' s'}(h:iG g W i' s' f)(j:s'≠sx):i'≠i:=λe=>by obtain⟨l,a1,d,_⟩:=h;exact j (hc.one s' sx l k a1 a.at_ (by rw[d,a.no,e]))
def EN.ask(h:EN g n t f c)(L:c.S[i]? =Z s)(J:s.aw=aa)(l:f.Is i sx k)(uW:c.ck<60000)(A:CI g f c.late i sx k b f' c' r):b=M/\EN g n (t+1) f' c':=by
 obtain⟨T,X⟩:=h.bU.ask (by have:=h.bU.dO;omega) h.cks L J l uW A;refine⟨T,X,?_⟩;have q:=h.bU.Jp L J l;have hp:=q.open;obtain⟨a1,H,a3⟩:=A.is;have H:r.ck=c.ck+1:=H;have a3:r.at_=c.now+1:=a3
 have aE:f.send sx k r.dV=(f,6)\/f.send sx k r.dV=(f.at sx (k.send r.dV),0):=by
  unfold Fx.send
  grind
 have w:=h.vu.bk.late (ara:=c.now+1) Y;rcases aE with e|e;rcases A.u with⟨_,o1,a,B⟩|⟨o,_⟩;rw[e]at a;have a:f'=f:=a;subst a B;exact⟨h.vu.lg,w,h.vu.sit⟩;rw[e]at o;exact absurd U o;rcases A.u with⟨o,_⟩|⟨_,o1,a,B⟩;rw[e]at o;exact absurd o (by show ¬(0:Int)=6;decide);rw[e]at a;have a:f'=f.at sx (k.send r.dV):=a;subst a B;have fresh:∀(j:Nat) x,c.W[j]? =Z x->x.ck≠r.ck:=λj x d=>by have:=h.bU.one j x d;omega
 have off:(r.ck:Int)∉f.Zz:=λhm=>by have:=h.Zz hm;omega
 have ak:r.base=r:=by have:=A.good.er;unfold Wi.base;rw[<-this.1,<-this.2.1,<-this.2.2]
 have m:=et (k':=k.send r.dV) l.at_ U λh=>absurd h.1 Y;refine⟨?_,⟨λj x d=>?_,λi j x aN hi d h0 hl p e u z=>?_⟩,λs' k' aD=>?_⟩;show Lg g n ((c.W++[r]).map Wi.base) _;rw[sV];refine m.lg (Lg.grow h.vu.lg (show r.base.Good g by rw[ak];exact A.good) (λj x d=>?_) off)
 grind
 rcases cn d with v|⟨_,rfl⟩;exact w.one j x v;exact⟨by show x.at_<=c.now+1;omega,.inl A.good.er.2.2⟩;rcases cn d with h4|⟨_,R⟩;rcases cn hi with v|⟨_,Q⟩;exact w.nQ i j x aN v h4 h0 hl p e u z;rw[Q]at z;exact absurd (Fl _ (jY.2 ⟨e,jC u,z⟩)) off;have:=A.good.er.2.2;rw[R]at h0;omega;rcases oy aD with⟨rfl,rfl⟩|⟨K,P⟩;obtain⟨D,G,E,C,q⟩:=q;exact .inr ⟨i,k.send r.dV,iy (bY.1 l.at_).1,l.no,D++[c.W.length],G,E,C,q.send a1 A.good fresh λe u=>by have:=h.cks e u;omega⟩;refine(h.vu.sit s' k' P).imp id λ⟨i',N⟩=>⟨i',?_⟩;have aQ:=l.ne h.bU.rest.core N K;obtain⟨k2,b1,O,D,G,E,C,ah⟩:=N;exact⟨k2,(gQ (dB K)).t b1,O,D,G,E,C,ah.other Y⟩
def PQ(ts W):(dS now W ts).map Wi.base=W.map Wi.base:=by
 refine uU (P:=λb:av Wi=>b.map Wi.base=W.map Wi.base) (λb a d=>?_) ts W U;unfold Tk.on;split;exact d;rename_i j e x;split;rename_i r hr;rw[Fj];refine Eq.t ?_ d;apply ux
 grind
 exact d
def EN.take(h:EN g n t f c)(X:c.S[i]? =Z s)(O:s.aw=aa)(o:f.Is i sx k):∃a,k.u.data.toList=a.flatMap (iY c.W)/\(∀t∈a,mU i c.W t)/\(a.filterMap Tk.no).Nodup/\EN g n (t+1) (f.take sx k 1099511627776) {c.late with W:=dS (c.now+1) c.W a}:=by
 have bg:=h.bU.dO;obtain⟨un,wq,wf,a,m,J⟩:=h.bU.take (n:=c.now+1) Y X O o;have ho:=(h.bU.rest.core.cl sx k o.at_).1.u;have bq:=(h.bU.rest.core.cl sx k o.at_).2.2;have Vj:=h.bU.rest.core.prom sx;have bp:=h.bU.rest.core.g.ou;have v:=Yy k Y;have bn:=m.ph;have m1:LM f (f.at sx (k.takes 1099511627776)):=et o.at_ (by rw[v]) λP=>absurd P.1 Y;have m2:LM f (f.take sx k 1099511627776):=m1.t (fw mS _ _);have u:=h.vu.bk;refine⟨a,m.u,m.tk,(Ca.1 m.nd).2.1,J,?_,?_,ca.bQ (f:=f.at sx (k.takes 1099511627776)) (λs' k' af=>?_) _⟩;show Lg g n ((dS (c.now+1) c.W a).map Wi.base) _;rw[PQ];exact m2.lg h.vu.lg;show Bk (dS (c.now+1) c.W a) (c.now+1) _;rw[m2.log]
 have w:∀{j:Nat} {x:Wi},(dS (c.now+1) c.W a)[j]? =Z x->∃d,c.W[j]? =Z d/\x.ck=d.ck/\x.at_=d.at_/\(x=d\/x.bk=c.now+1/\∃e∈f.log,e.ck=x.ck/\e.er=x.er/\e.tx=x.tx.data.toList):=λ{j x} l=>by
  cases e:c.W[j]? with
  |none=>rw[DW a c.W e]at l;cases l
  |some d=>
   by_cases hm:j∈a.filterMap Tk.no
   obtain⟨A,z,K,L⟩:=AV (now:=c.now+1) a c.W d hm e;rw[L]at l;cases l;obtain⟨H,q1,D,q3,q4⟩:=m.tq _ _ _ K;rw[Gv e]at D;exact⟨d,U,U,U,.inr ⟨U,H,q1,D,q3,q4⟩⟩;rw[tS a c.W hm,e]at l
   grind
 refine⟨λj x l=>?_,λi j x d R l h0 hl p e Q hc=>?_⟩;obtain⟨d,b1,q,G,b4⟩:=w l;obtain⟨d1,d2⟩:=u.one j d b1
 grind
 obtain⟨E,b1,q,G,_⟩:=w R;obtain⟨y0,d1,d2,d3,d4⟩:=w l;have:=(u.one i E b1).1;rcases d4 with rfl|⟨d4,_⟩;exact u.nQ i j E d b1 d1 h0 Y p e Q Y;omega;rcases oy af with⟨rfl,rfl⟩|⟨B,A⟩;refine .inr ⟨i,k.takes 1099511627776,iy (bY.1 o.at_).1,by rw[v];exact o.no,un,wq,wf,[],?_⟩;rw[v];exact m.takes Y rfl rfl rfl rfl rfl;refine(h.vu.sit s' k' A).imp id λ⟨i',C⟩=>⟨i',?_⟩;have T:=o.ne h.bU.rest.core C B;obtain⟨k2,b1,q,aL,aT,aQ,aJ,N⟩:=C;exact⟨k2,(gQ (dB B)).t b1,q,aL,aT,aQ,aJ,N.took (dB T) Y m.tk⟩
def H4(hI:g.Is)(a:g.sz=4*(n:Int)):tI g (λ_ _=>True) (EN g n) where
 is:=hI
 run h:=⟨h.bU.rest,h.bU.gg,h.bU.stop,h.bU.bF⟩
 dO h:=h.bU.dO
 wo h:=h.bU.wo
 aC h hs ha:=h.bU.Ho hs ha
 stay h:=h.stay
 tick _ h ht:=h.tick a ht
 dG h h1 h2 h3:=h.dG h1 h2 h3
 full h hj:=h.bU.full hj
 free h hj:=h.bU.free hj
 enter h hj _ hw:=h.enter hj hw
 ask _ h hs ha hu uW A:=h.ask hs ha hu uW A
 take _ h hs ha hu:=h.take hs ha hu
 leave _ h hs ha hu:=h.leave hs ha hu
def Nd(m k)(a:k<m):Wm (qo (4*m)) k=[0,0,0,0]:=by unfold Wm ql qo;rw[Array.toList_replicate,List.drop_replicate,List.take_replicate,uE Y];rfl
def Fx.Host.voy{wt m}(hI:g.Is)(J:g.sz=4*(n:Int))(h:f.Host g wt m)(hm:(m:Int)<=g.cl):EN g n 0 f (nV wt m):=by
 have C:=h.bU hI hm
 have E:f.dk=⟨qo (4*n),qo (4*n),[]⟩:=by rw[h.zero.2,h.gg,J,show((4*(n:Int)).toNat)=4*n by omega]
 have D:(qo (4*n)).size=4*n:=by simp[qo]
 have o:=h.idle.2.1;have K:f.Zz=[]:=by unfold Fx.Zz;rw[h.zero.1,o];rfl
 refine⟨C,⟨λb v=>(by rw[o]at v;cases v),λi j x l a=>(by cases a),λj l q=>(by cases q),by rw[K];exact xS,by rw[o];exact y9,λi j x l a=>(by cases a),λi j x l a=>(by cases a),by rw[E];exact⟨D,D,λc H=>(by cases H),λk=>U⟩,λ_ k=>f.dk.sec k,⟨λk d=>?_,λp e z=>by rw[h.zero.1]at z;cases z⟩,λk=>U⟩,⟨λj w q=>(by cases q),λi j x l a=>(by cases a)⟩,λs k d=>?_⟩;rw[E];show cc.mk (Wm (qo (4*n)) k) (Wm (qo (4*n)) k) []=_;rw[Nd n k d]
 by_cases B:s<m
 obtain⟨sx,G,a1,u,a3⟩:=C.aC s ⟨wt s,⟨#[]⟩,aa⟩ (by show((dA m).map _)[s]? =_;rw[qC,List.getElem?_range B];rfl) U;have A:=h.uX s B;rw[d]at A;cases A;have:=h.rest.core.one sx s G _ a1 d u;subst this;exact .inr ⟨sx,G,a1,u,a3⟩;rw[h.u s Y (bY.1 d).1]at d;cases d
end
def kj(W:av Wi)(ck:Int):Wi:=(W.find? λr=>decide ((r.ck:Int)=ck)).getD ⟨0,0,0,0,0,0,⟨#[]⟩,0,-1,0,⟨#[]⟩⟩
def bc(W:av Wi)(lo:av En)(n:Nat):Nat->Nat->Nat->av ByteArray
 |0=>λt _=>LX t
 |p+1=>match lo[p]? with
  |some e=>ax (bc W lo n p) n (e.of / 4).toNat (e.ln / 4).toNat (kj W e.ck) e.er
  |none=>bc W lo n p
abbrev a7(l:av UInt8):ByteArray:=⟨l.toArray⟩
structure kh(n:Nat)(σ:Nat->cc)(X:Nat->Nat->av ByteArray):Prop where
 now:∀k,k<n->a7 (σ k).b∈X 0 k
 sure:∀k,k<n->a7 (σ k).d∈X 1 k
 later:∀k,k<n->∀v∈(σ k).c,a7 v∈X 2 k
section
variable {g:Cf} {n q m:Nat} {W:av Wi} {σ σ':Nat->cc} {X:Nat->Nat->av ByteArray} {r:Wi} {er:Int}
def Hq(h:∀(i j:Nat) x a,W[i]? =Z x->W[j]? =Z a->x.ck=a.ck->i=j){j:Nat}(l:W[j]? =Z r):kj W r.ck=r:=by
 unfold kj;rcases e:W.find? λx=>decide ((x.ck:Int)=(r.ck:Int))with _|x
 grind
 have d:=List.find?_some e;have b:=List.mem_of_find?_eq_some e;obtain⟨i,k⟩:=Km b
 grind
def xG:∀c:Nat,BN [0] c=List.replicate c 0
 |0=>rfl
 |c+1=>by show[0]++BN [0] c=_;rw[xG c];rfl
def my{s}(i):Bd s i=a7 (ql s.data.toList i):=by unfold Bd a7 ql;refine rG (BB.1 ?_);rw[rE,zz,Kh,show 4*i+4-4*i=4 by omega]
def K3{i}(b:r.Good g)(hl:r.ln=4*(m:Int))(d:i<m)(a:r.msg.wr):r.vB i=a7 (r.msg.sv i):=by
 unfold Wi.vB bh.sv Rq.piece;rcases a with e|e|e
 ·have e:=e;rw[aO e,my]
  grind
 all_goals
  have e:r.kd=_:=e;rw[aI Y];show _=a7 (ql (if r.kd=1 then _ else if r.kd=3\/r.kd=4 then BN [0] r.ln.toNat else[]) i);rw[aI Y,aO Y,xG];unfold a7 ql
  grind
def kh.did(h:kh n σ X)(x:r.base.Good g)(D:r.of=4*(q:Int))(hl:r.ln=4*(m:Int))(hd:∀k,bj r.msg er k (σ k) (σ' k))(he:er=0\/er=5)(hr:r.kd=0->er=0->0<=r.bk->∀i,i<m->Bd r.tx i=a7 (σ (q+i)).b):kh n σ' (ax X n q m r er):=by
 have a:0<=r.kd/\r.kd<=4:=x.kd;unfold ax
 by_cases p:r.kd=0
 have j:∀k,σ' k=σ k:=λk=>by have:=hd k;unfold bj at this;rw[aI (by show ¬(r.kd=2/\_);omega),aI (by show ¬((r.kd=1\/r.kd=3\/r.kd=4)/\_);omega)]at this;exact this
 rw[aO p];split;rename_i u;refine⟨λk a=>?_,λk a=>by rw[j];exact h.sure k a,λk a=>by rw[j];exact h.later k a⟩;rw[j];unfold ae;split;rename_i o;rw[hr p u.1 u.2 (k-q) Y,show q+(k-q)=k by omega];exact iz.2 U;exact h.now k a;exact⟨λk a=>by rw[j];exact h.now k a,λk a=>by rw[j];exact h.sure k a,λk a=>by rw[j];exact h.later k a⟩;rw[aI p]
 by_cases s:r.kd=2
 rw[aO s];split;rename_i e0
 have j:∀k,σ' k=⟨(σ k).b,(σ k).b,[]⟩:=λk=>by
  have:=hd k;unfold bj at this
  rwa [aO ⟨s,e0⟩]at this
 unfold ai;refine⟨λk a=>?_,λk a=>?_,λk a v hv=>?_⟩;rw[j,aO a];exact h.now k a;rw[j,aO a];exact h.now k a;rw[j]at hv;cases hv;rename_i e0
 have j:∀k,σ' k=σ k:=λk=>by have:=hd k;unfold bj at this;rw[aI λe=>e0 e.2,aI (by show ¬((r.kd=1\/r.kd=3\/r.kd=4)/\_);omega)]at this;exact this
 exact⟨λk a=>by rw[j];exact h.now k a,λk a=>by rw[j];exact h.sure k a,λk a=>by rw[j];exact h.later k a⟩;rw[aI s];have z:r.msg.wr:=by show r.kd=1\/r.kd=3\/r.kd=4;omega
 have C:r.of.toNat / 4=q:=Y
 have key:∀k,if q<=k/\k<q+m then(if er=0 then σ' k=if r.fl=1 then⟨r.msg.sv (k-q),r.msg.sv (k-q),[]⟩else⟨r.msg.sv (k-q),(σ k).d,(σ k).c++[r.msg.sv (k-q)]⟩else σ' k=σ k\/σ' k=⟨r.msg.sv (k-q),(σ k).d,(σ k).c++[r.msg.sv (k-q)]⟩)else σ' k=σ k:=λk=>by
  have:=hd k;unfold bj at this;rw[aI (by show ¬(r.kd=2/\_);omega)]at this
  by_cases o:q<=k/\k<q+m
  rw[aO ⟨z,by show r.of<=4*(k:Int)/\4*(k:Int)<r.of+r.ln;omega⟩]at this;rw[aO o];have A:=C
  rwa [A]at this
  rw[aI λe=>o (by have:=e.2;have:r.of<=4*(k:Int)/\4*(k:Int)<r.of+r.ln:=this;omega)]at this;rw[aI o];exact this
 have hv:∀i,i<m->r.vB i=a7 (r.msg.sv i):=λi B=>K3 (g:=g) (r:=r.base) x hl B z;unfold JL;refine⟨λk a=>?_,λk a=>?_,λk a v l=>?_⟩
 all_goals
  have hkey:=key k
  by_cases o:q<=k/\k<q+m
 all_goals first
  |(rw[aI o]at hkey
    rw[aI λe=>o e.2]
    first
     |(rw[hkey];exact h.now k a)
     |(rw[hkey];exact h.sure k a)
     |(rw[hkey]at l;exact h.later k a v l))
  |skip
 all_goals
  rw[aO o]at hkey;rw[aO ⟨aM,o⟩,hv (k-q) Y];unfold ei;rcases he with e0|e0
 all_goals
  subst e0;simp only[reduceIte,Int.reduceEq,dN,dM]at hkey⊢
  first
   |(by_cases w:r.fl=1
     rw[aO w]at hkey⊢
     first
      |(rw[hkey];exact iz.2 rfl)
      |(rw[hkey]at l;cases l)
     rw[aI w]at hkey⊢
     first
      |(rw[hkey];exact iz.2 rfl)
      |(rw[hkey];exact h.sure k a)
      |(rw[hkey]at l
        rcases jg.1 l with h1|h1;exact Fl _ (h.later k a v h1);rw[iz.1 h1];exact Kq _ (iz.2 rfl)))
   |(rcases hkey with hkey|hkey
     first
      |(rw[hkey];exact Fl _ (h.now k a))
      |(rw[hkey];exact h.sure k a)
      |(rw[hkey]at l;exact Fl _ (h.later k a v l))
     first
      |(rw[hkey];exact Kq _ (iz.2 rfl))
      |(rw[hkey];exact h.sure k a)
      |(rw[hkey]at l
        rcases jg.1 l with h1|h1;exact Fl _ (h.later k a v h1);rw[iz.1 h1];exact Kq _ (iz.2 rfl)))
def Pn{aqe}(h:∀t k,(X t k).length<=aqe+1)(t k):(ax X n q m r er t k).length<=aqe+1+1:=by
 have a:=h t k;have b:=h 0 k;unfold ax;split;split;unfold ae
 grind
 omega;split;split;unfold ai
 grind
 omega;unfold JL;split
 ·unfold ei
  repeat' split
  all_goals first
   |(rw[fQ,tn];omega)
   |(show 0<=_;omega)
   |(show 1<=_;omega)
   |omega
 omega
end
section
variable {g:Cf} {n t:Nat} {f:Fx} {c:Cw}
def Hb{j u:Type}{d:j->u}{l:av j}(h:(l.map d).Nodup){p q:Nat}{a b}(i:l[p]? =Z a)(s:l[q]? =Z b)(e:d a=d b):p=q:=by
 have k:(l.map d)[p]? =Z (d a):=by rw[qC,i];rfl
 have o:(l.map d)[q]? =Z (d b):=by rw[qC,s];rfl
 exact(List.getElem?_inj (by rw[pI];exact(bY.1 i).1) h).1 (k.t (by rw[o,e]))
def EN.row(h:EN g n t f c)(hn:g.sz=4*(n:Int))(ht:t<1073741824):mf n (f.log.length+1) c.W f.log (bc c.W f.log n)/\kh n f.dk.sec (bc c.W f.log n f.log.length):=by
 have hI:=h.bU.is;have P:=h.vu.lg;have hB:=h.vu.bk;obtain⟨σ,V,hE⟩:=P.hi;have bE:=hI.sz;have bA:=h.bU.rest.log;have bw:=h.bU.dO.1;have uW:=h.bU.ck;have bn:=(Ca.1 P.nd).1;have nd:∀(p q:Nat) e A,f.log[p]? =Z e->f.log[q]? =Z A->e.ck=A.ck->p=q:=λp q e A o l s=>Hb bn o l s;have two:∀(i j:Nat) x N,c.W[i]? =Z x->c.W[j]? =Z N->x.ck=N.ck->i=j:=λi j x N o l e=>P.two i j _ _ (da o) (da l) e;have T:∀(j:Nat) r,c.W[j]? =Z r->r.base.Good g:=λj r G=>P.gd j _ (da G)
 have ent:∀(p:Nat) e,f.log[p]? =Z e->∃(j q m:Nat) (r:Wi),c.W[j]? =Z r/\(e.no=r.u/\e.ck=r.ck/\e.kd=r.kd/\e.fl=r.fl/\e.of=r.of/\e.ln=r.ln)/\(r.of=4*(q:Int)/\r.ln=4*(m:Int)/\q+m<=n)/\(e.er=0\/e.er=5)/\(0<=r.bk->r.er=e.er/\r.tx.data.toList=e.tx)/\(∀k,bj r.msg e.er k (σ p k) (σ (p+1) k))/\(r.kd=0->e.er=0->0<=r.bk->r.tx.size=4*m/\∀i,i<m->Bd r.tx i=a7 (σ p (q+i)).b)/\bc c.W f.log n (p+1)=ax (bc c.W f.log n p) n q m r e.er:=λp e z=>by
  obtain⟨j,N,o,l,s,O⟩:=V.step p e z;obtain⟨r,H,rfl⟩:=fp o;have C:=T j r H;have bD:0<=r.of/\r.of %4=0/\r.ln %4=0/\r.of+r.ln<=g.sz/\r.ln<=g.mx:=C.of;have MV:if r.kd=2 then r.of=0/\r.ln=0 else 4<=r.ln:=C.ln
  have bz:0<=r.ln:=by split at MV<;>omega
  have o1:e.of=r.of:=l.of;have o2:e.ln=r.ln:=l.ln;have o3:e.ck=(r.ck:Int):=l.ck;have o4:e.kd=r.kd:=l.kd
  have aH:0<=r.bk->r.er=e.er/\r.tx.data.toList=e.tx:=λw=>by rcases(hB.one j r H).2 with D|⟨_,A,D,E,J,h9⟩;omega;obtain⟨K,S⟩:=Km D;have:=nd K p A e S z (E.t o3.y);subst this;rw[z]at S;cases S;exact⟨J.y,h9.y⟩
  refine⟨j,(e.of / 4).toNat,(e.ln / 4).toNat,r,H,⟨l.no,o3,o4,l.fl,o1,o2⟩,⟨Y,Y,Y⟩,l.er,aH,s,λk0 e0 w=>?_,?_⟩;obtain⟨B,b1,b2,b3⟩:=O (o4.t k0)
  have b4:r.tx.data.toList=(B.extract e.of.toNat (e.of.toNat+e.ln.toNat)).toList:=by rw[(aH w).2,b3];unfold lO;rw[aO ⟨o4.t k0,e0⟩]
  have b5:r.tx.data.toList.length=r.tx.size:=lQ
  have b6:(B.extract e.of.toNat (e.of.toNat+e.ln.toNat)).toList.length=e.ln.toNat:=by rw[lQ,Array.size_extract];omega
  refine⟨by rw[<-b5,b4,b6];omega,λi Q=>?_⟩;rw[my,b4,b2];refine congrArg a7 (km λx hx=>?_);rw[zz,Kh,vP,aO Y,List.getElem?_drop]
  congr 1
  omega
  show(match f.log[p]? with
   |some e=>ax (bc c.W f.log n p) n (e.of / 4).toNat (e.ln / 4).toNat (kj c.W e.ck) e.er
   |none=>bc c.W f.log n p)=_
  rw[z];show ax _ n _ _ (kj c.W e.ck) e.er=_;rw[o3,Hq two H]
 have sea:∀p,p<=f.log.length->kh n (σ p) (bc c.W f.log n p):=λp=>by
  induction p with
  |zero=>
   refine λ_=>⟨λk R=>?_,λk R=>?_,λk R v hv=>?_⟩;rw[V.zero k R];exact iz.2 U;rw[V.zero k R];exact iz.2 U;rw[V.zero k R]at hv;cases hv
  |succ p ih=>
   intro L;obtain⟨e,z⟩:∃e,f.log[p]? =Z e:=⟨_,dj Y⟩;obtain⟨j,q,m,r,o,l,s,O,H,D,E,J⟩:=ent p e z;rw[J];exact(ih Y).did (T j r o) s.1 s.2.1 D O λa b d=>(E a b d).2
 have bq:∀p,p<=f.log.length->∀t k,(bc c.W f.log n p t k).length<=p+1:=λp=>by
  induction p with
  |zero=>
   intro _ t k;show(LX t).length<=1;unfold LX;split<;>decide
  |succ p ih=>
   intro L;obtain⟨e,z⟩:∃e,f.log[p]? =Z e:=⟨_,dj Y⟩;obtain⟨j,q,m,r,_,_,_,_,_,_,_,J⟩:=ent p e z;rw[J];exact Pn (ih Y)
 refine⟨⟨⟨Y,Y,Y⟩,⟨Y,Y⟩,two,λj r G=>?_,nd,U,λp t k L=>?_,λp e z=>?_,λj r G w=>?_,λi j p q x N e A Q G L hc hq aK bB=>⟨λw=>?_,λw=>?_⟩⟩,?_⟩;have C:=(T j r G).small hI;exact⟨C.1.1,C.1.2,C.2.1.1,C.2.1.2⟩;have:=bq p L t k;omega;obtain⟨j,q,m,r,o,l,s,O,H,D,E,J⟩:=ent p e z;have C:=T j r o;refine⟨j,q,m,r,o,l,s,C.kd,λk1=>?_,O,λw=>(H w).1,λa b d=>⟨(E a b d).1,λi Q=>?_⟩,J⟩;have hd:r.dt=if r.kd=1 then qx r.ck (r.ln / 4).toNat else⟨#[]⟩:=C.dt
 rw[hd,aO k1,IS];omega;rw[(E a b d).2 i Q];exact(sea p (oI (bY.1 z).1)).now _ Y;rcases(hB.one j r G).2 with D|⟨_,A,D,E,_⟩;omega;obtain⟨K,S⟩:=Km D;exact⟨K,A,S,E⟩;obtain⟨K,e2,o,l,s⟩:=hB.nQ i j x N Q G w.1 w.2 p e L hc;have:=nd K q e2 A l hq (s.t aK.y);omega
 ·obtain⟨K,e2,o,l,s⟩:=P.od i j _ _ (da Q) (da G) w.1 w.2.1 w.2.2 p e L hc;have:=nd K q e2 A l hq (s.t aK.y);omega
 have:=sea f.log.length (aR _);rw[show σ f.log.length=f.dk.sec from funext hE]at this;exact this
end
section
attribute [local go_sem] cz cE Dj Dl vB
open Go.ConcR (Payload)
def Iy[an](x):iq f6 x=iq f6 (dU (dR 6) x):=by have h:(dU (dR 6) x).getD 4 y=x.getD 4 y:=zm (a:=⟨x,[]⟩) (i:=4) aM;simp only[iq,results6,BW,vU,BV,h]
def PH[an](cb sa ls cs ρ)(b:VR ρ (pt cb) (pt cb)):∀(i:Nat) (v:aB),(Frame.enter prog 6 #[pt cb,ζ sa ls cs] .normal).tmps[i]? =Z v->i∉dR 6->VR ρ v v:=
 GC func6 (body:=nS f6) aW λi v h a=>by
  match i,a with
  |0,_=>simp at h;subst h;exact b
  |1,a=>exact absurd aM a
  |n+2,_=>simp at h
section
variable [an] [Payload] {l:av aZ} {u:aq} {g:Cf} {cb xb n t:Nat} {f:Fx} {c:Cw} {m:Cm} {keep:ByteArray}
def vt(p:Fit prog l)(r:an.ok 7)(B:fj u g cb xb f c m)(o:f.C.length<=1099511627776)(q:keep.size<=1099511627776)(h0:0<f.B.size):
  dX prog 7 #[pt xb,ξ keep] u λe s=>∃a,a.Sublist f.C/\(keep.size=0->a=[])/\e=aG (ξ ⟨qT f.D a⟩)/\fj s g cb xb f c m:=by
 refine dX.lift p r (λe u b ⟨a,d,i,j,k⟩=>⟨a,d,i,j,k.tp b⟩) (λe u ⟨a,_,_,h,_⟩=>⟨_,h⟩) λb=>?_;obtain⟨L,T⟩:=B.tp b;refine(He xb f L keep (u.tp b) T.fx o q h0).m ?_;rintro e v ⟨a,d,i,j,k⟩;exact⟨a,d,i,j,L,T.old k.2⟩
def K4{X aqe}(p:Fit prog l)(r:an.ok 8)(B:fj u g cb xb f c m)(q:g.sz=4*(n:Int))(R:mf n aqe c.W f.log X):
  dX prog 8 #[pt cb] u λe j=>∃a rv,e=aG (pt a)/\eU j a rv (X f.log.length) n/\fj j g cb xb f c m:=by
 refine dX.lift p r (λe u b ⟨a,rv,d,i,k⟩=>⟨a,rv,d,i.old λ_ _=>U,k.tp b⟩) (λe u ⟨a,rv,h,_⟩=>⟨_,h⟩) λb=>?_;obtain⟨L,T⟩:=B.tp b;refine(Nf cb xb g f c L m (u.tp b) T n aqe X q R).m ?_;rintro e s ⟨a,rv,d,i,_,o⟩;exact⟨a,rv,d,i,L,T.old o⟩
def pB{aqg sb rv v aqi}(s)(k:Fit prog l)(o:an.ok 9)(B:eU u sb rv aqg n)(hv:Ld u v aqi)(hy:aqi.length<=1099511627776):
  dX prog 9 #[v,ξ s] u λe p=>∃b,e=aG (ω b)/\(s∈aqi->b=M)/\eU p sb rv aqg n:=by
 refine dX.lift k o (λe u i ⟨b,a,d,j⟩=>⟨b,a,d,j.old λ_ _=>U⟩) (λe u ⟨b,h,_⟩=>⟨_,h⟩) λi=>?_;refine(xn v aqi s (u.tp i) (eF hv λ_ _=>U) hy).m ?_;rintro e q ⟨b,a,d,rfl⟩;exact⟨b,a,d.2,B.old λ_ _=>U⟩
structure ye(n:Nat)(a:Nat->Nat->av ByteArray)(b d:ByteArray):Prop where
 nn:n<=64
 s1:b.size=4*n
 s2:d.size=4*n
 most:∀t k,(a t k).length<=1099511627776
 some_:∀k,k<n->Bd b k∈a 1 k\/Bd b k∈a 2 k
 none_:∀k,k<n->Bd d k∈a 1 k
def KpL(d e:ByteArray)(b n:Nat)(rv:Nat->aB)(h:Nat->Nat->av ByteArray)(a:Act)(u:aq):Prop:=∃k:Nat,Fa 120 a [(9,ξ d),(10,ξ e),(11,pt b),(12,I (k:Int))]/\k<=n/\eU u b rv h n
def Px{a Q S1 S2 sb rv aqg}(T:Fit prog l)(af:an.ok 9)(X:an.known 9)(K:ye n aqg S1 S2)(h0:0<n)(E:Fa 120 a [(9,ξ S1),(10,ξ S2),(11,pt sb)])(B:eU u sb rv aqg n)(hQ:∀(a:Act) (u:aq) (r:av (Nat×aB)),Fa 120 a ((6,ω M)::r)->Q .ret a u):
  FX dR 3 prog (dg (dg (dg (dg (dg (dg (dg (dg (dg (nS f3)))))))))) Q a u:=by
 have hr:∀t,t<3->∃s cp,rv t=ζ (Z (F s 0)) n cp:=λt ht=>by obtain⟨s,cp,_,_,e,_⟩:=B.at ht h0;exact⟨s,cp,e⟩
 obtain⟨g0,c0,e0⟩:=hr 0 aM;obtain⟨J,c1,R⟩:=hr 1 aM;obtain⟨g2,c2,e2⟩:=hr 2 aM
 have W:∀{u:aq},eU u sb rv aqg n->u.heap[sb]? =Z (au #[ζ (Z (F g0 0)) n c0,ζ (Z (F J 0)) n c1,ζ (Z (F g2 0)) n c2] 39 (0,0)):=λB=>by rw[<-e0,<-R,<-e2];exact B.box
 have ah:∀{u:aq} {t s cp k:Nat},eU u sb rv aqg n->t<3->rv t=ζ (Z (F s 0)) n cp->k<n->∃H v,u.heap[s]? =Z (au H 41 (0,0))/\H[k]? =Z v/\Ld u v (aqg t k):=λ{u t s cp k} B ht e hk=>by obtain⟨bC,bA,H,v,p,q,o,x4,_⟩:=B.at ht hk;rw[e]at p;cases p;exact⟨H,v,q,o,x4⟩
 have bD:=K.nn;have UI:=K.s1;have yG:=K.s2;refine FX.sq (FX.sq (FX.reg [0] ?_));refine FE.ow E λa _ E=>GO.nil ?_;refine FX.bk 0 (FX.lp (KpL S1 S2 sb n rv aqg) (λa _=>leftOf n 12 a) ⟨0,E.to,cO _,B⟩ ?_);rintro a u ⟨k,E,hk,B⟩;have aK:=tP (n:=n) (E.at_ 12 _ U);have w:=W B;refine FX.sq (FX.sq (FX.reg [0,1,2,3,4,5,6] ?_))
 iterate 4 refine FE.ow E λa _ E=>?_
 refine FE.lc E w λa _ E=>?_;refine FE.ow E λa _ E=>?_
 by_cases z:k<n
 ·have hh:(k:Int)<(n:Int):=Y;have Du:0<=(k:Int)/\(k:Int)<(n:Int):=Y;refine FE.ow (v:=ω M) E λa _ E=>GO.nil ?_;refine FX.cT E (FX.sk ?_)
  replace E:Fa 120 a [(9,ξ S1),(10,ξ S2),(11,pt sb),(12,I (k:Int))]:=E.to
  have q1:(4*(k:Int))<=4*(k:Int)+4:=Y;have q2:(4*(k:Int)+4)<=(S1.size:Int):=Y;have q3:(4*(k:Int)+4)<=(S2.size:Int):=Y;have q4:0<=4*(k:Int):=Y;have q5:(4*(k:Int)).toNat=4*k:=Y;have q6:(4*(k:Int)+4).toNat=4*k+4:=Y;have q7:0<=4*(k:Int)+4/\4*(k:Int)+4<=(S1.size:Int):=Y;have q8:0<=4*(k:Int)+4/\4*(k:Int)+4<=(S2.size:Int):=Y;clear UI yG;refine FX.sq (FX.bk 1 (FX.sq (FX.reg [0,1,2,3,4,5,6,7] ?_)))
  iterate 2 refine FE.ow E λa _ E=>?_
  refine FE.ar E λa _ E=>?_;refine FE.ow E λa _ E=>?_
  iterate 2 refine FE.ar E λa _ E=>?_
  refine FE.ow (v:=ξ (Bd S1 k)) E λa _ E=>?_;refine FE.ow E λa _ E=>GO.nil ?_
  replace E:Fa 120 a [(9,ξ S1),(10,ξ S2),(11,pt sb),(12,I (k:Int)),(13,ξ (Bd S1 k))]:=E.to
  obtain⟨bg,O,p,q,o⟩:=ah B aM R z;refine FX.sq (FX.reg [0,1,2,3,4,5,6,7,8,9] ?_)
  iterate 3 refine FE.ow E λa _ E=>?_
  refine FE.lc E w λa _ E=>?_;refine FE.ow E λa _ E=>?_;refine FE.ow (v:=π (Z (F J k))) E λa _ E=>?_;refine FE.lc (m:=q) E p λa _ E=>?_;refine FE.ow E λa _ E=>?_;refine FE.cx E X ((pB (Bd S1 k) T af B o (K.most 1 k)).mono ?_);rintro e u1 ⟨b1,rfl,oY,C⟩;refine⟨_,U,λa _ E=>?_⟩;refine FE.ow E λa _ E=>GO.nil ?_
  replace E:Fa 120 a [(9,ξ S1),(10,ξ S2),(11,pt sb),(12,I (k:Int)),(13,ξ (Bd S1 k)),(14,ω b1)]:=E.to
  have w:=W C;clear p q o B;obtain⟨bB,v2,p,q,o⟩:=ah C aM e2 z;refine FX.sq (FX.reg [0,1,2,3,4,5,6,7,8,9] ?_)
  iterate 3 refine FE.ow E λa _ E=>?_
  refine FE.lc E w λa _ E=>?_;refine FE.ow E λa _ E=>?_;refine FE.ow (v:=π (Z (F g2 k))) E λa _ E=>?_;refine FE.lc (m:=q) E p λa _ E=>?_;refine FE.ow E λa _ E=>?_;refine FE.cx E X ((pB (Bd S1 k) T af C o (K.most 2 k)).mono ?_);rintro e u2 ⟨G,rfl,lD,P⟩;refine⟨_,U,λa _ E=>?_⟩;refine FE.ow E λa _ E=>GO.nil ?_
  replace E:Fa 120 a [(9,ξ S1),(10,ξ S2),(11,pt sb),(12,I (k:Int)),(14,ω b1),(15,ω G)]:=E.to
  clear p q o C w;refine FX.sq (FX.dr 16 14 (λi v=>match i with|0=>v=pt sb|1=>v=pt sb|2=>v=π (Z (F sb 1))|3=>v=ζ (Z (F J 0)) n c1|4=>v=I (k:Int)|5=>v=π (Z (F J k))|6=>Ld u2 v (aqg 1 k)|7=>v=ξ S2|8=>v=I (k:Int)|9=>v=I (4*(k:Int))|10=>v=I (k:Int)|11=>v=I (4*(k:Int))|12=>v=I (4*(k:Int)+4)|13=>v=ξ (Bd S2 k)|_=>True) E (λL A x hx a is E h b=>?_) λL A a E hv=>?_)
  ·have D:eU L sb rv aqg n:=by rw[A];exact P.old λ_ _=>U
   have w:=W D;obtain⟨bg,O,p,q,o⟩:=ah D aM R z;have o:Ld u2 O (aqg 1 k):=by rw[A]at o;exact eF o λ_ _=>U
   clear A
   match x,hx with
   |0,_=>exact FE.ow E (dk b)
   |1,_=>exact FE.ow (E.dd (h 0 U)) (dk b)
   |2,_=>exact FE.ow (E.dd (h 1 U)) (dk b)
   |3,_=>exact FE.lc (E.dd (h 2 U)) w (dk b)
   |4,_=>exact FE.ow E (dk b)
   |5,_=>exact FE.ow ((E.dd (h 3 U)).dd (h 4 U)) (dk b)
   |6,_=>exact FE.lc (m:=q) (E.dd (h 5 U)) p λa' N _=>b a' _ o N
   |7,_=>exact FE.ow E (dk b)
   |8,_=>exact FE.ow E (dk b)
   |9,_=>exact FE.ar (E.dd (h 8 U)) (dk b)
   |10,_=>exact FE.ow E (dk b)
   |11,_=>exact FE.ar (E.dd (h 10 U)) (dk b)
   |12,_=>exact FE.ar (E.dd (h 11 U)) (dk b)
   |13,_=>exact FE.ow (((E.dd (h 7 U)).dd (h 9 U)).dd (h 12 U)) (dk b)
   |m+14,hm=>omega
  have D:eU L sb rv aqg n:=by rw[A];exact P.old λ_ _=>U
  have y0:Ld u2 (a.eval (.tmp 101)) (aqg 1 k):=hv 6 U;have y2:a.eval (.tmp 108)=ξ (Bd S2 k):=hv 13 U;obtain⟨O,aL⟩:∃v,a.eval (.tmp 101)=v:=⟨_,U⟩;rw[aL]at y0;have y1:Ld L O (aqg 1 k):=by rw[A];exact eF y0 λ_ _=>U
  clear A P hv
  replace E:=(E.add (d:=101) aL).add (d:=108) y2
  refine eP.one (j:=14) aW λis S=>FE.cx E X ((pB (Bd S2 k) T af D y1 (K.most 1 k)).mono ?_);rintro e u4 ⟨b3,rfl,V,aD⟩;refine⟨_,U,λa _ E=>S a u4 (eP.one (j:=15) aW λis S=>FE.ow E λa _ E=>S a u4 (eP.none aW ?_))⟩;have V:=V (K.none_ k z);subst V;have bl:b1=M\/G=M:=(K.some_ k z).imp oY lD
  replace E:Fa 120 a [(9,ξ S1),(10,ξ S2),(11,pt sb),(12,I (k:Int)),(14,ω b1),(15,ω G),(16,ω M)]:=E.to
  cases b1 with
  |true=>
   refine FX.sq (FX.reg [0,1,2,3,4,5,6,7,8,9] ?_);refine FE.ow E λa _ E=>?_;refine FE.ow (v:=ω aa) E λa _ E=>?_;refine FE.ow E λa _ E=>?_
   iterate 2 refine FE.gh E λa _ E=>?_
   refine FE.ow (v:=ω aa) E λa _ E=>?_
   iterate 2 refine FE.ow E λa _ E=>?_
   refine FE.ow (v:=ω aa) E λa _ E=>?_;refine FE.ow (v:=ω aa) E λa _ E=>GO.nil ?_;refine FX.cF E (FX.sk ?_);refine FX.reg [0,1,2] ?_;refine FE.ow E λa _ E=>?_;refine FE.ar E λa _ E=>?_;refine FE.ow E λa _ E=>GO.nil ?_;rw[show(k:Int)+1=((k+1:Nat):Int) by simp]at E;refine⟨⟨k+1,E.to,z,aD⟩,?_⟩;rw[aK,tP (n:=n) (E.at_ 12 _ U)];omega
  |false=>
   have hb:G=M:=bl.resolve_left aM;subst hb;refine FX.sq (FX.reg [0,1,2,3,4,5,6,7,8,9] ?_);refine FE.ow E λa _ E=>?_;refine FE.ow (v:=ω M) E λa _ E=>?_
   iterate 2 refine FE.ow E λa _ E=>?_
   refine FE.ow (v:=ω aa) E λa _ E=>?_;refine FE.ow (v:=ω aa) E λa _ E=>?_
   iterate 2 refine FE.ow E λa _ E=>?_
   refine FE.ow (v:=ω aa) E λa _ E=>?_;refine FE.ow (v:=ω aa) E λa _ E=>GO.nil ?_;refine FX.cF E (FX.sk ?_);refine FX.reg [0,1,2] ?_;refine FE.ow E λa _ E=>?_;refine FE.ar E λa _ E=>?_;refine FE.ow E λa _ E=>GO.nil ?_;rw[show(k:Int)+1=((k+1:Nat):Int) by simp]at E;refine⟨⟨k+1,E.to,z,aD⟩,?_⟩;rw[aK,tP (n:=n) (E.at_ 12 _ U)];omega
 have hh:¬(k:Int)<(n:Int):=Y;refine FE.ow (v:=ω aa) E λa _ E=>GO.nil ?_;refine FX.cF E (FX.ex 0 ?_);refine FX.sq (FX.reg [0] ?_);refine FE.ow E λa _ E=>GO.nil ?_;exact FX.rt (hQ _ _ _ E)
def Mb{al a1 ll cl n1 c1}(G:wH l)(kB:an.known 5)(kP:an.known 6)(kD:an.known 16)(o:∀f,f∈[7,8,9]->an.ok f/\an.known f)(X:ll<=cP)(hl:Af al ll)(af:wN a1 n1)(aS:n1<=1048576)(i:keep.size<=1099511627776):
  iT dR prog 3 #[.slice al ll cl,.slice a1 n1 c1,.string keep] u λe u'=>e=aG (.bool M):=by
 have q:=G.x.fit;refine iT.AU 120 func3 λa E=>?_;refine FX.sq (FX.reg [0] ?_);refine FE.ow E λa _ E=>GO.nil ?_;refine FX.sq (FX.reg [0,1,2] ?_);refine FE.bl E λa _ E=>?_;refine FE.cf E func5 kB agh (Q4 al ll cl) ((Q5 G X hl).mono ?_);rintro e u ⟨cb,xb,n0,g,f,wt,m,rfl,hI,V,h1,w,B⟩;refine⟨_,U,λa _ E=>?_⟩;refine FE.ow E λa _ E=>GO.nil ?_;refine FX.sq (FX.sq (FX.reg [0,1] ?_));refine FE.ow E λa _ E=>?_;refine FE.ow (v:=.bool aa) E λa _ E=>GO.nil ?_;refine FX.cF E (FX.sk ?_)
 replace E:Fa 120 a [(1,.slice a1 n1 c1),(2,.string keep),(7,pt cb)]:=E.to
 have aT:=hI.sz;obtain⟨n,j⟩:∃n:Nat,g.sz=4*(n:Int):=⟨(g.sz / 4).toNat,Y⟩;have S:=H4 hI j;have A:gL g (EN g n) 0 cb xb m.ps u:=⟨f,_,V.voy hI j w,B.SV⟩;refine FX.sq (FX.reg [0,1,2,3] ?_);refine FE.ow E λa _ E=>?_;refine FE.bl E λa _ E=>?_;refine FE.cp (v0:=pt cb) (k0:=7) E func6 kP Iy (λρ ah=>PH cb a1 n1 c1 ρ ah) ((DV G kD S Y af A).mono ?_);rintro e u ⟨rfl,f,c,d,L,m,T,_⟩;refine⟨_,U,λa _ E=>?_⟩;refine FE.ow E λa _ E=>GO.nil ?_;refine FX.sq (FX.sq (FX.reg [0,1] ?_));refine FE.ow E λa _ E=>?_;refine FE.ow (v:=.bool aa) E λa _ E=>GO.nil ?_;refine FX.cF E (FX.sk ?_)
 replace E:Fa 120 a [(2,.string keep),(7,pt cb)]:=E.to
 have aQ:=d.bU.dO;have hC:=d.bU.rest.C;have Q:=d.bU.rest.core.B;rw[d.bU.gg]at Q;have B:fj u g cb xb f c m:=⟨L,T⟩;obtain⟨R,s⟩:=d.row j Y;have z:=d.vu.lg.dk;clear T A;have b:=B.at;refine FX.sq (FX.reg [0,1,2,3,4,5,6] ?_)
 iterate 3 refine FE.ow E λa _ E=>?_
 refine FE.lc E b λa _ E=>?_;refine FE.ow E λa _ E=>?_;refine FE.cx E (o _ aM).2 ((vt q (o _ aM).1 B Y i Y).mono ?_);rintro e u ⟨p,s1,s2,rfl,B⟩;refine⟨_,U,λa _ E=>?_⟩;refine FE.ow E λa _ E=>GO.nil ?_
 replace E:Fa 120 a [(7,pt cb),(9,.string ⟨qT f.D p⟩)]:=E.to
 have b:=B.at;refine FX.sq (FX.reg [0,1,2,3,4,5] ?_)
 iterate 3 refine FE.ow E λa _ E=>?_
 refine FE.lc E b λa _ E=>?_;refine FE.cx E (o _ aM).2 ((vt (keep:=⟨#[]⟩) q (o _ aM).1 B Y aM Y).mono ?_);rintro e u ⟨aK,t1,t2,rfl,B⟩;have t2:=t2 U;subst t2;refine⟨_,U,λa _ E=>?_⟩;refine FE.ow E λa _ E=>GO.nil ?_;refine FX.sq (FX.reg [0,1,2] ?_);refine FE.ow E λa _ E=>?_;refine FE.cx E (o _ aM).2 ((K4 q (o _ aM).1 B j R).mono ?_);rintro e u ⟨sb,rv,rfl,P,B⟩;refine⟨_,U,λa _ E=>?_⟩;refine FE.ow E λa _ E=>GO.nil ?_;have N:(⟨qT f.D p⟩:ByteArray).size=4*n:=(VH ..).trans z.ds;have O:(⟨qT f.D []⟩:ByteArray).size=4*n:=(VH ..).trans z.ds
 have K:ye n (bc c.W f.log n f.log.length) ⟨qT f.D p⟩ ⟨qT f.D []⟩:=by refine⟨Y,N,O,λt k=>cM (R.most _ t k (aR _)) R.dO.2.2,λk i=>?_,λk i=>?_⟩;rw[my];rcases PC z s1 k with h|h;have e:=s.sure k i;rw[<-h]at e;exact aA e;exact az (s.later k i _ h);rw[my];exact s.sure k i
 generalize (⟨qT f.D p⟩:ByteArray)=H at*;generalize (⟨qT f.D []⟩:ByteArray)=J at*
 replace E:Fa 120 a [(7,pt cb),(9,.string H),(10,.string J),(11,pt sb)]:=E.to
 have b:=B.at;have w1:((H.size:Int)!=g.sz)=aa:=by rw[j,N];simp
 have w2:((J.size:Int)!=g.sz)=aa:=by rw[j,O];simp
 refine FX.sq (FX.sq (FX.reg [0,1,2,3,4,5,6,7,8,9,10,11,12,13,14,15,16,17,18,19,20,21] ?_));refine FE.ow E λa _ E=>?_;refine FE.ow (v:=.bool aa) E λa _ E=>?_
 iterate 7 refine FE.ow E λa _ E=>?_
 refine FE.lc E b λa _ E=>?_;refine FE.ow (v:=.bool aa) E λa _ E=>?_;refine FE.ow (v:=.bool aa) E λa _ E=>?_
 iterate 7 refine FE.ow E λa _ E=>?_
 refine FE.lc E b λa _ E=>?_;refine FE.ow (v:=.bool aa) E λa _ E=>?_;refine FE.ow (v:=.bool aa) E λa _ E=>GO.nil ?_;refine FX.cF E (FX.sk ?_);refine Px q (o _ aM).1 (o _ aM).2 K Y E.to P λa u r E=>?_;refine⟨U,E.defers,.bool M,?_,U⟩;have w:=ev (E.at_ 6 _ U);simp[iq,results3,go_sem,w]
end
end
section
open Go.ChangeAt Go.ChangeShapes Go.Conc Go.Deep Go.RowKit Go.WideShapes
open Go.ConcR (Payload)
def aeR:ownKnob prog.godebug=aj:=aW
def Hs:laidOutB prog=M:=aW
def R6{H:Type}(d:DataW H):1<=Rows.uptoBulk d:=by
 cases d with
 |lit l=>cases l<;>simp[Rows.uptoBulk]
 |nil=>simp[Rows.uptoBulk]
 |ptr d=>simp[Rows.uptoBulk]
 |slice a spare=>simp[Rows.uptoBulk]
 |agg parts=>simp[Rows.uptoBulk]
 |iface t d=>simp[Rows.uptoBulk]
 |map b=>simp[Rows.uptoBulk]
 |held h=>simp[Rows.uptoBulk]
def R5{H:Type}(l:av (DataW H)):l.length<=Rows.uptoBulkAll l:=by
 induction l with
 |nil=>simp[Rows.uptoBulkAll]
 |cons x r a=>have:=R6 x;simp only[Rows.uptoBulkAll,gH];omega
def afE{z}(h:(Lit.int .i64 z).wf=M):dy z:=by simp[Lit.wf,IntKind.min,IntKind.max,IntKind.signed,IntKind.bits]at h;omega
def RK(b off i):(⟨b,off,aj⟩:Addr).add i=⟨b,off+i,aj⟩:=by
 unfold Addr.add
 grind
def AR{w:aq}{b off v}(h:w.cell? (F b off)=Z v):b<w.heap.size:=by refine ny λa=>?_;have:w.heap[b]? =aj:=vC Y;simp[World.cell?,this]at h
section
variable {H:Type} {enc:aY×aB->H} {w:aq} {base:Nat} {spare:Nat->Bool} {held:Bool}
def IL{fuel t st n a len cap x}(E:prog.underlying st=Z (.slice t))(B:prog.cellsOf t=n)(h0:0<n)(u:∀fuel cs x,il enc prog w base spare held fuel t cs=Z x->∀j,j<n->∃z,dy z/\cs[j]? =Z (I z))(o:Rows.uptoBulk x.1<=1048576)(h:il enc prog w base spare held fuel st [.slice a len cap]=Z x):len<=1048576/\(len=0\/∃b off,a=Z ⟨b,off,aj⟩/\b<w.heap.size/\∀i,i<len->∀j,j<n->∃z,dy z/\w.cell? (F b (off+i*n+j))=Z (I z)):=by
 rcases open_slice E h with⟨f,_⟩|⟨l,R,K,m,k,D,J,f,_,P,hm,A,G,s⟩;simp at f
 grind
 simp at f;obtain⟨rfl,rfl,rfl⟩:=f
 have v:len<=1048576:=by
  rw[G]at o;simp only[Rows.uptoBulk]at o;have:=R5 ((dA len).map D)
  grind
 refine⟨v,?_⟩
 by_cases c:len=0
 ·exact aA c
 right;have Q:len<=m:=by rw[A];split<;>omega
 rw[B]at s
 have q:∀i,i<len->∀j,j<n->∃z,dy z/\w.cell? ((l.add (i*n)).add j)=Z (I z):=λi p j g=>by
  obtain⟨L,c,e⟩:=s i Y;obtain⟨z,d,O⟩:=u _ _ _ e j g;have N:=(World.cells?_some c).2.2 j g
  grind
 obtain⟨b,off,spot⟩:=l
 have C:spot=aj:=by obtain⟨z,_,d⟩:=q 0 Y 0 h0;simp only[xX,Addr.add,dN]at d;simpa using World.cell?_spot d
 subst C
 have r:∀i,i<len->∀j,j<n->∃z,dy z/\w.cell? (F b (off+i*n+j))=Z (I z):=λi p j g=>by obtain⟨z,c,e⟩:=q i p j g;rw[RK,RK]at e;exact⟨z,c,e⟩
 exact⟨b,off,U,by obtain⟨z,_,d⟩:=r 0 Y 0 h0;exact AR d,r⟩
def Vy(fuel cs)(x:DataW H×av MemPlace)(e:il enc prog w base spare held fuel 3 cs=Z x):∀j,j<1->∃z,dy z/\cs[j]? =Z (I z):=λj b=>by obtain⟨k,rfl,_,a⟩:=DataW.trod_int underlying3 e;obtain rfl:j=0:=Y;exact⟨k,afE a,U⟩
def Pb(fuel cs)(x:DataW H×av MemPlace)(h:il enc prog w base spare held fuel 53 cs=Z x):∀j,j<4->∃z,dy z/\cs[j]? =Z (I z):=by
 obtain⟨c,n,_,_,d,f,a⟩:=DataW.trod_struct underlying53 h;rw[show prog.cellsOf 53=4 by kernel_rfl]at d;have g:c.length=4:=f
 have one:∀j,j<4->il enc prog w base spare held n 3 ((cs.drop j).take (prog.cellsOf 3))=c[j]? ->∃z,dy z/\cs[j]? =Z (I z):=λj b e=>by rw[dj Y,show prog.cellsOf 3=1 by kernel_rfl]at e;simpa using Vy _ _ _ e 0 Y
 exact λj b=>match j,b with
  |0,h=>one 0 h (a 0 _ U)
  |1,h=>one 1 h (a 1 _ U)
  |2,h=>one 2 h (a 2 _ U)
  |3,h=>one 3 h (a 3 _ U)
end
def pY:av aZ:=[33,34,35,36,67,114,70,117,71,7,8,9,17,18,19,20,21,37,39,40,41,42,72,27,28,30,69,92,86,60,61,103,105,63,64,65,288,45,54,55,56,57,58,59,116,133,130,99,148,120,149,106,107,108,109,110,111,112,113,74,75,95,96,97,98,167,166,185,168,118,186,187,155,156,157,158,159,160,161,162,163,164,165,119,134,207,132,195,228,169,170,196,229,230,189,190,191,192,193,194,197,198,199,200,201,202,203,204,205,206,208,210,211,212,213,234,235,38,231,232,233,236,237,238,239,240,241,242,209,243,244,247,248,249,250,251,252,253,254,255,256,257,258,259,260,261,262,263,264,265,267,268,269,270,13,29,11,15,32,66,89,84,68,115]
def dC:av aZ:=[62,31,101,5,16,6,3,12,14]
def AO:pY.all (okF prog pY)=M:=aW
def acS:dC.all (knF prog)=M:=aW
def Q0:pY.all (λf=>(dR f).isEmpty)=M:=aW
def GH(t:Nat->aV Obj):@Fit (xd prog pY dC dR t) prog pY:=abb TO adH AO acS Q0
def abO(t:Nat->aV Obj):@wH (xd prog pY dC dR t) pY:=by
 letI:an:=xd prog pY dC dR t
 have o:∀f,pY.contains f=M->an.ok f:=λf a=>((GH t).it.ok f).2 a;exact⟨⟨GH t,(by first|exact az aM|exact aA (o _ aW)),(by first|exact az aM|exact aA (o _ aW)),(by first|exact az aM|exact aA (o _ aW))⟩,⟨GH t,aW,o _ aW,o _ aW,az aW,aW,aW,aW,aW,U,U⟩,λf a=>have h:=o f (nA.1 (by kernel_rfl:List.all _ pY.contains=M) f a);⟨h,aA h⟩,az aW⟩
section
variable (W:aq)
def OD{a len}(h:len=0\/∃b off,a=Z ⟨b,off,aj⟩/\b<W.heap.size/\∀i,i<len->∀j,j<4->∃z,dy z/\W.cell? (F b (off+i*4+j))=Z (I z)):@wN (xd prog pY dC dR (λb=>W.heap[b]?)) a len:=by
 rcases h with h|⟨b,off,rfl,d,g⟩;exact aA h
 classical
 refine az ⟨b,off,W.heap[b],λi j=>if c:i<len/\j<4 then sd (g i c.1 j c.2)else 0,U,gi d,λi c j e=>?_⟩;have f:=ti (g i c j e);simp only[wy (⟨c,e⟩:i<len/\j<4)];exact⟨f.1,λw k=>(iO (k.t (gi d).y)).t f.2⟩
def agS{a len}(h:len=0\/∃b off,a=Z ⟨b,off,aj⟩/\b<W.heap.size/\∀i,i<len->∀j,j<1->∃z,dy z/\W.cell? (F b (off+i*1+j))=Z (I z)):@Af (xd prog pY dC dR (λb=>W.heap[b]?)) a len:=by
 rcases h with h|⟨b,off,rfl,d,f⟩;exact aA h
 classical
 refine az ⟨b,off,W.heap[b],λi=>if c:i<len then sd (f i c 0 Y)else 0,U,gi d,λi c=>?_⟩;have e:=ti (f i c 0 Y);simp only[wy c];exact⟨e.1,λw g=>(iO (g.t (gi d).y)).t (by simpa using e.2)⟩
end
def Pz[an](v0 v1 s ρ j v)(h:(Frame.enter prog 3 #[v0,v1,ξ s] .normal).tmps[j]? =Z v)(b:j∉dR 3):VR ρ v v:=
 Di func3 (body:=nS f3) aW (λi v h a ρ=>by
  match i,a with
  |0,a=>exact absurd aM a
  |1,a=>exact absurd aM a
  |2,_=>simp at h;subst h;exact VR.string _
  |n+3,_=>simp at h) ρ j v h b
def Sj(os:Os)(bt:os.Started)(H:Type)(enc:aY×aB->H)(O:Stop.Interp):
  ReturnsInLeavingWide {} checked os 3 .any ((Rows.OpenSpec.upto Rows.keptSpec).pre6 enc prog f3 Rows.keptUptoRow.domain aa) (((Rows.OpenSpec.upto Rows.keptSpec).at O).post enc prog f3 aa M aa aa):=by
 refine agm U aeR bt func3
  (OpenSpec.witness U aa ⟨#[],#[.slice aj 0 0,.slice aj 0 0,.string ⟨#[]⟩],[]⟩ 8 aW aW aW
   (x:=([.nil,.nil,.lit (.string [])],[],[])) aW U aW) ?_
 intro W base args S gs bB aN C B _ hk _;have V:=B;obtain⟨p,q,A,T,rfl,bJ,bL⟩:=B;have z:DataW.TrodAll enc prog W 0 (λ_=>M) M f3.params.toList args.toList S p:=A;have i:∀(j:Nat) t v,f3.params[j]? =Z t->args[j]? =Z v->Value.okWide prog W .any base t v:=C;rw[params3]at z i;obtain⟨K,bQ,d0,bC,J,q0,bH,rfl,rfl,h0,r0⟩:=trodAll_cons z;obtain⟨L,bR,d1,bD,p1,q1,rfl,rfl,rfl,n,r1⟩:=trodAll_cons r0;obtain⟨N,bS,d2,bE,p2,q2,rfl,rfl,rfl,r,r2⟩:=trodAll_cons r1;obtain⟨rfl,rfl,rfl⟩:=trodAll_nil r2;obtain rfl:args=#[K,L,N]:=by cases args;simp_all
 obtain⟨rfl,rfl⟩:=trodVars_none T
 have g:Rows.uptoBulk d0<=1048576/\Rows.uptoBulk d1<=1048576/\Rows.uptoBulk d2<=1048576:=by have h:=mM hk;simp only[lf,Rows.uptoBulkAll]at h;omega
 obtain⟨a0,aT,P,rfl⟩:=okWide_slice underlying22 (i 0 22 K U U);obtain⟨a1,aX,Q,rfl⟩:=okWide_slice underlying23 (i 1 23 L U U);obtain⟨k,rfl⟩:=okWide_string underlying9 (i 2 9 N U U);have D:=h0;have E:=n;have G:=r;have bg:∀x∈J,x.block<W.heap.size:=by obtain⟨m,hm⟩:=D;exact po m _ _ _ hm
 have bh:∀x∈p1,x.block<W.heap.size:=by obtain⟨m,hm⟩:=E;exact po m _ _ _ hm
 have bk:∀x∈p2,x.block<W.heap.size:=by obtain⟨m,hm⟩:=G;exact po m _ _ _ hm
 obtain⟨aD,yJ⟩:=(by obtain⟨fuel,a⟩:=h0;exact IL (cap:=P) (x:=(d0,J)) underlying22 aW aM Vy g.1 (by simpa[zR]using a):aT<=1048576/\_);obtain⟨aE,Vk⟩:=(by obtain⟨fuel,a⟩:=n;exact IL (cap:=Q) (x:=(d1,p1)) underlying23 aW aM Pb g.2.1 (by simpa[zR]using a):aX<=1048576/\_)
 have l:k.size<=1048576:=by
  obtain⟨fuel,a⟩:=r;obtain⟨s,af,hx,_⟩:=DataW.trod_string underlying9 a;obtain rfl:k=s:=by simpa[zR]using af
  have e:=congrArg Prod.fst hx;simp only at e;rw[e]at g;simp only[Rows.uptoBulk,lQ]at g;have:k.data.size=k.size:=U;omega
 clear A C
 letI:an:=xd prog pY dC dR (λb=>W.heap[b]?)
 letI:Payload:=⟨0⟩
 have hg:prog.globals.size<=W.heap.size:=by obtain⟨o,_,ho,_⟩:=aN.2 prog.globals.size (aR _) (mM aW);exact oI (bf.1 ho).1
 refine agF U U (R:=λe u'=>e=aG (.bool M)) (λρ j v=>Pz _ _ _ ρ j v) func3 (c:=nS f3) aW U aW (az aW) hg (λb o X=>X) (Mb (abO _) (az aW) (az aW) (az aW) (λf a=>have h:=((GH _).it.ok f).2 (nA.1 (by kernel_rfl:List.all _ pY.contains=M) f a);⟨h,aA h⟩) (cM aD aM) (agS W yJ) (OD W Vk) aE (cM l aM)) (λe u h=>⟨_,h⟩) ?_;intro v u' w' hv aC l aJ aL aQ;have d:aK W w':=⟨aJ,aQ,aL,l,aC⟩;cases hv;exact⟨_,_,_,[],_,[],V,trodAll_mk1 (shut_bool underlying4 _),(oE (pj Hs aW (mM aW) D d bg) (oE (pj Hs aW (mM aW) E d bh) (oE (pj Hs aW (mM aW) G d bk) trodAll_mk0))),U,d.frame _,λh=>by cases h⟩
theorem kept_holds:Rows.KeptUptoSaid:=
 acw 3 f3 U U U U U U U ⟨U,U,U,U,U⟩ U U U U U aW func3 aW
  (mM aW) (by unfold Func.isWrapper;first|(rw[aO (by decide+kernel)];kernel_rfl)|(rw[aI (by decide+kernel)];exact⟨rfl,rfl⟩))
  (λos b H enc _ a=>Sj os b H enc a)
#print axioms kept_holds
end
end Go.Proofs.YtpobhljcainmdabGreat
