/- Parts of the proof. -/
import Derived.Lib.Builder
import Derived.Lib.Repeat
import Derived.Shelf.Strings.Repeat
import Derived.Test.YtpobhljcainmdaaGreatJ13
set_option maxRecDepth 100000
set_option maxHeartbeats 8000000
set_option linter.all false
namespace Go.Proofs.YtpobhljcainmdaaGreat
open Go.Lib renaming byteCells->kN,IsBuilder->qL,BuilderAt->BP,repeatL->zR,byteCells_length->Uz
open Go.World renaming putObj_heap_other->eX
open Go renaming wp_region_noPanic->gW,World->an,heap_alloc_new->bW,Value->au,execOp_congr->Co,callsIn_wide->fT,Code->jO,FuncId->bh,run_takeDeferred->Ct,Program->aN
open Go.NoPanic renaming normal->gp
open Go.Fence renaming wide->jQ
open _root_.Int renaming tmod_eq_emod_of_nonneg->Us,tmod_lt_of_pos->Ut
open _root_.List renaming range->dM,range_succ_eq_map->UJ,foldl_map->UE
open Go.Ending renaming returned->xE
open Go.CallsIn renaming inRound->lV
open Go.RowKit renaming intOf->gu
open _root_.Nat renaming beq->sA
open Go.Exit renaming inBlock->BI
section
attribute [local go_sem ↓] Go.wp_at_zero Go.wp_at_succ
attribute [local go_sem] bq bg
open Go.Conc Go.RowKit
open Go.Proofs.Tryz
structure qY:Prop where
 add:∀(B b:Nat) (d:List au) (s:ByteArray) (w:an),qL 301 5 B b d w->d.length+s.size<=140737488355328->B<=w.heap.size->
  Calls prog 263 #[jp b,.string s] w fun e a=>e=.returned (.tuple #[aj s.size,.nilIface])/\(BP 301 5 B b (jp b) (d++Lib.strCells s) a/\Below B w a)
 all:∀(B b:Nat) (l:List UInt8) (w:an),qL 301 5 B b (kN l) w->B<=w.heap.size->
  Calls prog 265 #[jp b] w fun e a=>e=.returned (.string ⟨l.toArray⟩)/\Below B w a
 rep:∀(s:ByteArray) (c:Nat) (w:an),c<=9223372036854775807->s.size*c<=140737488355328->
  bz 264 #[.string s,aj c] w (.string ⟨(zR s.data.toList c).toArray⟩)
def Rq.piece(r:Rq):List UInt8:=if r.m.kd=1 then r.m.dt.data.toList else if r.m.kd=3\/r.m.kd=4 then zR [0] r.m.ln.toNat else[]
def dc(a:List Rq):List UInt8:=a.flatMap Rq.piece
theorem NU{a:List Rq}{i:Nat}{r:Rq}(h:a[i]? =some r):dc (a.take (i+1))=dc (a.take i)++r.piece:=by unfold dc;rw[sr,h];simp
theorem Xk(rs i):(dc (rs.take i)).length<=(dc rs).length:=by
 have:dc rs=dc (rs.take i)++dc (rs.drop i):=by unfold dc;rw[<-rW,oH]
 rw[this,ia];omega
theorem Ql{T e:TypeId}{B b bs W W'}(h:qL T e B b bs W)(f:∀k,k<W.heap.size->W'.heap[k]? =W.heap[k]?):qL T e B b bs W':=by
 have one:∀p,BP T e B b p bs W->BP T e B b p bs W':=by
  rintro p ⟨s,v,c,d,t⟩;refine⟨s,v,(f b (aP.1 c).1).trans c,⟨d.1,?_⟩,t⟩;rcases d.2 with h|⟨g,i,j,l,m,a,n,o,q,r⟩
  ·exact .inl h
  ·exact .inr ⟨g,i,j,l,m,(f g (aP.1 a).1).trans a,n,o,q,r⟩
 exact h.imp (one _) (one _)
abbrev lN(W:an)(r:Rq):an:=W.alloc (.cells (aC r) 134)
theorem Nv(W r):aB W (lN W r):=aR
theorem Xl(Z:qY)(j c rv a)(ft:Ft)(due order w)(h:dU w j c rv a ft due order)(G:(dc a).length<=1048576)(hn:a.length<=1048576)(O:∀r∈a,0<=r.m.ln/\r.m.ln<=65535):
  bz 236 #[jp j] w (.string ⟨(dc a).toArray⟩):=by
 obtain⟨K,p,rfl,_⟩:=h.row.form;have z:aB w (w.alloc (.cells #[.pointer none,.slice none 0 0] 301)):=aR;have c1:(w.alloc (.cells #[.pointer none,.slice none 0 0] 301)).cell? (aa j 1)=some (.slice K a.length p):=av (h.below z).box rfl;have N:(w.alloc (.cells #[.pointer none,.slice none 0 0] 301)).heap[w.heap.size]? =some (.cells #[.pointer none,.slice none 0 0] 301 (0,0)):=bW w _
 have Q:Hid (dU (w.alloc (.cells #[.pointer none,.slice none 0 0] 301)) j c (.slice K a.length p) a ft due order/\qL 301 5 w.heap.size w.heap.size (kN []) (w.alloc (.cells #[.pointer none,.slice none 0 0] 301))/\aB w (w.alloc (.cells #[.pointer none,.slice none 0 0] 301))):=
  ⟨h.below z,.inl ⟨aV _,_,N,⟨rfl,.inl ⟨rfl,rfl⟩⟩,by simp[Value.ownBlock]⟩,z⟩
 have S:=aL O;have R:=aL h;clear h z N O;go_enter func236,ntmps236;go_wp2
 go_loopw [11] (fun J wr=>∃i:Nat,i<=a.length/\J=aj (i:Int)/\Hid (dU wr j c (.slice K a.length p) a ft due order/\qL 301 5 w.heap.size w.heap.size (kN (dc (a.take i))) wr/\aB w wr)) (fun J _=>a.length-(gu J).toNat)
 case atStart=>exact⟨0,eE _,rfl,Q.out⟩
 case round=>
  obtain⟨i,hi,rfl,hR⟩:=hrel
  by_cases V:i<a.length
  ·have U:(i:Int)<(a.length:Int):=ak;obtain⟨r,hr⟩:∃r,a[i]? =some r:=⟨a[i],dN V⟩;have P:r∈a:=iG hr;obtain⟨x,rfl,k0,k1,k2,k3,k4,k5,k6,k7,k8,k9⟩:=hR.out.1.row.at hr;have X:=hR.out.2.2.size;have E:=Nv wr r
   have f:Hid (dU (lN wr r) j c (.slice (some (aa x 0)) a.length p) a ft due order/\qL 301 5 w.heap.size w.heap.size (kN (dc (a.take i))) (lN wr r)/\aB w (lN wr r)):=
    ⟨hR.out.1.below E,Ql hR.out.2.1 (fun k F=>E.block k F),hR.out.2.2.alloc X _⟩
   have y:(lN wr r).heap[wr.heap.size]? =some (.cells (aC r) 134 (0,0)):=bW wr _;have s2:=av y (i:=2) (v:=aj r.m.kd) rfl;have s6:=av y (i:=6) (v:=aj r.m.ln) rfl;have s7:=av y (i:=7) (v:=.string r.m.dt) rfl;have H:=NU hr;have I:=Xk a (i+1);rw[H,ia]at I;have C:=aL f.out.2.2.size
   have fin:∀(W:an) (l:List UInt8),r.piece=l->BP 301 5 w.heap.size w.heap.size (jp w.heap.size) (kN (dc (a.take i))++kN l) W->Below w.heap.size (lN wr r) W->
     dU W j c (.slice (some (aa x 0)) a.length p) a ft due order/\qL 301 5 w.heap.size w.heap.size (kN (dc (a.take (i+1)))) W/\aB w W:=fun W l G n b=>
    ⟨R.out.below (f.out.2.2.trans b),.inr (by rw[H,G];unfold kN;rw[BV];exact n),f.out.2.2.trans b⟩
   have B:Hid (∀(W:an) (l:List UInt8),r.piece=l->BP 301 5 w.heap.size w.heap.size (jp w.heap.size) (kN (dc (a.take i))++kN l) W->Below w.heap.size (lN wr r) W->
     dU W j c (.slice (some (aa x 0)) a.length p) a ft due order/\qL 301 5 w.heap.size w.heap.size (kN (dc (a.take (i+1)))) W/\aB w W):=fin
   have M:=aL (cS I G);have Y:=S.out r P;clear fin H I E y P
   by_cases g:r.m.kd=1
   ·have d:r.piece=r.m.dt.data.toList:=by unfold Rq.piece;rw[aM g]
    have d1:(r.m.kd==1)=true:=by simp[g]
    have u:=aL d
    have t:Hid ((kN (dc (a.take i))).length+r.m.dt.size<=140737488355328):=by
     have:=M.out;rw[d]at this;have e:r.m.dt.data.toList.length=r.m.dt.size:=by rw[vH];rfl
     rw[e]at this;show _<=_;rw[Uz];omega
    clear d g;go_wp2_with (go_at_call 263;refine(Z.add _ _ _ _ _ f.out.2.1 t.out C.out).mono ?_;rintro e s ⟨rfl,n,b⟩);refine⟨⟨i+1,ak,by go_num,B.out _ _ u.out n b⟩,?_⟩;simp[gu];omega
   ·have d1:(r.m.kd==1)=false:=by simp[g]
    by_cases e3:r.m.kd=3\/r.m.kd=4
    ·have d:r.piece=zR [0] r.m.ln.toNat:=by unfold Rq.piece;rw[aD g,aM e3]
     have u:=aL d
     have t:Hid ((kN (dc (a.take i))).length+(⟨(zR (⟨#[0]⟩:ByteArray).data.toList r.m.ln.toNat).toArray⟩:ByteArray).size<=140737488355328):=by have:=M.out;rw[d]at this;show _+(zR [0] r.m.ln.toNat).toArray.size<=_;rw[Uz,iH];omega
     have L:Hid (bz 264 #[.string ⟨#[0]⟩,aj r.m.ln] (lN wr r) (.string ⟨(zR (⟨#[0]⟩:ByteArray).data.toList r.m.ln.toNat).toArray⟩)):=by have:=Z.rep ⟨#[0]⟩ r.m.ln.toNat (lN wr r) ak (by show 1*_<=_;omega);rw[show((r.m.ln.toNat:Nat):Int)=r.m.ln by omega]at this;exact this
     have q:Hid (∀W,aB (lN wr r) W->qL 301 5 w.heap.size w.heap.size (kN (dc (a.take i))) W/\w.heap.size<=W.heap.size/\Below w.heap.size (lN wr r) W):=fun W D=>
      ⟨Ql f.out.2.1 fun k F=>D.block k F,cS C.out D.size,D.mono C.out⟩
     clear d g;cases d3:(r.m.kd==3)with
     |true=>
      go_wp2_with (first|(go_at_call 264;refine L.out.mono ?_;rintro e s ⟨rfl,o⟩)|(go_at_call 263;refine(Z.add _ _ _ _ _ (q.out _ o).1 t.out (q.out _ o).2.1).mono ?_;rintro e s ⟨rfl,n,b⟩));refine⟨⟨i+1,ak,by go_num,B.out _ _ u.out n ((q.out _ o).2.2.trans b)⟩,?_⟩;simp[gu];omega
     |false=>
      have d4:(r.m.kd==4)=true:=by
       rcases e3 with e3|e3
       ·rw[e3]at d3;cases d3
       ·simp[e3]
      go_wp2_with (first|(go_at_call 264;refine L.out.mono ?_;rintro e s ⟨rfl,o⟩)|(go_at_call 263;refine(Z.add _ _ _ _ _ (q.out _ o).1 t.out (q.out _ o).2.1).mono ?_;rintro e s ⟨rfl,n,b⟩));refine⟨⟨i+1,ak,by go_num,B.out _ _ u.out n ((q.out _ o).2.2.trans b)⟩,?_⟩;simp[gu];omega
    ·have d3:(r.m.kd==3)=false:=bK;have d4:(r.m.kd==4)=false:=bK;have d:r.piece=[]:=by unfold Rq.piece;rw[aD g,aD e3]
     have T:Hid (dU (lN wr r) j c (.slice (some (aa x 0)) a.length p) a ft due order/\qL 301 5 w.heap.size w.heap.size (kN (dc (a.take (i+1)))) (lN wr r)/\aB w (lN wr r)):=by refine⟨f.out.1,?_,f.out.2.2⟩;rw[NU hr,d,xK];exact f.out.2.1
     clear d g e3;go_wp2;refine⟨⟨i+1,ak,by go_num,T.out⟩,?_⟩;simp[gu];omega
  ·have U:¬(i:Int)<(a.length:Int):=ak;have e:i=a.length:=ak;subst e;rw[vT]at hR;have A:=hR;clear hR;go_wp2_with (go_at_call 265;refine(Z.all _ _ _ _ A.out.2.1 A.out.2.2.size).mono ?_;rintro e s ⟨rfl,b⟩);go_ret;exact⟨rfl,A.out.2.2.trans b⟩
def cY(a:List Rq)(ft:Ft):List UInt8:=if ft.cM then(dc a).take (4*min ft.part.toNat ((dc a).length / 4))else dc a
theorem TO(rs)(ft:Ft):(cY rs ft).length<=(dc rs).length:=by
 unfold cY;split
 ·rw[qP];omega
 ·exact aV _
theorem afc{rs ft}(h:(dc rs).length %4=0):∃m,(cY rs ft).length=4*m:=by
 unfold cY;split
 ·rw[qP];refine⟨min ft.part.toNat ((dc rs).length / 4),?_⟩;omega
 ·exact⟨(dc rs).length / 4,ak⟩
theorem Yc(D:List UInt8)(k:Nat):(⟨D.toArray⟩:ByteArray).extract 0 k=⟨(D.take k).toArray⟩:=by apply vK;rw[vJ];simp
theorem afd(Z:qY)(j c:Nat)(rv:au)(a:List Rq)(ft:Ft)(due l:Int)(w:an)(h:dU w j c rv a ft due l)(o:(dc a).length<=1048576)(q:a.length<=1048576)(p:∀r∈a,0<=r.m.ln/\r.m.ln<=65535)(x:0<=ft.part/\ft.part<=9223372036854775807):
  bz 199 #[jp j] w (.string ⟨(cY a ft).toArray⟩):=by
 have i:=aL (Xl Z j c rv a ft due l w h o q p);have f:=aL h;have t:cY a ft=if ft.cM=true then(dc a).take (4*min ft.part.toNat ((dc a).length / 4))else dc a:=rfl
 rw[t];generalize dc a=D at*;have s:(⟨D.toArray⟩:ByteArray).size=D.length:=by show D.toArray.size=_;simp
 have u:=aL s;cases k:ft.cM with
 |false=>
  go_enter func199,ntmps199;go_wp2_with (go_at_call 236;refine i.out.mono ?_;rintro e d ⟨rfl,b⟩;have g:d.cell? (aa j 3)=some (.bool ft.cM):=av (f.out.below b).box rfl;rw[k]at g);go_ret;exact⟨aq,b⟩
 |true=>
  go_enter func199,ntmps199;go_wp2_with (go_at_call 236;refine i.out.mono ?_;rintro e d ⟨rfl,b⟩;have g:d.cell? (aa j 3)=some (.bool ft.cM):=av (f.out.below b).box rfl;have v:d.cell? (aa j 4)=some (aj ft.part):=av (f.out.below b).box rfl;rw[k]at g);go_ret;refine⟨?_,b⟩;have n:(4*min ft.part ((D.length:Int) / 4)).toNat=4*min ft.part.toNat (D.length / 4):=ak;show xE (Value.string ((⟨D.toArray⟩:ByteArray).extract 0 _))=_;rw[n,Yc]
structure Dk where
 B:Array UInt8
 D:Array UInt8
 C:List (Nat×List UInt8)
def Dk.change (d:Dk)(a:List Rq)(ft:Ft):Dk:=match a with
 |[]=>d
 |r::_=>
  if r.m.kd=2/\ft.cM=false then⟨d.B,nU d.D d.C,[]⟩
  else if r.m.fl=1/\ft.cM=false then⟨dV d.B r.m.of.toNat (cY a ft),dV d.D r.m.of.toNat (cY a ft),stay r.m.of.toNat (r.m.of.toNat+(cY a ft).length) d.C⟩
  else⟨dV d.B r.m.of.toNat (cY a ft),d.D,d.C++secs r.m.of.toNat (cY a ft) ((cY a ft).length / 4)⟩
abbrev ChS(j a n b:Nat)(r:Rq)(fl:Bool)(W:an):Prop:=(W.cell? (aa j 1)=some (.slice (some (aa a 0)) n b)/\W.cell? (aa j 3)=some (.bool fl))/\bQ W a r
theorem ChS.old{j gb n qc r fl W W'}(h:ChS j gb n qc r fl W)(a:aB W W'):ChS j gb n qc r fl W':=⟨⟨bp a h.1.1,bp a h.1.2⟩,h.2.old a⟩
def Cx(w w':an)(d c e n:Nat)(cv:au)(k:Dk):Prop:=∃a,cZ w' d c e a n k.B k.D k.C/\aG (fun b=>b=d\/b=c\/b=e\/some b=cv.ownBlock) w w'/\(a.ownBlock=cv.ownBlock\/∀g,a.ownBlock=some g->w.heap.size<=g)
theorem aG.JE{X w w'}(h:aB w w'):aG X w w':=⟨h.os,h.size,fun k a _=>h.block k a⟩
theorem WK(Z:qY)(j c rv r t)(ft:Ft)(due order d bb db n cv)(k:Dk)(w)(h:dU w j c rv (r::t) ft due order)(J:cZ w d bb db cv n k.B k.D k.C)(hl:(dc (r::t)).length<=1048576)(hn:(r::t).length<=1048576)(PR:∀x∈r::t,0<=x.m.ln/\x.m.ln<=65535)(hp:0<=ft.part/\ft.part<=9223372036854775807)(h0:0<=r.m.of)(h1:r.m.of.toNat<n)(h2:r.m.of.toNat+(dc (r::t)).length<=n)(h4:(dc (r::t)).length %4=0)(hC:k.C.length+1048576<=1099511627776):
  Calls prog 161 #[jp j,jp d] w fun e p=>e=.returned (.tuple #[])/\Cx w p d bb db n cv (k.change (r::t) ft):=by
 obtain⟨qa,qc,rfl,_⟩:=h.row.form;obtain⟨gb,rfl,k0,k1,k2,k3,k4,k5,k6,k7,k8,k9⟩:=h.row.at (i:=0) (r:=r) rfl;have P:Hid (ChS j gb (r::t).length qc r ft.cM w):=⟨⟨av h.box rfl,av h.box rfl⟩,k0,k1,k2,k3,k4,k5,k6,k7,k8,k9⟩;have HJ:=aL h;have HD:=aL J;have IZ:=TO (r::t) ft;obtain⟨m,hm⟩:=afc (ft:=ft) h4;have F:Hid (∀W,aB w W->bz 199 #[jp j] W (.string ⟨(cY (r::t) ft).toArray⟩)):=fun W y=>afd Z j c _ _ ft due order W (h.below y) hl hn PR hp;have L:(⟨(cY (r::t) ft).toArray⟩:ByteArray).size=(cY (r::t) ft).length:=by show(cY (r::t) ft).toArray.size=_;simp
 have cast:((r.m.of.toNat:Nat):Int)=r.m.of:=ak
 have I:Hid (∀W,aB w W->Calls prog 200 #[jp d,aj r.m.of,.string ⟨(cY (r::t) ft).toArray⟩] W fun e p=>e=.returned (.tuple #[])/\Cx w p d bb db n cv ⟨dV k.B r.m.of.toNat (cY (r::t) ft),k.D,k.C++secs r.m.of.toNat (cY (r::t) ft) ((cY (r::t) ft).length / 4)⟩):=fun W y=>by have:=XK d bb db n r.m.of.toNat m cv k.B k.D k.C ⟨(cY (r::t) ft).toArray⟩ W (J.below y) h1 (by rw[L];omega) (by rw[L];exact hm) ak;rw[cast]at this;refine this.mono ?_;rintro e p ⟨rfl,Y,M,N,q3⟩;refine⟨rfl,Y,?_,(aG.JE y).trans (N.mono fun b _ E=>E.elim .inl fun E=>E.elim (fun e=>.inr (.inl e)) fun e=>.inr (.inr (.inr e))),q3.imp id fun q g e=>cS y.size (q g e)⟩;have e:(cY (r::t) ft).length / 4=m:=ak;rw[e];exact M
 have bu:Hid (∀W,aB w W->Calls prog 198 #[jp d,aj r.m.of,.string ⟨(cY (r::t) ft).toArray⟩] W fun e p=>e=.returned (.tuple #[])/\Cx w p d bb db n cv ⟨dV k.B r.m.of.toNat (cY (r::t) ft),dV k.D r.m.of.toNat (cY (r::t) ft),stay r.m.of.toNat (r.m.of.toNat+(cY (r::t) ft).length) k.C⟩):=fun W y=>by have:=adQ d bb db n r.m.of.toNat cv k.B k.D k.C ⟨(cY (r::t) ft).toArray⟩ W (J.below y) h1 (by rw[L];omega) ak;rw[cast,L]at this;refine this.mono ?_;rintro e p ⟨rfl,Y,M,N,q3⟩;exact⟨rfl,Y,M,(aG.JE y).trans N,.inl q3⟩
 have bq:Hid (∀W,aB w W->Calls prog 197 #[jp d] W fun e p=>e=.returned (.tuple #[])/\Cx w p d bb db n cv ⟨k.B,nU k.D k.C,[]⟩):=fun W y=>by refine(YA d bb db n cv k.B k.D k.C W (J.below y) ak).mono ?_;rintro e p ⟨rfl,M,N⟩;exact⟨rfl,_,M,(aG.JE y).trans (N.mono fun b _ E=>E.elim .inl fun e=>.inr (.inr (.inl e))),.inr fun g e=>by cases e⟩
 have R:k.change (r::t) ft=if r.m.kd=2/\ft.cM=false then⟨k.B,nU k.D k.C,[]⟩
  else if r.m.fl=1/\ft.cM=false then⟨dV k.B r.m.of.toNat (cY (r::t) ft),dV k.D r.m.of.toNat (cY (r::t) ft),stay r.m.of.toNat (r.m.of.toNat+(cY (r::t) ft).length) k.C⟩
  else⟨dV k.B r.m.of.toNat (cY (r::t) ft),k.D,k.C++secs r.m.of.toNat (cY (r::t) ft) ((cY (r::t) ft).length / 4)⟩:=rfl
 have U:Hid (r.m.kd=2/\ft.cM=false->k.change (r::t) ft=⟨k.B,nU k.D k.C,[]⟩):=fun e=>by rw[R,aM e]
 have V:Hid (¬(r.m.kd=2/\ft.cM=false)->r.m.fl=1/\ft.cM=false->k.change (r::t) ft=⟨dV k.B r.m.of.toNat (cY (r::t) ft),dV k.D r.m.of.toNat (cY (r::t) ft),stay r.m.of.toNat (r.m.of.toNat+(cY (r::t) ft).length) k.C⟩):=fun e e'=>by rw[R,aD e,aM e']
 have X:Hid (¬(r.m.kd=2/\ft.cM=false)->¬(r.m.fl=1/\ft.cM=false)->k.change (r::t) ft=⟨dV k.B r.m.of.toNat (cY (r::t) ft),k.D,k.C++secs r.m.of.toNat (cY (r::t) ft) ((cY (r::t) ft).length / 4)⟩):=fun e e'=>by rw[R,aD e,aD e']
 generalize k.change (r::t) ft=kx at*;generalize cY (r::t) ft=Wl at*;clear h J IZ hm hl hn PR h0 h1 h2 h4 hC k0 k1 k2 k3 k4 k5 k6 k7 k8 k9 L cast R HJ HD;have bH:0<(r::t).length:=aq;generalize (r::t).length=nr at*;have bG:(0:Int)<(nr:Int):=ak;go_enter func161,ntmps161
 go_upto_region 0 with fail
 go_cut [4,5] (fun p4 p5 p=>p4=aF w.heap.size/\p5=.bool (!ft.cM)/\p.heap[w.heap.size]? =some (.cells (aC r) 134 (0,0))/\aB w p)
 case first=>
  refine gW ?_;refine dh (S:=ChS j gb nr qc r ft.cM) 14 aI P.out ?_;intro hS;refine gk 0 ?_;refine gk 1 ?_;refine gk 2 ?_;refine gs 3 ?_;refine gk 4 ?_;refine gs 5 ?_;refine gk 6 ?_;refine gk 7 ?_;refine gk 8 ?_;refine gk 9 ?_;refine gs 10 ?_;refine gk 11 ?_;have b1:aB w (w.alloc (.cells (aC ⟨⟨0,⟨#[]⟩,0,0,0,0,0,⟨#[]⟩,0⟩,0⟩) 134)).drew:=aR.drew;refine gr 12 fun K a=>?_;go_simp;refine a.out _ _ (P.out.old b1) (fun G=>?_);clear a K;have b2:aB w (w.alloc (.cells (aC r) 134)).drew:=aR.drew;refine gr 13 fun K a=>?_;go_simp;refine a.out _ _ (P.out.old b2) (fun DM=>?_);clear a K;refine gz fun K a=>?_;go_simp;refine a.out _ _ ?_;clear a K;refine dJ aI ?_ _;refine gp ?_;go_wp2_with fail
  go_meet
  case rel=>exact⟨rfl,rfl,bW w _,b2⟩
 case rest=>
  obtain⟨rfl,rfl,Q,E⟩:=hcut;have s2:=av Q (i:=2) (v:=aj r.m.kd) rfl;have s3:=av Q (i:=3) (v:=aj r.m.fl) rfl;have s:=av Q (i:=5) (v:=aj r.m.of) rfl;have f:=aL E;clear E Q P
  by_cases u:r.m.kd=2/\ft.cM=false
  ·have d1:(r.m.kd==2)=true:=by simp[u.1]
   have d2:(!ft.cM)=true:=by simp[u.2]
   have z:=aL (U.out u);clear u;rw[d2];go_wp2_with (go_at_call 197;refine(bq.out _ f.out).mono ?_;rintro e H ⟨rfl,o⟩);refine dZ rfl rfl ⟨rfl,?_⟩;rw[z.out];exact o
  ·by_cases A:r.m.fl=1/\ft.cM=false
   ·have d1:(r.m.fl==1)=true:=by simp[A.1]
    have d2:(!ft.cM)=true:=by simp[A.2]
    have d3:(r.m.kd==2)=false:=by have:¬r.m.kd=2:=fun e=>u ⟨e,A.2⟩;simp[this]
    have z:=V.out u A;clear u A U V X;rw[d2]
    go_upto_region 5 with fail
    refine gW ?_;refine dh (S:=fun W=>W.cell? (aa w.heap.size 5)=some (aj r.m.of)/\aB w W) 6 aI ⟨s,f.out.drew⟩ ?_;intro hS;refine gk 0 ?_;refine gk 1 ?_;refine gk 2 ?_;refine gs 3 ?_;refine gk 4 ?_;refine gr 5 fun K a=>?_;go_simp;go_at_call 199;refine(F.out _ f.out.drew).mono ?_;rintro e H ⟨rfl,l⟩;refine a.out _ _ ⟨bp l s,f.out.drew.trans (l.mono f.out.drew.size)⟩ (fun G=>?_);clear a K;refine gz fun K a=>?_;go_simp;go_at_call 198;refine(bu.out _ (f.out.drew.trans (l.mono f.out.drew.size))).mono ?_;rintro e O ⟨rfl,o⟩;refine a.out _ _ ?_;clear a K;refine dJ aI ?_ _;refine gp ?_;go_wp2_with fail;refine dZ rfl rfl ⟨rfl,?_⟩;rw[z];exact o
   ·have z:=X.out u A;clear U V X;cases T:ft.cM with
    |true=>
     have d2:(!ft.cM)=false:=by rw[T];rfl
     clear u A;cases d1:(r.m.kd==2)with
     |true=>
      cases d3:(r.m.fl==1)with
      |true=>
       simp
       go_upto_region 1 with fail
       refine gW ?_;refine dh (S:=fun W=>W.cell? (aa w.heap.size 5)=some (aj r.m.of)/\aB w W) 6 aI ⟨s,f.out.drew⟩ ?_;intro hS;refine gk 0 ?_;refine gk 1 ?_;refine gk 2 ?_;refine gs 3 ?_;refine gk 4 ?_;refine gr 5 fun K a=>?_;go_simp;go_at_call 199;refine(F.out _ f.out.drew).mono ?_;rintro e H ⟨rfl,l⟩;refine a.out _ _ ⟨bp l s,f.out.drew.trans (l.mono f.out.drew.size)⟩ (fun G=>?_);clear a K;refine gz fun K a=>?_;go_simp;go_at_call 200;refine(I.out _ (f.out.drew.trans (l.mono f.out.drew.size))).mono ?_;rintro e O ⟨rfl,o⟩;refine a.out _ _ ?_;clear a K;refine dJ aI ?_ _;refine gp ?_;go_wp2_with fail;refine dZ rfl rfl ⟨rfl,?_⟩;rw[z];exact o
      |false=>
       simp
       go_upto_region 1 with fail
       refine gW ?_;refine dh (S:=fun W=>W.cell? (aa w.heap.size 5)=some (aj r.m.of)/\aB w W) 6 aI ⟨s,f.out.drew⟩ ?_;intro hS;refine gk 0 ?_;refine gk 1 ?_;refine gk 2 ?_;refine gs 3 ?_;refine gk 4 ?_;refine gr 5 fun K a=>?_;go_simp;go_at_call 199;refine(F.out _ f.out.drew).mono ?_;rintro e H ⟨rfl,l⟩;refine a.out _ _ ⟨bp l s,f.out.drew.trans (l.mono f.out.drew.size)⟩ (fun G=>?_);clear a K;refine gz fun K a=>?_;go_simp;go_at_call 200;refine(I.out _ (f.out.drew.trans (l.mono f.out.drew.size))).mono ?_;rintro e O ⟨rfl,o⟩;refine a.out _ _ ?_;clear a K;refine dJ aI ?_ _;refine gp ?_;go_wp2_with fail;refine dZ rfl rfl ⟨rfl,?_⟩;rw[z];exact o
     |false=>
      cases d3:(r.m.fl==1)with
      |true=>
       simp
       go_upto_region 1 with fail
       refine gW ?_;refine dh (S:=fun W=>W.cell? (aa w.heap.size 5)=some (aj r.m.of)/\aB w W) 6 aI ⟨s,f.out.drew⟩ ?_;intro hS;refine gk 0 ?_;refine gk 1 ?_;refine gk 2 ?_;refine gs 3 ?_;refine gk 4 ?_;refine gr 5 fun K a=>?_;go_simp;go_at_call 199;refine(F.out _ f.out.drew).mono ?_;rintro e H ⟨rfl,l⟩;refine a.out _ _ ⟨bp l s,f.out.drew.trans (l.mono f.out.drew.size)⟩ (fun G=>?_);clear a K;refine gz fun K a=>?_;go_simp;go_at_call 200;refine(I.out _ (f.out.drew.trans (l.mono f.out.drew.size))).mono ?_;rintro e O ⟨rfl,o⟩;refine a.out _ _ ?_;clear a K;refine dJ aI ?_ _;refine gp ?_;go_wp2_with fail;refine dZ rfl rfl ⟨rfl,?_⟩;rw[z];exact o
      |false=>
       simp
       go_upto_region 1 with fail
       refine gW ?_;refine dh (S:=fun W=>W.cell? (aa w.heap.size 5)=some (aj r.m.of)/\aB w W) 6 aI ⟨s,f.out.drew⟩ ?_;intro hS;refine gk 0 ?_;refine gk 1 ?_;refine gk 2 ?_;refine gs 3 ?_;refine gk 4 ?_;refine gr 5 fun K a=>?_;go_simp;go_at_call 199;refine(F.out _ f.out.drew).mono ?_;rintro e H ⟨rfl,l⟩;refine a.out _ _ ⟨bp l s,f.out.drew.trans (l.mono f.out.drew.size)⟩ (fun G=>?_);clear a K;refine gz fun K a=>?_;go_simp;go_at_call 200;refine(I.out _ (f.out.drew.trans (l.mono f.out.drew.size))).mono ?_;rintro e O ⟨rfl,o⟩;refine a.out _ _ ?_;clear a K;refine dJ aI ?_ _;refine gp ?_;go_wp2_with fail;refine dZ rfl rfl ⟨rfl,?_⟩;rw[z];exact o
    |false=>
     have d2:(!ft.cM)=true:=by rw[T];rfl
     have d1:(r.m.kd==2)=false:=by have:¬r.m.kd=2:=fun e=>u ⟨e,T⟩;simp[this]
     have d3:(r.m.fl==1)=false:=by have:¬r.m.fl=1:=fun e=>A ⟨e,T⟩;simp[this]
     clear u A;simp
     go_upto_region 1 with fail
     refine gW ?_;refine dh (S:=fun W=>W.cell? (aa w.heap.size 5)=some (aj r.m.of)/\aB w W) 6 aI ⟨s,f.out.drew⟩ ?_;intro hS;refine gk 0 ?_;refine gk 1 ?_;refine gk 2 ?_;refine gs 3 ?_;refine gk 4 ?_;refine gr 5 fun K a=>?_;go_simp;go_at_call 199;refine(F.out _ f.out.drew).mono ?_;rintro e H ⟨rfl,l⟩;refine a.out _ _ ⟨bp l s,f.out.drew.trans (l.mono f.out.drew.size)⟩ (fun G=>?_);clear a K;refine gz fun K a=>?_;go_simp;go_at_call 200;refine(I.out _ (f.out.drew.trans (l.mono f.out.drew.size))).mono ?_;rintro e O ⟨rfl,o⟩;refine a.out _ _ ?_;clear a K;refine dJ aI ?_ _;refine gp ?_;go_wp2_with fail;refine dZ rfl rfl ⟨rfl,?_⟩;rw[z];exact o
section
abbrev Fx.dk(f:Fx):Dk:=⟨f.B,f.D,f.C⟩
abbrev Fx.Bg(f:Fx)(k:Dk):Fx:={f with B:=k.B,D:=k.D,C:=k.C}
def wF(ft:Ft):UInt8:=if ft.cM then 5 else 0
def Ck.hrd(B:Array UInt8)(ft:Ft)(k:Ck)(r:Rq):Ck:=k.uK r (wF ft) (mJ B (pz k.no r ft.cM))
def Ck.answers(B:Array UInt8)(ft:Ft)(k:Ck)(a:List Rq):Ck:=a.foldl (Ck.hrd B ft) k
theorem ZU(B:Array UInt8)(ft:Ft)(k:Ck)(r:Rq):(k.hrd B ft r).no=k.no:=by unfold Ck.hrd Ck.uK;split<;>rfl
theorem GY(B:Array UInt8)(ft:Ft):∀(a:List Rq) (k:Ck),(k.answers B ft a).no=k.no
 |[],k=>rfl
 |r::a,k=>(GY B ft a (k.hrd B ft r)).trans (ZU B ft k r)
theorem VV{B:Array UInt8}{ft:Ft}{k:Ck}{a:List Rq}{i:Nat}{r:Rq}(h:a[i]? =some r):k.answers B ft (a.take (i+1))=(k.answers B ft (a.take i)).hrd B ft r:=by unfold Ck.answers;rw[sr,h];simp
structure Ck.MN(k:Ck):Prop where
 us:qi k.us
 aZ:0<=k.aZ/\k.aZ<=1048576
 prom:0<=k.prom/\k.prom<=4194304
 out:k.out.size<=1048576
theorem Dl(k:Dk)(rs)(ft:Ft):(k.change rs ft).B.size=k.B.size:=by
 unfold Dk.change;split
 ·rfl
 ·split
  ·rfl
  ·split<;>exact yQ _ _ _
variable {W:an} {f:Fx} {xb:Nat} {L:cQ} {b:Jb} {lj:Lj} {k:Ck}
def kv(own:Nat->Nat)(n:Nat)(v:au)(t:Nat):Nat->Nat:=fun x=>if x<n then own x else if v.ownBlock=some x then t else 0
theorem Bb{own n t x v}(h:x<n):kv own n v t x=own x:=aM h
theorem Ba{own n t x v}(h:n<=x)(hv:v.ownBlock=some x):kv own n v t x=t:=by unfold kv;rw[aD ak,aM hv]
theorem Rk{own n t x v}(h:n<=x)(hv:v.ownBlock≠some x):kv own n v t x=0:=by unfold kv;rw[aD ak,aD hv]
theorem aaz(Z:qY)(h:ay W f xb L)(A:eC W L.own L.cs b lj){r t}(hr:b.rs=r::t)(s:(dc b.rs).length<=1048576)(hm:b.rs.length<=1048576)(u:∀x∈b.rs,0<=x.m.ln/\x.m.ln<=65535)(F:0<=b.ft.part/\b.ft.part<=9223372036854775807)(h0:0<=r.m.of)(w:r.m.of.toNat<f.B.size)(p:r.m.of.toNat+(dc b.rs).length<=f.B.size)(q:(dc b.rs).length %4=0)(y:f.C.length+1048576<=1099511627776):
  Calls prog 161 #[jp lj.j,jp L.d] W fun e l=>e=.returned (.tuple #[])/\∃g,ay l (f.Bg (f.dk.change b.rs b.ft)) xb g/\aX W L l g/\eC l g.own g.cs b lj/\g.d=L.d/\g.cs=L.cs/\g.lv=L.lv/\∀x,W.heap.size<=x->g.own x=0\/g.own x=6:=by
 obtain⟨lc,H,v,J⟩:=A;have I:dU W lj.j lc.c lj.rv (r::t) b.ft b.due b.order:=hr▸v;rw[hr]at s hm u p q;refine(WK Z lj.j lc.c lj.rv r t b.ft b.due b.order L.d L.bb L.db f.B.size L.cv f.dk W I h.ey s hm u F h0 w p q y).mono ?_;rintro e l ⟨rfl,i,d1,d2,d3⟩
 have o:∀x,x<W.heap.size->(x=L.d\/x=L.bb\/x=L.db\/some x=L.cv.ownBlock)->L.own x=6:=by
  rintro x _ (rfl|rfl|rfl|e)
  ·exact h.iw.1
  ·exact h.iw.2.1
  ·exact h.iw.2.2.1
  ·exact h.iw.2.2.2 x e.symm
 have G:(f.dk.change (r::t) b.ft).B.size=f.B.size:=Dl _ _ _;have n:∀x,x<W.heap.size->kv L.own W.heap.size i 6 x=L.own x:=fun x a=>Bb a
 have z:∀x,i.ownBlock=some x->kv L.own W.heap.size i 6 x=6:=fun x a=>by
  rcases lE x W.heap.size with E|hge
  ·rw[Bb E];rcases d3 with d3|d3
   ·exact h.iw.2.2.2 x (d3▸a)
   ·have:=d3 x a;omega
  ·exact Ba hge a
 rw[hr];refine⟨rfl,_,h.Xy (cv:=i) (B:=(f.dk.change (r::t) b.ft).B) (D:=(f.dk.change (r::t) b.ft).D) (C:=(f.dk.change (r::t) b.ft).C) (bR:=kv L.own W.heap.size i 6) d2 o (by rw[G];exact d1) n z,⟨n,d2.mono fun x a e=>by rw[o x a e];omega⟩,?_,rfl,rfl,rfl,fun x a=>?_⟩
 ·exact eC.aside (d2.asd (L:=L) o n) ⟨lc,H,v,J⟩ (nj _) (by show ¬8+2*b.order=6;omega)
 ·show kv L.own W.heap.size i 6 x=0\/kv L.own W.heap.size i 6 x=6
  by_cases e:i.ownBlock=some x
  ·exact .inr (Ba a e)
  ·exact .inl (Rk a e)
theorem aax(h:ay W f xb L)(I:eC W L.own L.cs b lj){lc}(B:f.K[b.s]? =some (some k))(u:L.cs[b.s]? =some (some lc))(r)(er:UInt8)(d)(hr:r.Ok)(G:0<=r.m.ck/\r.m.ck<=65535)(H:d.size<=65535)(t:k.MN):
  Calls prog 163 #[jp lc.c,.agg (aC r),aj (er.toNat:Int),.string d] W fun e w=>e=.returned (.tuple #[])/\∃i D,ay w (f.at b.s (k.uK r er d)) xb i/\aX W L w i/\eC w i.own i.cs b lj/\i.d=L.d/\i.cs[b.s]? =some (some D)/\D.c=lc.c/\i.lv=L.lv/\∀x,W.heap.size<=x->i.own x=0\/i.own x=7+2*b.s:=by
 obtain⟨l,C,A,n⟩:=h.sat B;obtain rfl:lc=l:=by rw[u]at C;exact dm (dm C)
 refine(VM lc.c lc.rb lc.mb lc.ch lc.q lc.v f.g k r er d W A hr G H t.us t.aZ t.prom t.out).mono ?_;rintro e w ⟨rfl,a,E,y,g3⟩
 have z:∀x,x<W.heap.size->(x=lc.c\/x=lc.mb\/some x=lc.v.ownBlock)->L.own x=7+2*b.s:=by
  rintro x _ (rfl|rfl|e)
  ·exact n.1
  ·exact n.2.2.1
  ·exact n.2.2.2.2.2 x e.symm
 have j:∀x,x<W.heap.size->kv L.own W.heap.size a (7+2*b.s) x=L.own x:=fun x o=>Bb o;have p:=Lc.At.dQ A
 have F:(⟨lc.c,lc.rb,lc.mb,lc.ch,lc.q,a⟩:Lc).gw fun x=>kv L.own W.heap.size a (7+2*b.s) x=7+2*b.s:=by
  refine⟨(j _ p.1).trans n.1,(j _ p.2.1).trans n.2.1,(j _ p.2.2.1).trans n.2.2.1,(j _ p.2.2.2.1).trans n.2.2.2.1,fun x e=>(j x (p.2.2.2.2.1 x e)).trans (n.2.2.2.2.1 x e),fun x e=>?_⟩;rcases lE x W.heap.size with J|hge
  ·rw[j x J];rcases g3 with g3|g3
   ·exact n.2.2.2.2.2 x (g3▸e)
   ·have:=g3 x e;omega
  ·exact Ba hge e
 refine⟨rfl,_,⟨lc.c,lc.rb,lc.mb,lc.ch,lc.q,a⟩,h.client (l':=⟨lc.c,lc.rb,lc.mb,lc.ch,lc.q,a⟩) (bR:=kv L.own W.heap.size a (7+2*b.s)) u rfl B y z E j F,⟨j,y.mono fun x o e=>by rw[z x o e];omega⟩,?_,rfl,Bi u,rfl,rfl,fun x o=>?_⟩
 ·exact eC.aside (y.asd (L:=L) z j) I (Ks (l':=⟨lc.c,lc.rb,lc.mb,lc.ch,lc.q,a⟩) u rfl _) (by show ¬8+2*b.order=7+2*b.s;omega)
 ·show kv L.own W.heap.size a (7+2*b.s) x=0\/kv L.own W.heap.size a (7+2*b.s) x=7+2*b.s
  by_cases e:a.ownBlock=some x
  ·exact .inr (Ba o e)
  ·exact .inl (Rk o e)
end
theorem Qf:(prog.info? 96).map (fun i=>(i.zero,i.size,i.bytes))=some (some (.agg lQ),7,56):=aI
abbrev Fx.dn(f:Fx)(b:Jb)(k:Ck)(i:Nat):Fx:=(f.Bg (f.dk.change b.rs b.ft)).at b.s (k.answers (f.dk.change b.rs b.ft).B b.ft (b.rs.take i))
abbrev mB(b:Jb)(k:Ck)(i:Nat):List En:=(b.rs.take i).map fun r=>pz k.no r b.ft.cM
structure oQ(w:an)(L:cQ)(f:Fx)(xb:Nat)(b:Jb)(lj:Lj)(k:Ck)(c i:Nat)(v:au)(W:an)(L1:cQ)(lc:Lc):Prop where
 fx:ay W (f.dn b k i) xb L1
 mE:eC W L1.own L1.cs b lj
 fV:aX w L W L1
 d:L1.d=L.d
 az:L1.cs[b.s]? =some (some lc)
 c:lc.c=c
 row:W.ownsRow 0 96 7 v i ((mB b k i).flatMap lP)
 bU:∀g,v.ownBlock=some g->L1.own g=0/\w.heap.size<=g
 new:∀x,W.heap.size<=x->L1.own x=0
 lv:L1.lv=L.lv
section
variable {w W W':an} {L L1:cQ} {f:Fx} {xb:Nat} {b:Jb} {lj:Lj} {k:Ck} {c i:Nat} {v:au} {lc:Lc}
theorem oQ.below(h:oQ w L f xb b lj k c i v W L1 lc)(j:aB W W'):oQ w L f xb b lj k c i v W' L1 lc:=by have l:∀x,x<W.heap.size->W'.heap[x]? =W.heap[x]? :=fun x a=>j.block x a;refine⟨h.fx.below j,eC.aside (T:=fun _=>False) ⟨fun x a _=>l x a,fun _ _=>rfl⟩ h.mE (nj _) (fun e=>e),h.fV.trans ⟨fun _ _=>rfl,.below j⟩,h.d,h.az,h.c,gm h.row fun g e=>l g (zb h.row e),h.bU,fun x a=>h.new x (cS j.size a),h.lv⟩
theorem oQ.K8{g cap news r}(h:oQ w L f xb b lj k c i v W L1 lc)(hr:b.rs[i]? =some r)(p:news=lP (pz k.no r b.ft.cM))(q:W'.ownsRow 0 96 7 (.slice (some (aa g 0)) (i+1) cap) (i+1) ((mB b k i).flatMap lP++news))(d:W.grownBy W' v.ownBlock)(o:v.ownBlock=some g\/W.heap.size<=g):
  ay W' (f.dn b k i) xb L1/\eC W' L1.own L1.cs b lj/\aX w L W' L1/\W'.ownsRow 0 96 7 (.slice (some (aa g 0)) (i+1) cap) (i+1) ((mB b k (i+1)).flatMap lP)/\(L1.own g=0/\w.heap.size<=g)/\∀x,W'.heap.size<=x->L1.own x=0:=by
 have m:∀x,x<W.heap.size->L1.own x≠0->W'.heap[x]? =W.heap[x]? :=fun x a j=>d.block x a fun e=>j (h.bU x e.symm).1;have l:w.heap.size<=W.heap.size:=h.fV.bS.size
 have n:L1.own g=0/\w.heap.size<=g:=by
  rcases o with e|e
  ·exact h.bU g e
  ·exact⟨h.new g e,cS l e⟩
 refine⟨h.fx.sZ m,eC.aside (T:=fun x=>x=0) ⟨fun x a j=>m x a j,fun _ _=>rfl⟩ h.mE (nj _) ak,⟨h.fV.own,⟨d.os.trans h.fV.bS.os,cS l d.size,fun x a j=>?_⟩⟩,?_,n,fun x a=>h.new x (cS d.size a)⟩
 ·have s:=h.fV.own x a
  by_cases e:some x=v.ownBlock
  ·have:=(h.bU x e.symm).2;omega
  ·exact(d.block x (cV a l) e).trans (h.fV.bS.block x a j)
 ·have:mB b k (i+1)=mB b k i++[pz k.no r b.ft.cM]:=by
   unfold mB;rw[sr,hr];simp
  rw[this,rW,List.flatMap_singleton,<-p];exact q
theorem QZ{F}(h:ay W F xb L)(d:eC W L.own L.cs b lj):ay W F xb {L with own:=fP L.own W.heap.size 0}/\eC W (fP L.own W.heap.size 0) L.cs b lj:=
 ⟨h.owns _ fun x a=>jj a,eC.aside (T:=fun _=>False) ⟨fun _ _ _=>rfl,fun x a=>jj a⟩ d (nj _) (fun e=>e)⟩
end
structure Cy(f:Fx)(b:Jb)(k:Ck):Prop where
 ne:∃r t,b.rs=r::t/\0<=r.m.of/\r.m.of.toNat<f.B.size/\r.m.of.toNat+(dc b.rs).length<=f.B.size
 many:b.rs.length<=65536
 data:(dc b.rs).length<=1048576/\(dc b.rs).length %4=0
 ok:∀r∈b.rs,r.Ok/\(0<=r.m.ck/\r.m.ck<=65535)/\(r.m.kd=0->r.m.of+r.m.ln<=f.B.size)
 part:0<=b.ft.part/\b.ft.part<=9223372036854775807
 cache:f.C.length+1048576<=1099511627776
 cl:∀i,i<=b.rs.length->(k.answers (f.dk.change b.rs b.ft).B b.ft (b.rs.take i)).MN
theorem XY(ft:Ft):((wF ft).toNat:Int)=if ft.cM then 5 else 0:=by unfold wF;split<;>rfl
theorem adX(B)(e:En)(h:0<=e.ln/\e.ln<=65535):(mJ B e).size<=65535:=by
 unfold mJ;split
 ·show(B.extract _ _).size<=_;rw[Array.size_extract];omega
 ·show(0:Nat)<=_;omega
theorem YT(Z:qY)(w f xb L b)(lj:Lj)(k)(h:ay w f xb L)(hj:eC w L.own L.cs b lj)(hk:f.K[b.s]? =some (some k))(ok:Cy f b k):
  Calls prog 106 #[jp lj.j,jp L.d] w fun e u=>∃v z lc,e=.returned v/\oQ w L f xb b lj k lc.c b.rs.length v u z lc:=by
 obtain⟨lc,q1,q2,q3⟩:=hj;obtain⟨r0,t0,uZ,o0,o1,o2⟩:=ok.ne;have hm:b.rs.length<=1048576:=cS ok.many ak;obtain⟨qa,qc,dH,_⟩:=q2.row.form;have bV:b.s<f.K.length:=(ed.1 hk).1
 have HC:Hid (Calls prog 161 #[jp lj.j,jp L.d] w fun e u=>e=.returned (.tuple #[])/\∃L1,oQ w L f xb b lj k lc.c 0 (.slice none 0 0) u L1 lc):=by
  refine(aaz Z h ⟨lc,q1,q2,q3⟩ uZ ok.data.1 hm (fun x o=>⟨(ok.ok x o).1.lR,(ok.ok x o).1.pG⟩) ok.part o0 o1 o2 ok.data.2 ok.cache).mono ?_;rintro e u ⟨rfl,z,p1,M,p3,p4,p5,bl,p6⟩;obtain⟨n1,n2⟩:=QZ p1 p3
  have e0:f.dn b k 0=f.Bg (f.dk.change b.rs b.ft):=by have:f.K.set b.s (some k)=f.K:=ze hk;show{f.Bg (f.dk.change b.rs b.ft)with K:=f.K.set b.s (some k)}=_;rw[this]
  exact⟨rfl,{z with own:=fP z.own u.heap.size 0},⟨by rw[e0];exact n1,n2,M.trans ⟨fun x o=>jj o,aG.refl _ _⟩,p4,by rw[<-q1];exact dG (fun l=>l[b.s]?) p5,rfl,⟨rfl,.inl ⟨rfl,rfl⟩⟩,fun g e=>(by cases e),fun x o=>vk o,bl⟩⟩
 have V:Hid (∀i v W L1 I,oQ w L f xb b lj k lc.c i v W L1 I->dU W lj.j lc.c (.slice qa b.rs.length qc) b.rs b.ft b.due b.order/\W.cell? (aa lc.c 0)=some (aj k.no)/\cZ W L.d L1.bb L1.db L1.cv f.B.size (f.dk.change b.rs b.ft).B (f.dk.change b.rs b.ft).D (f.dk.change b.rs b.ft).C):=fun i v W L1 I G=>by
  obtain⟨R,u1,u2,u3⟩:=G.mE;have el:R=I:=by rw[G.az]at u1;exact(dm (dm u1)).symm
  rw[el,G.c]at u2;have eB:dU W lj.j lc.c lj.rv b.rs b.ft b.due b.order:=u2;obtain⟨J,s1,s2,s3⟩:=G.fx.sat (s:=b.s) (k:=k.answers (f.dk.change b.rs b.ft).B b.ft (b.rs.take i)) (pU bV);have c9:J=I:=by rw[G.az]at s1;exact(dm (dm s1)).symm
  subst c9;have c0:=aE W J.c 0 (aj (k.answers (f.dk.change b.rs b.ft).B b.ft (b.rs.take i)).no) s2.p.box;rw[GY,G.c]at c0;have Q:=G.fx.ey;rw[G.d]at Q;have dc:(f.dk.change b.rs b.ft).B.size=f.B.size:=Dl _ _ _;refine⟨by rw[<-dH];exact eB,c0,?_⟩;have Q:cZ W L.d L1.bb L1.db L1.cv (f.dk.change b.rs b.ft).B.size (f.dk.change b.rs b.ft).B (f.dk.change b.rs b.ft).D (f.dk.change b.rs b.ft).C:=Q;rw[dc]at Q;exact Q
 obtain⟨iE,dz,qy,dL,qz⟩:=info_parts Qf;have bB:=ok;have PT:=ok.many;clear h ok uZ o0 o1 o2 q2 q3;clear hk hm;go_enter func106,ntmps106;go_wp2_with (go_at_call 161;refine HC.out.mono ?_;rintro e w1 ⟨rfl,L1,aQ⟩;have cR:=aL aQ;have j1:w1.cell? (aa lj.j 1)=some (.slice qa b.rs.length qc):=av (V.out _ _ _ _ _ aQ).1.box rfl;clear aQ)
 go_loopw [5,17] (fun vv iv wr=>∃i v L1 I,i<=b.rs.length/\iv=aj (i:Int)/\vv=v/\Hid (oQ w L f xb b lj k lc.c i v wr L1 I)) (fun _ iv _=>b.rs.length-(gu iv).toNat)
 case atStart=>exact⟨0,_,L1,lc,eE _,rfl,rfl,cR.out⟩
 case round=>
  obtain⟨i,v,t,R,hi,rfl,hv,hR⟩:=hrel;subst hv
  by_cases dD:i<b.rs.length
  ·have h4:(i:Int)<(b.rs.length:Int):=ak;obtain⟨r,hr⟩:∃r,b.rs[i]? =some r:=⟨b.rs[i],dN dD⟩;obtain⟨gb,rfl,k0,k1,k2,k3,k4,k5,k6,k7,k8,k9⟩:=(V.out _ _ _ _ _ hR.out).1.row.at hr;have U:=hR.out.below (Nv wr r);have HE:=aL (XV lj.j lc.c _ b.rs b.ft b.due b.order k.no r _ (V.out _ _ _ _ _ U).1 (V.out _ _ _ _ _ U).2.1);have HD:=aL U;have HX:Hid ((lN wr r).heap[wr.heap.size]? =some (.cells (aC r) 134 (0,0))):=bW wr _;have HI:Hid (i<=65536):=by show i<=65536;omega
   generalize DS:pz k.no r b.ft.cM=a at*;clear U;have Tc:True:=trivial
   go_upto_region 8 with(first|(go_at_call 162;refine HE.out.mono ?_;rintro e n ⟨rfl,Y⟩;have ah:Hid (oQ w L f xb b lj k lc.c i u5 ((n.alloc (.cells (gZ a) 96)).alloc (.cells (gZ a) 96)) t R):=((HD.out.below Y).below (aR)).below (aR))|(at_builtin;have _t:=Tc;refine wpList_append_lies _ (by rfl) _ _ 93 (by rfl) 0 96 iE _ 7 56 underlying93 dz qy dL qz (by rfl) ak u5 i ((mB b k i).flatMap lP) (by rfl) ah.out.row ⟨n.heap.size+1,0,none⟩ 1 1 (lP a) (by rfl) (by rfl) (World.news_of_block (Bp n _ _)) (by simp[Value.oneCell']) ak (by have:=HI.out;unfold maxLen;omega) (by have:=HI.out;omega) aq (n.heap.size+2) aq ?_;intro g bJ q PW IK bO bX;clear Tc))
   have bR:aB n ((n.alloc (.cells (gZ a) 96)).alloc (.cells (gZ a) 96)):=((Below.refl _ n).alloc (aV _) _).alloc aq _;have N:=ah.out.K8 hr (by rw[DS]) PW IK (bO.imp id fun e=>by rw[e];simp)
   have bY:∀x,wr.heap.size<=x->some x≠u5.ownBlock:=fun x o e=>by have:=zb hR.out.row e.symm;omega
   have fN:(lN wr r).heap.size<=n.heap.size:=Y.size;have dI:wr.heap.size+1<=n.heap.size:=by simpa using fN
   have key:∀x,wr.heap.size<=x->x<n.heap.size+2->q.heap[x]? =((n.alloc (.cells (gZ a) 96)).alloc (.cells (gZ a) 96)).heap[x]? :=fun x H o=>IK.block x bK (bY x H);have X1:q.heap[wr.heap.size]? =some (.cells (aC r) 134 (0,0)):=(key _ (aV _) ak).trans (bD bR (bD Y HX.out));have A:q.heap[n.heap.size]? =some (.cells (gZ a) 96 (0,0)):=(key _ ak ak).trans (Bq n _ _);obtain⟨N1,N2,N3,N4,X,N6⟩:=N;obtain⟨lx,y1,y2,y3⟩:=N2;have bM:lx=R:=by rw[hR.out.az]at y1;exact(dm (dm y1)).symm
   have J0:q.cell? (aa lj.j 0)=some (jp lc.c):=by have:=av y2.box (i:=0) (v:=jp lx.c) rfl;rw[bM,hR.out.c]at this;exact this
   have dF:r∈b.rs:=iG hr;obtain⟨O,r2,r3⟩:=bB.ok r dF;have E:a.kd=r.m.kd/\a.of=r.m.of/\a.ln=r.m.ln/\a.er=if b.ft.cM then 5 else 0:=by rw[<-DS];exact⟨rfl,rfl,rfl,rfl⟩
   have bL:cZ q L.d t.bb t.db t.cv f.B.size (f.dk.change b.rs b.ft).B (f.dk.change b.rs b.ft).D (f.dk.change b.rs b.ft).C:=by have H:=N1.ey;rw[hR.out.d]at H;have H:cZ q L.d t.bb t.db t.cv (f.dk.change b.rs b.ft).B.size (f.dk.change b.rs b.ft).B (f.dk.change b.rs b.ft).D (f.dk.change b.rs b.ft).C:=H;rw[Dl]at H;exact H
   have HT:Hid (∀W,aB q W->bz 164 #[jp L.d,.agg (gZ a)] W (.string (mJ (f.dk.change b.rs b.ft).B a))):=fun W F=>by
    by_cases hc:a.kd=0/\a.er=0
    ·refine aeb L.d t.bb t.db f.B.size t.cv a _ _ _ W (bL.below F) hc ?_ ?_ ?_
     ·rw[E.2.1];exact O.of0
     ·rw[E.2.2.1];exact O.lR
     ·rw[E.2.1,E.2.2.1];exact r3 (E.1▸hc.1)
    ·exact adY L.d a _ W hc
   have bN:((wF b.ft).toNat:Int)=a.er:=by rw[XY,E.2.2.2]
   have HA:Hid (∀W,aB q W->Calls prog 163 #[jp lc.c,.agg (aC r),aj a.er,.string (mJ (f.dk.change b.rs b.ft).B a)] W fun e u=>e=.returned (.tuple #[])/\∃L3 J,oQ w L f xb b lj k lc.c (i+1) (.slice (some (aa g 0)) (i+1) bJ) u L3 J):=fun W F=>by
    have bU:∀x,x<q.heap.size->W.heap[x]? =q.heap[x]? :=fun x o=>F.block x o;have dB:(f.dn b k i).K[b.s]? =some (some (k.answers (f.dk.change b.rs b.ft).B b.ft (b.rs.take i))):=pU bV;have:=aax (W:=W) (b:=b) (lj:=lj) (N1.below F) (eC.aside (T:=fun _=>False) ⟨fun x o _=>bU x o,fun _ _=>rfl⟩ ⟨lx,y1,y2,y3⟩ (nj _) (fun e=>e)) dB hR.out.az r (wF b.ft) (mJ (f.dk.change b.rs b.ft).B a) O r2 (adX _ _ (by rw[E.2.2.1];exact⟨O.lR,O.pG⟩)) (bB.cl i hi);rw[hR.out.c,bN]at this;refine this.mono ?_;rintro e u ⟨rfl,z,C2,p1,M,p3,p4,p5,p6,bl,p7⟩;obtain⟨n1,n2⟩:=QZ p1 p3
    have e1:f.dn b k (i+1)=(f.dn b k i).at b.s ((k.answers (f.dk.change b.rs b.ft).B b.ft (b.rs.take i)).uK r (wF b.ft) (mJ (f.dk.change b.rs b.ft).B a)):=by rw[at_at];show(f.Bg _).at b.s _=_;rw[VV hr];unfold Ck.hrd;rw[GY,DS]
    have II:g<q.heap.size:=bX
    have dr:z.own g=0:=by rw[(M.own g (cV II F.size))];exact X.1
    have ew:u.ownsRow 0 96 7 (.slice (some (aa g 0)) (i+1) bJ) (i+1) ((mB b k (i+1)).flatMap lP):=by refine gm (gm N4 fun x e=>bU x (zb N4 e)) fun x e=>?_;cases e;exact M.bS.block g (cV II F.size) (fun h=>h X.1)
    have dK:aX w L W t:=N3.trans ⟨fun _ _=>rfl,.below F⟩
    exact⟨rfl,{z with own:=fP z.own u.heap.size 0},C2,by rw[e1];exact n1,n2,(dK.trans M).trans ⟨fun x o=>jj o,aG.refl _ _⟩,p4.trans hR.out.d,p5,p6,ew,fun x e=>by cases e;refine⟨?_,X.2⟩;show fP z.own u.heap.size 0 g=0;rw[jj (cV (cV II F.size) M.bS.size)];exact dr,fun x o=>vk o,bl.trans hR.out.lv⟩
   have S0:bQ q wr.heap.size r:=bQ.of X1;have z0:=av A (i:=0) (v:=aj a.no) rfl;have z1:=av A (i:=1) (v:=aj a.ck) rfl;have z2:=av A (i:=2) (v:=aj a.kd) rfl;have z3:=av A (i:=3) (v:=aj a.fl) rfl;have z4:=av A (i:=4) (v:=aj a.of) rfl;have z5:=av A (i:=5) (v:=aj a.ln) rfl;have z6:=av A (i:=6) (v:=aj a.er) rfl;generalize mJ (f.dk.change b.rs b.ft).B a=TB at*;clear N1 N3 N4 X N6 y1 y2 y3 bL E bN O r2 r3 key X1 A bY PW IK bO bX ah HD HX HE bR Y DS k0 k1 k2 k3 k4 k5 k6 k7 k8 k9 fN dI bM;refine gW ?_;refine dh (S:=fun W=>(W.cell? (aa lj.j 0)=some (jp lc.c)/\bQ W wr.heap.size r/\W.cell? (aa n.heap.size 0)=some (aj a.no)/\W.cell? (aa n.heap.size 1)=some (aj a.ck)/\W.cell? (aa n.heap.size 2)=some (aj a.kd)/\W.cell? (aa n.heap.size 3)=some (aj a.fl)/\W.cell? (aa n.heap.size 4)=some (aj a.of)/\W.cell? (aa n.heap.size 5)=some (aj a.ln)/\W.cell? (aa n.heap.size 6)=some (aj a.er))) 10 aI ⟨J0,S0,z0,z1,z2,z3,z4,z5,z6⟩ ?_;intro hS;refine gk 0 ?_;refine gk 1 ?_;refine gk 2 ?_;refine gs 3 ?_;refine gs 4 ?_;refine gk 5 ?_;refine gs 6 ?_;refine gk 7 ?_;refine gs 8 ?_;refine gr 9 fun K P=>?_;go_simp;go_at_call 164;refine(HT.out _ (Below.refl _ _).drew).mono ?_;rintro e w6 ⟨rfl,y⟩;refine P.out _ _ ⟨bp y J0,bQ.old (W:=q.drew) S0 y,bp y z0,bp y z1,bp y z2,bp y z3,bp y z4,bp y z5,bp y z6⟩ (fun Pz=>?_);clear P K;refine gz fun K P=>?_;go_simp;go_at_call 163;refine(HA.out _ ((Below.refl _ _).drew.trans y)).mono ?_;rintro e w7 ⟨rfl,L3,J,dj⟩;refine P.out _ _ ?_;clear P K;refine dJ aI ?_ _;refine gp ?_;go_wp2_with fail;refine⟨⟨i+1,_,L3,J,ak,by go_num,rfl,dj⟩,?_⟩;simp[gu];omega
  ·have h4:¬(i:Int)<(b.rs.length:Int):=ak;have e:i=b.rs.length:=ak;subst e;go_wp2;go_ret;exact⟨u5,rfl,t,R,by rw[hR.out.c];exact hR.out⟩
def Fx.does(f:Fx)(b:Jb):Fx:=match f.K[b.s]? with
 |some (some k)=>{f.dn b k b.rs.length with log:=f.log++mB b k b.rs.length}
 |_=>f
theorem wD{f:Fx}{b:Jb}{k:Ck}(h:f.K[b.s]? =some (some k)):f.does b={f.dn b k b.rs.length with log:=f.log++mB b k b.rs.length}:=by unfold Fx.does;rw[h]
def Fx.fin:Nat->Fx->Fx
 |0,f=>f
 |n+1,f=>match f.fl with
  |[]=>f
  |b::r=>if b.due<=f.clock then Fx.fin n ({f with fl:=r}.does b)else f
theorem Hv(f:Fx)(b:Jb):(f.does b).fl=f.fl/\(f.does b).clock=f.clock/\(f.does b).g=f.g:=by unfold Fx.does;split<;>exact⟨rfl,rfl,rfl⟩
structure Ao(P:Fx->Prop):Prop where
 top:∀f b r,P f->f.fl=b::r->(∀x∈r,dF b.key x.key=true)/\(∀x∈r,x.order≠b.order)/\r.length<1048576
 does:∀f b r,P f->f.fl=b::r->b.due<=f.clock->(∃k,f.K[b.s]? =some (some k)/\Cy {f with fl:=r} b k)/\f.log.length+65536<=1099511627776/\P ({f with fl:=r}.does b)
theorem Zf{W f xb L}(h:ay W f xb L)(hf:f.fl=[]):fE 103 #[.pointer (some (aa xb 18))] W (.tuple #[.pointer none,.bool false]):=by
 have hr:=h.fl.row;rw[hf]at hr;obtain⟨a,b,e⟩:=lT hr
 have c:W.cell? (aa xb 18)=some (.slice a 0 b):=by have:W.cell? (aa xb 18)=some L.hv:=av h.box rfl;rw[this,e];rfl
 go_enter func103,ntmps103;go_wp2
 go_ret2
 exact⟨rfl,rfl⟩
structure Ap(P:Fx->Prop)(w:an)(L:cQ)(F:Fx)(xb:Nat)(wr:an)(f1:Fx)(a:cQ):Prop where
 at_:ay wr f1 xb a
 fV:aX w L wr a
 pp:P f1
 end_:Fx.fin f1.fl.length f1=F
theorem Yi{f}(h:f.fl=[])(n):Fx.fin n f=f:=by cases n<;>simp[Fx.fin,h]
theorem Yk{f b r}(h:f.fl=b::r)(a:¬b.due<=f.clock)(n):Fx.fin n f=f:=by cases n<;>simp[Fx.fin,h,a]
theorem Yj{f b r}(h:f.fl=b::r)(a:b.due<=f.clock):Fx.fin f.fl.length f=Fx.fin ({f with fl:=r}.does b).fl.length ({f with fl:=r}.does b):=by rw[(Hv _ b).1,h];show Fx.fin (r.length+1) f=_;simp only[Fx.fin,h,a,cD]
theorem Ap.len{P w wr L L1 F f1 xb}(h:Ap P w L F xb wr f1 L1):qA (wr.cell? (aa xb 18))=f1.fl.length:=by obtain⟨a,b,e⟩:=lT h.at_.fl.row;have:wr.cell? (aa xb 18)=some L1.hv:=av h.at_.box rfl;rw[this,e];rfl
theorem logged{w W c f xb L L1 a l}(h:ay W f xb L1)(hf:aX w L W L1)(hr:c.ownsRow 0 96 7 a l.length (l.flatMap lP))(i:W.grownBy c L1.lv.ownBlock)(hw:a.ownBlock=L1.lv.ownBlock\/∀g,a.ownBlock=some g->W.heap.size<=g):
  ∃j,ay (c.setCell (aa xb 20) a) {f with log:=l} xb j/\aX w L (c.setCell (aa xb 20) a) j:=by
 have n:aG (fun b=>some b=L1.lv.ownBlock) W c:=⟨i.os,i.size,fun x t s=>i.block x t s⟩;have m:∀b,b<W.heap.size->some b=L1.lv.ownBlock->L1.own b=5:=fun b _ e=>h.lu b e.symm;have k:∀b,b<W.heap.size->kv L1.own W.heap.size a 5 b=L1.own b:=fun b d=>Bb d
 have q:∀b,a.ownBlock=some b->kv L1.own W.heap.size a 5 b=5:=fun b e=>by
  rcases lE b W.heap.size with r|hge
  ·rw[Bb r];rcases hw with hw|hw
   ·exact h.lu b (hw▸e)
   ·have:=hw b e;omega
  ·exact Ba hge e
 refine⟨_,h.logs (bR:=kv L1.own W.heap.size a 5) n m hr k q,hf.trans ⟨k,?_⟩⟩;have o:aG (fun b=>L1.own b≠0) W c:=n.mono fun b d e=>by rw[m b d e];omega
 exact o.set (p:=aa xb 20) (by show L1.own xb≠0;rw[h.dX];omega) _
structure Vs(P:Fx->Prop)(f1 F a G:Fx)(b:Jb)(r:List Jb)(k:Ck):Prop where
 eq:a={f1 with fl:=r}
 K:a.K[b.s]? =some (some k)
 ok:Cy a b k
 log:a.log.length+65536<=1099511627776
 pp:P G
 end_:Fx.fin G.fl.length G=F
 fl:G.fl=r
 res:G={a.dn b k b.rs.length with log:=a.log++mB b k b.rs.length}
 lt:r.length<f1.fl.length
theorem XJ{P:Fx->Prop}(h:Ao P){f1 F:Fx}{b:Jb}{r:List Jb}(m:P f1)(a:f1.fl=b::r)(c:b.due<=f1.clock)(g:Fx.fin f1.fl.length f1=F):∃e G k,Vs P f1 F e G b r k:=by
 obtain⟨⟨k,d,l⟩,j,i⟩:=h.does f1 b r m a c;refine⟨{f1 with fl:=r},{f1 with fl:=r}.does b,k,⟨rfl,d,l,j,i,?_,(Hv _ b).1,wD (f:={f1 with fl:=r}) d,?_⟩⟩
 ·rw[<-Yj a c];exact g
 ·rw[a];simp
theorem Yv(l:List En):(l.flatMap lP).length=l.length*7:=by
 induction l with
 |nil=>rfl
 |cons a l b=>rw[vO,ia,b];simp;omega
theorem Yu:∀u∈(Value.agg lQ).cells.toList,kW u:=by intro u a;have:(Value.agg lQ).cells.toList=lQ.toList:=rfl;rw[this]at a;simp at a;rcases a with rfl;trivial
theorem P1(l:List En):∀u∈l.flatMap lP,u.oneCell'=true:=by intro u b;obtain⟨e,_,a⟩:=BW.1 b;simp at a;rcases a with rfl|rfl|rfl|rfl|rfl|rfl|rfl<;>rfl
theorem cell_eq{W a:an}{b i:Nat}(h:a.heap[b]? =W.heap[b]?):a.cell? (aa b i)=W.cell? (aa b i):=by unfold World.cell?;rw[h]
theorem YU(Z:qY)(P:Fx->Prop)(hP:Ao P)(w:an)(f:Fx)(xb:Nat)(L:cQ)(h:ay w f xb L)(hp:P f):
  Calls prog 62 #[jp xb] w fun e o=>e=.returned (.tuple #[])/\P (Fx.fin f.fl.length f)/\∃x,ay o (Fx.fin f.fl.length f) xb x/\aX w L o x:=by
 have H0:Hid (Ap P w L (Fx.fin f.fl.length f) xb w f L):=⟨h,.refl w L,hp,rfl⟩;generalize Fx.fin f.fl.length f=F at*;obtain⟨iE,bn,qy,bq,qz⟩:=info_parts Qf;have HP:=aL hP;clear h hp hP;go_enter func62,ntmps62;go_wp2
 go_loopw [] (fun wr=>∃f1 H,Hid (Ap P w L F xb wr f1 H)) (fun wr=>qA (wr.cell? (aa xb 18)))
 case atStart=>exact⟨f,L,H0.out⟩
 case round=>
  obtain⟨f1,H,hR⟩:=hrel;have bE:=aE wr xb 13 (aj f1.clock) hR.out.at_.box;cases s:f1.fl with
  |nil=>
   have E:=aL (Zf hR.out.at_ s)
   have z:Hid (f1=F):=by have:=hR.out.end_;rw[Yi s]at this;exact this
   go_wp2_with (go_at_call 103;refine E.out.mono ?_;rintro e w1 ⟨rfl,rfl⟩);refine bodyPost_ret (results_none rfl _ _ _) rfl ⟨rfl,?_,H,?_,hR.out.fV⟩
   ·rw[<-z.out];exact hR.out.pp
   ·rw[<-z.out];exact hR.out.at_
  |cons b r=>
   obtain⟨t1,t2,t3⟩:=HP.out.top f1 b r hR.out.pp s;obtain⟨B,I,hJ,Q,D⟩:=Ze hR.out.at_ s t1 f1.clock;have E:=aL Q
   by_cases i:b.due<=f1.clock
   ·have R:Hid (fE 104 #[jp B.j,aj f1.clock] wr (.bool true)):=by
     have:=D;rw[iY i]at this;exact this
    obtain⟨m,G,k,n⟩:=XJ HP.out hR.out.pp s i hR.out.end_
    have bg:Hid (Calls prog 105 #[.pointer (some (aa xb 18))] wr fun e o=>e=.returned (.tuple #[jp B.j,.bool true])/\∃a q,q.j=B.j/\ay o m xb a/\aX w L o a/\eC o a.own a.cs b q):=by refine(YY hR.out.at_ s t1 t2 t3).mono ?_;rintro e o ⟨q,rfl,p0,a,p1,p2,p3⟩;exact⟨by rw[I],a,q,by rw[p0,I],by rw[n.eq];exact p1,hR.out.fV.trans p2,p3⟩
    clear Q D t1 t2 t3 hJ I
    go_upto_region 3 with(first|(go_at_call 103;refine E.out.mono ?_;rintro e w1 ⟨rfl,rfl⟩)|(go_at_call 104;refine R.out.mono ?_;rintro e w2 ⟨rfl,rfl⟩)|(go_at_call 105;refine bg.out.mono ?_;rintro e t ⟨rfl,a,q,el,N,x2,x3⟩))
    have Nw:=aE t xb 20 a.lv N.box;have aB:=aE t xb 19 (jp a.d) N.box
    have bf:Hid (Calls prog 106 #[jp B.j,jp a.d] t.drew fun e o=>∃v x lc,e=.returned v/\oQ t a m xb b q k lc.c b.rs.length v o x lc):=by have bD:eC t.drew a.own a.cs b q:=eC.aside (W:=t) (T:=fun _=>False) ⟨fun _ _ _=>rfl,fun _ _=>rfl⟩ x3 (nj _) (fun e=>e);have:=YT Z t.drew m xb a b q k N.drew bD n.K n.ok;rw[el]at this;refine this.mono ?_;rintro e o ⟨v,x,lc,rfl,i⟩;exact⟨v,x,lc,rfl,⟨i.fx,i.mE,⟨i.fV.own,⟨i.fV.bS.os,i.fV.bS.size,i.fV.bS.block⟩⟩,i.d,i.az,i.c,i.row,i.bU,i.new,i.lv⟩⟩
    refine gW ?_;refine dh (S:=fun W=>W.cell? (aa xb 20)=some a.lv/\W.cell? (aa xb 19)=some (jp a.d)) 14 aI ⟨Nw,aB⟩ ?_;intro hS;refine gk 0 ?_;refine gk 1 ?_;refine gk 2 ?_;refine gk 3 ?_;refine gs 4 ?_;refine gk 5 ?_;refine gk 6 ?_;refine gk 7 ?_;refine gk 8 ?_;refine gs 9 ?_;refine gr 10 fun K p=>?_;go_simp;go_at_call 106;refine bf.out.mono ?_;rintro e y ⟨v,L6,l6,rfl,l⟩;have d20:y.cell? (aa xb 20)=some a.lv:=by rw[<-l.lv];exact av l.fx.box rfl
    have d19:y.cell? (aa xb 19)=some (jp a.d):=by rw[<-l.d];exact av l.fx.box rfl
    refine p.out _ _ ⟨d20,d19⟩ (fun Pz=>?_);clear p K;obtain⟨r0,t0,uZ,_⟩:=n.ok.ne;have aR:0<b.rs.length:=by rw[uZ];simp
    have PT:=n.ok.many;obtain⟨g,bk,Y,_,bH⟩:=l.row.form aR;have PS:y.ownsRow 0 96 7 a.lv m.log.length (m.log.flatMap lP):=by rw[<-l.lv];exact l.fx.log
    have aO:((mB b k b.rs.length).flatMap lP).length=b.rs.length*7:=by rw[Yv];simp
    obtain⟨v',u,X,V,U,aT⟩:=He (P:=prog) y 93 93 96 iE _ 7 56 underlying93 bn qy bq qz rfl ak Yu a.lv m.log.length (m.log.flatMap lP) PS ⟨g,0,none⟩ b.rs.length bk ((mB b k b.rs.length).flatMap lP) aO (l.row.cells (by rw[Y];rfl)) (P1 _) aR (by have:=n.log;unfold maxLen;omega) (by have:=n.log;omega);rw[<-Y]at X;obtain⟨J,M,rfl⟩:=lT V;refine gr 11 fun K p=>?_;refine wY rfl rfl rfl rfl X ?_
    have wP:some xb≠a.lv.ownBlock:=fun e=>by have h1:=l.fx.lu xb (by rw[l.lv];exact e.symm);have h2:=l.fx.dX;omega
    have bp:xb<y.heap.size:=(aP.1 l.fx.box).1;have C:u.heap[xb]? =y.heap[xb]? :=U.block xb bp wP;refine p.out _ _ ⟨by rw[cell_eq C];exact d20,by rw[cell_eq C];exact d19⟩ (fun DM=>?_);clear p K;refine gk 12 ?_;refine gk 13 ?_;have O:u.heap[xb]? =some (.cells (kr (m.dn b k b.rs.length) L6) 112 (0,0)):=C.trans l.fx.box;have bL:=aE u xb 20 L6.lv O;have bM:=aS O 20
    obtain⟨A,g1,g2⟩:∃A,ay (u.setCell (aa xb 20) (.slice J (m.log.length+b.rs.length) M)) G xb A/\aX w L (u.setCell (aa xb 20) (.slice J (m.log.length+b.rs.length) M)) A:=by rw[n.res];refine logged l.fx (x2.trans l.fV) ?_ (by rw[l.lv];exact U) (by rw[l.lv];exact aT.at_);rw[ia,rW];have e:(mB b k b.rs.length).length=b.rs.length:=aq;rw[e];exact V
    have HF:Hid (Ap P w L F xb (u.setCell (aa xb 20) (.slice J (m.log.length+b.rs.length) M)) G A):=⟨g1,g2,n.pp,n.end_⟩
    have HM:Hid (qA ((u.setCell (aa xb 20) (.slice J (m.log.length+b.rs.length) M)).cell? (aa xb 18))<f1.fl.length):=by show _<_;rw[HF.out.len,n.fl];exact n.lt
    clear g1 g2 O C l V U aT X PS aO Y N x2 x3 uZ aB Nw d19 d20;refine gz fun K p=>?_;go_simp;refine p.out _ _ ?_;clear p K;refine dJ aI ?_ _;refine gp ?_;go_wp2_with fail;exact⟨⟨G,A,HF.out⟩,by rw[hR.out.len];exact HM.out⟩
   ·have R:Hid (fE 104 #[jp B.j,aj f1.clock] wr (.bool false)):=by
     have:=D;rw[ij i]at this;exact this
    have z:Hid (f1=F):=by have:=hR.out.end_;rw[Yk s i]at this;exact this
    clear Q D t1 t2 t3 hJ I;go_wp2_with (first|(go_at_call 103;refine E.out.mono ?_;rintro e w1 ⟨rfl,rfl⟩)|(go_at_call 104;refine R.out.mono ?_;rintro e w2 ⟨rfl,rfl⟩));refine bodyPost_ret (results_none rfl _ _ _) rfl ⟨rfl,?_,H,?_,hR.out.fV⟩
    ·rw[<-z.out];exact hR.out.pp
    ·rw[<-z.out];exact hR.out.at_
end
section
open Go.Proofs.Tryz
open Go.RowKit Go.Shelf
def EH:Go.Shelf.Ren:=⟨fun|105=>264|212=>277|99=>278|165=>279|166=>263|170=>280|169=>265|263=>284|264=>285|206=>286|240=>276|241=>287|276=>283|277=>288|n=>n,fun|9=>9|3=>3|4=>4|20=>20|0=>0|46=>203|109=>312|5=>5|72=>301|76=>304|51=>176|146=>317|53=>173|148=>319|70=>299|37=>158|75=>303|127=>262|164=>198|80=>41|n=>n,fun n=>n⟩
theorem B6:Lays.n105 prog EH:={
 mixed:=aI
 f99:=func278.trans (dG some aI)
 f105:=func264.trans (dG some aI)
 f165:=func279.trans (dG some aI)
 f166:=func263.trans (dG some aI)
 f169:=func265.trans (dG some aI)
 f170:=func280.trans (dG some aI)
 f206:=func286.trans (dG some aI)
 f212:=func277.trans (dG some aI)
 f240:=func276.trans (dG some aI)
 f241:=func287.trans (dG some aI)
 f263:=func284.trans (dG some aI)
 f264:=func285.trans (dG some aI)
 f276:=func283.trans (dG some aI)
 f277:=func288.trans (dG some aI)
 t0:=underlying0
 a0:=isAgg0
 z0:=sizeOf0
 v0:=zeroValue0
 t3:=underlying3
 a3:=isAgg3
 z3:=sizeOf3
 v3:=zeroValue3
 t4:=underlying4
 a4:=isAgg4
 z4:=sizeOf4
 v4:=zeroValue4
 t5:=underlying5
 a5:=isAgg5
 z5:=sizeOf5
 v5:=zeroValue5
 t9:=underlying9
 a9:=isAgg9
 z9:=sizeOf9
 v9:=zeroValue9
 t20:=underlying20
 a20:=isAgg20
 z20:=sizeOf20
 v20:=zeroValue20
 t37:=underlying158
 a37:=isAgg158
 z37:=sizeOf158
 v37:=zeroValue158
 t46:=underlying203
 a46:=isAgg203
 z46:=sizeOf203
 v46:=zeroValue203
 t51:=underlying176
 a51:=isAgg176
 z51:=sizeOf176
 v51:=zeroValue176
 t53:=underlying173
 a53:=isAgg173
 z53:=sizeOf173
 v53:=zeroValue173
 t70:=underlying299
 a70:=isAgg299
 z70:=sizeOf299
 v70:=zeroValue299
 t72:=underlying301
 a72:=isAgg301
 z72:=sizeOf301
 v72:=zeroValue301
 t75:=underlying303
 a75:=isAgg303
 z75:=sizeOf303
 v75:=zeroValue303
 t76:=underlying304
 a76:=isAgg304
 z76:=sizeOf304
 v76:=zeroValue304
 t109:=underlying312
 a109:=isAgg312
 z109:=sizeOf312
 v109:=zeroValue312
 t127:=underlying262
 a127:=isAgg262
 z127:=sizeOf262
 v127:=zeroValue262
 t146:=underlying317
 a146:=isAgg317
 z146:=sizeOf317
 v146:=zeroValue317
 t148:=underlying319
 a148:=isAgg319
 z148:=sizeOf319
 v148:=zeroValue319
 t164:=underlying198
 a164:=isAgg198
 z164:=sizeOf198
 v164:=zeroValue198}
theorem B8:Lays.n166 prog EH:={
 mixed:=aI
 f166:=func263.trans (dG some aI)
 f240:=func276.trans (dG some aI)
 f276:=func283.trans (dG some aI)
 t0:=underlying0
 a0:=isAgg0
 z0:=sizeOf0
 v0:=zeroValue0
 t3:=underlying3
 a3:=isAgg3
 z3:=sizeOf3
 v3:=zeroValue3
 t4:=underlying4
 a4:=isAgg4
 z4:=sizeOf4
 v4:=zeroValue4
 t9:=underlying9
 a9:=isAgg9
 z9:=sizeOf9
 v9:=zeroValue9
 t20:=underlying20
 a20:=isAgg20
 z20:=sizeOf20
 v20:=zeroValue20
 t37:=underlying158
 a37:=isAgg158
 z37:=sizeOf158
 v37:=zeroValue158
 t70:=underlying299
 a70:=isAgg299
 z70:=sizeOf299
 v70:=zeroValue299
 t72:=underlying301
 a72:=isAgg301
 z72:=sizeOf301
 v72:=zeroValue301
 t75:=underlying303
 a75:=isAgg303
 z75:=sizeOf303
 v75:=zeroValue303
 t164:=underlying198
 a164:=isAgg198
 z164:=sizeOf198
 v164:=zeroValue198}
theorem B9:Lays.n169 prog EH:={
 mixed:=aI
 f169:=func265.trans (dG some aI)
 t0:=underlying0
 a0:=isAgg0
 z0:=sizeOf0
 v0:=zeroValue0
 t3:=underlying3
 a3:=isAgg3
 z3:=sizeOf3
 v3:=zeroValue3
 t9:=underlying9
 a9:=isAgg9
 z9:=sizeOf9
 v9:=zeroValue9
 t37:=underlying158
 a37:=isAgg158
 z37:=sizeOf158
 v37:=zeroValue158
 t70:=underlying299
 a70:=isAgg299
 z70:=sizeOf299
 v70:=zeroValue299
 t72:=underlying301
 a72:=isAgg301
 z72:=sizeOf301
 v72:=zeroValue301
 t127:=underlying262
 a127:=isAgg262
 z127:=sizeOf262
 v127:=zeroValue262}
theorem Ie:Builder.Extra prog EH:={
 sizeBuilder:=aI
 liesBuilder:=aI
 t5:=underlying5
 a5:=isAgg5
 z5:=sizeOf5
 v5:=zeroValue5
 infoByte:=aI
 cellsByte:=aI
 sizeByte:=aI
 neB5:=by decide}
theorem bld:qY:=⟨fun B b e s w h d a=>Any.Builder_WriteString B8 Ie B b e s w h d a,fun B b l w h a=>Any.Builder_String_any B9 Ie B b l w h a,fun s c w f d=>Any.strings_Repeat B6 Ie s c w f d⟩
end
section
attribute [local go_sem] Oper.semAt_some
attribute [local go_sem] bq bg
open Go.Proofs.Tryz
open Go.RowKit Go.Shelf
abbrev tlA(xb a c b D:Nat):Act:=⟨#[pt xb,pt a,pt c,undef,undef,pt xb,.func (.func 96) #[] #[pt b],undef,undef,undef,.tuple #[],undef,undef,undef,undef,undef,undef,undef,undef,undef,undef,undef,undef],[{target:=.collected D,args:=#[]}]⟩
abbrev tlB(xb a e b d c:Nat):Act:=⟨#[pt xb,pt a,pt e,undef,pt c,pt xb,.func (.func 96) #[] #[pt b],undef,undef,undef,.tuple #[],pt xb,.func (.func 96) #[] #[pt d],pt c,undef,undef,undef,undef,undef,undef,undef,undef,undef],[]⟩
end
section
open Go.Proofs.Tryz
open Go.RowKit
section
variable [aA] {ρ:Ren} {P:aN} {u w:an}
theorem Bt{k n v}(h:VR ρ (.int k n) v):v=.int k n:=by cases h;rfl
theorem aeO{s v}(h:VR ρ (.string s) v):v=.string s:=by cases h;rfl
theorem aeN{n c v}(h:VR ρ (.slice none n c) v):v=.slice none n c:=by cases h;rfl
theorem aeM{r v}(e:ρ.one)(hr:ρ r r)(h:VR ρ (aF r) v):v=aF r:=by
 cases h with
 |@ptr _ d h=>
  obtain⟨a,b,c⟩:=h;obtain⟨x,y,z⟩:=d;simp only at a b c;rw[e.1 _ _ _ a hr,b,c]
theorem aeL{r v}(a:ρ.one)(hr:ρ r r)(h:VR ρ (.map (some r)) v):v=.map (some r):=by
 cases h with
 |map h=>rw[a.1 _ _ _ h hr]
theorem aeJ{r v}(a:ρ.one)(hr:ρ r r)(h:VR ρ (.chan (some r)) v):v=.chan (some r):=by
 cases h with
 |chan h=>rw[a.1 _ _ _ h hr]
theorem NB(l:eK P ρ u w){a b T x fz}(j:ρ a b)(k:u.heap[a]? =some (.cells x T fz)):∃c,w.heap[b]? =some (.cells c T fz)/\c.size=x.size/\∀(i:Nat) v,x[i]? =some v->∃e,c[i]? =some e/\VR ρ v e:=by
 rcases l.obj a b _ j k with h|⟨m,f,g⟩
 ·cases h
 ·cases g with
  |@cells _ c _ _ h=>
   refine⟨c,f,h.1,fun i v hv=>?_⟩;have d:i<c.size:=by rw[h.1];exact(aP.1 hv).1
   exact⟨c[i],cw d,h.2 i _ _ hv (cw d)⟩
end
end
section
open Classical
open Go.Conc Go.RowKit
open Go.ConcR (Payload)
section
end
theorem abu{cs c}:c∈cu cs↔∃j:Nat,cs[j]? =some (some c):=by
 unfold cu;rw[Gj];constructor
 ·rintro⟨x,b,e⟩;obtain rfl:x=some c:=e;exact sj.1 b
 ·rintro⟨j,a⟩;exact⟨some c,sj.2 ⟨j,a⟩,rfl⟩
section
variable [aA] [Payload]
end
end
section
attribute [local go_sem ↓] Go.wp_at_zero Go.wp_at_succ
open Go.Conc Go.RowKit
open Go.Proofs.Tryz
theorem WY{P f fn a}{w:an}{R:Ending->an->Prop}{n:Nat}{b:Frame}(hf:P.funcs[f]? =some fn)(g:b.fn=f)(o:b.kind=.normal)(i:b.roundOf=none)(h:LeavesInM jQ n P fn a.tmps R a.defers .returning w)(cs):
  ∃e d c,R e d/\Comes P (lone (b.at a []) cs w) (lone c cs d) e/\c.fn=f/\c.leaving P d e:=by
 have hr:jQ.room (cs.length+1+n):=room_wide _;have k:b.atR a []=b.at a []:=Frame.atR_of_none i _ _;obtain⟨j,s,c,hR,r,m,p⟩:=leaves_stepsInM a.defers .returning w {b.atR a []with mode:=.returning} cs rfl rfl rfl (by rw[<-g]at hf;exact hf) o trivial hr h;have q:StepsIn (Machine.fenced P jQ) P (lone (b.atR a []) cs w) (lone {b.atR a []with mode:=.returning} cs w):=.one (fenced_calm (fr:=b.atR a []) trivial hr rfl) (stepR_end i);exact⟨j,s,c,hR,by rw[<-k];exact comesIn_wide.1 (ComesIn.of_steps q r),m.trans g,p⟩
section
variable [aA] {P:aN} {l:List bh} {u:an}
theorem eI.O7(i:Fit P l){f fn c}{args:Array au}{R:Ending->an->Prop}{n:Nat}(hf:P.funcs[f]? =some fn)(j:fn.body=some c)(hR:∀e u d,R e u->R e (an.tp u d))(o:∀e u,R e u->∃v,e=.returned v)(h:WX P c (fun e a u=>e=.normal/\∀d,LeavesInM jQ n P fn a.tmps R a.defers .returning (an.tp u d)) {tmps:=args++Array.replicate (fn.ntmps-args.size) undef,defers:=[]} u):eI P f args u R:=fun cs=>by
 letI:aW:=bE []
 rw[enter_at args hf j];refine(h (base f) [] cs trivial fun id ⟨a,u,m,_⟩=>by cases m).bind ?_;rintro r q s ⟨e,p,⟨rfl,k⟩,g⟩;obtain⟨rfl,rfl⟩:=g;exact Reach.left (l:=l) i (fun t=>.nil) rfl hR o fun d=>WY (b:=base f) hf rfl rfl rfl (k d) _
def mV:jO->jO|.seq x _=>x|_=>.skip
def gY:jO->jO|.seq _ y=>y|_=>.skip
def rq:jO->jO|.block _ x=>x|.loop x=>x|_=>.skip
def sY(fn:Func):jO:=gY (gY (rq (rq (rq (fn.body.getD .skip)))))
end
def iL(L:List (Nat×au)):Operand->au
 |.tmp k=>(lk L k).getD undef
 |.const v=>v
 |_=>undef
theorem Ib(d k v)(L:List (Nat×au)):iL ((d,v)::L) (.tmp k)=if d=k then v else iL L (.tmp k):=by
 show(bif sA d k then some v else lk L k).getD undef=_
 by_cases h:d=k
 ·subst h;simp
 ·have:sA d k=false:=by
   cases b:sA d k with
   |false=>rfl
   |true=>exact absurd (xR b) h
  rw[this,aD h];rfl
theorem Ic(v)(L:List (Nat×au)):iL L (.const v)=v:=rfl
def qo(B:List Nat)(n d:Nat)(L:List (Nat×au))(op:Op):Bool:=decide (d<n)&&(match op with|.select _ _=>false|_=>true)&&op.operands.toList.all fun x=>match x with
 |.tmp k=>!B.contains k&&(lk L k).isSome
 |.const _=>true
 |_=>false
def tE:jO->Array Oper|.region _ ops _=>ops|_=>#[]
def RD(c:jO)(is:List Nat):Bool:=match c with
 |.region _ ops dr=>!dr&&(dM ops.size==is)
 |_=>false
section
variable [aA] {P:aN} {l:List bh} {Q:Exit->Act->an->Prop} {a:Act} {u u1:an} {ops:Array Oper} {i n d:Nat} {rest:List Nat} {Lf:bh->List Nat} {f0:bh} {dn:Nat} {v:au} {L:List (Nat×au)} {op:Op} {ty:TypeId} {ps:String} {af:Array Edge} {gd:Option (Nat×Bool)} {x:Operand} {B:List Nat}
theorem Dn(h:qo B n d L op=true):d<n/\(∀cs b,op≠.select cs b)/\∀x∈op.operands,(match x with|.tmp k=>!B.contains k&&(lk L k).isSome|.const _=>true|_=>false)=true:=by unfold qo at h;rw[cm,cm,nE]at h;exact⟨mO h.1.1,fun cs b e=>(by grind),fun x c=>h.2 x (by grind)⟩
theorem AD{m}(E:Fa m a L)(h:qo B n d L op=true)(f:x∈op.operands):a.eval x=iL L x/\a.eval x=(rR B a).eval x:=by
 have b:=(Dn h).2.2 x f;cases x with
 |tmp k=>
  rw[cm]at b;obtain⟨v,hv⟩:=Gr.1 b.2;refine⟨by rw[E.at_ k v hv];show _=(lk L k).getD undef;rw[hv];rfl,(Bs fun e=>?_).symm⟩;have c:=b.1;rw[xM.2 e]at c;cases c
 |const v=>exact⟨rfl,rfl⟩
 |_=>cases b
theorem FE.nw(E:Fa n a L)(u1)(c:∀e,jV a e d v->Fa n e ((d,v)::L)->FO Lf f0 dn P ops Q rest e u1)(k:ops[i]? =some ⟨some d,op,ty,ps,af,gd⟩:=by rfl) (p:(kH ops L gd&&lf ops n gd)=true:=by rfl) (m:okB P l op=true:=by kernel_rfl) (hc:qo (Lf f0) n d L op=true:=by rfl) (hr:∀b,(execOp (iL L) ⟨some d,op,ty,ps,af,gd⟩).run P (u.tp b)=.ok (.value v) (u1.tp b)) (j:Fit P l:=by assumption):FO Lf f0 dn P ops Q (i::rest) a u:=by obtain⟨h,g,_⟩:=Dn hc;refine FO.own j k (E.wt (o:=⟨some d,op,ty,ps,af,gd⟩) p) rfl m (Co _ g fun x f=>(AD E hc f).2) (fun b=>?_) (c _ (yS a d v) (E.put v h));rw[Co _ g fun x f=>(AD E hc f).1];exact hr b
theorem FE.ow(E:Fa n a L)(c:∀b,jV a b d v->Fa n b ((d,v)::L)->FO Lf f0 dn P ops Q rest b u)(g:ops[i]? =some ⟨some d,op,ty,ps,af,gd⟩:=by rfl) (j:(kH ops L gd&&lf ops n gd)=true:=by rfl) (h:okB P l op=true:=by kernel_rfl) (hc:qo (Lf f0) n d L op=true:=by rfl)
  (hr:∀e,(execOp (iL L) ⟨some d,op,ty,ps,af,gd⟩).run P (u.tp e)=.ok (.value v) (u.tp e):=by(intro e;go_simp;try with_reducible rfl)) (f:Fit P l:=by assumption):FO Lf f0 dn P ops Q (i::rest) a u:=FE.nw E u c g j h hc hr f
theorem FE.vo(E:Fa n a L)(u1)(c:FO Lf f0 dn P ops Q rest a u1)(h:ops[i]? =some ⟨none,op,ty,ps,af,gd⟩:=by rfl) (k:(kH ops L gd&&lf ops n gd)=true:=by rfl) (j:okB P l op=true:=by kernel_rfl) (hc:qo (Lf f0) 1 0 L op=true:=by rfl) (hr:∀b,(execOp (iL L) ⟨none,op,ty,ps,af,gd⟩).run P (u.tp b)=.ok .skip (u1.tp b)) (g:Fit P l:=by assumption):FO Lf f0 dn P ops Q (i::rest) a u:=by have f:=(Dn hc).2.1;refine FO.void g h (E.wt (o:=⟨none,op,ty,ps,af,gd⟩) k) rfl j (Co _ f fun x e=>(AD E hc e).2) (fun b=>?_) c;rw[Co _ f fun x e=>(AD E hc e).1];exact hr b
theorem FE.bl(E:Fa n a L)(c:∀b,jV a b d v->Fa n b ((d,v)::L)->FO Lf f0 dn P ops Q rest b u)(k:ops[i]? =some ⟨some d,op,ty,ps,af,gd⟩:=by rfl) (m:(kH ops L gd&&lf ops n gd)=true:=by rfl) (hc:qo [] n d L op=true:=by rfl)
  (hr:∀w,(execOp (iL L) ⟨some d,op,ty,ps,af,gd⟩).run P w=.ok (.value v) w:=by(intro w;go_simp;try with_reducible rfl)) (j:∀w,(execOp (iL L) ⟨some d,op,ty,ps,af,gd⟩).events P w #[]=#[]:=by(intro w;rfl)) (h:d∈Lf f0\/∀ρ,VR ρ v v:=by(first|exact .inl cq|exact .inr fun _=>by constructor)):FO Lf f0 dn P ops Q (i::rest) a u:=by
 obtain⟨f,g,_⟩:=Dn hc;have e:=Co (ρ:=a.eval) (ρ':=iL L) ⟨some d,op,ty,ps,af,gd⟩ g fun x p=>(AD E hc p).1;exact FO.blind k (E.wt (o:=⟨some d,op,ty,ps,af,gd⟩) m) rfl (fun w=>by rw[e];exact hr w) (fun w=>by rw[e];exact j w) h (c _ (yS a d v) (E.put v f))
def De(P:aN)(f:bh):Bool:=match P.funcs[f]? with
 |some b=>b.body.isSome&&!(b.name== "runtime.NumGoroutine")
 |none=>false
theorem Nu{f}(h:De P f=true):∃b body,P.funcs[f]? =some b/\(b.name== "runtime.NumGoroutine")=false/\b.body=some body:=by
 unfold De at h;split at h
 ·rename_i b e;rw[cm,xD]at h;obtain⟨body,c⟩:=Gr.1 h.1;exact⟨b,body,e,h.2,c⟩
 ·cases h
def arI:BinOp->Int->Int->Option Int
 |.add,X,Y=>some (X+Y)
 |.sub,X,Y=>some (X-Y)
 |.mul,X,Y=>some (X*Y)
 |_,_,_=>none
theorem FE.ar{b x y X Y z}(E:Fa n a L)(c:∀e,jV a e d (aj z)->Fa n e ((d,aj z)::L)->FO Lf f0 dn prog ops Q rest e u)(j:ops[i]? =some ⟨some d,.binOp b 3 x y 3,ty,ps,af,gd⟩:=by rfl) (r:opF L x=some (aj X):=by rfl) (s:opF L y=some (aj Y):=by rfl) (p:arI b X Y=some z:=by rfl) (f:-9223372036854775808<=z/\z<=9223372036854775807:=by omega) (o:(kH ops L gd&&lf ops n gd)=true:=by rfl) (m:okB prog l (.binOp b 3 x y 3)=true:=by kernel_rfl) (hc:qo (Lf f0) n d L (.binOp b 3 x y 3)=true:=by rfl) (g:Fit prog l:=by assumption):FO Lf f0 dn prog ops Q (i::rest) a u:=by
 have ev:∀{x:Operand} {V:au},opF L x=some V->iL L x=V:=fun{x V} h=>by
  cases x with
  |tmp k=>show(lk L k).getD undef=V;rw[show lk L k=some V from h];rfl
  |const v=>cases h;rfl
  |_=>cases h
 have q:=pP f.1 f.2;refine FE.ow E c j o m hc (fun t=>?_) g;unfold execOp;simp;cases b<;>cases p<;>go_simp
theorem FE.ln{t k m e:Nat}{ad:Option Addr}(E:Fa n a L)(c:∀b,jV a b d (aj m)->Fa n b ((d,aj m)::L)->FO Lf f0 dn prog ops Q rest b u)(g:ops[i]? =some ⟨some d,.call ⟨.builtin .len,#[.tmp k],#[t]⟩,ty,ps,af,gd⟩:=by rfl) (j:(kH ops L gd&&lf ops n gd)=true:=by rfl) (h:mD prog t=true:=by kernel_rfl) (f:decide (d<n)=true:=by rfl) (hv:lk L k=some (.slice ad m e):=by rfl):FO Lf f0 dn prog ops Q (i::rest) a u:=
 FO.C4 (om h) g (E.wt (o:=⟨some d,_,ty,ps,af,gd⟩) j) rfl rfl (E.at_ k _ hv) (c _ (yS ..) (E.put _ (mO f)))
theorem FE.lc{t k b j x}{T:TypeId}(E:Fa n a L)(B:u.heap[b]? =some (.cells x T (0,0)))(c:∀e,jV a e d v->Fa n e ((d,v)::L)->FO Lf f0 dn P ops Q rest e u)(g:ops[i]? =some ⟨some d,.load t (.tmp k),ty,ps,af,gd⟩:=by rfl) (q:lk L k=some (.pointer (some (aa b j))):=by rfl) (m:x[j]? =some v:=by rfl) (h:(kH ops L gd&&lf ops n gd)=true:=by rfl) (hc:qo (Lf f0) n d L (.load t (.tmp k))=true:=by rfl) (hr:∀w:an,w.cell? (aa b j)=some v->(execOp (iL L) ⟨some d,.load t (.tmp k),ty,ps,af,gd⟩).run P w=.ok (.value v) w:=by(intro w p;go_simp)) (f:Fit P l:=by assumption):FO Lf f0 dn P ops Q (i::rest) a u:=
 FE.ow E c g h rfl hc (fun o=>hr _ (av (show(u.tp o).heap[b]? =_ from B) m)) f
theorem FE.st{t k1 k2 b j x}{T:TypeId}{v0}(E:Fa n a L)(B:u.heap[b]? =some (.cells x T (0,0)))(c:∀u1:an,u1.heap[b]? =some (.cells (x.setIfInBounds j v) T (0,0))->(∀e,e≠b->u1.heap[e]? =u.heap[e]?)->FO Lf f0 dn P ops Q rest a u1)(k:ops[i]? =some ⟨none,.store t (.tmp k1) (.tmp k2),ty,ps,af,gd⟩:=by rfl) (r:lk L k1=some (.pointer (some (aa b j))):=by rfl) (hv:lk L k2=some v:=by rfl) (o:x[j]? =some v0:=by rfl) (m:(kH ops L gd&&lf ops n gd)=true:=by rfl) (hc:qo (Lf f0) 1 0 L (.store t (.tmp k1) (.tmp k2))=true:=by rfl) (hr:∀w:an,w.cell? (aa b j)=some v0->w.frozen? (aa b j)=false->(execOp (iL L) ⟨none,.store t (.tmp k1) (.tmp k2),ty,ps,af,gd⟩).run P w=.ok .skip (w.setCell (aa b j) v):=by(intro w p q;go_simp)) (g:Fit P l:=by assumption):FO Lf f0 dn P ops Q (i::rest) a u:=by refine FE.vo E (u.setCell (aa b j) v) (c _ (bV B j v) fun e h=>bH h) k m rfl hc (fun f=>?_) g;rw[hr _ (av (show(u.tp f).heap[b]? =_ from B) o) (aS (show(u.tp f).heap[b]? =_ from B) j)];exact dG _ (Se _ _ _ _)
theorem FE.cx{f xs vs ats}(E:Fa n a L)(s:aA.depth=dn+1)(t:aA.known f)(c:eI P f vs.toArray u fun e j=>∃v,e=.returned v/\∀b,jV a b d v->Fa n b ((d,v)::L)->FO Lf f0 dn P ops Q rest b j)(w:ops[i]? =some ⟨some d,.call ⟨.value (.func f),xs.toArray,ats⟩,ty,ps,af,gd⟩:=by rfl) (y:(kH ops L gd&&lf ops n gd)=true:=by rfl) (p:De P f=true:=by kernel_rfl) (r:xs.all (cE l)=true:=by rfl) (hc:ru (Lf f0) n d xs=true:=by rfl) (hv:uL L xs=some vs:=by rfl) (q:Fit P l:=by assumption):FO Lf f0 dn P ops Q (i::rest) a u:=by
 have k:xs.toArray.map a.eval=vs.toArray:=by rw[qQ,Hf E hv]
 obtain⟨A,body,g,h,m⟩:=Nu p;refine FO.WA q s w (E.wt (o:=⟨some d,_,ty,ps,af,gd⟩) y) rfl rfl g h m t (by simpa using r) ?_ ?_
 ·rw[qQ,qQ];refine dG _ (List.map_congr_left fun x z=>(WQ hc z).symm)
 ·rw[k];exact c.mono fun e j ⟨v,g,h⟩=>⟨v,g,h _ (yS a d v) (E.put v (Dm hc))⟩
theorem FE.cf{f fn xs vs ats}(E:Fa n a L)(m:P.funcs[f]? =some fn)(s:aA.known f)(w:∀x:Array au,results fn x=results fn (oo (Lf f) x))(z:∀A (j:Nat) v,(Frame.enter P f vs.toArray .normal).tmps[j]? =some v->j∉Lf f->VR A v v)(c:jB Lf P (dn+1) f vs.toArray u fun e p=>∃v,e=.returned v/\∀g,jV a g d v->Fa n g ((d,v)::L)->FO Lf f0 dn P ops Q rest g p)(t:ops[i]? =some ⟨some d,.call ⟨.value (.func f),xs.toArray,ats⟩,ty,ps,af,gd⟩:=by rfl) (y:(kH ops L gd&&lf ops n gd)=true:=by rfl) (r:De P f=true:=by kernel_rfl) (hc:ru [] n d []=true:=by rfl) (hv:uL L xs=some vs:=by rfl):FO Lf f0 dn P ops Q (i::rest) a u:=by
 have k:xs.toArray.map a.eval=vs.toArray:=by rw[qQ,Hf E hv]
 obtain⟨C,body,b,h,q⟩:=Nu r;rw[m]at b;cases b;refine FO.Wz t (E.wt (o:=⟨some d,_,ty,ps,af,gd⟩) y) rfl rfl m h q s w (by rw[k];exact z) ?_;rw[k];exact c.mono fun e p ⟨v,b,h⟩=>⟨v,b,h _ (yS a d v) (E.put v (Dm hc))⟩
theorem FE.un0{j p b oj}(E:Fa n a L)(c:∀e,jV a e d undef->Fa n e ((d,undef)::L)->FO Lf f0 dn P ops Q rest e u)(k:ops[i]? =some ⟨some d,op,ty,ps,af,some (j,b)⟩:=by rfl) (f:ops[j]? =some oj:=by rfl) (m:oj.dst=some p:=by rfl) (g:lk L p=some (.bool !b):=by rfl) (hc:(ru [] n d []&&decide (p<n))=true:=by rfl):FO Lf f0 dn P ops Q (i::rest) a u:=by have h:=(cm _ _).mp hc;exact FO.unwanted k (aej rfl f m (by rw[E.size];exact mO h.2) (E.at_ p _ g)) rfl (c _ (yS a d undef) (E.put _ (Dm h.1)))
theorem FX.reg{c}(is)(h:FO Lf f0 dn P (tE c) Q is a u)(hc:RD c is=true:=by kernel_rfl):FX Lf f0 dn P c Q a u:=by
 unfold RD at hc;split at hc
 ·rename_i id ops dr;rw[cm,xD]at hc;obtain⟨rfl,b⟩:=hc;refine FX.region ?_;rw[eq_of_beq b];exact h
 ·cases hc
def drB:jO->Bool|.region _ _ dr=>dr|_=>false
theorem FX.dr{c}(m b)(e:Nat->au->Prop)(E:Fa n a L)
  (step:∀u1:an,u1={u with drawn:=u.drawn+1}->∀i,i<b->∀a is,Fa n a L->(∀j,((lO (tE c) i).contains j&&decide (j<b))=true->e j (a.eval (.tmp (fY (tE c) j))))->(∀o v,e i v->jV a o (fY (tE c) i) v->FO Lf f0 dn P (tE c) Q is o u1)->FO Lf f0 dn P (tE c) Q (i::is) a u1)
  (r:∀u1:an,u1={u with drawn:=u.drawn+1}->∀a,Fa n a L->(∀i,decide (i<b)=true->e i (a.eval (.tmp (fY (tE c) i))))->gA Lf f0 dn P .any (tE c) Q (m-b) (sW m b) a u1)
  (f:(drB c&&EB (tE c) m b n (L.map Prod.fst))=true:=by kernel_rfl) (hm:P.follows .mixedOrders=true:=by kernel_rfl):FX Lf f0 dn P c Q a u:=by
 rw[cm]at f;cases c with
 |region id ops dr=>
  cases f.1;exact FX.Z1 m b hm f.2 e E (fun u1 k i p a is g q=>step u1 k i p a is g fun j h=>by rw[cm,uo]at h;exact q j h.1 h.2) fun u1 k a g hv=>r u1 k a g fun i h=>hv i (mO h)
 |_=>cases f.1
def abc:jO->Bool|.seq _ _=>true|_=>false
theorem FX.sq{c}(h:FX Lf f0 dn P (mV c) (Exit.then (FX Lf f0 dn P (gY c) Q) Q) a u)(hc:abc c=true:=by kernel_rfl):FX Lf f0 dn P c Q a u:=by cases c<;>first|exact FX.seq h|cases hc
def Dq:jO->Option Nat|.cond (.tmp k) _ _=>some k|_=>none
theorem ND{c k}(h:Dq c=some k):c=.cond (.tmp k) (ct c) (cf c):=by
 unfold Dq at h;split at h
 ·cases h;rfl
 ·cases h
theorem FX.cT{c k}(E:Fa n a L)(h:FX Lf f0 dn P (ct c) Q a u)(b:Dq c=some k:=by rfl) (hv:lk L k=some (.bool true):=by rfl):FX Lf f0 dn P c Q a u:=by rw[ND b];exact FX.cond (E.at_ k _ hv) h
theorem FX.cF{c k}(E:Fa n a L)(h:FX Lf f0 dn P (cf c) Q a u)(b:Dq c=some k:=by rfl) (hv:lk L k=some (.bool false):=by rfl):FX Lf f0 dn P c Q a u:=by rw[ND b];exact FX.cond (E.at_ k _ hv) h
theorem FX.rt{c}(h:Q .ret a u)(hc:c=.ret:=by kernel_rfl):FX Lf f0 dn P c Q a u:=hc▸FX.ret h
theorem FX.sk{c}(h:Q .normal a u)(hc:c=.skip:=by kernel_rfl):FX Lf f0 dn P c Q a u:=hc▸FX.skip h
theorem FX.bk{c}(id)(h:FX Lf f0 dn P (rq c) (BI id Q) a u)(hc:c=.block id (rq c):=by kernel_rfl):FX Lf f0 dn P c Q a u:=by rw[hc];exact FX.block h
theorem FX.lp{c}(I:Act->an->Prop)(b:Act->an->Nat)(g:I a u)(round:∀a u,I a u->FX Lf f0 dn P (rq c) (Exit.then (fun e f=>I e f/\b e f<b a u) Q) a u)(hc:c=.loop (rq c):=by kernel_rfl):FX Lf f0 dn P c Q a u:=by rw[hc];exact FX.loop I b g round
theorem FX.ex{c}(id)(h:Q (.exit id) a u)(hc:c=.exit id:=by kernel_rfl):FX Lf f0 dn P c Q a u:=hc▸FX.exit h
def oZ(fn:Func):jO:=fn.body.getD .skip
def xw:Nat->List au->List (Nat×au)
 |_,[]=>[]
 |k,v::r=>(k,v)::xw (k+1) r
theorem TQ:∀{k j:Nat} {vs:List au} {v:au},lk (xw k vs) j=some v->∃m,j=k+m/\vs[m]? =some v
 |k,j,[],v,h=>by cases h
 |k,j,x::r,v,h=>by
  unfold xw lk at h;cases b:sA k j with
  |true=>
   rw[b]at h;cases h;exact⟨0,(xR b).symm,rfl⟩
  |false=>
   rw[b]at h;obtain⟨m,e,c⟩:=TQ h;exact⟨m+1,ak,c⟩
theorem jB.Et{f fn vs R}(n)(hf:P.funcs[f]? =some fn)(h:∀a,Fa n a (xw 0 vs)->FX Lf f dn P (oZ fn) (fun e a u=>e=.ret/\a.defers=[]/\∃v,(results fn a.tmps).run P u=.ok v u/\R (.returned v) u) a u)(c:fn.body=some (oZ fn):=by kernel_rfl) (p:fn.ntmps=n:=by kernel_rfl) (o:vs.length<=n:=by simp):jB Lf P dn f vs.toArray u R:=by
 refine jB.O6 hf c (h _ ⟨?_,rfl,fun k v g=>?_⟩)
 ·simp;omega
 ·obtain⟨m,j,b⟩:=TQ g;rw[show k=m by omega];simp[Act.eval,tO,FH,((ed.1 b).1)];exact(ed.1 b).2
theorem Fa.to{M}(h:Fa n a L)(b:CP L M:=by(repeat (first|exact trivial|refine⟨rfl,?_⟩))):Fa n a M:=h.sub b
end
end
section
attribute [local go_sem ↓] Go.wp_at_zero Go.wp_at_succ
attribute [local go_sem] bq bg Ib Ic xw
open Go.Conc Go.RowKit
open Go.Proofs.Tryz
def fH(f:bh):List Nat:=if f=12 then[0,1,2,28,51,56,58,76]else if f=28 then[0,4,9,13,17,25,33,38,43,51]else if f=29 then[0,5,8,10,13]else[]
def sR[aA](ad:Option Addr)(len:Nat):Prop:=len=0\/∃(b off:Nat) (a:Obj) (z:Nat->Int),ad=some ⟨b,off,none⟩/\aA.wat b=some a/\∀i,i<len->oV (z i)/\∀w:an,w.heap[b]? =some a->w.cell? (aa b (off+i))=some (aj (z i))
section
variable [aA] {u:an} {l:List bh} {dn:Nat}
theorem V7(i:Fit prog l)(ad len cap j)(q:len<=maxLen)(d:0<=j)(y:j<=9223372036854775807)(h:sR ad len):
  jB fH prog dn 29 #[.slice ad len cap,aj j] u fun e t=>∃z,e=.returned (aj z)/\oV z/\t=u:=by
 have A:len<=9223372036854775807:=q;refine jB.Et 15 func29 fun a E=>?_;refine FX.sq (FX.reg [0] ?_);refine FE.ow E fun a _ E=>FO.nil ?_;refine FX.sq (FX.sq (FX.reg [0,1,2] ?_));refine FE.bl E fun a _ E=>?_;refine FE.ln E fun a _ E=>?_;refine FE.ow (v:=.bool ((len:Int)==0)) E fun a _ E=>FO.nil ?_
 by_cases s:(len:Int)=0
 ·rw[show((len:Int)==0)=true by simp;omega]at E;refine FX.cT E (FX.sq (FX.reg [0] ?_));refine FE.ow E fun a _ E=>FO.nil ?_;refine FX.rt ⟨rfl,E.defers,aj 0,?_,0,rfl,⟨ak,ak⟩,rfl⟩;have k:=ev (E.at_ 4 _ rfl);simp[results,results29,go_sem,k]
 ·rw[show((len:Int)==0)=false by simp;omega]at E;refine FX.cF E (FX.sk (FX.sq (FX.reg [0,1,2,3,4,5,6,7] ?_)));obtain⟨b,off,D,z,rfl,r,g⟩:=h.resolve_left ak;obtain⟨n,c⟩:∃n:Nat,n<len/\j.tmod len=n:=⟨(j.tmod len).toNat,by have:=Mb (len:Int) d;have:=Ut j (show(0:Int)<len by omega);omega,by have:=Mb (len:Int) d;omega⟩;have o:j %(len:Int)=j.tmod len:=(Us d).symm;have p:0<=(n:Int)/\(n:Int)<(len:Int):=ak;refine FE.bl E fun a _ E=>?_;refine FE.ow E fun a _ E=>?_;refine FE.bl E fun a _ E=>?_;refine FE.ln E fun a _ E=>?_;refine FE.ow (v:=aj (n:Int)) E (hr:=fun G=>by have B:=s;have C:¬len=0:=ak;have x:=c.2;first|(go_simp;done)|(rw[<-c.2];go_simp)|(rw[<-c.2,<-o];go_simp)) fun a _ E=>?_;refine FE.DY (v:=.pointer (some (aa b (off+n)))) (fun w=>by go_simp) (fun w=>events_indexAt_slice (P:=prog) (w:=w) (es:=#[]) 25 ⟨b,off,none⟩ len cap .i64 n aI p) E i rfl rfl rfl rfl rfl rfl fun a E=>?_;refine FE.EU (v:=aj (z n)) r E i rfl rfl rfl rfl rfl rfl (fun w f=>by have m:=(g n c.1).2 w f;go_simp) (fun w f=>by have m:=(g n c.1).2 w f;go_simp) (fun F=>.int _ _) fun a E=>?_;refine FE.ow E fun a _ E=>FO.nil ?_;refine FX.rt ⟨rfl,E.defers,aj (z n),?_,z n,rfl,(g n c.1).1,rfl⟩;simp[results,results29,go_sem,(ev (E.at_ 4 _ rfl))]
theorem S6(k:Fit prog l)(c n)(hc:oV c)(h0:0<n)(j:n<=9223372036854775807):
  jB fH prog dn 21 #[aj c,aj n] u fun e h=>∃r,e=.returned (aj r)/\(0<=r/\r<n)/\h=u:=by
 obtain⟨m,o⟩:=hc;refine jB.Et 13 func21 fun a E=>?_;refine FX.sq (FX.reg [0] ?_);refine FE.ow E fun a _ E=>FO.nil ?_
 have fin:∀(x:Int) (a:Act),0<=x->x<=9223372036854775807->Fa 13 a [(0,aj x),(1,aj n)]->FX fH 21 dn prog (gY (gY (oZ f21))) (fun e a b=>e=.ret/\a.defers=[]/\∃v,(results f21 a.tmps).run prog b=.ok v b/\∃r,xE v=.returned (aj r)/\(0<=r/\r<n)/\b=u) a u:=by intro x a d s E;have g:=Ut x h0;have f:x %n=x.tmod n:=(Us d).symm;have p:¬n=0:=ak;refine FX.sq (FX.reg [0,1,2,3] ?_);refine FE.ow E fun a _ E=>?_;refine FE.ow E fun a _ E=>?_;refine FE.ow (v:=aj (x.tmod n)) E (hr:=fun i=>by first|(go_simp;done)|(rw[<-f];go_simp)) fun a _ E=>?_;refine FE.ow E fun a _ E=>FO.nil ?_;refine FX.rt ⟨rfl,E.defers,aj (x.tmod n),?_,x.tmod n,rfl,⟨(Mb n d),g⟩,rfl⟩;simp[results,results21,go_sem,(ev (E.at_ 4 _ rfl))]
 refine FX.sq (FX.sq (FX.reg [0,1] ?_));refine FE.ow E fun a _ E=>?_
 by_cases t:c<0
 ·refine FE.ow (v:=.bool true) E fun a _ E=>FO.nil ?_;refine FX.cT E (FX.reg [0,1,2,3] ?_);refine FE.ow E fun a _ E=>?_;refine FE.ar E fun a _ E=>?_;refine FE.ow (v:=aj (-(c+1))) E (hr:=fun i=>by have q:IntKind.i64.wrap (-(c+1))= -(c+1):=pP ak ak;go_simp) fun a _ E=>?_;refine FE.ow E fun a _ E=>FO.nil ?_;exact fin (-(c+1)) a ak ak E.to
 ·refine FE.ow (v:=.bool false) E fun a _ E=>FO.nil ?_;exact FX.cF E (FX.sk (fin c a ak ak E.to))
end
end
section
attribute [local go_sem ↓] Go.wp_at_zero Go.wp_at_succ
attribute [local go_sem] Oper.semAt_some
attribute [local go_sem] bq bg
open Go.Conc Go.RowKit Go.Shelf
open Go.Proofs.Tryz
def tkZ(fn:Func):jO:=mV (fn.body.getD .skip)
def tk1(fn:Func):jO:=mV (gY (fn.body.getD .skip))
def tk4(fn:Func):jO:=mV (mV (gY (gY (fn.body.getD .skip))))
def tkc:jO->jO|.cond _ x _=>x|_=>.skip
def tk5(fn:Func):jO:=tkc (gY (mV (gY (gY (fn.body.getD .skip)))))
abbrev KO(xb:Nat)(a:Int):Act:=⟨#[pt xb,undef,undef,pt xb,pt xb,.pointer (some (aa xb 13)),aj a,aj (a+1),pt xb,.pointer (some (aa xb 13)),undef,undef,undef,undef,undef,undef,undef,undef,undef,undef,undef,undef,undef,undef,undef,undef,undef,undef],[]⟩
abbrev KP(xb:Nat)(a:Int)(b D:Nat):Act:=⟨#[pt xb,undef,undef,pt xb,pt xb,.pointer (some (aa xb 13)),aj a,aj (a+1),pt xb,.pointer (some (aa xb 13)),pt xb,.func (.func 96) #[] #[pt b],undef,undef,undef,undef,undef,undef,undef,undef,undef,undef,undef,undef,undef,undef,undef,undef],[{target:=.collected D,args:=#[]}]⟩
abbrev tkE(xb:Nat)(a:Int)(b c:Nat):Act:=⟨#[pt xb,undef,pt c,pt xb,pt xb,.pointer (some (aa xb 13)),aj a,aj (a+1),pt xb,.pointer (some (aa xb 13)),pt xb,.func (.func 96) #[] #[pt b],pt c,undef,undef,undef,undef,undef,undef,undef,undef,undef,undef,undef,undef,undef,undef,undef],[]⟩
section
abbrev cQ.as(L:cQ):List (Option Nat):=L.cs.map fun l=>l.map Lc.c
variable {w W W':an} {f:Fx} {xb:Nat} {L:cQ}
theorem yD{s c:Nat}(h:L.as[s]? =some (some c)):∃l,L.cs[s]? =some (some l)/\l.c=c:=by
 rw[kO]at h;cases a:L.cs[s]? with
 |none=>rw[a]at h;cases h
 |some o=>
  rw[a]at h;cases o with
  |none=>cases h
  |some l=>exact⟨l,rfl,by simpa using h⟩
theorem ay.Bf(h:ay W f xb L){s c:Nat}(m:L.as[s]? =some (some c)):∃l k,L.cs[s]? =some (some l)/\l.c=c/\f.K[s]? =some (some k)/\l.At W f.g k/\l.gw fun b=>L.own b=7+2*s:=by
 obtain⟨l,a,i⟩:=yD m;have j:s<f.K.length:=by rw[<-h.cs.len];exact(ed.1 a).1
 have d:=dN j;have:=h.cs.at_ s _ _ d a;cases e:f.K[s]with
 |none=>rw[e]at this;exact this.elim
 |some k=>rw[e]at this d;exact⟨l,k,a,i,d,this.1,this.2⟩
theorem ay.Kl(h:ay W f xb L):∃n:Nat->Nat,∀(s c:Nat),L.as[s]? =some (some c)->n c=s:=by
 classical
 refine⟨fun c=>if e:∃s,L.as[s]? =some (some c)then e.choose else 0,fun s c a=>?_⟩;have e:∃s,L.as[s]? =some (some c):=⟨s,a⟩;show(if e:∃s,L.as[s]? =some (some c)then e.choose else 0)=s;rw[qW e];obtain⟨l,k,_,g,_,_,j⟩:=h.Bf a;obtain⟨p,o,_,i,_,_,m⟩:=h.Bf e.choose_spec;have b:=j.1;have d:=m.1;rw[g]at b;rw[i]at d;omega
theorem ay.ER(h:ay W f xb L)(a:f.K.length<=65535):W.cell? (aa xb 9)=some (.slice (some (aa L.sb 0)) f.K.length f.K.length)/\L.as.length=f.K.length/\∀(j:Nat) v,L.as[j]? =some v->W.cell? (aa L.sb j)=some (jM v):=by refine⟨av h.box rfl,by rw[pV];exact h.cs.len,fun j v hv=>av h.dA (tH hv)⟩
theorem No{c}(h:c∈cu L.as):∃s:Nat,L.as[s]? =some (some c):=abu.1 h
def Fx.fF(f:Fx)(s:Nat):Fx:=match f.K[s]? with
 |some (some k)=>f.at s (k.mA f.g)
 |_=>f
def Fx.AE(f:Fx):Fx:=(dM f.K.length).foldl Fx.fF f
theorem Od{s}(h:f.K[s]? =some none\/f.K[s]? =none):f.fF s=f:=by unfold Fx.fF;rcases h with h|h<;>rw[h]
theorem Oe{f:Fx}{s:Nat}{k:Ck}(h:f.K[s]? =some (some k)):f.fF s=f.at s (k.mA f.g):=by unfold Fx.fF;rw[h]
theorem Hw(f:Fx)(s:Nat):(f.fF s).K.length=f.K.length/\(f.fF s).g=f.g/\∀(j:Nat),((f.fF s).K[j]? =some none↔f.K[j]? =some none):=by
 unfold Fx.fF;split
 ·rename_i k a;refine⟨aq,rfl,fun j=>?_⟩;rw[kQ];split
  ·rename_i e;subst e;rw[a];split<;>simp
  ·exact nD
 ·exact⟨rfl,rfl,fun _=>nD⟩
theorem ay.all(h:ay W f xb L)(step:Fx->Nat->Fx)(A:∀(f:Fx) (s:Nat),f.K[s]? =some none->step f s=f)(y:∀(f:Fx) (s j:Nat),f.K[j]? =some none->(step f s).K[j]? =some none){i:Nat->Nat}(B:∀(s c:Nat),L.as[s]? =some (some c)->i c=s):
  (cu L.as).foldl (fun a c=>step a (i c)) f=(dM f.K.length).foldl step f:=by
 have key:∀(cs:List (Option Nat)) (o:Nat) (a:Fx),(∀(s c:Nat),cs[s]? =some (some c)->i c=o+s)->(∀(s:Nat),cs[s]? =some none->a.K[o+s]? =some none)->
   (cu cs).foldl (fun a c=>step a (i c)) a=(dM cs.length).foldl (fun a s=>step a (o+s)) a:=by
  intro cs;induction cs with
  |nil=>exact fun _ _ _ _=>rfl
  |cons x cs u=>
   intro o a n p;cases x with
   |none=>
    have e:cu (none::cs)=cu cs:=rfl;have h0:step a (o+0)=a:=A a _ (p 0 rfl);rw[e,u (o+1) a (fun s c g=>by have:=n (s+1) c g;omega) (fun s d=>by have:=p (s+1) d;rwa [show o+(s+1)=o+1+s by omega]at this),eD,UJ,rX,UE,h0]
    congr 1
    funext b s
    rw[show o+1+s=o+s.succ by omega]
   |some c=>
    have e:cu (some c::cs)=c::cu cs:=rfl;have v:i c=o+0:=n 0 c rfl;rw[e,rX,u (o+1) _ (fun s c g=>by have:=n (s+1) c g;omega) (fun s d=>by have:=p (s+1) d;rw[show o+(s+1)=o+1+s by omega]at this;exact y _ _ _ this),eD,UJ,rX,UE,v]
    congr 1
    funext b s
    rw[show o+1+s=o+s.succ by omega]
 have:=key L.as 0 f (fun s c g=>by rw[B s c g];omega) (fun s d=>?_)
 ·rw[this,pV,h.cs.len]
  congr 1
  funext b s
  rw[fo]
 ·rw[fo];rw[kO]at d;cases m:L.cs[s]? with
  |none=>rw[m]at d;cases d
  |some o=>
   rw[m]at d;cases o with
   |some l=>cases d
   |none=>
    have z:s<f.K.length:=by rw[<-h.cs.len];exact(ed.1 m).1
    have q:f.K[s]? =some f.K[s]:=dN z;have r:=h.cs.at_ s _ _ q m;cases t:f.K[s]with
    |none=>rw[q,t]
    |some k=>rw[t]at r;exact r.elim
structure ur(f f':Fx):Prop where
 g:f'.g=f.g
 tok:∀(s:Nat) k,f'.K[s]? =some (some k)->0<=k.tok/\k.tok<=65535
 len:f'.K.length=f.K.length
theorem ur.next{f f'}(h:ur f f')(hr:0<=f.g.rt/\f.g.rt<=65535)(d:0<=f.g.bu/\f.g.bu<=65535)(s:Nat):ur f (f'.fF s):=by
 refine⟨(Hw f' s).2.1.trans h.g,fun j k a=>?_,(Hw f' s).1.trans h.len⟩;unfold Fx.fF at a;split at a
 ·rename_i b c;rw[show(f'.at s (b.mA f'.g)).K=f'.K.set s (some (b.mA f'.g)) from rfl,kQ]at a;split at a
  ·split at a
   ·cases a;have:=h.tok s b c;rw[h.g];show 0<=min (b.tok+f.g.rt) f.g.bu/\min (b.tok+f.g.rt) f.g.bu<=65535;omega
   ·cases a
  ·exact h.tok j k a
 ·exact h.tok j k a
theorem XP(xb:Nat)(f:Fx)(L:cQ)(N:Int)(w:an)(h:ay w f xb L)(Q:f.K.length<=65535)(hr:0<=f.g.rt/\f.g.rt<=65535)(U:0<=f.g.bu/\f.g.bu<=65535)(ht:∀(s:Nat) k,f.K[s]? =some (some k)->0<=k.tok/\k.tok<=65535)(ah:∀x,w.heap.size<=x->L.own x=0):
  (tk1 f26).wp prog (fun e a p=>e=.normal/\∃N0 D,a=KP xb N N0 D/\w.heap.size<=D/\p.heap[D]? =some (.deferred (some []))/\ay p f.AE xb L/\aG (fun i=>L.own i≠0) w p) (KO xb N) w:=by
 refine(wpIn_wide (n:=3)).1 ?_;simp only[tk1,mV,gY,mj,f26]
 gi_wp2_with (first|(refine⟨trivial,?_⟩;gi_at_call 59;refine(fT.2 (EP xb _)).mono ?_;rintro e w1 ⟨rfl,rfl⟩))
 have F:aB w (w.alloc (.cells #[pt xb] 36)):=aR;have bE:(w.alloc (.cells #[pt xb] 36)).heap.size=w.heap.size+1:=aq;have e3:(w.alloc (.cells #[pt xb] 36)).heap[w.heap.size]? =some (.cells #[pt xb] 36 (0,0)):=bW w _;show Code.wpIn jQ 3 prog _ _ _ (w.alloc (.cells #[pt xb] 36));generalize w.alloc (.cells #[pt xb] 36)=C at*;obtain⟨d,AM⟩:=h.Kl;have aY:f.AE=(cu L.as).foldl (fun a c=>a.fF (d c)) f:=(h.all Fx.fF (fun f s I=>Od (.inl I)) (fun f s j hj=>((Hw f s).2.2 j).2 hj) AM).symm
 have bI:Bears (fun r=>False\/r=C.heap.size+1) (fun(pre:List Nat) W=>ay W (pre.foldl (fun a c=>a.fF (d c)) f) xb L/\ur f (pre.foldl (fun a c=>a.fF (d c)) f)/\aG (fun i=>L.own i≠0) w W):=by
  rintro pre W W' row ⟨h1,h2,E⟩ X hr;have bt:∀r,row=some r->r=w.heap.size+2:=fun r e=>by rcases hr r e with h|h;cases h;omega
  have az:∀k,k<W.heap.size->k≠w.heap.size+2->W'.heap[k]? =W.heap[k]? :=fun k H bp=>X.block k H fun e=>bp (bt k e.symm);refine⟨h1.sZ fun b U ho=>az b U fun e=>ho (ah b ak),h2,⟨X.os.trans E.os,cS E.size X.size,fun k H hx=>?_⟩⟩;exact(az k (cV H E.size) ak).trans (E.block k H hx)
 have Z:=aL h;have hS:=h.ER Q;have aS:ay C f xb L:=h.below F;have IT:ur f f:=⟨rfl,ht,rfl⟩;clear h ht
 refine yW (w:=C) rfl cq (gf:=96) (lb:=#[aF w.heap.size]) rfl trivial (enters_of func96 aI rfl) (encs:=wZ) (fun _=>rfl)
  (R:=fun _=>False) (Kp:=fun A B=>B.heap[L.sb]? =A.heap[L.sb]?) (V:=fun u=>∃r,cu L.as=u++r) (S:=fun u _=>u=cu L.as) (Sp:=fun pre _=>∃r,cu L.as=pre++r)
  (fun W hW=>?seq) (fun r h=>h.elim) (fun h k=>k.trans h) (fun W o=>eX ?sbn) (fun u W W' row h _ _=>h) (fun u W W' row h _ _=>h)
  (fun(pre:List Nat) W=>ay W (pre.foldl (fun a c=>a.fF (d c)) f) xb L/\ur f (pre.foldl (fun a c=>a.fF (d c)) f)/\aG (fun i=>L.own i≠0) w W) (fun _ _=>False) bI (fun _ _ _ _ h _ _=>h) ⟨aS,IT,.below F⟩ (fun c a _=>a=tkE xb N w.heap.size c) (fun c a W W' row h _ _=>h) ?assign ?body ?done ?stop
 case sbn=>
  have:=(aP.1 Z.out.dA).1;omega
 case seq=>
  have aZ:aB w W:=F.grown hW F.size (fun k e=>by cases e);have wE:=mz e3 hW aq;have T:=(Z.out.below aZ).ER Q;exact ES 2 cq w.heap.size xb L.sb f.K.length L.as W (av wE rfl) T.1 T.2.1 Q T.2.2
 case assign=>
  rintro l pre c W K m hv fN hK
  gi_wp2
  exact hK _ W ⟨rfl,rfl⟩ rfl m rfl
 case body=>
  rintro l pre c a' W ⟨m,y,G⟩ rfl ⟨r,hv⟩ fN;have hc:c∈cu L.as:=by rw[hv];simp
  obtain⟨s,I⟩:=No hc;obtain⟨lc,k,Y,J,M,y4,z⟩:=m.Bf I;have IW:d c=s:=AM s c I
  have HE:Hid (Calls prog 60 #[aF c] W fun e p=>e=.returned (.tuple #[])/\ay p ((pre++[c]).foldl (fun a c=>a.fF (d c)) f) xb L/\ur f ((pre++[c]).foldl (fun a c=>a.fF (d c)) f)/\aG (fun i=>i=c) W p):=by
   rw[zU];show Calls _ _ _ _ fun e p=>e=.returned (.tuple #[])/\ay p (Fx.fF _ (d c)) xb L/\ur f (Fx.fF _ (d c))/\_;rw[IW,<-J];refine(XO lc.c lc.rb lc.mb lc.ch lc.q lc.v _ k W y4 (by rw[y.g];exact hr) (y.tok s k M)).mono ?_;rintro e p ⟨rfl,P,t⟩;have e1:Fx.fF (pre.foldl (fun a c=>a.fF (d c)) f) s=(pre.foldl (fun a c=>a.fF (d c)) f).at s (k.mA (pre.foldl (fun a c=>a.fF (d c)) f).g):=Oe M;have O:({L with cs:=L.cs.set s (some lc),own:=L.own}:cQ)=L:=by rw[ze Y]
   refine⟨rfl,?_,y.next hr U s,t⟩;rw[e1,<-O];exact m.client (bR:=L.own) (l':=lc) Y rfl M t (fun b _ e=>by rw[e];exact z.1) P (fun _ _=>rfl) z
  have aE:=aL G
  have bD:c<w.heap.size:=by
   rcases lE c w.heap.size with bn|hge
   ·exact bn
   ·have e1:=ah c hge;have O:=z.1;rw[J]at O;omega
  have bg:L.own c=7+2*s:=by rw[<-J];exact z.1
  have bk:c≠L.sb:=fun e=>by have:=m.gT;rw[<-e]at this;omega
  have bz:L.sb<W.heap.size:=(aP.1 m.dA).1;clear m y G Y J M y4 z
  gi_wp2_with (first|(refine⟨trivial,?_⟩;gi_at_call 60;refine(lV l (fT.2 HE.out)).mono ?_;rintro e w1 ⟨rfl,P,Zh,t⟩))
  exact⟨⟨t.block _ ak ak,t.block _ ak ak⟩,t.block _ bz (fun e=>bk e.symm),P,Zh,aE.out.trans (t.mono fun k _ e=>by rw[e,bg];omega)⟩
 case done=>
  rintro u W rfl ⟨m,y,G⟩ hD;exact⟨rfl,w.heap.size,C.heap.size,rfl,ak,hD,by rw[aY];exact m,G⟩
 case stop=>exact fun _ _ _ h _=>h.elim
end
end
section
attribute [local go_sem] Oper.semAt_some
attribute [local go_sem] bq bg
open Go.Proofs.Tryz
open Go.RowKit Go.Shelf
def Ck.num(k:Ck)(n:Int):Ck:={k with q:=(cg n k.q).1}
def Fx.ff(f:Fx)(s:Nat):Fx:=match f.K[s]? with
 |some (some k)=>{f.at s (k.num f.acc)with acc:=(cg f.acc k.q).2}
 |_=>f
def Fx.pI(f:Fx):Fx:=(dM f.K.length).foldl Fx.ff f
theorem Ep{f:Fx}{s:Nat}(h:f.K[s]? =some none\/f.K[s]? =none):f.ff s=f:=by unfold Fx.ff;rcases h with h|h<;>rw[h]
theorem JB{f:Fx}{s:Nat}{k:Ck}(h:f.K[s]? =some (some k)):f.ff s={f.at s (k.num f.acc)with acc:=(cg f.acc k.q).2}:=by unfold Fx.ff;rw[h]
theorem L5(f:Fx)(s:Nat):(f.ff s).K.length=f.K.length/\(f.ff s).g=f.g/\∀(j:Nat),((f.ff s).K[j]? =some none↔f.K[j]? =some none):=by
 unfold Fx.ff;split
 ·rename_i k a;refine⟨aq,rfl,fun j=>?_⟩;rw[kQ];split
  ·rename_i e;subst e;rw[a];split<;>simp
  ·exact nD
 ·exact⟨rfl,rfl,fun _=>nD⟩
structure uB(f f':Fx)(n:Nat):Prop where
 g:f'.g=f.g
 q:∀(s:Nat) k,f'.K[s]? =some (some k)->k.q.length<=1048576
 lo:0<=f'.acc
 hi:f'.acc<=f.acc+1048576*n
theorem uB.next{f f':Fx}{n:Nat}(h:uB f f' n)(s):uB f (f'.ff s) (n+1):=by
 cases b:f'.K[s]? with
 |none=>rw[Ep (.inr b)];exact⟨h.g,h.q,h.lo,by have:=h.hi;omega⟩
 |some o=>
  cases o with
  |none=>rw[Ep (.inl b)];exact⟨h.g,h.q,h.lo,by have:=h.hi;omega⟩
  |some k=>
   rw[JB b];have e:=JC k.q f'.acc;have c:=h.q s k b;have i:=h.hi;have l:=h.lo;refine⟨h.g,fun j d a=>?_,?_,?_⟩
   ·rw[show({f'.at s (k.num f'.acc)with acc:=(cg f'.acc k.q).2}:Fx).K=f'.K.set s (some (k.num f'.acc)) from rfl,kQ]at a;split at a
    ·split at a
     ·cases a;show(cg f'.acc k.q).1.length<=_;rw[yR];exact c
     ·cases a
    ·exact h.q j d a
   ·show 0<=(cg f'.acc k.q).2;omega
   ·show(cg f'.acc k.q).2<=_;omega
theorem Kx:∀(cs:List (Option Nat)),(cu cs).length<=cs.length
 |[]=>aV 0
 |none::cs=>by have:=Kx cs;show(cu cs).length<=cs.length+1;omega
 |some c::cs=>by have:=Kx cs;show(cu cs).length+1<=cs.length+1;omega
abbrev tlX(xb d g e f c:Nat)(a b:Int):Act:=⟨#[pt xb,pt d,pt g,undef,pt c,pt xb,.func (.func 96) #[] #[pt e],undef,undef,undef,.tuple #[],pt xb,.func (.func 96) #[] #[pt f],pt c,pt xb,pt c,pt xb,pt xb,.pointer (some (aa xb 11)),aj a,aj b,pt xb,.pointer (some (aa xb 11))],[]⟩
theorem adK(xb m Wg B2 D:Nat)(f:Fx)(L:cQ)(w:an)(h:ay w f xb L)(hN:f.K.length<=65535)(hq:∀(s:Nat) k,f.K[s]? =some (some k)->k.q.length<=1048576)(ha:0<=f.acc/\f.acc<=140737488355328)(X:∀x,w.heap.size<=x->L.own x=0)(y:w.heap[m]? =some (.cells #[pt xb] 36 (0,0)))(bL:L.own m=0)(hD:w.heap[D]? =some (.deferred (some [])))(bk:L.own D=0):
  (vE f61).wpIn jQ 3 prog (bodyPostM jQ 3 prog f61 fun e w'=>e=.returned (.tuple #[])/\ay w' f.pI xb L/\aG (fun i=>i=D\/L.own i≠0) w w') (tlA xb m Wg B2 D) w:=by
 have cB:=aE w m 0 (pt xb) y;simp only[vE,zw,f61]
 gi_wp2_with (first|(refine⟨trivial,?_⟩;gi_at_call 59;refine(fT.2 (EP xb _)).mono ?_;rintro e n ⟨rfl,rfl⟩))
 have T:aB w (w.alloc (.cells #[pt xb] 36)):=aR;have cN:(w.alloc (.cells #[pt xb] 36)).heap.size=w.heap.size+1:=aq;have e3:(w.alloc (.cells #[pt xb] 36)).heap[w.heap.size]? =some (.cells #[pt xb] 36 (0,0)):=bW w _;have bQ:D<w.heap.size:=(aP.1 hD).1;have bg:m<w.heap.size:=(aP.1 y).1;show Code.wpIn jQ 3 prog _ _ _ (w.alloc (.cells #[pt xb] 36));generalize w.alloc (.cells #[pt xb] 36)=u at*;obtain⟨d,AM⟩:=h.Kl;have bU:f.pI=(cu L.as).foldl (fun a c=>a.ff (d c)) f:=(h.all Fx.ff (fun f s hs=>Ep (.inl hs)) (fun f s j hj=>((L5 f s).2.2 j).2 hj) AM).symm
 have bI:Bears (fun r=>False\/r=u.heap.size+1) (fun(pre:List Nat) W=>ay W (pre.foldl (fun a c=>a.ff (d c)) f) xb L/\uB f (pre.foldl (fun a c=>a.ff (d c)) f) pre.length/\aG (fun i=>L.own i≠0) w W):=by
  rintro pre W O row ⟨h1,h2,Q⟩ hg hr;have cr:∀r,row=some r->r=w.heap.size+2:=fun r e=>by rcases hr r e with h|h;cases h;omega
  have bt:∀k,k<W.heap.size->k≠w.heap.size+2->O.heap[k]? =W.heap[k]? :=fun k G U=>hg.block k G fun e=>U (cr k e.symm);refine⟨h1.sZ fun b C Y=>bt b C fun e=>Y (X b ak),h2,⟨hg.os.trans Q.os,cS Q.size hg.size,fun k G hx=>?_⟩⟩;exact(bt k (cV G Q.size) ak).trans (Q.block k G hx)
 have N:Hid (ay w f xb L/\w.heap[m]? =some (.cells #[pt xb] 36 (0,0))/\w.heap[D]? =some (.deferred (some []))):=⟨h,y,hD⟩;have bK:ay u f xb L:=h.below T;have IT:uB f f 0:=⟨rfl,hq,ha.1,ak⟩;have cK:L.as.length<=65535:=by rw[pV,h.cs.len];exact hN
 clear h hq y hD cB
 refine yW (w:=u) rfl cq (gf:=96) (lb:=#[aF w.heap.size]) rfl trivial (enters_of func96 aI rfl) (encs:=wZ) (fun _=>rfl)
  (R:=fun _=>False) (Kp:=fun A B=>B.heap[L.sb]? =A.heap[L.sb]?) (V:=fun H=>∃r,cu L.as=H++r) (S:=fun H _=>H=cu L.as) (Sp:=fun pre _=>∃r,cu L.as=pre++r)
  (fun W hW=>?seq) (fun r h=>h.elim) (fun h k=>k.trans h) (fun W o=>eX ?sbn) (fun H W O row h _ _=>h) (fun H W O row h _ _=>h)
  (fun(pre:List Nat) W=>ay W (pre.foldl (fun a c=>a.ff (d c)) f) xb L/\uB f (pre.foldl (fun a c=>a.ff (d c)) f) pre.length/\aG (fun i=>L.own i≠0) w W) (fun _ _=>False) bI (fun _ _ _ _ h _ _=>h) ⟨bK,IT,.below T⟩ (fun c a _=>a=tlB xb m Wg B2 w.heap.size c) (fun c a W O row h _ _=>h) ?assign ?body ?done ?stop
 case sbn=>
  have:=(aP.1 N.out.1.dA).1;omega
 case seq=>
  have bV:aB w W:=T.grown hW T.size (fun k e=>by cases e);have uU:=(N.out.1.below bV).ER hN;exact ES 2 cq w.heap.size xb L.sb f.K.length L.as W (av (mz e3 hW aq) rfl) uU.1 uU.2.1 hN uU.2.2
 case assign=>
  rintro l pre c W K p hv fN J
  gi_wp2
  exact J _ W ⟨rfl,rfl⟩ rfl p rfl
 case body=>
  rintro l pre c a' W ⟨p,E,t⟩ rfl ⟨r,hv⟩ fN;have hc:c∈cu L.as:=by rw[hv];simp
  obtain⟨s,hs⟩:=No hc;have IW:d c=s:=AM s c hs
  have cM:pre.length+1<=65535:=by
   have h1:=Kx L.as;have h2:(cu L.as).length=pre.length+1+r.length:=by rw[hv];simp only[ia,eD,iF]
   omega
  have y:=(t.block m bg (by simp[bL])).trans N.out.2.1;have cB:=aE W m 0 (pt xb) y
  obtain⟨z,M,bD,HN⟩:∃z M:Int,W.cell? (aa xb 11)=some (aj z)/\Hid (Calls prog 102 #[pt c,aj z] W.drew fun e n=>e=.returned (aj M)/\n.cell? (aa m 0)=some (pt xb)/\n.cell? (aa xb 11)=some (aj z)/\n.frozen? (aa xb 11)=false/\Hid (BI 3 (roundEnd u.heap.size (fun A B=>B.heap[L.sb]? =A.heap[L.sb]?) (fun(pre:List Nat) W=>ay W (pre.foldl (fun a c=>a.ff (d c)) f) xb L/\uB f (pre.foldl (fun a c=>a.ff (d c)) f) pre.length/\aG (fun i=>L.own i≠0) w W) (fun _ _=>False) (pre++[c]) W) .normal (tlX xb m Wg B2 w.heap.size c z M) (n.setCell (aa xb 11) (aj M)))):=by
   have b7:(pre++[c]).foldl (fun a c=>a.ff (d c)) f=(pre.foldl (fun a c=>a.ff (d c)) f).ff s:=by rw[zU];show Fx.ff _ (d c)=_;rw[IW]
   obtain⟨lc,k,y1,y2,y3,y4,y5⟩:=p.Bf hs;have bY:=aE W xb 11 (aj (pre.foldl (fun a c=>a.ff (d c)) f).acc) p.box;have cj:=JB y3;have fu:=E.lo;have pF:=E.hi;have ck:=E.q s k y3;generalize pre.foldl (fun a c=>a.ff (d c)) f=F at*;refine⟨F.acc,(cg F.acc k.q).2,bY,?_⟩;show Calls _ _ _ _ _
   have IX:w.heap.size+2<=W.heap.size:=by have:=fN;omega
   have cP:=p.dX;have cx:=p.gT;have cv:L.sb<W.heap.size:=(aP.1 p.dA).1;have cO:xb<W.heap.size:=(aP.1 p.box).1;subst y2;refine(L9 lc.c lc.rb lc.mb lc.ch lc.q lc.v _ k F.acc W.drew (y4.old ((Below.refl _ W).drew)) ⟨fu,ak⟩ ck).mono ?_;rintro e n ⟨rfl,g1,g2⟩;have Z:∀b,some b=lc.q.ownBlock->L.own b=7+2*s:=fun b e=>y5.2.2.2.2.1 b e.symm;have I:aG (fun b=>some b=lc.q.ownBlock) W n:=⟨g2.os,g2.size,g2.block⟩;have e2:({L with cs:=L.cs.set s (some lc),own:=L.own}:cQ)=L:=by rw[ze y1]
   have k1:ay n (F.at s (k.num F.acc)) xb L:=by have:=p.client (bR:=L.own) (l':=lc) y1 rfl y3 I (fun b _ e=>Z b e) (show lc.At n F.g (k.num F.acc) from g1) (fun _ _=>rfl) y5;rw[e2]at this;exact this
   have k2:ay (n.setCell (aa xb 11) (aj (cg F.acc k.q).2)) (F.ff s) xb L:=by rw[cj];exact k1.put 11 _ _ rfl rfl rfl rfl rfl rfl ⟨rfl,rfl,rfl⟩
   have aX:aG (fun b=>b=xb\/some b=lc.q.ownBlock) W (n.setCell (aa xb 11) (aj (cg F.acc k.q).2)):=by refine⟨I.os,by simpa using I.size,fun b C hx=>?_⟩;rw[Below.heap_setCell n _ _ b (fun e=>hx (.inl e))];exact I.block b C fun e=>hx (.inr e)
   have bp:∀b,(b=xb\/some b=lc.q.ownBlock)->L.own b≠0:=fun b e=>by
    rcases e with e|e
    ·rw[e];omega
    ·rw[Z b e];omega
   have bn:∀b,b<W.heap.size->L.own b=0->(n.setCell (aa xb 11) (aj (cg F.acc k.q).2)).heap[b]? =W.heap[b]? :=fun b C h0=>aX.block b C fun e=>bp b e h0;refine⟨rfl,?_,av k1.box rfl,aS k1.box 11,?_⟩
   ·refine av ((I.block m (cV bg t.size) fun e=>?_).trans y) rfl;have:=Z m e;omega
   ·refine⟨⟨bn _ ak (X _ ak),bn _ ak (X _ ak)⟩,aX.block _ cv fun e=>?_,?_⟩
    ·rcases e with e|e
     ·rw[e]at cx;omega
     ·have:=Z _ e;omega
    ·show ay _ ((pre++[lc.c]).foldl (fun a c=>a.ff (d c)) f) xb L/\uB f ((pre++[lc.c]).foldl (fun a c=>a.ff (d c)) f) (pre++[lc.c]).length/\_;rw[b7];exact⟨k2,by simpa using(E.next s),t.trans (aX.mono fun b _ e=>bp b e)⟩
  have HI:=aL p;clear p E t y
  gi_wp2
  refine Lm (S:=fun W=>W.cell? (aa m 0)=some (pt xb)/\W.cell? (aa xb 11)=some (aj z)) 9 aI ⟨cB,bD⟩ fun hH=>?_;refine js 0 ?_;refine jk 1 ?_;refine js 2 ?_;refine jk 3 ?_;refine jk 4 ?_;refine js 5 ?_;refine jr 6 fun K J=>?_;go_simp;refine⟨trivial,?_⟩;refine(lV l (fT.2 HN.out)).mono ?_;rintro e n ⟨rfl,bF,bE,cH,bZ⟩;refine J.out _ _ ⟨bF,bE⟩ fun IA=>?_;refine jk 7 ?_;refine jk 8 ?_;refine jz fun K J=>?_;go_simp;refine J.out _ _ ?_;refine Ll aI ?_ _;exact bZ.out
 case done=>
  rintro H W rfl ⟨p,E,t⟩ bM;have bO:D≠u.heap.size:=ak
  gi_wp2
  have t1:=Ct (P:=prog) bM;have bN:(W.putObj u.heap.size (.deferred none)).heap[D]? =some (.deferred (some [])):=(eX bO).trans ((t.block D bQ (by simp[bk])).trans N.out.2.2);refine⟨aq,.inl ⟨_,_,rfl,t1,aq,.inl ⟨_,_,rfl,Ct bN,.tuple #[],by simp[results,results61],rfl,?_,?_⟩⟩⟩
  ·rw[bU];have b9:L.own u.heap.size=0:=X _ ak;refine p.sZ fun b C Y=>?_;have e1:b≠D:=fun e=>Y (by rw[e];exact bk);have e2:b≠u.heap.size:=fun e=>Y (by rw[e];exact b9);rw[eX e1,eX e2]
  ·refine⟨t.os,by simpa using t.size,fun k G U=>?_⟩;rw[eX (fun e=>U (.inl e)),eX ak];exact t.block k G fun e=>U (.inr e)
 case stop=>exact fun _ _ _ h _=>h.elim
end
end Go.Proofs.YtpobhljcainmdaaGreat
