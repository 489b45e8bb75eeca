/- For every list of raw numbers, texts and steps of bulk at most 1048576, Bounded answers true and leaves them as they were: what a ferry keeps for a client is bounded, and behind Stop all comes to its end. -/
import Derived.ChangeOld
import Derived.ChangeSlices
import Derived.Deep.Slices
import Derived.OpenShut
import Derived.ProofKit
import Derived.Shelf.Strings.Repeat
import Derived.Test.YtpobhljcainmdaaGreatJ04
set_option maxRecDepth 100000
set_option maxHeartbeats 8000000
set_option linter.all false
namespace Go.Proofs.YtpobhljcainmdaaGreat
open Go renaming World->az,Value->aE,wp_region_noPanic->iJ,callsIn_wide->fP,heap_alloc_new->cw,FuncId->bN,run_takeDeferred->wN,execOp_congr->AF,Code->jV,wpList_append_lies->VM,maxLen->cY,info_parts->aly,bodyPost_ret->gO,TypeId->aW,Program->aZ,grownBy_putObj'->Dj,Addr->fS,Operand->me
open Go.World renaming putObj_heap_other->fj,ownsRow_nil->tD,news_of_block->Dg,cell?->fH
open _root_.List renaming replicate->nG,range->eF,range_succ_eq_map->Ve,pairwise_append->Vd,takeWhile_cons->Vf,foldl_map->UX
open Go.NoPanic renaming normal->gT
open Go.IntKind renaming i64->eP
open Go.Fence renaming wide->jW
open _root_.Option renaming map->wH
open Go.CallsIn renaming inRound->mJ
open Go.Value renaming ownBlock->pN,oneCell'->Vy
open _root_.Classical renaming axiomOfChoice->UB
open Go.ConcR renaming Payload->alC
open _root_.Array renaming replicate->sI,size_extract->alF
open Go.Region renaming wanted->dw
open Go.Maps renaming keyOf_int_inv->Vj
open _root_.List.Pairwise renaming nil->UT
open Go.WideElems renaming rd_key->Vz,rd_val->VA
open Go.RowKit renaming wrap64->AL
open Go.Code renaming wpIn->alG
open _root_.Nat renaming beq->tg
open Go.Exit renaming inBlock->Cv
open Go renaming undef->au
open Go.Ending renaming returned->aN
open Go.Obj renaming cells->aA
open _root_.Bool renaming false->av,true->aq
open _root_.Option renaming none->ay,some->aa
open _root_.Or renaming inl->aF,inr->aD
section
attribute [local go_sem ↓] Go.wp_at_zero Go.wp_at_succ
attribute [local go_sem] bP bF
open Go.Conc Go.RowKit
open Go.Proofs.Tryz
abbrev ChS(j a n b:Nat)(r:Rq)(fl:Bool)(W:az):Prop:=(W.cell? (aj j 1)=aa (.slice (aa (aj a 0)) n b)/\W.cell? (aj j 3)=aa (.bool fl))/\cu W a r
def ChS.old{j gb n qc r fl W W'}(h:ChS j gb n qc r fl W)(a:aL W W'):ChS j gb n qc r fl W':=⟨⟨bR a h.1.1,bR a h.1.2⟩,h.2.old a⟩
def Ds(w w':az)(d c e n:Nat)(cv:aE)(k:Dk):Prop:=∃a,dz w' d c e a n k.B k.D k.C/\aV (λb=>b=d\/b=c\/b=e\/aa b=cv.ownBlock) w w'/\(a.ownBlock=cv.ownBlock\/∀g,a.ownBlock=aa g->w.heap.size<=g)
def aV.Kv{X w w'}(h:aL w w'):aV X w w':=⟨h.os,h.size,λk a _=>h.block k a⟩
def Xw(Z:rP)(j c rv r t)(ft:Ft)(due order d bb db n cv)(k:Dk)(w)(h:eG w j c rv (r::t) ft due order)(J:dz w d bb db cv n k.B k.D k.C)(hl:(dA (r::t)).length<=1048576)(hn:(r::t).length<=1048576)(Qz:∀x∈r::t,0<=x.m.ln/\x.m.ln<=65535)(hp:0<=ft.part/\ft.part<=9223372036854775807)(h0:0<=r.m.of)(h1:r.m.of.toNat<n)(h2:r.m.of.toNat+(dA (r::t)).length<=n)(h4:(dA (r::t)).length %4=0)(hC:k.C.length+1048576<=1099511627776):
  Calls prog 161 #[jp j,jp d] w λe p=>e=aN (.tuple #[])/\Ds w p d bb db n cv (k.change (r::t) ft):=by
 obtain⟨qa,qc,rfl,_⟩:=h.row.form;obtain⟨gb,rfl,k0,k1,k2,k3,k4,k5,k6,k7,k8,k9⟩:=h.row.at (i:=0) (r:=r) rfl;have P:Hid (ChS j gb (r::t).length qc r ft.dH w):=⟨⟨aG h.box rfl,aG h.box rfl⟩,k0,k1,k2,k3,k4,k5,k6,k7,k8,k9⟩;have HJ:=aT h;have HD:=aT J;have JL:=Un (r::t) ft;obtain⟨m,hm⟩:=afL (ft:=ft) h4;have F:Hid (∀W,aL w W->bO 199 #[jp j] W (.string ⟨(cX (r::t) ft).toArray⟩)):=λW y=>afM Z j c _ _ ft due order W (h.below y) hl hn Qz hp;have L:(⟨(cX (r::t) ft).toArray⟩:ByteArray).size=(cX (r::t) ft).length:=by show(cX (r::t) ft).toArray.size=_;simp
 have cast:((r.m.of.toNat:Nat):Int)=r.m.of:=ak
 have I:Hid (∀W,aL w W->Calls prog 200 #[jp d,an r.m.of,.string ⟨(cX (r::t) ft).toArray⟩] W λe p=>e=aN (.tuple #[])/\Ds w p d bb db n cv ⟨eH k.B r.m.of.toNat (cX (r::t) ft),k.D,k.C++secs r.m.of.toNat (cX (r::t) ft) ((cX (r::t) ft).length / 4)⟩):=λW y=>by have:=Ys d bb db n r.m.of.toNat m cv k.B k.D k.C ⟨(cX (r::t) ft).toArray⟩ W (J.below y) h1 (by rw[L];omega) (by rw[L];exact hm) ak;rw[cast]at this;refine this.mono ?_;rintro e p ⟨rfl,Y,M,N,q3⟩;refine⟨rfl,Y,?_,(aV.Kv y).trans (N.mono λb _ E=>E.elim aF λE=>E.elim (λe=>aD (aF e)) λe=>aD (aD (aD e))),q3.imp id λq g e=>dm y.size (q g e)⟩;have e:(cX (r::t) ft).length / 4=m:=ak;rw[e];exact M
 have bH:Hid (∀W,aL w W->Calls prog 198 #[jp d,an r.m.of,.string ⟨(cX (r::t) ft).toArray⟩] W λe p=>e=aN (.tuple #[])/\Ds w p d bb db n cv ⟨eH k.B r.m.of.toNat (cX (r::t) ft),eH k.D r.m.of.toNat (cX (r::t) ft),stay r.m.of.toNat (r.m.of.toNat+(cX (r::t) ft).length) k.C⟩):=λW y=>by have:=aez d bb db n r.m.of.toNat cv k.B k.D k.C ⟨(cX (r::t) ft).toArray⟩ W (J.below y) h1 (by rw[L];omega) ak;rw[cast,L]at this;refine this.mono ?_;rintro e p ⟨rfl,Y,M,N,q3⟩;exact⟨rfl,Y,M,(aV.Kv y).trans N,aF q3⟩
 have bF:Hid (∀W,aL w W->Calls prog 197 #[jp d] W λe p=>e=aN (.tuple #[])/\Ds w p d bb db n cv ⟨k.B,oX k.D k.C,[]⟩):=λW y=>by refine(Zk d bb db n cv k.B k.D k.C W (J.below y) ak).mono ?_;rintro e p ⟨rfl,M,N⟩;exact⟨rfl,_,M,(aV.Kv y).trans (N.mono λb _ E=>E.elim aF λe=>aD (aD (aF e))),aD λg e=>by cases e⟩
 have R:k.change (r::t) ft=if r.m.kd=2/\ft.dH=av then⟨k.B,oX k.D k.C,[]⟩
  else if r.m.fl=1/\ft.dH=av then⟨eH k.B r.m.of.toNat (cX (r::t) ft),eH k.D r.m.of.toNat (cX (r::t) ft),stay r.m.of.toNat (r.m.of.toNat+(cX (r::t) ft).length) k.C⟩
  else⟨eH k.B r.m.of.toNat (cX (r::t) ft),k.D,k.C++secs r.m.of.toNat (cX (r::t) ft) ((cX (r::t) ft).length / 4)⟩:=rfl
 have U:Hid (r.m.kd=2/\ft.dH=av->k.change (r::t) ft=⟨k.B,oX k.D k.C,[]⟩):=λe=>by rw[R,aX e]
 have V:Hid (¬(r.m.kd=2/\ft.dH=av)->r.m.fl=1/\ft.dH=av->k.change (r::t) ft=⟨eH k.B r.m.of.toNat (cX (r::t) ft),eH k.D r.m.of.toNat (cX (r::t) ft),stay r.m.of.toNat (r.m.of.toNat+(cX (r::t) ft).length) k.C⟩):=λe e'=>by rw[R,aQ e,aX e']
 have X:Hid (¬(r.m.kd=2/\ft.dH=av)->¬(r.m.fl=1/\ft.dH=av)->k.change (r::t) ft=⟨eH k.B r.m.of.toNat (cX (r::t) ft),k.D,k.C++secs r.m.of.toNat (cX (r::t) ft) ((cX (r::t) ft).length / 4)⟩):=λe e'=>by rw[R,aQ e,aQ e']
 generalize k.change (r::t) ft=kx at*;generalize cX (r::t) ft=Wl at*;clear h J JL hm hl hn Qz h0 h1 h2 h4 hC k0 k1 k2 k3 k4 k5 k6 k7 k8 k9 L cast R HJ HD;have bT:0<(r::t).length:=aC;generalize (r::t).length=nr at*;have bS:(0:Int)<(nr:Int):=ak;go_enter func161,ntmps161
 go_upto_region 0 with fail
 go_cut [4,5] (λp4 p5 p=>p4=aR w.heap.size/\p5=.bool (!ft.dH)/\p.heap[w.heap.size]? =aa (aA (aM r) 134 (0,0))/\aL w p)
 case first=>
  refine iJ ?_;refine dB (S:=ChS j gb nr qc r ft.dH) 14 aS P.out ?_;intro hS;refine gk 0 ?_;refine gk 1 ?_;refine gk 2 ?_;refine gs 3 ?_;refine gk 4 ?_;refine gs 5 ?_;refine gk 6 ?_;refine gk 7 ?_;refine gk 8 ?_;refine gk 9 ?_;refine gs 10 ?_;refine gk 11 ?_;have b1:aL w (w.alloc (aA (aM ⟨⟨0,⟨#[]⟩,0,0,0,0,0,⟨#[]⟩,0⟩,0⟩) 134)).drew:=bf.drew;refine gr 12 λK a=>?_;go_simp;refine a.out _ _ (P.out.old b1) (λG=>?_);clear a K;have b2:aL w (w.alloc (aA (aM r) 134)).drew:=bf.drew;refine gr 13 λK a=>?_;go_simp;refine a.out _ _ (P.out.old b2) (λBo=>?_);clear a K;refine gz λK a=>?_;go_simp;refine a.out _ _ ?_;clear a K;refine eu aS ?_ _;refine gT ?_;go_wp2_with fail
  go_meet
  case rel=>exact⟨rfl,rfl,cw w _,b2⟩
 case rest=>
  obtain⟨rfl,rfl,Q,E⟩:=hcut;have s2:=aG Q (i:=2) (v:=an r.m.kd) rfl;have s3:=aG Q (i:=3) (v:=an r.m.fl) rfl;have s:=aG Q (i:=5) (v:=an r.m.of) rfl;have f:=aT E;clear E Q P
  by_cases u:r.m.kd=2/\ft.dH=av
  ·have d1:(r.m.kd==2)=aq:=by simp[u.1]
   have d2:(!ft.dH)=aq:=by simp[u.2]
   have z:=aT (U.out u);clear u;rw[d2];go_wp2_with (go_at_call 197;refine(bF.out _ f.out).mono ?_;rintro e H ⟨rfl,o⟩);refine eO rfl rfl ⟨rfl,?_⟩;rw[z.out];exact o
  ·by_cases A:r.m.fl=1/\ft.dH=av
   ·have d1:(r.m.fl==1)=aq:=by simp[A.1]
    have d2:(!ft.dH)=aq:=by simp[A.2]
    have d3:(r.m.kd==2)=av:=by have:¬r.m.kd=2:=λe=>u ⟨e,A.2⟩;simp[this]
    have z:=V.out u A;clear u A U V X;rw[d2]
    go_upto_region 5 with fail
    refine iJ ?_;refine dB (S:=λW=>W.cell? (aj w.heap.size 5)=aa (an r.m.of)/\aL w W) 6 aS ⟨s,f.out.drew⟩ ?_;intro hS;refine gk 0 ?_;refine gk 1 ?_;refine gk 2 ?_;refine gs 3 ?_;refine gk 4 ?_;refine gr 5 λK a=>?_;go_simp;go_at_call 199;refine(F.out _ f.out.drew).mono ?_;rintro e H ⟨rfl,l⟩;refine a.out _ _ ⟨bR l s,f.out.drew.trans (l.mono f.out.drew.size)⟩ (λG=>?_);clear a K;refine gz λK a=>?_;go_simp;go_at_call 198;refine(bH.out _ (f.out.drew.trans (l.mono f.out.drew.size))).mono ?_;rintro e O ⟨rfl,o⟩;refine a.out _ _ ?_;clear a K;refine eu aS ?_ _;refine gT ?_;go_wp2_with fail;refine eO rfl rfl ⟨rfl,?_⟩;rw[z];exact o
   ·have z:=X.out u A;clear U V X;cases T:ft.dH with
    |true=>
     have d2:(!ft.dH)=av:=by rw[T];rfl
     clear u A;cases d1:(r.m.kd==2)with
     |true=>
      cases d3:(r.m.fl==1)with
      |true=>
       simp
       go_upto_region 1 with fail
       refine iJ ?_;refine dB (S:=λW=>W.cell? (aj w.heap.size 5)=aa (an r.m.of)/\aL w W) 6 aS ⟨s,f.out.drew⟩ ?_;intro hS;refine gk 0 ?_;refine gk 1 ?_;refine gk 2 ?_;refine gs 3 ?_;refine gk 4 ?_;refine gr 5 λK a=>?_;go_simp;go_at_call 199;refine(F.out _ f.out.drew).mono ?_;rintro e H ⟨rfl,l⟩;refine a.out _ _ ⟨bR l s,f.out.drew.trans (l.mono f.out.drew.size)⟩ (λG=>?_);clear a K;refine gz λK a=>?_;go_simp;go_at_call 200;refine(I.out _ (f.out.drew.trans (l.mono f.out.drew.size))).mono ?_;rintro e O ⟨rfl,o⟩;refine a.out _ _ ?_;clear a K;refine eu aS ?_ _;refine gT ?_;go_wp2_with fail;refine eO rfl rfl ⟨rfl,?_⟩;rw[z];exact o
      |false=>
       simp
       go_upto_region 1 with fail
       refine iJ ?_;refine dB (S:=λW=>W.cell? (aj w.heap.size 5)=aa (an r.m.of)/\aL w W) 6 aS ⟨s,f.out.drew⟩ ?_;intro hS;refine gk 0 ?_;refine gk 1 ?_;refine gk 2 ?_;refine gs 3 ?_;refine gk 4 ?_;refine gr 5 λK a=>?_;go_simp;go_at_call 199;refine(F.out _ f.out.drew).mono ?_;rintro e H ⟨rfl,l⟩;refine a.out _ _ ⟨bR l s,f.out.drew.trans (l.mono f.out.drew.size)⟩ (λG=>?_);clear a K;refine gz λK a=>?_;go_simp;go_at_call 200;refine(I.out _ (f.out.drew.trans (l.mono f.out.drew.size))).mono ?_;rintro e O ⟨rfl,o⟩;refine a.out _ _ ?_;clear a K;refine eu aS ?_ _;refine gT ?_;go_wp2_with fail;refine eO rfl rfl ⟨rfl,?_⟩;rw[z];exact o
     |false=>
      cases d3:(r.m.fl==1)with
      |true=>
       simp
       go_upto_region 1 with fail
       refine iJ ?_;refine dB (S:=λW=>W.cell? (aj w.heap.size 5)=aa (an r.m.of)/\aL w W) 6 aS ⟨s,f.out.drew⟩ ?_;intro hS;refine gk 0 ?_;refine gk 1 ?_;refine gk 2 ?_;refine gs 3 ?_;refine gk 4 ?_;refine gr 5 λK a=>?_;go_simp;go_at_call 199;refine(F.out _ f.out.drew).mono ?_;rintro e H ⟨rfl,l⟩;refine a.out _ _ ⟨bR l s,f.out.drew.trans (l.mono f.out.drew.size)⟩ (λG=>?_);clear a K;refine gz λK a=>?_;go_simp;go_at_call 200;refine(I.out _ (f.out.drew.trans (l.mono f.out.drew.size))).mono ?_;rintro e O ⟨rfl,o⟩;refine a.out _ _ ?_;clear a K;refine eu aS ?_ _;refine gT ?_;go_wp2_with fail;refine eO rfl rfl ⟨rfl,?_⟩;rw[z];exact o
      |false=>
       simp
       go_upto_region 1 with fail
       refine iJ ?_;refine dB (S:=λW=>W.cell? (aj w.heap.size 5)=aa (an r.m.of)/\aL w W) 6 aS ⟨s,f.out.drew⟩ ?_;intro hS;refine gk 0 ?_;refine gk 1 ?_;refine gk 2 ?_;refine gs 3 ?_;refine gk 4 ?_;refine gr 5 λK a=>?_;go_simp;go_at_call 199;refine(F.out _ f.out.drew).mono ?_;rintro e H ⟨rfl,l⟩;refine a.out _ _ ⟨bR l s,f.out.drew.trans (l.mono f.out.drew.size)⟩ (λG=>?_);clear a K;refine gz λK a=>?_;go_simp;go_at_call 200;refine(I.out _ (f.out.drew.trans (l.mono f.out.drew.size))).mono ?_;rintro e O ⟨rfl,o⟩;refine a.out _ _ ?_;clear a K;refine eu aS ?_ _;refine gT ?_;go_wp2_with fail;refine eO rfl rfl ⟨rfl,?_⟩;rw[z];exact o
    |false=>
     have d2:(!ft.dH)=aq:=by rw[T];rfl
     have d1:(r.m.kd==2)=av:=by have:¬r.m.kd=2:=λe=>u ⟨e,T⟩;simp[this]
     have d3:(r.m.fl==1)=av:=by have:¬r.m.fl=1:=λe=>A ⟨e,T⟩;simp[this]
     clear u A;simp
     go_upto_region 1 with fail
     refine iJ ?_;refine dB (S:=λW=>W.cell? (aj w.heap.size 5)=aa (an r.m.of)/\aL w W) 6 aS ⟨s,f.out.drew⟩ ?_;intro hS;refine gk 0 ?_;refine gk 1 ?_;refine gk 2 ?_;refine gs 3 ?_;refine gk 4 ?_;refine gr 5 λK a=>?_;go_simp;go_at_call 199;refine(F.out _ f.out.drew).mono ?_;rintro e H ⟨rfl,l⟩;refine a.out _ _ ⟨bR l s,f.out.drew.trans (l.mono f.out.drew.size)⟩ (λG=>?_);clear a K;refine gz λK a=>?_;go_simp;go_at_call 200;refine(I.out _ (f.out.drew.trans (l.mono f.out.drew.size))).mono ?_;rintro e O ⟨rfl,o⟩;refine a.out _ _ ?_;clear a K;refine eu aS ?_ _;refine gT ?_;go_wp2_with fail;refine eO rfl rfl ⟨rfl,?_⟩;rw[z];exact o
section
abbrev Fx.dk(f:Fx):Dk:=⟨f.B,f.D,f.C⟩
abbrev Fx.BQ(f:Fx)(k:Dk):Fx:={f with B:=k.B,D:=k.D,C:=k.C}
def xe(ft:Ft):UInt8:=if ft.dH then 5 else 0
def Ck.hrd(B:aK UInt8)(ft:Ft)(k:Ck)(r:Rq):Ck:=k.uY r (xe ft) (nC B (pY k.no r ft.dH))
def Ck.answers(B:aK UInt8)(ft:Ft)(k:Ck)(a:aB Rq):Ck:=a.foldl (Ck.hrd B ft) k
def E0(B:aK UInt8)(ft:Ft)(k:Ck)(r:Rq):(k.hrd B ft r).no=k.no:=by unfold Ck.hrd Ck.uY;split<;>rfl
def IC(B:aK UInt8)(ft:Ft):∀(a:aB Rq) (k:Ck),(k.answers B ft a).no=k.no
 |[],k=>rfl
 |r::a,k=>(IC B ft a (k.hrd B ft r)).trans (E0 B ft k r)
def Wv{B:aK UInt8}{ft:Ft}{k:Ck}{a:aB Rq}{i:Nat}{r:Rq}(h:a[i]? =aa r):k.answers B ft (a.take (i+1))=(k.answers B ft (a.take i)).hrd B ft r:=by unfold Ck.answers;rw[sX,h];simp
structure Ck.Nw(k:Ck):Prop where
 us:qK k.us
 bK:0<=k.bK/\k.bK<=1048576
 prom:0<=k.prom/\k.prom<=4194304
 out:k.out.size<=1048576
def Ec(k:Dk)(rs)(ft:Ft):(k.change rs ft).B.size=k.B.size:=by
 unfold Dk.change;split
 ·rfl
 ·split
  ·rfl
  ·split<;>exact zq _ _ _
variable {W:az} {f:Fx} {xb:Nat} {L:dG} {b:Jb} {lj:Lj} {k:Ck}
def lu(own:Nat->Nat)(n:Nat)(v:aE)(t:Nat):Nat->Nat:=λx=>if x<n then own x else if v.ownBlock=aa x then t else 0
def BI{own n t x v}(h:x<n):lu own n v t x=own x:=aX h
def BH{own n t x v}(h:n<=x)(hv:v.ownBlock=aa x):lu own n v t x=t:=by unfold lu;rw[aQ ak,aX hv]
def RR{own n t x v}(h:n<=x)(hv:v.ownBlock≠aa x):lu own n v t x=0:=by unfold lu;rw[aQ ak,aQ hv]
def abf(Z:rP)(h:aJ W f xb L)(A:eV W L.own L.cs b lj){r t}(hr:b.rs=r::t)(s:(dA b.rs).length<=1048576)(hm:b.rs.length<=1048576)(u:∀x∈b.rs,0<=x.m.ln/\x.m.ln<=65535)(F:0<=b.ft.part/\b.ft.part<=9223372036854775807)(h0:0<=r.m.of)(w:r.m.of.toNat<f.B.size)(p:r.m.of.toNat+(dA b.rs).length<=f.B.size)(q:(dA b.rs).length %4=0)(y:f.C.length+1048576<=1099511627776):
  Calls prog 161 #[jp lj.j,jp L.d] W λe l=>e=aN (.tuple #[])/\∃g,aJ l (f.BQ (f.dk.change b.rs b.ft)) xb g/\bG W L l g/\eV l g.own g.cs b lj/\g.d=L.d/\g.cs=L.cs/\g.lv=L.lv/\∀x,W.heap.size<=x->g.own x=0\/g.own x=6:=by
 obtain⟨lc,H,v,J⟩:=A;have I:eG W lj.j lc.c lj.rv (r::t) b.ft b.due b.order:=hr▸v;rw[hr]at s hm u p q;refine(Xw Z lj.j lc.c lj.rv r t b.ft b.due b.order L.d L.bb L.db f.B.size L.cv f.dk W I h.eW s hm u F h0 w p q y).mono ?_;rintro e l ⟨rfl,i,d1,d2,d3⟩
 have o:∀x,x<W.heap.size->(x=L.d\/x=L.bb\/x=L.db\/aa x=L.cv.ownBlock)->L.own x=6:=by
  rintro x _ (rfl|rfl|rfl|e)
  ·exact h.je.1
  ·exact h.je.2.1
  ·exact h.je.2.2.1
  ·exact h.je.2.2.2 x e.symm
 have G:(f.dk.change (r::t) b.ft).B.size=f.B.size:=Ec _ _ _;have n:∀x,x<W.heap.size->lu L.own W.heap.size i 6 x=L.own x:=λx a=>BI a
 have z:∀x,i.ownBlock=aa x->lu L.own W.heap.size i 6 x=6:=λx a=>by
  rcases lZ x W.heap.size with E|hge
  ·rw[BI E];rcases d3 with d3|d3
   ·exact h.je.2.2.2 x (d3▸a)
   ·have:=d3 x a;omega
  ·exact BH hge a
 rw[hr];refine⟨rfl,_,h.Yf (cv:=i) (B:=(f.dk.change (r::t) b.ft).B) (D:=(f.dk.change (r::t) b.ft).D) (C:=(f.dk.change (r::t) b.ft).C) (cj:=lu L.own W.heap.size i 6) d2 o (by rw[G];exact d1) n z,⟨n,d2.mono λx a e=>by rw[o x a e];omega⟩,?_,rfl,rfl,rfl,λx a=>?_⟩
 ·exact eV.aside (d2.asd (L:=L) o n) ⟨lc,H,v,J⟩ (nU _) (by show ¬8+2*b.order=6;omega)
 ·show lu L.own W.heap.size i 6 x=0\/lu L.own W.heap.size i 6 x=6
  by_cases e:i.ownBlock=aa x
  ·exact aD (BH a e)
  ·exact aF (RR a e)
def abd(h:aJ W f xb L)(I:eV W L.own L.cs b lj){lc}(B:f.K[b.s]? =aa (aa k))(u:L.cs[b.s]? =aa (aa lc))(r)(er:UInt8)(d)(hr:r.Ok)(G:0<=r.m.ck/\r.m.ck<=65535)(H:d.size<=65535)(t:k.Nw):
  Calls prog 163 #[jp lc.c,.agg (aM r),an (er.toNat:Int),.string d] W λe w=>e=aN (.tuple #[])/\∃i D,aJ w (f.at b.s (k.uY r er d)) xb i/\bG W L w i/\eV w i.own i.cs b lj/\i.d=L.d/\i.cs[b.s]? =aa (aa D)/\D.c=lc.c/\i.lv=L.lv/\∀x,W.heap.size<=x->i.own x=0\/i.own x=7+2*b.s:=by
 obtain⟨l,C,A,n⟩:=h.sat B;obtain rfl:lc=l:=by rw[u]at C;exact dM (dM C)
 refine(Wo lc.c lc.rb lc.mb lc.ch lc.q lc.v f.g k r er d W A hr G H t.us t.bK t.prom t.out).mono ?_;rintro e w ⟨rfl,a,E,y,g3⟩
 have z:∀x,x<W.heap.size->(x=lc.c\/x=lc.mb\/aa x=lc.v.ownBlock)->L.own x=7+2*b.s:=by
  rintro x _ (rfl|rfl|e)
  ·exact n.1
  ·exact n.2.2.1
  ·exact n.2.2.2.2.2 x e.symm
 have j:∀x,x<W.heap.size->lu L.own W.heap.size a (7+2*b.s) x=L.own x:=λx o=>BI o;have p:=Lc.At.eC A
 have F:(⟨lc.c,lc.rb,lc.mb,lc.ch,lc.q,a⟩:Lc).gW λx=>lu L.own W.heap.size a (7+2*b.s) x=7+2*b.s:=by
  refine⟨(j _ p.1).trans n.1,(j _ p.2.1).trans n.2.1,(j _ p.2.2.1).trans n.2.2.1,(j _ p.2.2.2.1).trans n.2.2.2.1,λx e=>(j x (p.2.2.2.2.1 x e)).trans (n.2.2.2.2.1 x e),λx e=>?_⟩;rcases lZ x W.heap.size with J|hge
  ·rw[j x J];rcases g3 with g3|g3
   ·exact n.2.2.2.2.2 x (g3▸e)
   ·have:=g3 x e;omega
  ·exact BH hge e
 refine⟨rfl,_,⟨lc.c,lc.rb,lc.mb,lc.ch,lc.q,a⟩,h.client (l':=⟨lc.c,lc.rb,lc.mb,lc.ch,lc.q,a⟩) (cj:=lu L.own W.heap.size a (7+2*b.s)) u rfl B y z E j F,⟨j,y.mono λx o e=>by rw[z x o e];omega⟩,?_,rfl,BR u,rfl,rfl,λx o=>?_⟩
 ·exact eV.aside (y.asd (L:=L) z j) I (Lh (l':=⟨lc.c,lc.rb,lc.mb,lc.ch,lc.q,a⟩) u rfl _) (by show ¬8+2*b.order=7+2*b.s;omega)
 ·show lu L.own W.heap.size a (7+2*b.s) x=0\/lu L.own W.heap.size a (7+2*b.s) x=7+2*b.s
  by_cases e:a.ownBlock=aa x
  ·exact aD (BH o e)
  ·exact aF (RR o e)
end
def QO:(prog.info? 96).map (λi=>(i.zero,i.size,i.bytes))=aa (aa (.agg mC),7,56):=aS
abbrev Fx.dn(f:Fx)(b:Jb)(k:Ck)(i:Nat):Fx:=(f.BQ (f.dk.change b.rs b.ft)).at b.s (k.answers (f.dk.change b.rs b.ft).B b.ft (b.rs.take i))
abbrev mY(b:Jb)(k:Ck)(i:Nat):aB En:=(b.rs.take i).map λr=>pY k.no r b.ft.dH
structure pS(w:az)(L:dG)(f:Fx)(xb:Nat)(b:Jb)(lj:Lj)(k:Ck)(c i:Nat)(v:aE)(W:az)(L1:dG)(lc:Lc):Prop where
 fx:aJ W (f.dn b k i) xb L1
 nh:eV W L1.own L1.cs b lj
 gJ:bG w L W L1
 d:L1.d=L.d
 aI:L1.cs[b.s]? =aa (aa lc)
 c:lc.c=c
 row:W.ownsRow 0 96 7 v i ((mY b k i).flatMap mB)
 cA:∀g,v.ownBlock=aa g->L1.own g=0/\w.heap.size<=g
 new:∀x,W.heap.size<=x->L1.own x=0
 lv:L1.lv=L.lv
section
variable {w W W':az} {L L1:dG} {f:Fx} {xb:Nat} {b:Jb} {lj:Lj} {k:Ck} {c i:Nat} {v:aE} {lc:Lc}
def pS.below(h:pS w L f xb b lj k c i v W L1 lc)(j:aL W W'):pS w L f xb b lj k c i v W' L1 lc:=by have l:∀x,x<W.heap.size->W'.heap[x]? =W.heap[x]? :=λx a=>j.block x a;refine⟨h.fx.below j,eV.aside (T:=λ_=>False) ⟨λx a _=>l x a,λ_ _=>rfl⟩ h.nh (nU _) (λe=>e),h.gJ.trans ⟨λ_ _=>rfl,.below j⟩,h.d,h.aI,h.c,gD h.row λg e=>l g (zC h.row e),h.cA,λx a=>h.new x (dm j.size a),h.lv⟩
def pS.S9{g cap news r}(h:pS w L f xb b lj k c i v W L1 lc)(hr:b.rs[i]? =aa r)(p:news=mB (pY k.no r b.ft.dH))(q:W'.ownsRow 0 96 7 (.slice (aa (aj g 0)) (i+1) cap) (i+1) ((mY b k i).flatMap mB++news))(d:W.grownBy W' v.ownBlock)(o:v.ownBlock=aa g\/W.heap.size<=g):
  aJ W' (f.dn b k i) xb L1/\eV W' L1.own L1.cs b lj/\bG w L W' L1/\W'.ownsRow 0 96 7 (.slice (aa (aj g 0)) (i+1) cap) (i+1) ((mY b k (i+1)).flatMap mB)/\(L1.own g=0/\w.heap.size<=g)/\∀x,W'.heap.size<=x->L1.own x=0:=by
 have m:∀x,x<W.heap.size->L1.own x≠0->W'.heap[x]? =W.heap[x]? :=λx a j=>d.block x a λe=>j (h.cA x e.symm).1;have l:w.heap.size<=W.heap.size:=h.gJ.cD.size
 have n:L1.own g=0/\w.heap.size<=g:=by
  rcases o with e|e
  ·exact h.cA g e
  ·exact⟨h.new g e,dm l e⟩
 refine⟨h.fx.vl m,eV.aside (T:=λx=>x=0) ⟨λx a j=>m x a j,λ_ _=>rfl⟩ h.nh (nU _) ak,⟨h.gJ.own,⟨d.os.trans h.gJ.cD.os,dm l d.size,λx a j=>?_⟩⟩,?_,n,λx a=>h.new x (dm d.size a)⟩
 ·have s:=h.gJ.own x a
  by_cases e:aa x=v.ownBlock
  ·have:=(h.cA x e.symm).2;omega
  ·exact(d.block x (dy a l) e).trans (h.gJ.cD.block x a j)
 ·have:mY b k (i+1)=mY b k i++[pY k.no r b.ft.dH]:=by
   unfold mY;rw[sX,hr];simp
  rw[this,rC,List.flatMap_singleton,<-p];exact q
def RH{F}(h:aJ W F xb L)(d:eV W L.own L.cs b lj):aJ W F xb {L with own:=gu L.own W.heap.size 0}/\eV W (gu L.own W.heap.size 0) L.cs b lj:=
 ⟨h.owns _ λx a=>gM a,eV.aside (T:=λ_=>False) ⟨λ_ _ _=>rfl,λx a=>gM a⟩ d (nU _) (λe=>e)⟩
end
structure Dt(f:Fx)(b:Jb)(k:Ck):Prop where
 ne:∃r t,b.rs=r::t/\0<=r.m.of/\r.m.of.toNat<f.B.size/\r.m.of.toNat+(dA b.rs).length<=f.B.size
 many:b.rs.length<=65536
 data:(dA b.rs).length<=1048576/\(dA b.rs).length %4=0
 ok:∀r∈b.rs,r.Ok/\(0<=r.m.ck/\r.m.ck<=65535)/\(r.m.kd=0->r.m.of+r.m.ln<=f.B.size)
 part:0<=b.ft.part/\b.ft.part<=9223372036854775807
 cache:f.C.length+1048576<=1099511627776
 cl:∀i,i<=b.rs.length->(k.answers (f.dk.change b.rs b.ft).B b.ft (b.rs.take i)).Nw
def YG(ft:Ft):((xe ft).toNat:Int)=if ft.dH then 5 else 0:=by unfold xe;split<;>rfl
def aeH(B)(e:En)(h:0<=e.ln/\e.ln<=65535):(nC B e).size<=65535:=by
 unfold nC;split
 ·show(B.extract _ _).size<=_;rw[alF];omega
 ·show(0:Nat)<=_;omega
def ZD(Z:rP)(w f xb L b)(lj:Lj)(k)(h:aJ w f xb L)(hj:eV w L.own L.cs b lj)(hk:f.K[b.s]? =aa (aa k))(ok:Dt f b k):
  Calls prog 106 #[jp lj.j,jp L.d] w λe u=>∃v z lc,e=aN v/\pS w L f xb b lj k lc.c b.rs.length v u z lc:=by
 obtain⟨lc,q1,q2,q3⟩:=hj;obtain⟨r0,t0,vB,o0,o1,o2⟩:=ok.ne;have hm:b.rs.length<=1048576:=dm ok.many ak;obtain⟨qa,qc,dR,_⟩:=q2.row.form;have b9:b.s<f.K.length:=(eL.1 hk).1
 have HC:Hid (Calls prog 161 #[jp lj.j,jp L.d] w λe u=>e=aN (.tuple #[])/\∃L1,pS w L f xb b lj k lc.c 0 (.slice ay 0 0) u L1 lc):=by
  refine(abf Z h ⟨lc,q1,q2,q3⟩ vB ok.data.1 hm (λx o=>⟨(ok.ok x o).1.mE,(ok.ok x o).1.qb⟩) ok.part o0 o1 o2 ok.data.2 ok.cache).mono ?_;rintro e u ⟨rfl,z,p1,M,p3,p4,p5,bA,p6⟩;obtain⟨n1,n2⟩:=RH p1 p3
  have e0:f.dn b k 0=f.BQ (f.dk.change b.rs b.ft):=by have:f.K.set b.s (aa k)=f.K:=xJ hk;show{f.BQ (f.dk.change b.rs b.ft)with K:=f.K.set b.s (aa k)}=_;rw[this]
  exact⟨rfl,{z with own:=gu z.own u.heap.size 0},⟨by rw[e0];exact n1,n2,M.trans ⟨λx o=>gM o,aV.refl _ _⟩,p4,by rw[<-q1];exact dX (λl=>l[b.s]?) p5,rfl,⟨rfl,aF ⟨rfl,rfl⟩⟩,λg e=>(by cases e),λx o=>tX o,bA⟩⟩
 have V:Hid (∀i v W L1 I,pS w L f xb b lj k lc.c i v W L1 I->eG W lj.j lc.c (.slice qa b.rs.length qc) b.rs b.ft b.due b.order/\W.cell? (aj lc.c 0)=aa (an k.no)/\dz W L.d L1.bb L1.db L1.cv f.B.size (f.dk.change b.rs b.ft).B (f.dk.change b.rs b.ft).D (f.dk.change b.rs b.ft).C):=λi v W L1 I G=>by
  obtain⟨R,u1,u2,u3⟩:=G.nh;have el:R=I:=by rw[G.aI]at u1;exact(dM (dM u1)).symm
  rw[el,G.c]at u2;have eE:eG W lj.j lc.c lj.rv b.rs b.ft b.due b.order:=u2;obtain⟨J,s1,s2,s3⟩:=G.fx.sat (s:=b.s) (k:=k.answers (f.dk.change b.rs b.ft).B b.ft (b.rs.take i)) (rD b9);have dj:J=I:=by rw[G.aI]at s1;exact(dM (dM s1)).symm
  subst dj;have c0:=aO W J.c 0 (an (k.answers (f.dk.change b.rs b.ft).B b.ft (b.rs.take i)).no) s2.p.box;rw[IC,G.c]at c0;have Q:=G.fx.eW;rw[G.d]at Q;have dr:(f.dk.change b.rs b.ft).B.size=f.B.size:=Ec _ _ _;refine⟨by rw[<-dR];exact eE,c0,?_⟩;have Q:dz W L.d L1.bb L1.db L1.cv (f.dk.change b.rs b.ft).B.size (f.dk.change b.rs b.ft).B (f.dk.change b.rs b.ft).D (f.dk.change b.rs b.ft).C:=Q;rw[dr]at Q;exact Q
 obtain⟨iE,dJ,oV,dV,oW⟩:=aly QO;have bI:=ok;have QB:=ok.many;clear h ok vB o0 o1 o2 q2 q3;clear hk hm;go_enter func106,ntmps106;go_wp2_with (go_at_call 161;refine HC.out.mono ?_;rintro e w1 ⟨rfl,L1,bh⟩;have c6:=aT bh;have j1:w1.cell? (aj lj.j 1)=aa (.slice qa b.rs.length qc):=aG (V.out _ _ _ _ _ bh).1.box rfl;clear bh)
 go_loopw [5,17] (λvv iv wr=>∃i v L1 I,i<=b.rs.length/\iv=an (i:Int)/\vv=v/\Hid (pS w L f xb b lj k lc.c i v wr L1 I)) (λ_ iv _=>b.rs.length-(intOf iv).toNat)
 case atStart=>exact⟨0,_,L1,lc,eo _,rfl,rfl,c6.out⟩
 case round=>
  obtain⟨i,v,t,R,hi,rfl,hv,hR⟩:=hrel;subst hv
  by_cases dN:i<b.rs.length
  ·have h4:(i:Int)<(b.rs.length:Int):=ak;obtain⟨r,hr⟩:∃r,b.rs[i]? =aa r:=⟨b.rs[i],ef dN⟩;obtain⟨gb,rfl,k0,k1,k2,k3,k4,k5,k6,k7,k8,k9⟩:=(V.out _ _ _ _ _ hR.out).1.row.at hr;have U:=hR.out.below (Oh wr r);have HE:=aT (YD lj.j lc.c _ b.rs b.ft b.due b.order k.no r _ (V.out _ _ _ _ _ U).1 (V.out _ _ _ _ _ U).2.1);have HD:=aT U;have HX:Hid ((mw wr r).heap[wr.heap.size]? =aa (aA (aM r) 134 (0,0))):=cw wr _;have HI:Hid (i<=65536):=by show i<=65536;omega
   generalize EE:pY k.no r b.ft.dH=a at*;clear U;have TK:True:=trivial
   go_upto_region 8 with(first|(go_at_call 162;refine HE.out.mono ?_;rintro e n ⟨rfl,Y⟩;have ah:Hid (pS w L f xb b lj k lc.c i u5 ((n.alloc (aA (iM a) 96)).alloc (aA (iM a) 96)) t R):=((HD.out.below Y).below (bf)).below (bf))|(at_builtin;have _t:=TK;refine VM _ (by rfl) _ _ 93 (by rfl) 0 96 iE _ 7 56 underlying93 dJ oV dV oW (by rfl) ak u5 i ((mY b k i).flatMap mB) (by rfl) ah.out.row ⟨n.heap.size+1,0,ay⟩ 1 1 (mB a) (by rfl) (by rfl) (Dg (BZ n _ _)) (by simp[Vy]) ak (by have:=HI.out;unfold cY;omega) (by have:=HI.out;omega) aC (n.heap.size+2) aC ?_;intro g bT q QE JB bZ cg;clear TK))
   have b7:aL n ((n.alloc (aA (iM a) 96)).alloc (aA (iM a) 96)):=((Below.refl _ n).alloc (bC _) _).alloc aC _;have N:=ah.out.S9 hr (by rw[EE]) QE JB (bZ.imp id λe=>by rw[e];simp)
   have cj:∀x,wr.heap.size<=x->aa x≠u5.ownBlock:=λx o e=>by have:=zC hR.out.row e.symm;omega
   have gh:(mw wr r).heap.size<=n.heap.size:=Y.size;have dS:wr.heap.size+1<=n.heap.size:=by simpa using gh
   have key:∀x,wr.heap.size<=x->x<n.heap.size+2->q.heap[x]? =((n.alloc (aA (iM a) 96)).alloc (aA (iM a) 96)).heap[x]? :=λx H o=>JB.block x bY (cj x H);have X1:q.heap[wr.heap.size]? =aa (aA (aM r) 134 (0,0)):=(key _ (bC _) ak).trans (bV b7 (bV Y HX.out));have A:q.heap[n.heap.size]? =aa (aA (iM a) 96 (0,0)):=(key _ ak ak).trans (Ca n _ _);obtain⟨N1,N2,N3,N4,X,N6⟩:=N;obtain⟨lx,y1,y2,y3⟩:=N2;have bW:lx=R:=by rw[hR.out.aI]at y1;exact(dM (dM y1)).symm
   have J0:q.cell? (aj lj.j 0)=aa (jp lc.c):=by have:=aG y2.box (i:=0) (v:=jp lx.c) rfl;rw[bW,hR.out.c]at this;exact this
   have dO:r∈b.rs:=gS hr;obtain⟨O,r2,r3⟩:=bI.ok r dO;have E:a.kd=r.m.kd/\a.of=r.m.of/\a.ln=r.m.ln/\a.er=if b.ft.dH then 5 else 0:=by rw[<-EE];exact⟨rfl,rfl,rfl,rfl⟩
   have bU:dz q L.d t.bb t.db t.cv f.B.size (f.dk.change b.rs b.ft).B (f.dk.change b.rs b.ft).D (f.dk.change b.rs b.ft).C:=by have H:=N1.eW;rw[hR.out.d]at H;have H:dz q L.d t.bb t.db t.cv (f.dk.change b.rs b.ft).B.size (f.dk.change b.rs b.ft).B (f.dk.change b.rs b.ft).D (f.dk.change b.rs b.ft).C:=H;rw[Ec]at H;exact H
   have HT:Hid (∀W,aL q W->bO 164 #[jp L.d,.agg (iM a)] W (.string (nC (f.dk.change b.rs b.ft).B a))):=λW F=>by
    by_cases hc:a.kd=0/\a.er=0
    ·refine aeK L.d t.bb t.db f.B.size t.cv a _ _ _ W (bU.below F) hc ?_ ?_ ?_
     ·rw[E.2.1];exact O.of0
     ·rw[E.2.2.1];exact O.mE
     ·rw[E.2.1,E.2.2.1];exact r3 (E.1▸hc.1)
    ·exact aeI L.d a _ W hc
   have bX:((xe b.ft).toNat:Int)=a.er:=by rw[YG,E.2.2.2]
   have HA:Hid (∀W,aL q W->Calls prog 163 #[jp lc.c,.agg (aM r),an a.er,.string (nC (f.dk.change b.rs b.ft).B a)] W λe u=>e=aN (.tuple #[])/\∃L3 J,pS w L f xb b lj k lc.c (i+1) (.slice (aa (aj g 0)) (i+1) bT) u L3 J):=λW F=>by
    have b8:∀x,x<q.heap.size->W.heap[x]? =q.heap[x]? :=λx o=>F.block x o;have dL:(f.dn b k i).K[b.s]? =aa (aa (k.answers (f.dk.change b.rs b.ft).B b.ft (b.rs.take i))):=rD b9;have:=abd (W:=W) (b:=b) (lj:=lj) (N1.below F) (eV.aside (T:=λ_=>False) ⟨λx o _=>b8 x o,λ_ _=>rfl⟩ ⟨lx,y1,y2,y3⟩ (nU _) (λe=>e)) dL hR.out.aI r (xe b.ft) (nC (f.dk.change b.rs b.ft).B a) O r2 (aeH _ _ (by rw[E.2.2.1];exact⟨O.mE,O.qb⟩)) (bI.cl i hi);rw[hR.out.c,bX]at this;refine this.mono ?_;rintro e u ⟨rfl,z,I3,p1,M,p3,p4,p5,p6,bA,p7⟩;obtain⟨n1,n2⟩:=RH p1 p3
    have e1:f.dn b k (i+1)=(f.dn b k i).at b.s ((k.answers (f.dk.change b.rs b.ft).B b.ft (b.rs.take i)).uY r (xe b.ft) (nC (f.dk.change b.rs b.ft).B a)):=by rw[at_at];show(f.BQ _).at b.s _=_;rw[Wv hr];unfold Ck.hrd;rw[IC,EE]
    have Jz:g<q.heap.size:=cg
    have dG:z.own g=0:=by rw[(M.own g (dy Jz F.size))];exact X.1
    have eC:u.ownsRow 0 96 7 (.slice (aa (aj g 0)) (i+1) bT) (i+1) ((mY b k (i+1)).flatMap mB):=by refine gD (gD N4 λx e=>b8 x (zC N4 e)) λx e=>?_;cases e;exact M.cD.block g (dy Jz F.size) (λh=>h X.1)
    have dU:bG w L W t:=N3.trans ⟨λ_ _=>rfl,.below F⟩
    exact⟨rfl,{z with own:=gu z.own u.heap.size 0},I3,by rw[e1];exact n1,n2,(dU.trans M).trans ⟨λx o=>gM o,aV.refl _ _⟩,p4.trans hR.out.d,p5,p6,eC,λx e=>by cases e;refine⟨?_,X.2⟩;show gu z.own u.heap.size 0 g=0;rw[gM (dy (dy Jz F.size) M.cD.size)];exact dG,λx o=>tX o,bA.trans hR.out.lv⟩
   have S0:cu q wr.heap.size r:=cu.of X1;have z0:=aG A (i:=0) (v:=an a.no) rfl;have z1:=aG A (i:=1) (v:=an a.ck) rfl;have z2:=aG A (i:=2) (v:=an a.kd) rfl;have z3:=aG A (i:=3) (v:=an a.fl) rfl;have z4:=aG A (i:=4) (v:=an a.of) rfl;have z5:=aG A (i:=5) (v:=an a.ln) rfl;have z6:=aG A (i:=6) (v:=an a.er) rfl;generalize nC (f.dk.change b.rs b.ft).B a=TB at*;clear N1 N3 N4 X N6 y1 y2 y3 bU E bX O r2 r3 key X1 A cj QE JB bZ cg ah HD HX HE b7 Y EE k0 k1 k2 k3 k4 k5 k6 k7 k8 k9 gh dS bW;refine iJ ?_;refine dB (S:=λW=>(W.cell? (aj lj.j 0)=aa (jp lc.c)/\cu W wr.heap.size r/\W.cell? (aj n.heap.size 0)=aa (an a.no)/\W.cell? (aj n.heap.size 1)=aa (an a.ck)/\W.cell? (aj n.heap.size 2)=aa (an a.kd)/\W.cell? (aj n.heap.size 3)=aa (an a.fl)/\W.cell? (aj n.heap.size 4)=aa (an a.of)/\W.cell? (aj n.heap.size 5)=aa (an a.ln)/\W.cell? (aj n.heap.size 6)=aa (an a.er))) 10 aS ⟨J0,S0,z0,z1,z2,z3,z4,z5,z6⟩ ?_;intro hS;refine gk 0 ?_;refine gk 1 ?_;refine gk 2 ?_;refine gs 3 ?_;refine gs 4 ?_;refine gk 5 ?_;refine gs 6 ?_;refine gk 7 ?_;refine gs 8 ?_;refine gr 9 λK P=>?_;go_simp;go_at_call 164;refine(HT.out _ (Below.refl _ _).drew).mono ?_;rintro e w6 ⟨rfl,y⟩;refine P.out _ _ ⟨bR y J0,cu.old (W:=q.drew) S0 y,bR y z0,bR y z1,bR y z2,bR y z3,bR y z4,bR y z5,bR y z6⟩ (λQi=>?_);clear P K;refine gz λK P=>?_;go_simp;go_at_call 163;refine(HA.out _ ((Below.refl _ _).drew.trans y)).mono ?_;rintro e w7 ⟨rfl,L3,J,dA⟩;refine P.out _ _ ?_;clear P K;refine eu aS ?_ _;refine gT ?_;go_wp2_with fail;refine⟨⟨i+1,_,L3,J,ak,by go_num,rfl,dA⟩,?_⟩;simp[intOf];omega
  ·have h4:¬(i:Int)<(b.rs.length:Int):=ak;have e:i=b.rs.length:=ak;subst e;go_wp2;go_ret;exact⟨u5,rfl,t,R,by rw[hR.out.c];exact hR.out⟩
def Fx.does(f:Fx)(b:Jb):Fx:=match f.K[b.s]? with
 |some (aa k)=>{f.dn b k b.rs.length with log:=f.log++mY b k b.rs.length}
 |_=>f
def vh{f:Fx}{b:Jb}{k:Ck}(h:f.K[b.s]? =aa (aa k)):f.does b={f.dn b k b.rs.length with log:=f.log++mY b k b.rs.length}:=by unfold Fx.does;rw[h]
def Fx.fin:Nat->Fx->Fx
 |0,f=>f
 |n+1,f=>match f.fl with
  |[]=>f
  |b::r=>if b.due<=f.clock then Fx.fin n ({f with fl:=r}.does b)else f
def El(f:Fx)(b:Jb):(f.does b).fl=f.fl/\(f.does b).clock=f.clock/\(f.does b).g=f.g:=by unfold Fx.does;split<;>exact⟨rfl,rfl,rfl⟩
structure AQ(P:Fx->Prop):Prop where
 top:∀f b r,P f->f.fl=b::r->(∀x∈r,dU b.key x.key=aq)/\(∀x∈r,x.order≠b.order)/\r.length<1048576
 does:∀f b r,P f->f.fl=b::r->b.due<=f.clock->(∃k,f.K[b.s]? =aa (aa k)/\Dt {f with fl:=r} b k)/\f.log.length+65536<=1099511627776/\P ({f with fl:=r}.does b)
def ZS{W f xb L}(h:aJ W f xb L)(hf:f.fl=[]):fu 103 #[.pointer (aa (aj xb 18))] W (.tuple #[.pointer ay,.bool av]):=by
 have hr:=h.fl.row;rw[hf]at hr;obtain⟨a,b,e⟩:=jS hr
 have c:W.cell? (aj xb 18)=aa (.slice a 0 b):=by have:W.cell? (aj xb 18)=aa L.hv:=aG h.box rfl;rw[this,e];rfl
 go_enter func103,ntmps103;go_wp2
 go_ret2
 exact⟨rfl,rfl⟩
structure AS(P:Fx->Prop)(w:az)(L:dG)(F:Fx)(xb:Nat)(wr:az)(f1:Fx)(a:dG):Prop where
 at_:aJ wr f1 xb a
 gJ:bG w L wr a
 pp:P f1
 end_:Fx.fin f1.fl.length f1=F
def YS{f}(h:f.fl=[])(n):Fx.fin n f=f:=by cases n<;>simp[Fx.fin,h]
def YU{f b r}(h:f.fl=b::r)(a:¬b.due<=f.clock)(n):Fx.fin n f=f:=by cases n<;>simp[Fx.fin,h,a]
def YT{f b r}(h:f.fl=b::r)(a:b.due<=f.clock):Fx.fin f.fl.length f=Fx.fin ({f with fl:=r}.does b).fl.length ({f with fl:=r}.does b):=by rw[(El _ b).1,h];show Fx.fin (r.length+1) f=_;simp only[Fx.fin,h,a,cS]
def AS.len{P w wr L L1 F f1 xb}(h:AS P w L F xb wr f1 L1):qU (wr.cell? (aj xb 18))=f1.fl.length:=by obtain⟨a,b,e⟩:=jS h.at_.fl.row;have:wr.cell? (aj xb 18)=aa L1.hv:=aG h.at_.box rfl;rw[this,e];rfl
def logged{w W c f xb L L1 a l}(h:aJ W f xb L1)(hf:bG w L W L1)(hr:c.ownsRow 0 96 7 a l.length (l.flatMap mB))(i:W.grownBy c L1.lv.ownBlock)(hw:a.ownBlock=L1.lv.ownBlock\/∀g,a.ownBlock=aa g->W.heap.size<=g):
  ∃j,aJ (c.setCell (aj xb 20) a) {f with log:=l} xb j/\bG w L (c.setCell (aj xb 20) a) j:=by
 have n:aV (λb=>aa b=L1.lv.ownBlock) W c:=⟨i.os,i.size,λx t s=>i.block x t s⟩;have m:∀b,b<W.heap.size->aa b=L1.lv.ownBlock->L1.own b=5:=λb _ e=>h.lR b e.symm;have k:∀b,b<W.heap.size->lu L1.own W.heap.size a 5 b=L1.own b:=λb d=>BI d
 have q:∀b,a.ownBlock=aa b->lu L1.own W.heap.size a 5 b=5:=λb e=>by
  rcases lZ b W.heap.size with r|hge
  ·rw[BI r];rcases hw with hw|hw
   ·exact h.lR b (hw▸e)
   ·have:=hw b e;omega
  ·exact BH hge e
 refine⟨_,h.logs (cj:=lu L1.own W.heap.size a 5) n m hr k q,hf.trans ⟨k,?_⟩⟩;have o:aV (λb=>L1.own b≠0) W c:=n.mono λb d e=>by rw[m b d e];omega
 exact o.set (p:=aj xb 20) (by show L1.own xb≠0;rw[h.ey];omega) _
structure VQ(P:Fx->Prop)(f1 F a G:Fx)(b:Jb)(r:aB Jb)(k:Ck):Prop where
 eq:a={f1 with fl:=r}
 K:a.K[b.s]? =aa (aa k)
 ok:Dt a b k
 log:a.log.length+65536<=1099511627776
 pp:P G
 end_:Fx.fin G.fl.length G=F
 fl:G.fl=r
 res:G={a.dn b k b.rs.length with log:=a.log++mY b k b.rs.length}
 lt:r.length<f1.fl.length
def Yr{P:Fx->Prop}(h:AQ P){f1 F:Fx}{b:Jb}{r:aB Jb}(m:P f1)(a:f1.fl=b::r)(c:b.due<=f1.clock)(g:Fx.fin f1.fl.length f1=F):∃e G k,VQ P f1 F e G b r k:=by
 obtain⟨⟨k,d,l⟩,j,i⟩:=h.does f1 b r m a c;refine⟨{f1 with fl:=r},{f1 with fl:=r}.does b,k,⟨rfl,d,l,j,i,?_,(El _ b).1,vh (f:={f1 with fl:=r}) d,?_⟩⟩
 ·rw[<-YT a c];exact g
 ·rw[a];simp
def Zf(l:aB En):(l.flatMap mB).length=l.length*7:=by
 induction l with
 |nil=>rfl
 |cons a l b=>rw[wC,gR,b];simp;omega
def Ze:∀u∈(Value.agg mC).cells.toList,lH u:=by intro u a;have:(Value.agg mC).cells.toList=mC.toList:=rfl;rw[this]at a;simp at a;rcases a with rfl;trivial
def V1(l:aB En):∀u∈l.flatMap mB,u.oneCell'=aq:=by intro u b;obtain⟨e,_,a⟩:=CS.1 b;simp at a;rcases a with rfl|rfl|rfl|rfl|rfl|rfl|rfl<;>rfl
def cell_eq{W a:az}{b i:Nat}(h:a.heap[b]? =W.heap[b]?):a.cell? (aj b i)=W.cell? (aj b i):=by unfold fH;rw[h]
def ZG(Z:rP)(P:Fx->Prop)(hP:AQ P)(w:az)(f:Fx)(xb:Nat)(L:dG)(h:aJ w f xb L)(hp:P f):
  Calls prog 62 #[jp xb] w λe o=>e=aN (.tuple #[])/\P (Fx.fin f.fl.length f)/\∃x,aJ o (Fx.fin f.fl.length f) xb x/\bG w L o x:=by
 have H0:Hid (AS P w L (Fx.fin f.fl.length f) xb w f L):=⟨h,.refl w L,hp,rfl⟩;generalize Fx.fin f.fl.length f=F at*;obtain⟨iE,bB,oV,bE,oW⟩:=aly QO;have HP:=aT hP;clear h hp hP;go_enter func62,ntmps62;go_wp2
 go_loopw [] (λwr=>∃f1 E,Hid (AS P w L F xb wr f1 E)) (λwr=>qU (wr.cell? (aj xb 18)))
 case atStart=>exact⟨f,L,H0.out⟩
 case round=>
  obtain⟨f1,E,hR⟩:=hrel;have Oj:=aO wr xb 13 (an f1.clock) hR.out.at_.box;cases s:f1.fl with
  |nil=>
   have D:=aT (ZS hR.out.at_ s)
   have z:Hid (f1=F):=by have:=hR.out.end_;rw[YS s]at this;exact this
   go_wp2_with (go_at_call 103;refine D.out.mono ?_;rintro e w1 ⟨rfl,rfl⟩);refine gO (results_none rfl _ _ _) rfl ⟨rfl,?_,E,?_,hR.out.gJ⟩
   ·rw[<-z.out];exact hR.out.pp
   ·rw[<-z.out];exact hR.out.at_
  |cons b r=>
   obtain⟨t1,t2,t3⟩:=HP.out.top f1 b r hR.out.pp s;obtain⟨A,H,hJ,O,C⟩:=ZR hR.out.at_ s t1 f1.clock;have D:=aT O
   by_cases i:b.due<=f1.clock
   ·have Q:Hid (fu 104 #[jp A.j,an f1.clock] wr (.bool aq)):=by
     have:=C;rw[jI i]at this;exact this
    obtain⟨m,G,k,n⟩:=Yr HP.out hR.out.pp s i hR.out.end_
    have bu:Hid (Calls prog 105 #[.pointer (aa (aj xb 18))] wr λe o=>e=aN (.tuple #[jp A.j,.bool aq])/\∃a q,q.j=A.j/\aJ o m xb a/\bG w L o a/\eV o a.own a.cs b q):=by refine(ZK hR.out.at_ s t1 t2 t3).mono ?_;rintro e o ⟨q,rfl,p0,a,p1,p2,p3⟩;exact⟨by rw[H],a,q,by rw[p0,H],by rw[n.eq];exact p1,hR.out.gJ.trans p2,p3⟩
    clear O C t1 t2 t3 hJ H
    go_upto_region 3 with(first|(go_at_call 103;refine D.out.mono ?_;rintro e w1 ⟨rfl,rfl⟩)|(go_at_call 104;refine Q.out.mono ?_;rintro e w2 ⟨rfl,rfl⟩)|(go_at_call 105;refine bu.out.mono ?_;rintro e t ⟨rfl,a,q,el,M,x2,x3⟩))
    have Ol:=aO t xb 20 a.lv M.box;have aH:=aO t xb 19 (jp a.d) M.box
    have bt:Hid (Calls prog 106 #[jp A.j,jp a.d] t.drew λe o=>∃v x lc,e=aN v/\pS t a m xb b q k lc.c b.rs.length v o x lc):=by have bL:eV t.drew a.own a.cs b q:=eV.aside (W:=t) (T:=λ_=>False) ⟨λ_ _ _=>rfl,λ_ _=>rfl⟩ x3 (nU _) (λe=>e);have:=ZD Z t.drew m xb a b q k M.drew bL n.K n.ok;rw[el]at this;refine this.mono ?_;rintro e o ⟨v,x,lc,rfl,i⟩;exact⟨v,x,lc,rfl,⟨i.fx,i.nh,⟨i.gJ.own,⟨i.gJ.cD.os,i.gJ.cD.size,i.gJ.cD.block⟩⟩,i.d,i.aI,i.c,i.row,i.cA,i.new,i.lv⟩⟩
    refine iJ ?_;refine dB (S:=λW=>W.cell? (aj xb 20)=aa a.lv/\W.cell? (aj xb 19)=aa (jp a.d)) 14 aS ⟨Ol,aH⟩ ?_;intro hS;refine gk 0 ?_;refine gk 1 ?_;refine gk 2 ?_;refine gk 3 ?_;refine gs 4 ?_;refine gk 5 ?_;refine gk 6 ?_;refine gk 7 ?_;refine gk 8 ?_;refine gs 9 ?_;refine gr 10 λK p=>?_;go_simp;go_at_call 106;refine bt.out.mono ?_;rintro e y ⟨v,L6,l6,rfl,l⟩;have d20:y.cell? (aj xb 20)=aa a.lv:=by rw[<-l.lv];exact aG l.fx.box rfl
    have d19:y.cell? (aj xb 19)=aa (jp a.d):=by rw[<-l.d];exact aG l.fx.box rfl
    refine p.out _ _ ⟨d20,d19⟩ (λQi=>?_);clear p K;obtain⟨r0,t0,vB,_⟩:=n.ok.ne;have bg:0<b.rs.length:=by rw[vB];simp
    have QB:=n.ok.many;obtain⟨g,bw,X,_,bP⟩:=l.row.form bg;have QA:y.ownsRow 0 96 7 a.lv m.log.length (m.log.flatMap mB):=by rw[<-l.lv];exact l.fx.log
    have aV:((mY b k b.rs.length).flatMap mB).length=b.rs.length*7:=by rw[Zf];simp
    obtain⟨v',u,V,U,R,bh⟩:=ID (P:=prog) y 93 93 96 iE _ 7 56 underlying93 bB oV bE oW rfl ak Ze a.lv m.log.length (m.log.flatMap mB) QA ⟨g,0,ay⟩ b.rs.length bw ((mY b k b.rs.length).flatMap mB) aV (l.row.cells (by rw[X];rfl)) (V1 _) bg (by have:=n.log;unfold cY;omega) (by have:=n.log;omega);rw[<-X]at V;obtain⟨I,J,rfl⟩:=jS U;refine gr 11 λK p=>?_;refine xH rfl rfl rfl rfl V ?_
    have xw:aa xb≠a.lv.ownBlock:=λe=>by have h1:=l.fx.lR xb (by rw[l.lv];exact e.symm);have h2:=l.fx.ey;omega
    have bD:xb<y.heap.size:=(bp.1 l.fx.box).1;have B:u.heap[xb]? =y.heap[xb]? :=R.block xb bD xw;refine p.out _ _ ⟨by rw[cell_eq B];exact d20,by rw[cell_eq B];exact d19⟩ (λBo=>?_);clear p K;refine gk 12 ?_;refine gk 13 ?_;have N:u.heap[xb]? =aa (aA (jN (m.dn b k b.rs.length) L6) 112 (0,0)):=B.trans l.fx.box;have bU:=aO u xb 20 L6.lv N;have bV:=bz N 20
    obtain⟨L8,g1,g2⟩:∃L8,aJ (u.setCell (aj xb 20) (.slice I (m.log.length+b.rs.length) J)) G xb L8/\bG w L (u.setCell (aj xb 20) (.slice I (m.log.length+b.rs.length) J)) L8:=by rw[n.res];refine logged l.fx (x2.trans l.gJ) ?_ (by rw[l.lv];exact R) (by rw[l.lv];exact bh.at_);rw[gR,rC];have e:(mY b k b.rs.length).length=b.rs.length:=aC;rw[e];exact U
    have Y:Hid (AS P w L F xb (u.setCell (aj xb 20) (.slice I (m.log.length+b.rs.length) J)) G L8):=⟨g1,g2,n.pp,n.end_⟩
    have HM:Hid (qU ((u.setCell (aj xb 20) (.slice I (m.log.length+b.rs.length) J)).cell? (aj xb 18))<f1.fl.length):=by show _<_;rw[Y.out.len,n.fl];exact n.lt
    clear g1 g2 N B l U R bh V QA aV X M x2 x3 vB aH Ol d19 d20;refine gz λK p=>?_;go_simp;refine p.out _ _ ?_;clear p K;refine eu aS ?_ _;refine gT ?_;go_wp2_with fail;exact⟨⟨G,L8,Y.out⟩,by rw[hR.out.len];exact HM.out⟩
   ·have Q:Hid (fu 104 #[jp A.j,an f1.clock] wr (.bool av)):=by
     have:=C;rw[iY i]at this;exact this
    have z:Hid (f1=F):=by have:=hR.out.end_;rw[YU s i]at this;exact this
    clear O C t1 t2 t3 hJ H;go_wp2_with (first|(go_at_call 103;refine D.out.mono ?_;rintro e w1 ⟨rfl,rfl⟩)|(go_at_call 104;refine Q.out.mono ?_;rintro e w2 ⟨rfl,rfl⟩));refine gO (results_none rfl _ _ _) rfl ⟨rfl,?_,E,?_,hR.out.gJ⟩
    ·rw[<-z.out];exact hR.out.pp
    ·rw[<-z.out];exact hR.out.at_
end
section
open Go.Proofs.Tryz
open Go.RowKit Go.Shelf
def Fz:Go.Shelf.Ren:=⟨λ|105=>264|212=>277|99=>278|165=>279|166=>263|170=>280|169=>265|263=>284|264=>285|206=>286|240=>276|241=>287|276=>283|277=>288|n=>n,λ|9=>9|3=>3|4=>4|20=>20|0=>0|46=>203|109=>312|5=>5|72=>301|76=>304|51=>176|146=>317|53=>173|148=>319|70=>299|37=>158|75=>303|127=>262|164=>198|80=>41|n=>n,λn=>n⟩
def I0:Lays.n105 prog Fz:={
 mixed:=aS
 f99:=func278.trans (dX aa aS)
 f105:=func264.trans (dX aa aS)
 f165:=func279.trans (dX aa aS)
 f166:=func263.trans (dX aa aS)
 f169:=func265.trans (dX aa aS)
 f170:=func280.trans (dX aa aS)
 f206:=func286.trans (dX aa aS)
 f212:=func277.trans (dX aa aS)
 f240:=func276.trans (dX aa aS)
 f241:=func287.trans (dX aa aS)
 f263:=func284.trans (dX aa aS)
 f264:=func285.trans (dX aa aS)
 f276:=func283.trans (dX aa aS)
 f277:=func288.trans (dX aa aS)
 t0:=underlying0
 a0:=isAgg0
 z0:=sizeOf0
 v0:=zeroValue0
 t3:=underlying3
 a3:=isAgg3
 z3:=sizeOf3
 v3:=zeroValue3
 t4:=underlying4
 a4:=isAgg4
 z4:=sizeOf4
 v4:=zeroValue4
 t5:=underlying5
 a5:=isAgg5
 z5:=sizeOf5
 v5:=zeroValue5
 t9:=underlying9
 a9:=isAgg9
 z9:=sizeOf9
 v9:=zeroValue9
 t20:=underlying20
 a20:=isAgg20
 z20:=sizeOf20
 v20:=zeroValue20
 t37:=underlying158
 a37:=isAgg158
 z37:=sizeOf158
 v37:=zeroValue158
 t46:=underlying203
 a46:=isAgg203
 z46:=sizeOf203
 v46:=zeroValue203
 t51:=underlying176
 a51:=isAgg176
 z51:=sizeOf176
 v51:=zeroValue176
 t53:=underlying173
 a53:=isAgg173
 z53:=sizeOf173
 v53:=zeroValue173
 t70:=underlying299
 a70:=isAgg299
 z70:=sizeOf299
 v70:=zeroValue299
 t72:=underlying301
 a72:=isAgg301
 z72:=sizeOf301
 v72:=zeroValue301
 t75:=underlying303
 a75:=isAgg303
 z75:=sizeOf303
 v75:=zeroValue303
 t76:=underlying304
 a76:=isAgg304
 z76:=sizeOf304
 v76:=zeroValue304
 t109:=underlying312
 a109:=isAgg312
 z109:=sizeOf312
 v109:=zeroValue312
 t127:=underlying262
 a127:=isAgg262
 z127:=sizeOf262
 v127:=zeroValue262
 t146:=underlying317
 a146:=isAgg317
 z146:=sizeOf317
 v146:=zeroValue317
 t148:=underlying319
 a148:=isAgg319
 z148:=sizeOf319
 v148:=zeroValue319
 t164:=underlying198
 a164:=isAgg198
 z164:=sizeOf198
 v164:=zeroValue198}
def I1:Lays.n166 prog Fz:={
 mixed:=aS
 f166:=func263.trans (dX aa aS)
 f240:=func276.trans (dX aa aS)
 f276:=func283.trans (dX aa aS)
 t0:=underlying0
 a0:=isAgg0
 z0:=sizeOf0
 v0:=zeroValue0
 t3:=underlying3
 a3:=isAgg3
 z3:=sizeOf3
 v3:=zeroValue3
 t4:=underlying4
 a4:=isAgg4
 z4:=sizeOf4
 v4:=zeroValue4
 t9:=underlying9
 a9:=isAgg9
 z9:=sizeOf9
 v9:=zeroValue9
 t20:=underlying20
 a20:=isAgg20
 z20:=sizeOf20
 v20:=zeroValue20
 t37:=underlying158
 a37:=isAgg158
 z37:=sizeOf158
 v37:=zeroValue158
 t70:=underlying299
 a70:=isAgg299
 z70:=sizeOf299
 v70:=zeroValue299
 t72:=underlying301
 a72:=isAgg301
 z72:=sizeOf301
 v72:=zeroValue301
 t75:=underlying303
 a75:=isAgg303
 z75:=sizeOf303
 v75:=zeroValue303
 t164:=underlying198
 a164:=isAgg198
 z164:=sizeOf198
 v164:=zeroValue198}
def I2:Lays.n169 prog Fz:={
 mixed:=aS
 f169:=func265.trans (dX aa aS)
 t0:=underlying0
 a0:=isAgg0
 z0:=sizeOf0
 v0:=zeroValue0
 t3:=underlying3
 a3:=isAgg3
 z3:=sizeOf3
 v3:=zeroValue3
 t9:=underlying9
 a9:=isAgg9
 z9:=sizeOf9
 v9:=zeroValue9
 t37:=underlying158
 a37:=isAgg158
 z37:=sizeOf158
 v37:=zeroValue158
 t70:=underlying299
 a70:=isAgg299
 z70:=sizeOf299
 v70:=zeroValue299
 t72:=underlying301
 a72:=isAgg301
 z72:=sizeOf301
 v72:=zeroValue301
 t127:=underlying262
 a127:=isAgg262
 z127:=sizeOf262
 v127:=zeroValue262}
def IZ:Builder.Extra prog Fz:={
 sizeBuilder:=aS
 liesBuilder:=aS
 t5:=underlying5
 a5:=isAgg5
 z5:=sizeOf5
 v5:=zeroValue5
 infoByte:=aS
 cellsByte:=aS
 sizeByte:=aS
 neB5:=by decide}
def bld:rP:=⟨λB b e s w h d a=>Any.Builder_WriteString I1 IZ B b e s w h d a,λB b l w h a=>Any.Builder_String_any I2 IZ B b l w h a,λs c w f d=>Any.strings_Repeat I0 IZ s c w f d⟩
end
section
attribute [local go_sem] Oper.semAt_some
attribute [local go_sem] bP bF
open Go.Proofs.Tryz
open Go.RowKit Go.Shelf
abbrev tlA(xb a c b D:Nat):Act:=⟨#[pt xb,pt a,pt c,au,au,pt xb,.func (.func 96) #[] #[pt b],au,au,au,.tuple #[],au,au,au,au,au,au,au,au,au,au,au,au],[{target:=.collected D,args:=#[]}]⟩
abbrev tlB(xb a e b d c:Nat):Act:=⟨#[pt xb,pt a,pt e,au,pt c,pt xb,.func (.func 96) #[] #[pt b],au,au,au,.tuple #[],pt xb,.func (.func 96) #[] #[pt d],pt c,au,au,au,au,au,au,au,au,au],[]⟩
end
section
open Go.Proofs.Tryz
open Go.RowKit
section
variable [aP] {ρ:Ren} {P:aZ} {u w:az}
def Cd{k n v}(h:VR ρ (.int k n) v):v=.int k n:=by cases h;rfl
def afw{s v}(h:VR ρ (.string s) v):v=.string s:=by cases h;rfl
def afv{n c v}(h:VR ρ (.slice ay n c) v):v=.slice ay n c:=by cases h;rfl
def afu{r v}(e:ρ.one)(hr:ρ r r)(h:VR ρ (aR r) v):v=aR r:=by
 cases h with
 |@ptr _ d h=>
  obtain⟨a,b,c⟩:=h;obtain⟨x,y,z⟩:=d;simp only at a b c;rw[e.1 _ _ _ a hr,b,c]
def afs{r v}(a:ρ.one)(hr:ρ r r)(h:VR ρ (.map (aa r)) v):v=.map (aa r):=by
 cases h with
 |map h=>rw[a.1 _ _ _ h hr]
def afq{r v}(a:ρ.one)(hr:ρ r r)(h:VR ρ (.chan (aa r)) v):v=.chan (aa r):=by
 cases h with
 |chan h=>rw[a.1 _ _ _ h hr]
def Ou(l:fA P ρ u w){a b T x fz}(j:ρ a b)(k:u.heap[a]? =aa (aA x T fz)):∃c,w.heap[b]? =aa (aA c T fz)/\c.size=x.size/\∀(i:Nat) v,x[i]? =aa v->∃e,c[i]? =aa e/\VR ρ v e:=by
 rcases l.obj a b _ j k with h|⟨m,f,g⟩
 ·cases h
 ·cases g with
  |@cells _ c _ _ h=>
   refine⟨c,f,h.1,λi v hv=>?_⟩;have d:i<c.size:=by rw[h.1];exact(bp.1 hv).1
   exact⟨c[i],cL d,h.2 i _ _ hv (cL d)⟩
end
end
section
open Classical
open Go.Conc Go.RowKit
open Go.ConcR (Payload)
section
end
def abZ{cs c}:c∈cE cs↔∃j:Nat,cs[j]? =aa (aa c):=by
 unfold cE;rw[Hf];constructor
 ·rintro⟨x,b,e⟩;obtain rfl:x=aa c:=e;exact oq.1 b
 ·rintro⟨j,a⟩;exact⟨aa c,oq.2 ⟨j,a⟩,rfl⟩
section
variable [aP] [alC]
end
end
section
attribute [local go_sem ↓] Go.wp_at_zero Go.wp_at_succ
open Go.Conc Go.RowKit
open Go.Proofs.Tryz
def XH{P f fn a}{w:az}{R:Ending->az->Prop}{n:Nat}{b:Frame}(hf:P.funcs[f]? =aa fn)(g:b.fn=f)(o:b.kind=.normal)(i:b.roundOf=ay)(h:LeavesInM jW n P fn a.tmps R a.defers .returning w)(cs):
  ∃e d c,R e d/\Comes P (lone (b.at a []) cs w) (lone c cs d) e/\c.fn=f/\c.leaving P d e:=by
 have hr:jW.room (cs.length+1+n):=room_wide _;have k:b.atR a []=b.at a []:=Frame.atR_of_none i _ _;obtain⟨j,s,c,hR,r,m,p⟩:=leaves_stepsInM a.defers .returning w {b.atR a []with mode:=.returning} cs rfl rfl rfl (by rw[<-g]at hf;exact hf) o trivial hr h;have q:StepsIn (Machine.fenced P jW) P (lone (b.atR a []) cs w) (lone {b.atR a []with mode:=.returning} cs w):=.one (fenced_calm (fr:=b.atR a []) trivial hr rfl) (stepR_end i);exact⟨j,s,c,hR,by rw[<-k];exact comesIn_wide.1 (ComesIn.of_steps q r),m.trans g,p⟩
section
variable [aP] {P:aZ} {l:aB bN} {u:az}
def eY.U7(i:Fit P l){f fn c}{args:aK aE}{R:Ending->az->Prop}{n:Nat}(hf:P.funcs[f]? =aa fn)(j:fn.body=aa c)(hR:∀e u d,R e u->R e (az.tp u d))(o:∀e u,R e u->∃v,e=aN v)(h:WX P c (λe a u=>e=.normal/\∀d,LeavesInM jW n P fn a.tmps R a.defers .returning (az.tp u d)) {tmps:=args++sI (fn.ntmps-args.size) au,defers:=[]} u):eY P f args u R:=λcs=>by
 letI:bw:=bS []
 rw[enter_at args hf j];refine(h (base f) [] cs trivial λid ⟨a,u,m,_⟩=>by cases m).bind ?_;rintro r q s ⟨e,p,⟨rfl,k⟩,g⟩;obtain⟨rfl,rfl⟩:=g;exact Reach.left (l:=l) i (λt=>.nil) rfl hR o λd=>XH (b:=base f) hf rfl rfl rfl (k d) _
def mz:jV->jV|.seq x _=>x|_=>.skip
def dV:jV->jV|.seq _ y=>y|_=>.skip
def oP:jV->jV|.block _ x=>x|.loop x=>x|_=>.skip
def tR(fn:Func):jV:=dV (dV (oP (oP (oP (fn.body.getD .skip)))))
end
def ia(L:aB (Nat×aE)):me->aE
 |.tmp k=>(lk L k).getD au
 |.const v=>v
 |_=>au
def Ep(d k v)(L:aB (Nat×aE)):ia ((d,v)::L) (.tmp k)=if d=k then v else ia L (.tmp k):=by
 show(bif tg d k then aa v else lk L k).getD au=_
 by_cases h:d=k
 ·subst h;simp
 ·have:tg d k=av:=by
   cases b:tg d k with
   |false=>rfl
   |true=>exact absurd (yw b) h
  rw[this,aQ h];rfl
def Er(v)(L:aB (Nat×aE)):ia L (.const v)=v:=rfl
def oQ(B:aB Nat)(n d:Nat)(L:aB (Nat×aE))(op:Op):Bool:=decide (d<n)&&(match op with|.select _ _=>av|_=>aq)&&op.operands.toList.all λx=>match x with
 |.tmp k=>!B.contains k&&(lk L k).isSome
 |.const _=>aq
 |_=>av
def qX:jV->aK Oper|.region _ ops _=>ops|_=>#[]
def Sn(c:jV)(is:aB Nat):Bool:=match c with
 |.region _ ops dr=>!dr&&(eF ops.size==is)
 |_=>av
section
variable [aP] {P:aZ} {l:aB bN} {Q:Exit->Act->az->Prop} {a:Act} {u u1:az} {ops:aK Oper} {i n d:Nat} {rest:aB Nat} {Lf:bN->aB Nat} {f0:bN} {dn:Nat} {v:aE} {L:aB (Nat×aE)} {op:Op} {ty:aW} {ps:String} {af:aK Edge} {gd:aY (Nat×Bool)} {x:me} {B:aB Nat}
def Bb(h:oQ B n d L op=aq):d<n/\(∀cs b,op≠.select cs b)/\∀x∈op.operands,(match x with|.tmp k=>!B.contains k&&(lk L k).isSome|.const _=>aq|_=>av)=aq:=by unfold oQ at h;rw[cM,cM,nF]at h;exact⟨ot h.1.1,λcs b e=>(by grind),λx c=>h.2 x (by grind)⟩
def zb{m}(E:Fa m a L)(h:oQ B n d L op=aq)(f:x∈op.operands):a.eval x=ia L x/\a.eval x=(sG B a).eval x:=by
 have b:=(Bb h).2.2 x f;cases x with
 |tmp k=>
  rw[cM]at b;obtain⟨v,hv⟩:=Hr.1 b.2;refine⟨by rw[E.at_ k v hv];show _=(lk L k).getD au;rw[hv];rfl,(zQ λe=>?_).symm⟩;have c:=b.1;rw[Am.2 e]at c;cases c
 |const v=>exact⟨rfl,rfl⟩
 |_=>cases b
def FE.nw(E:Fa n a L)(u1)(c:∀e,iZ a e d v->Fa n e ((d,v)::L)->FO Lf f0 dn P ops Q rest e u1)(k:ops[i]? =aa ⟨aa d,op,ty,ps,af,gd⟩:=by rfl) (p:(kO ops L gd&&lq ops n gd)=aq:=by rfl) (m:okB P l op=aq:=by kernel_rfl) (hc:oQ (Lf f0) n d L op=aq:=by rfl) (hr:∀b,(execOp (ia L) ⟨aa d,op,ty,ps,af,gd⟩).run P (u.tp b)=.ok (.value v) (u1.tp b)) (j:Fit P l:=by assumption):FO Lf f0 dn P ops Q (i::rest) a u:=by obtain⟨h,g,_⟩:=Bb hc;refine FO.own j k (E.wt (o:=⟨aa d,op,ty,ps,af,gd⟩) p) rfl m (AF _ g λx f=>(zb E hc f).2) (λb=>?_) (c _ (xC a d v) (E.put v h));rw[AF _ g λx f=>(zb E hc f).1];exact hr b
def FE.ow(E:Fa n a L)(c:∀b,iZ a b d v->Fa n b ((d,v)::L)->FO Lf f0 dn P ops Q rest b u)(g:ops[i]? =aa ⟨aa d,op,ty,ps,af,gd⟩:=by rfl) (j:(kO ops L gd&&lq ops n gd)=aq:=by rfl) (h:okB P l op=aq:=by kernel_rfl) (hc:oQ (Lf f0) n d L op=aq:=by rfl)
  (hr:∀e,(execOp (ia L) ⟨aa d,op,ty,ps,af,gd⟩).run P (u.tp e)=.ok (.value v) (u.tp e):=by(intro e;go_simp;try with_reducible rfl)) (f:Fit P l:=by assumption):FO Lf f0 dn P ops Q (i::rest) a u:=FE.nw E u c g j h hc hr f
def FE.vo(E:Fa n a L)(u1)(c:FO Lf f0 dn P ops Q rest a u1)(h:ops[i]? =aa ⟨ay,op,ty,ps,af,gd⟩:=by rfl) (k:(kO ops L gd&&lq ops n gd)=aq:=by rfl) (j:okB P l op=aq:=by kernel_rfl) (hc:oQ (Lf f0) 1 0 L op=aq:=by rfl) (hr:∀b,(execOp (ia L) ⟨ay,op,ty,ps,af,gd⟩).run P (u.tp b)=.ok .skip (u1.tp b)) (g:Fit P l:=by assumption):FO Lf f0 dn P ops Q (i::rest) a u:=by have f:=(Bb hc).2.1;refine FO.void g h (E.wt (o:=⟨ay,op,ty,ps,af,gd⟩) k) rfl j (AF _ f λx e=>(zb E hc e).2) (λb=>?_) c;rw[AF _ f λx e=>(zb E hc e).1];exact hr b
def FE.bl(E:Fa n a L)(c:∀b,iZ a b d v->Fa n b ((d,v)::L)->FO Lf f0 dn P ops Q rest b u)(j:ops[i]? =aa ⟨aa d,op,ty,ps,af,gd⟩:=by rfl) (k:(kO ops L gd&&lq ops n gd)=aq:=by rfl) (hc:oQ [] n d L op=aq:=by rfl)
  (hr:∀w,(execOp (ia L) ⟨aa d,op,ty,ps,af,gd⟩).run P w=.ok (.value v) w:=by(intro w;go_simp;try with_reducible rfl)) (he:∀w,(execOp (ia L) ⟨aa d,op,ty,ps,af,gd⟩).events P w #[]=#[]:=by(intro w;rfl)) (h:d∈Lf f0\/∀ρ,VR ρ v v:=by(first|exact aF bJ|exact aD λ_=>by constructor)):FO Lf f0 dn P ops Q (i::rest) a u:=by
 obtain⟨f,g,_⟩:=Bb hc;have e:=AF (ρ:=a.eval) (ρ':=ia L) ⟨aa d,op,ty,ps,af,gd⟩ g λx m=>(zb E hc m).1;exact FO.blind j (E.wt (o:=⟨aa d,op,ty,ps,af,gd⟩) k) rfl (λw=>by rw[e];exact hr w) (λw=>by rw[e];exact he w) h (c _ (xC a d v) (E.put v f))
def FE.pk{wb ob}(t:aP.sH wb=aa ob)(E:Fa n a L)(hr:∀w:az,w.heap[wb]? =aa ob->(execOp (ia L) ⟨aa d,op,ty,ps,af,gd⟩).run P w=.ok (.value v) w)(he:∀w:az,w.heap[wb]? =aa ob->∃f r s,(execOp (ia L) ⟨aa d,op,ty,ps,af,gd⟩).events P w #[]=#[⟨.cell f,r,s⟩]/\f.block=wb)(p:∀ρ,VR ρ v v)(c:∀g,iZ a g d v->Fa n g ((d,v)::L)->FO Lf f0 dn P ops Q rest g u)(m:ops[i]? =aa ⟨aa d,op,ty,ps,af,gd⟩:=by rfl) (q:(kO ops L gd&&lq ops n gd)=aq:=by rfl) (hc:oQ [] n d L op=aq:=by rfl):FO Lf f0 dn P ops Q (i::rest) a u:=by obtain⟨j,k,_⟩:=Bb hc;have e:=AF (ρ:=a.eval) (ρ':=ia L) ⟨aa d,op,ty,ps,af,gd⟩ k λx b=>(zb E hc b).1;refine FO.RV t m (E.wt (o:=⟨aa d,op,ty,ps,af,gd⟩) q) rfl (λw h=>by rw[e];exact hr w h) (λw h x b=>?_) p (c _ (xC a d v) (E.put v j));rw[e]at b;obtain⟨f,r,s,y,z⟩:=he w h;rw[y]at b;simp at b;exact⟨f,by rw[b],z⟩
def Bg{t m c0 j k1 k2 ad}(w)(b:ia L (.tmp k1)=.slice (aa ad) m c0)(c:ia L (.tmp k2)=an (j:Int))(f:prog.underlying t=aa (.slice (prog.elem t)))(e:0<=(j:Int)/\(j:Int)<(m:Int)):(execOp (ia L) ⟨aa d,.indexAddr t (.tmp k1) (.tmp k2),ty,ps,af,gd⟩).events prog w #[]=#[]:=by unfold execOp;dsimp only;rw[b,c];have:=events_indexAt_slice (w:=w) (es:=#[]) t ad m c0 .i64 j f e;simp[this]
def FE.p1{wb off t k ob}(o:aP.sH wb=aa ob)(E:Fa n a L)(e:∀w:az,w.heap[wb]? =aa ob->w.cell? (aj wb off)=aa v)(c:∀f,iZ a f d v->Fa n f ((d,v)::L)->FO Lf f0 dn P ops Q rest f u)(j:ops[i]? =aa ⟨aa d,.load t (.tmp k),ty,ps,af,gd⟩:=by rfl) (p:lk L k=aa (.pointer (aa (aj wb off))):=by rfl) (b:(kO ops L gd&&lq ops n gd)=aq:=by rfl) (h:oQ [] n d L (.load t (.tmp k))=aq:=by rfl) (hr:∀w:az,w.cell? (aj wb off)=aa v->(execOp (ia L) ⟨aa d,.load t (.tmp k),ty,ps,af,gd⟩).run P w=.ok (.value v) w:=by(intro w e;go_simp)) (he:∀w:az,w.cell? (aj wb off)=aa v->(execOp (ia L) ⟨aa d,.load t (.tmp k),ty,ps,af,gd⟩).events P w #[]=#[⟨.cell ⟨wb,off,ay⟩,av,av⟩]:=by(intro w e;go_simp)) (m:∀g,VR g v v:=by(intro g;constructor)):FO Lf f0 dn P ops Q (i::rest) a u:=
 FE.pk o E (λw b=>hr w (e w b)) (λw b=>⟨_,_,_,he w (e w b),rfl⟩) m c j b h
def DV(P:aZ)(f:bN):Bool:=match P.funcs[f]? with
 |some b=>b.body.isSome&&!(b.name== "runtime.NumGoroutine")
 |none=>av
def Og{f}(h:DV P f=aq):∃b body,P.funcs[f]? =aa b/\(b.name== "runtime.NumGoroutine")=av/\b.body=aa body:=by
 unfold DV at h;split at h
 ·rename_i b e;rw[cM,yc]at h;obtain⟨body,c⟩:=Hr.1 h.1;exact⟨b,body,e,h.2,c⟩
 ·cases h
def arI:BinOp->Int->Int->aY Int
 |.add,X,Y=>aa (X+Y)
 |.sub,X,Y=>aa (X-Y)
 |.mul,X,Y=>aa (X*Y)
 |_,_,_=>ay
def FE.ar{b x y X Y z}(E:Fa n a L)(c:∀e,iZ a e d (an z)->Fa n e ((d,an z)::L)->FO Lf f0 dn prog ops Q rest e u)(j:ops[i]? =aa ⟨aa d,.binOp b 3 x y 3,ty,ps,af,gd⟩:=by rfl) (r:opF L x=aa (an X):=by rfl) (s:opF L y=aa (an Y):=by rfl) (p:arI b X Y=aa z:=by rfl) (f:-9223372036854775808<=z/\z<=9223372036854775807:=by omega) (o:(kO ops L gd&&lq ops n gd)=aq:=by rfl) (m:okB prog l (.binOp b 3 x y 3)=aq:=by kernel_rfl) (hc:oQ (Lf f0) n d L (.binOp b 3 x y 3)=aq:=by rfl) (g:Fit prog l:=by assumption):FO Lf f0 dn prog ops Q (i::rest) a u:=by
 have ev:∀{x:me} {V:aE},opF L x=aa V->ia L x=V:=λ{x V} h=>by
  cases x with
  |tmp k=>show(lk L k).getD au=V;rw[show lk L k=aa V from h];rfl
  |const v=>cases h;rfl
  |_=>cases h
 have q:=iG f.1 f.2;refine FE.ow E c j o m hc (λt=>?_) g;unfold execOp;simp;cases b<;>cases p<;>go_simp
def FE.ln{t k m c0:Nat}{ad}(E:Fa n a L)(c:∀b,iZ a b d (an m)->Fa n b ((d,an m)::L)->FO Lf f0 dn prog ops Q rest b u)(f:ops[i]? =aa ⟨aa d,.call ⟨.builtin .len,#[.tmp k],#[t]⟩,ty,ps,af,gd⟩:=by rfl) (h:(kO ops L gd&&lq ops n gd)=aq:=by rfl) (g:ng prog t=aq:=by kernel_rfl) (e:decide (d<n)=aq:=by rfl) (hv:lk L k=aa (.slice ad m c0):=by rfl):FO Lf f0 dn prog ops Q (i::rest) a u:=
 FO.I5 (pz g) f (E.wt (o:=⟨aa d,_,ty,ps,af,gd⟩) h) rfl rfl (E.at_ k _ hv) (c _ (xC ..) (E.put _ (ot e)))
def FE.lc{t k b j x}{T:aW}(E:Fa n a L)(B:u.heap[b]? =aa (aA x T (0,0)))(c:∀e,iZ a e d v->Fa n e ((d,v)::L)->FO Lf f0 dn P ops Q rest e u)(g:ops[i]? =aa ⟨aa d,.load t (.tmp k),ty,ps,af,gd⟩:=by rfl) (q:lk L k=aa (.pointer (aa (aj b j))):=by rfl) (m:x[j]? =aa v:=by rfl) (h:(kO ops L gd&&lq ops n gd)=aq:=by rfl) (hc:oQ (Lf f0) n d L (.load t (.tmp k))=aq:=by rfl) (hr:∀w:az,w.cell? (aj b j)=aa v->(execOp (ia L) ⟨aa d,.load t (.tmp k),ty,ps,af,gd⟩).run P w=.ok (.value v) w:=by(intro w p;go_simp)) (f:Fit P l:=by assumption):FO Lf f0 dn P ops Q (i::rest) a u:=
 FE.ow E c g h rfl hc (λo=>hr _ (aG (show(u.tp o).heap[b]? =_ from B) m)) f
def FE.st{t k1 k2 b j x}{T:aW}{v0}(E:Fa n a L)(B:u.heap[b]? =aa (aA x T (0,0)))(c:∀u1:az,u1.heap[b]? =aa (aA (x.setIfInBounds j v) T (0,0))->(∀e,e≠b->u1.heap[e]? =u.heap[e]?)->FO Lf f0 dn P ops Q rest a u1)(k:ops[i]? =aa ⟨ay,.store t (.tmp k1) (.tmp k2),ty,ps,af,gd⟩:=by rfl) (r:lk L k1=aa (.pointer (aa (aj b j))):=by rfl) (hv:lk L k2=aa v:=by rfl) (o:x[j]? =aa v0:=by rfl) (m:(kO ops L gd&&lq ops n gd)=aq:=by rfl) (hc:oQ (Lf f0) 1 0 L (.store t (.tmp k1) (.tmp k2))=aq:=by rfl) (hr:∀w:az,w.cell? (aj b j)=aa v0->w.frozen? (aj b j)=av->(execOp (ia L) ⟨ay,.store t (.tmp k1) (.tmp k2),ty,ps,af,gd⟩).run P w=.ok .skip (w.setCell (aj b j) v):=by(intro w p q;go_simp)) (g:Fit P l:=by assumption):FO Lf f0 dn P ops Q (i::rest) a u:=by refine FE.vo E (u.setCell (aj b j) v) (c _ (cz B j v) λe h=>bH h) k m rfl hc (λf=>?_) g;rw[hr _ (aG (show(u.tp f).heap[b]? =_ from B) o) (bz (show(u.tp f).heap[b]? =_ from B) j)];exact dX _ (SO _ _ _ _)
def FE.cx{f xs vs ats}(E:Fa n a L)(s:aP.known f)(c:eY P f vs.toArray u λe j=>∃v,e=aN v/\∀b,iZ a b d v->Fa n b ((d,v)::L)->FO Lf f0 dn P ops Q rest b j)(t:ops[i]? =aa ⟨aa d,.call ⟨.value (.func f),xs.toArray,ats⟩,ty,ps,af,gd⟩:=by rfl) (w:(kO ops L gd&&lq ops n gd)=aq:=by rfl) (p:DV P f=aq:=by kernel_rfl) (r:xs.all (cQ l)=aq:=by rfl) (hc:rU (Lf f0) n d xs=aq:=by rfl) (hv:uZ L xs=aa vs:=by rfl) (q:Fit P l:=by assumption):FO Lf f0 dn P ops Q (i::rest) a u:=by
 have k:xs.toArray.map a.eval=vs.toArray:=by rw[rG,IE E hv]
 obtain⟨z,body,g,h,m⟩:=Og p;refine FO.Xo q t (E.wt (o:=⟨aa d,_,ty,ps,af,gd⟩) w) rfl rfl g h m s (by simpa using r) ?_ ?_
 ·rw[rG,rG];refine dX _ (List.map_congr_left λx y=>(XB hc y).symm)
 ·rw[k];exact c.mono λe j ⟨v,g,h⟩=>⟨v,g,h _ (xC a d v) (E.put v (Ed hc))⟩
def FE.cf{f fn xs vs ats}(E:Fa n a L)(m:P.funcs[f]? =aa fn)(s:aP.known f)(w:∀x:aK aE,results fn x=results fn (nD (Lf f) x))(z:∀A (j:Nat) v,(Frame.enter P f vs.toArray .normal).tmps[j]? =aa v->j∉Lf f->VR A v v)(c:jo Lf P (dn+1) f vs.toArray u λe p=>∃v,e=aN v/\∀g,iZ a g d v->Fa n g ((d,v)::L)->FO Lf f0 dn P ops Q rest g p)(t:ops[i]? =aa ⟨aa d,.call ⟨.value (.func f),xs.toArray,ats⟩,ty,ps,af,gd⟩:=by rfl) (y:(kO ops L gd&&lq ops n gd)=aq:=by rfl) (r:DV P f=aq:=by kernel_rfl) (hc:rU [] n d []=aq:=by rfl) (hv:uZ L xs=aa vs:=by rfl):FO Lf f0 dn P ops Q (i::rest) a u:=by
 have k:xs.toArray.map a.eval=vs.toArray:=by rw[rG,IE E hv]
 obtain⟨C,body,b,h,q⟩:=Og r;rw[m]at b;cases b;refine FO.Xn t (E.wt (o:=⟨aa d,_,ty,ps,af,gd⟩) y) rfl rfl m h q s w (by rw[k];exact z) ?_;rw[k];exact c.mono λe p ⟨v,b,h⟩=>⟨v,b,h _ (xC a d v) (E.put v (Ed hc))⟩
def unB:aY aE->Bool->Bool
 |some (.bool x),b=>x !=b
 |some _,_=>aq
 |none,_=>av
def FE.dx{j p b oj}(E:Fa n a L)(c:∀e,iZ a e d au->Fa n e ((d,au)::L)->FO Lf f0 dn P ops Q rest e u)(m:ops[i]? =aa ⟨aa d,op,ty,ps,af,aa (j,b)⟩:=by rfl) (r:ops[j]? =aa oj:=by rfl) (s:oj.dst=aa p:=by rfl) (f:unB (lk L p) b=aq:=by rfl) (hc:(rU [] n d []&&decide (p<n))=aq:=by rfl):FO Lf f0 dn P ops Q (i::rest) a u:=by
 have h:=(cM _ _).mp hc;refine FO.unwanted m ?_ rfl (c _ (xC a d au) (E.put _ (Ed h.1)));have o:p<a.tmps.size:=by rw[E.size];exact ot h.2
 cases hv:lk L p with
 |none=>rw[hv]at f;cases f
 |some v=>
  have g:=ev (E.at_ p v hv);have k:=cL o;rw[k]at g;have q:=k.trans (dX aa g);rw[hv]at f;cases v<;>simp_all[unB,dw,yielded]
def FX.reg{c}(is)(h:FO Lf f0 dn P (qX c) Q is a u)(hc:Sn c is=aq:=by kernel_rfl):FX Lf f0 dn P c Q a u:=by
 unfold Sn at hc;split at hc
 ·rename_i id ops dr;rw[cM,yc]at hc;obtain⟨rfl,b⟩:=hc;refine FX.region ?_;rw[eq_of_beq b];exact h
 ·cases hc
def dk{X:Act->Prop}(h:∀b w,w=v->iZ a b d w->X b):∀b,iZ a b d v->Fa n b ((d,v)::L)->X b:=λb N _=>h b v rfl N
def Fa.dd{c j}(E:Fa n a L)(h:a.eval (.tmp (gA (qX c) j))=v)(b:(qX c)[j]? =aa ⟨aa d,op,ty,ps,af,gd⟩:=by rfl):Fa n a ((d,v)::L):=E.add (by rw[<-h,gA,b];rfl)
def drB:jV->Bool|.region _ _ dr=>dr|_=>av
def FX.dr{c}(m b)(e:Nat->aE->Prop)(E:Fa n a L)
  (step:∀u1:az,u1={u with drawn:=u.drawn+1}->∀i,i<b->∀a is,Fa n a L->(∀j,((mA (qX c) i).contains j&&decide (j<b))=aq->e j (a.eval (.tmp (gA (qX c) j))))->(∀o v,e i v->iZ a o (gA (qX c) i) v->FO Lf f0 dn P (qX c) Q is o u1)->FO Lf f0 dn P (qX c) Q (i::is) a u1)
  (r:∀u1:az,u1={u with drawn:=u.drawn+1}->∀a,Fa n a L->(∀i,decide (i<b)=aq->e i (a.eval (.tmp (gA (qX c) i))))->eZ Lf f0 dn P .any (qX c) Q (m-b) (tQ m b) a u1)
  (f:(drB c&&Fp (qX c) m b n (L.map Prod.fst))=aq:=by kernel_rfl) (hm:P.follows .mixedOrders=aq:=by kernel_rfl):FX Lf f0 dn P c Q a u:=by
 rw[cM]at f;cases c with
 |region id ops dr=>
  cases f.1;exact FX.aax m b hm f.2 e E (λu1 k i p a is g q=>step u1 k i p a is g λj h=>by rw[cM,uD]at h;exact q j h.1 h.2) λu1 k a g hv=>r u1 k a g λi h=>hv i (ot h)
 |_=>cases f.1
def SN:jV->Bool|.seq _ _=>aq|_=>av
def FX.sq{c}(h:FX Lf f0 dn P (mz c) (Exit.then (FX Lf f0 dn P (dV c) Q) Q) a u)(hc:SN c=aq:=by kernel_rfl):FX Lf f0 dn P c Q a u:=by cases c<;>first|exact FX.seq h|cases hc
def Ef:jV->aY Nat|.cond (.tmp k) _ _=>aa k|_=>ay
def Ox{c k}(h:Ef c=aa k):c=.cond (.tmp k) (ct c) (cf c):=by
 unfold Ef at h;split at h
 ·cases h;rfl
 ·cases h
def FX.cT{c k}(E:Fa n a L)(h:FX Lf f0 dn P (ct c) Q a u)(b:Ef c=aa k:=by rfl) (hv:lk L k=aa (.bool aq):=by rfl):FX Lf f0 dn P c Q a u:=by rw[Ox b];exact FX.cond (E.at_ k _ hv) h
def FX.cF{c k}(E:Fa n a L)(h:FX Lf f0 dn P (cf c) Q a u)(b:Ef c=aa k:=by rfl) (hv:lk L k=aa (.bool av):=by rfl):FX Lf f0 dn P c Q a u:=by rw[Ox b];exact FX.cond (E.at_ k _ hv) h
def FX.rt{c}(h:Q .ret a u)(hc:c=.ret:=by kernel_rfl):FX Lf f0 dn P c Q a u:=hc▸FX.ret h
def FX.sk{c}(h:Q .normal a u)(hc:c=.skip:=by kernel_rfl):FX Lf f0 dn P c Q a u:=hc▸FX.skip h
def FX.bk{c}(id)(h:FX Lf f0 dn P (oP c) (Cv id Q) a u)(hc:c=.block id (oP c):=by kernel_rfl):FX Lf f0 dn P c Q a u:=by rw[hc];exact FX.block h
def FX.lp{c}(I:Act->az->Prop)(b:Act->az->Nat)(g:I a u)(round:∀a u,I a u->FX Lf f0 dn P (oP c) (Exit.then (λe f=>I e f/\b e f<b a u) Q) a u)(hc:c=.loop (oP c):=by kernel_rfl):FX Lf f0 dn P c Q a u:=by rw[hc];exact FX.loop I b g round
def FX.ex{c}(id)(h:Q (.exit id) a u)(hc:c=.exit id:=by kernel_rfl):FX Lf f0 dn P c Q a u:=hc▸FX.exit h
def FO.same{is}(h:FO Lf f0 dn P ops Q is a u)(y:Tape)(m):FO Lf f0 dn P ops Q is a {u with tape:=y,drawn:=m}:=λb k cs f g j o e S s gs w r t q c p=>
 h b k cs f g j o e S s gs w r t q ⟨c.oM,c.top,c.low,⟨c.world.one,c.world.lt,c.world.obj,c.world.low,c.world.base,c.world.calm,c.world.os⟩,c.whole,c.gq,c.past,c.clear,c.same,c.size,c.fC,c.full⟩ p
def pW(fn:Func):jV:=fn.body.getD .skip
def we:Nat->aB aE->aB (Nat×aE)
 |_,[]=>[]
 |k,v::r=>(k,v)::we (k+1) r
def Up:∀{k j:Nat} {vs:aB aE} {v:aE},lk (we k vs) j=aa v->∃m,j=k+m/\vs[m]? =aa v
 |k,j,[],v,h=>by cases h
 |k,j,x::r,v,h=>by
  unfold we lk at h;cases b:tg k j with
  |true=>
   rw[b]at h;cases h;exact⟨0,(yw b).symm,rfl⟩
  |false=>
   rw[b]at h;obtain⟨m,e,c⟩:=Up h;exact⟨m+1,ak,c⟩
def jo.BG{f fn vs R}(n)(hf:P.funcs[f]? =aa fn)(h:∀a,Fa n a (we 0 vs)->FX Lf f dn P (pW fn) (λe a u=>e=.ret/\a.defers=[]/\∃v,(results fn a.tmps).run P u=.ok v u/\R (aN v) u) a u)(c:fn.body=aa (pW fn):=by kernel_rfl) (p:fn.ntmps=n:=by kernel_rfl) (o:vs.length<=n:=by simp):jo Lf P dn f vs.toArray u R:=by
 refine jo.U6 hf c (h _ ⟨?_,rfl,λk v g=>?_⟩)
 ·simp;omega
 ·obtain⟨m,j,b⟩:=Up g;rw[show k=m by omega];simp[Act.eval,uh,Gv,((eL.1 b).1)];exact(eL.1 b).2
def Fa.to{M}(h:Fa n a L)(b:DH L M:=by(repeat (first|exact trivial|refine⟨rfl,?_⟩))):Fa n a M:=h.sub b
end
end
open FE renaming ow->D1,bl->e9,lc->A1,ar->A2
open FX renaming sq->D2,reg->D4,sk->A4,cF->A6
open FO renaming nil->D3
section
attribute [local go_sem ↓] Go.wp_at_zero Go.wp_at_succ
attribute [local go_sem] bP bF Ep Er we
open Go.Conc Go.RowKit
open Go.Proofs.Tryz
def fE(f:bN):aB Nat:=if f=12 then[0,1,2,28,51,56,58,76]else if f=28 then[0,4,9,13,17,25,33,38,43,51]else if f=29 then[0,5,8,10,13]else if f=15 then[0,7,12,27]else if f=13 then[0,1,2,20,25,31,38,40,41,49,51,64,66,67,71,73]else[]
def yR[aP](ad:aY fS)(len:Nat):Prop:=len=0\/∃(b off:Nat) (a:Obj) (z:Nat->Int),ad=aa ⟨b,off,ay⟩/\aP.sH b=aa a/\∀i,i<len->fY (z i)/\∀w:az,w.heap[b]? =aa a->w.cell? (aj b (off+i))=aa (an (z i))
section
variable [aP] {u:az} {l:aB bN} {dn:Nat}
def aab(t:Fit prog l)(ad len cap j)(o:len<=cY)(d:0<=j)(x:j<=9223372036854775807)(h:yR ad len):
  jo fE prog dn 29 #[.slice ad len cap,an j] u λe r=>∃z,e=aN (an z)/\fY z/\r=u:=by
 have y:len<=9223372036854775807:=o;refine jo.BG 15 func29 λa E=>?_;refine D2 (D4 [0] ?_);refine D1 E λa _ E=>D3 ?_;refine D2 (D2 (D4 [0,1,2] ?_));refine e9 E λa _ E=>?_;refine FE.ln E λa _ E=>?_;refine D1 (v:=.bool ((len:Int)==0)) E λa _ E=>D3 ?_
 by_cases q:(len:Int)=0
 ·rw[show((len:Int)==0)=aq by simp;omega]at E;refine FX.cT E (D2 (D4 [0] ?_));refine D1 E λa _ E=>D3 ?_;refine FX.rt ⟨rfl,E.defers,an 0,?_,0,rfl,⟨ak,ak⟩,rfl⟩;have g:=ev (E.at_ 4 _ rfl);simp[results,results29,go_sem,g]
 ·rw[show((len:Int)==0)=av by simp;omega]at E;refine A6 E (A4 (D2 (D4 [0,1,2,3,4,5,6,7] ?_)));obtain⟨b,off,C,z,rfl,p,f⟩:=h.resolve_left ak;obtain⟨n,c⟩:∃n:Nat,n<len/\j.tmod len=n:=⟨(j.tmod len).toNat,by have:=Aj (len:Int) d;have:=CE j (show(0:Int)<len by omega);omega,by have:=Aj (len:Int) d;omega⟩;have i:j %(len:Int)=j.tmod len:=(GU d).symm;have k:0<=(n:Int)/\(n:Int)<(len:Int):=ak;refine e9 E λa _ E=>?_;refine D1 E λa _ E=>?_;refine e9 E λa _ E=>?_;refine FE.ln E λa _ E=>?_;refine D1 (v:=an (n:Int)) E (hr:=λD=>by have A:=q;have B:¬len=0:=ak;have s:=c.2;first|(go_simp;done)|(rw[<-c.2];go_simp)|(rw[<-c.2,<-i];go_simp)) λa _ E=>?_;refine e9 (v:=.pointer (aa (aj b (off+n)))) E (hr:=λw=>by go_simp) (he:=λw=>Bg (m:=len) (c0:=cap) (ad:=aj b off) (j:=n) w rfl rfl aS k) λa _ E=>?_;refine FE.p1 p E (f n c.1).2 λa _ E=>?_;refine D1 E λa _ E=>D3 ?_;refine FX.rt ⟨rfl,E.defers,an (z n),?_,z n,rfl,(f n c.1).1,rfl⟩;simp[results,results29,go_sem,(ev (E.at_ 4 _ rfl))]
def Y3(k:Fit prog l)(c n)(hc:fY c)(h0:0<n)(j:n<=9223372036854775807):
  jo fE prog dn 21 #[an c,an n] u λe h=>∃r,e=aN (an r)/\(0<=r/\r<n)/\h=u:=by
 obtain⟨m,o⟩:=hc;refine jo.BG 13 func21 λa E=>?_;refine D2 (D4 [0] ?_);refine D1 E λa _ E=>D3 ?_
 have fin:∀(x:Int) (a:Act),0<=x->x<=9223372036854775807->Fa 13 a [(0,an x),(1,an n)]->FX fE 21 dn prog (dV (dV (pW f21))) (λe a b=>e=.ret/\a.defers=[]/\∃v,(results f21 a.tmps).run prog b=.ok v b/\∃r,Ending.returned v=aN (an r)/\(0<=r/\r<n)/\b=u) a u:=by intro x a d s E;have g:=CE x h0;have f:x %n=x.tmod n:=(GU d).symm;have p:¬n=0:=ak;refine D2 (D4 [0,1,2,3] ?_);refine D1 E λa _ E=>?_;refine D1 E λa _ E=>?_;refine D1 (v:=an (x.tmod n)) E (hr:=λi=>by first|(go_simp;done)|(rw[<-f];go_simp)) λa _ E=>?_;refine D1 E λa _ E=>D3 ?_;refine FX.rt ⟨rfl,E.defers,an (x.tmod n),?_,x.tmod n,rfl,⟨(Aj n d),g⟩,rfl⟩;simp[results,results21,go_sem,(ev (E.at_ 4 _ rfl))]
 refine D2 (D2 (D4 [0,1] ?_));refine D1 E λa _ E=>?_
 by_cases t:c<0
 ·refine D1 (v:=.bool aq) E λa _ E=>D3 ?_;refine FX.cT E (D4 [0,1,2,3] ?_);refine D1 E λa _ E=>?_;refine A2 E λa _ E=>?_;refine D1 (v:=an (-(c+1))) E (hr:=λi=>by have q:eP.wrap (-(c+1))= -(c+1):=iG ak ak;go_simp) λa _ E=>?_;refine D1 E λa _ E=>D3 ?_;exact fin (-(c+1)) a ak ak E.to
 ·refine D1 (v:=.bool av) E λa _ E=>D3 ?_;exact A6 E (A4 (fin c a ak ak E.to))
end
end
section
attribute [local go_sem ↓] Go.wp_at_zero Go.wp_at_succ
attribute [local go_sem] Oper.semAt_some
attribute [local go_sem] bP bF
open Go.Conc Go.RowKit Go.Shelf
open Go.Proofs.Tryz
def tkZ(fn:Func):jV:=mz (fn.body.getD .skip)
def tk1(fn:Func):jV:=mz (dV (fn.body.getD .skip))
def tk4(fn:Func):jV:=mz (mz (dV (dV (fn.body.getD .skip))))
def tkc:jV->jV|.cond _ x _=>x|_=>.skip
def tk5(fn:Func):jV:=tkc (dV (mz (dV (dV (fn.body.getD .skip)))))
abbrev LH(xb:Nat)(a:Int):Act:=⟨#[pt xb,au,au,pt xb,pt xb,.pointer (aa (aj xb 13)),an a,an (a+1),pt xb,.pointer (aa (aj xb 13)),au,au,au,au,au,au,au,au,au,au,au,au,au,au,au,au,au,au],[]⟩
abbrev LI(xb:Nat)(a:Int)(b D:Nat):Act:=⟨#[pt xb,au,au,pt xb,pt xb,.pointer (aa (aj xb 13)),an a,an (a+1),pt xb,.pointer (aa (aj xb 13)),pt xb,.func (.func 96) #[] #[pt b],au,au,au,au,au,au,au,au,au,au,au,au,au,au,au,au],[{target:=.collected D,args:=#[]}]⟩
abbrev tkE(xb:Nat)(a:Int)(b c:Nat):Act:=⟨#[pt xb,au,pt c,pt xb,pt xb,.pointer (aa (aj xb 13)),an a,an (a+1),pt xb,.pointer (aa (aj xb 13)),pt xb,.func (.func 96) #[] #[pt b],pt c,au,au,au,au,au,au,au,au,au,au,au,au,au,au,au],[]⟩
section
abbrev dG.as(L:dG):aB (aY Nat):=L.cs.map λl=>l.map Lc.c
variable {w W W':az} {f:Fx} {xb:Nat} {L:dG}
def yX{s c:Nat}(h:L.as[s]? =aa (aa c)):∃l,L.cs[s]? =aa (aa l)/\l.c=c:=by
 rw[iT]at h;cases a:L.cs[s]? with
 |none=>rw[a]at h;cases h
 |some o=>
  rw[a]at h;cases o with
  |none=>cases h
  |some l=>exact⟨l,rfl,by simpa using h⟩
def aJ.BN(h:aJ W f xb L){s c:Nat}(m:L.as[s]? =aa (aa c)):∃l k,L.cs[s]? =aa (aa l)/\l.c=c/\f.K[s]? =aa (aa k)/\l.At W f.g k/\l.gW λb=>L.own b=7+2*s:=by
 obtain⟨l,a,i⟩:=yX m;have j:s<f.K.length:=by rw[<-h.cs.len];exact(eL.1 a).1
 have d:=ef j;have:=h.cs.at_ s _ _ d a;cases e:f.K[s]with
 |none=>rw[e]at this;exact this.elim
 |some k=>rw[e]at this d;exact⟨l,k,a,i,d,this.1,this.2⟩
def aJ.La(h:aJ W f xb L):∃n:Nat->Nat,∀(s c:Nat),L.as[s]? =aa (aa c)->n c=s:=by
 classical
 refine⟨λc=>if e:∃s,L.as[s]? =aa (aa c)then e.choose else 0,λs c a=>?_⟩;have e:∃s,L.as[s]? =aa (aa c):=⟨s,a⟩;show(if e:∃s,L.as[s]? =aa (aa c)then e.choose else 0)=s;rw[qA e];obtain⟨l,k,_,g,_,_,j⟩:=h.BN a;obtain⟨p,o,_,i,_,_,m⟩:=h.BN e.choose_spec;have b:=j.1;have d:=m.1;rw[g]at b;rw[i]at d;omega
def aJ.FI(h:aJ W f xb L)(a:f.K.length<=65535):W.cell? (aj xb 9)=aa (.slice (aa (aj L.sb 0)) f.K.length f.K.length)/\L.as.length=f.K.length/\∀(j:Nat) v,L.as[j]? =aa v->W.cell? (aj L.sb j)=aa (kN v):=by refine⟨aG h.box rfl,by rw[pG];exact h.cs.len,λj v hv=>aG h.dO (sA hv)⟩
def NY{c}(h:c∈cE L.as):∃s:Nat,L.as[s]? =aa (aa c):=abZ.1 h
def Fx.gp(f:Fx)(s:Nat):Fx:=match f.K[s]? with
 |some (aa k)=>f.at s (k.lP f.g)
 |_=>f
def Fx.Bd(f:Fx):Fx:=(eF f.K.length).foldl Fx.gp f
def OQ{s}(h:f.K[s]? =aa ay\/f.K[s]? =ay):f.gp s=f:=by unfold Fx.gp;rcases h with h|h<;>rw[h]
def OS{f:Fx}{s:Nat}{k:Ck}(h:f.K[s]? =aa (aa k)):f.gp s=f.at s (k.lP f.g):=by unfold Fx.gp;rw[h]
def IV(f:Fx)(s:Nat):(f.gp s).K.length=f.K.length/\(f.gp s).g=f.g/\∀(j:Nat),((f.gp s).K[j]? =aa ay↔f.K[j]? =aa ay):=by
 unfold Fx.gp;split
 ·rename_i k a;refine⟨aC,rfl,λj=>?_⟩;rw[jF];split
  ·rename_i e;subst e;rw[a];split<;>simp
  ·exact om
 ·exact⟨rfl,rfl,λ_=>om⟩
def aJ.all(h:aJ W f xb L)(step:Fx->Nat->Fx)(A:∀(f:Fx) (s:Nat),f.K[s]? =aa ay->step f s=f)(y:∀(f:Fx) (s j:Nat),f.K[j]? =aa ay->(step f s).K[j]? =aa ay){i:Nat->Nat}(B:∀(s c:Nat),L.as[s]? =aa (aa c)->i c=s):
  (cE L.as).foldl (λa c=>step a (i c)) f=(eF f.K.length).foldl step f:=by
 have key:∀(cs:aB (aY Nat)) (o:Nat) (a:Fx),(∀(s c:Nat),cs[s]? =aa (aa c)->i c=o+s)->(∀(s:Nat),cs[s]? =aa ay->a.K[o+s]? =aa ay)->
   (cE cs).foldl (λa c=>step a (i c)) a=(eF cs.length).foldl (λa s=>step a (o+s)) a:=by
  intro cs;induction cs with
  |nil=>exact λ_ _ _ _=>rfl
  |cons x cs u=>
   intro o a n p;cases x with
   |none=>
    have e:cE (ay::cs)=cE cs:=rfl;have h0:step a (o+0)=a:=A a _ (p 0 rfl);rw[e,u (o+1) a (λs c g=>by have:=n (s+1) c g;omega) (λs d=>by have:=p (s+1) d;rwa [show o+(s+1)=o+1+s by omega]at this),eT,Ve,sR,UX,h0]
    congr 1
    funext b s
    rw[show o+1+s=o+s.succ by omega]
   |some c=>
    have e:cE (aa c::cs)=c::cE cs:=rfl;have v:i c=o+0:=n 0 c rfl;rw[e,sR,u (o+1) _ (λs c g=>by have:=n (s+1) c g;omega) (λs d=>by have:=p (s+1) d;rw[show o+(s+1)=o+1+s by omega]at this;exact y _ _ _ this),eT,Ve,sR,UX,v]
    congr 1
    funext b s
    rw[show o+1+s=o+s.succ by omega]
 have:=key L.as 0 f (λs c g=>by rw[B s c g];omega) (λs d=>?_)
 ·rw[this,pG,h.cs.len]
  congr 1
  funext b s
  rw[fU]
 ·rw[fU];rw[iT]at d;cases m:L.cs[s]? with
  |none=>rw[m]at d;cases d
  |some o=>
   rw[m]at d;cases o with
   |some l=>cases d
   |none=>
    have z:s<f.K.length:=by rw[<-h.cs.len];exact(eL.1 m).1
    have q:f.K[s]? =aa f.K[s]:=ef z;have r:=h.cs.at_ s _ _ q m;cases t:f.K[s]with
    |none=>rw[q,t]
    |some k=>rw[t]at r;exact r.elim
structure uJ(f f':Fx):Prop where
 g:f'.g=f.g
 tok:∀(s:Nat) k,f'.K[s]? =aa (aa k)->0<=k.tok/\k.tok<=65535
 len:f'.K.length=f.K.length
def uJ.next{f f'}(h:uJ f f')(hr:0<=f.g.rt/\f.g.rt<=65535)(d:0<=f.g.bu/\f.g.bu<=65535)(s:Nat):uJ f (f'.gp s):=by
 refine⟨(IV f' s).2.1.trans h.g,λj k a=>?_,(IV f' s).1.trans h.len⟩;unfold Fx.gp at a;split at a
 ·rename_i b c;rw[show(f'.at s (b.lP f'.g)).K=f'.K.set s (aa (b.lP f'.g)) from rfl,jF]at a;split at a
  ·split at a
   ·cases a;have:=h.tok s b c;rw[h.g];show 0<=min (b.tok+f.g.rt) f.g.bu/\min (b.tok+f.g.rt) f.g.bu<=65535;omega
   ·cases a
  ·exact h.tok j k a
 ·exact h.tok j k a
def Yw(xb:Nat)(f:Fx)(L:dG)(N:Int)(w:az)(h:aJ w f xb L)(Q:f.K.length<=65535)(hr:0<=f.g.rt/\f.g.rt<=65535)(U:0<=f.g.bu/\f.g.bu<=65535)(ht:∀(s:Nat) k,f.K[s]? =aa (aa k)->0<=k.tok/\k.tok<=65535)(aj:∀x,w.heap.size<=x->L.own x=0):
  (tk1 f26).wp prog (λe a p=>e=.normal/\∃N0 D,a=LI xb N N0 D/\w.heap.size<=D/\p.heap[D]? =aa (.deferred (aa []))/\aJ p f.Bd xb L/\aV (λi=>L.own i≠0) w p) (LH xb N) w:=by
 refine(wpIn_wide (n:=3)).1 ?_;simp only[tk1,mz,dV,mO,f26]
 gi_wp2_with (first|(refine⟨trivial,?_⟩;gi_at_call 59;refine(fP.2 (BO xb _)).mono ?_;rintro e w1 ⟨rfl,rfl⟩))
 have F:aL w (w.alloc (aA #[pt xb] 36)):=bf;have bU:(w.alloc (aA #[pt xb] 36)).heap.size=w.heap.size+1:=aC;have e3:(w.alloc (aA #[pt xb] 36)).heap[w.heap.size]? =aa (aA #[pt xb] 36 (0,0)):=cw w _;show alG jW 3 prog _ _ _ (w.alloc (aA #[pt xb] 36));generalize w.alloc (aA #[pt xb] 36)=C at*;obtain⟨d,Bt⟩:=h.La;have bw:f.Bd=(cE L.as).foldl (λa c=>a.gp (d c)) f:=(h.all Fx.gp (λf s I=>OQ (aF I)) (λf s j hj=>((IV f s).2.2 j).2 hj) Bt).symm
 have bI:Bears (λr=>False\/r=C.heap.size+1) (λ(pre:aB Nat) W=>aJ W (pre.foldl (λa c=>a.gp (d c)) f) xb L/\uJ f (pre.foldl (λa c=>a.gp (d c)) f)/\aV (λi=>L.own i≠0) w W):=by
  rintro pre W W' row ⟨h1,h2,E⟩ X hr;have bL:∀r,row=aa r->r=w.heap.size+2:=λr e=>by rcases hr r e with h|h;cases h;omega
  have aH:∀k,k<W.heap.size->k≠w.heap.size+2->W'.heap[k]? =W.heap[k]? :=λk H bG=>X.block k H λe=>bG (bL k e.symm);refine⟨h1.vl λb U ho=>aH b U λe=>ho (aj b ak),h2,⟨X.os.trans E.os,dm E.size X.size,λk H hx=>?_⟩⟩;exact(aH k (dy H E.size) ak).trans (E.block k H hx)
 have Z:=aT h;have hS:=h.FI Q;have bk:aJ C f xb L:=h.below F;have bK:uJ f f:=⟨rfl,ht,rfl⟩;clear h ht
 refine xG (w:=C) rfl bJ (gf:=96) (lb:=#[aR w.heap.size]) rfl trivial (enters_of func96 aS rfl) (encs:=vP) (λ_=>rfl)
  (R:=λ_=>False) (Kp:=λA B=>B.heap[L.sb]? =A.heap[L.sb]?) (V:=λu=>∃r,cE L.as=u++r) (S:=λu _=>u=cE L.as) (Sp:=λpre _=>∃r,cE L.as=pre++r)
  (λW hW=>?seq) (λr h=>h.elim) (λh k=>k.trans h) (λW o=>fj ?sbn) (λu W W' row h _ _=>h) (λu W W' row h _ _=>h)
  (λ(pre:aB Nat) W=>aJ W (pre.foldl (λa c=>a.gp (d c)) f) xb L/\uJ f (pre.foldl (λa c=>a.gp (d c)) f)/\aV (λi=>L.own i≠0) w W) (λ_ _=>False) bI (λ_ _ _ _ h _ _=>h) ⟨bk,bK,.below F⟩ (λc a _=>a=tkE xb N w.heap.size c) (λc a W W' row h _ _=>h) ?assign ?body ?done ?stop
 case sbn=>
  have:=(bp.1 Z.out.dO).1;omega
 case seq=>
  have bz:aL w W:=F.grown hW F.size (λk e=>by cases e);have xd:=lN e3 hW aC;have T:=(Z.out.below bz).FI Q;exact BP 2 bJ w.heap.size xb L.sb f.K.length L.as W (aG xd rfl) T.1 T.2.1 Q T.2.2
 case assign=>
  rintro l pre c W K m hv gh hK
  gi_wp2
  exact hK _ W ⟨rfl,rfl⟩ rfl m rfl
 case body=>
  rintro l pre c a' W ⟨m,y,G⟩ rfl ⟨r,hv⟩ gh;have hc:c∈cE L.as:=by rw[hv];simp
  obtain⟨s,I⟩:=NY hc;obtain⟨lc,k,Y,J,M,y4,z⟩:=m.BN I;have bO:d c=s:=Bt s c I
  have HE:Hid (Calls prog 60 #[aR c] W λe p=>e=aN (.tuple #[])/\aJ p ((pre++[c]).foldl (λa c=>a.gp (d c)) f) xb L/\uJ f ((pre++[c]).foldl (λa c=>a.gp (d c)) f)/\aV (λi=>i=c) W p):=by
   rw[Ao];show Calls _ _ _ _ λe p=>e=aN (.tuple #[])/\aJ p (Fx.gp _ (d c)) xb L/\uJ f (Fx.gp _ (d c))/\_;rw[bO,<-J];refine(Yv lc.c lc.rb lc.mb lc.ch lc.q lc.v _ k W y4 (by rw[y.g];exact hr) (y.tok s k M)).mono ?_;rintro e p ⟨rfl,P,t⟩;have e1:Fx.gp (pre.foldl (λa c=>a.gp (d c)) f) s=(pre.foldl (λa c=>a.gp (d c)) f).at s (k.lP (pre.foldl (λa c=>a.gp (d c)) f).g):=OS M;have O:({L with cs:=L.cs.set s (aa lc),own:=L.own}:dG)=L:=by rw[xJ Y]
   refine⟨rfl,?_,y.next hr U s,t⟩;rw[e1,<-O];exact m.client (cj:=L.own) (l':=lc) Y rfl M t (λb _ e=>by rw[e];exact z.1) P (λ_ _=>rfl) z
  have aO:=aT G
  have bT:c<w.heap.size:=by
   rcases lZ c w.heap.size with bF|hge
   ·exact bF
   ·have e1:=aj c hge;have O:=z.1;rw[J]at O;omega
  have bB:L.own c=7+2*s:=by rw[<-J];exact z.1
  have bD:c≠L.sb:=λe=>by have:=m.iF;rw[<-e]at this;omega
  have bM:L.sb<W.heap.size:=(bp.1 m.dO).1;clear m y G Y J M y4 z
  gi_wp2_with (first|(refine⟨trivial,?_⟩;gi_at_call 60;refine(mJ l (fP.2 HE.out)).mono ?_;rintro e w1 ⟨rfl,P,ZU,t⟩))
  exact⟨⟨t.block _ ak ak,t.block _ ak ak⟩,t.block _ bM (λe=>bD e.symm),P,ZU,aO.out.trans (t.mono λk _ e=>by rw[e,bB];omega)⟩
 case done=>
  rintro u W rfl ⟨m,y,G⟩ hD;exact⟨rfl,w.heap.size,C.heap.size,rfl,ak,hD,by rw[bw];exact m,G⟩
 case stop=>exact λ_ _ _ h _=>h.elim
end
end
section
attribute [local go_sem] Oper.semAt_some
attribute [local go_sem] bP bF
open Go.Proofs.Tryz
open Go.RowKit Go.Shelf
def Ck.num(k:Ck)(n:Int):Ck:={k with q:=(cG n k.q).1}
def Fx.fQ(f:Fx)(s:Nat):Fx:=match f.K[s]? with
 |some (aa k)=>{f.at s (k.num f.acc)with acc:=(cG f.acc k.q).2}
 |_=>f
def Fx.qd(f:Fx):Fx:=(eF f.K.length).foldl Fx.fQ f
def EZ{f:Fx}{s:Nat}(h:f.K[s]? =aa ay\/f.K[s]? =ay):f.fQ s=f:=by unfold Fx.fQ;rcases h with h|h<;>rw[h]
def Ks{f:Fx}{s:Nat}{k:Ck}(h:f.K[s]? =aa (aa k)):f.fQ s={f.at s (k.num f.acc)with acc:=(cG f.acc k.q).2}:=by unfold Fx.fQ;rw[h]
def T0(f:Fx)(s:Nat):(f.fQ s).K.length=f.K.length/\(f.fQ s).g=f.g/\∀(j:Nat),((f.fQ s).K[j]? =aa ay↔f.K[j]? =aa ay):=by
 unfold Fx.fQ;split
 ·rename_i k a;refine⟨aC,rfl,λj=>?_⟩;rw[jF];split
  ·rename_i e;subst e;rw[a];split<;>simp
  ·exact om
 ·exact⟨rfl,rfl,λ_=>om⟩
structure uQ(f f':Fx)(n:Nat):Prop where
 g:f'.g=f.g
 q:∀(s:Nat) k,f'.K[s]? =aa (aa k)->k.q.length<=1048576
 lo:0<=f'.acc
 hi:f'.acc<=f.acc+1048576*n
def uQ.next{f f':Fx}{n:Nat}(h:uQ f f' n)(s):uQ f (f'.fQ s) (n+1):=by
 cases b:f'.K[s]? with
 |none=>rw[EZ (aD b)];exact⟨h.g,h.q,h.lo,by have:=h.hi;omega⟩
 |some o=>
  cases o with
  |none=>rw[EZ (aF b)];exact⟨h.g,h.q,h.lo,by have:=h.hi;omega⟩
  |some k=>
   rw[Ks b];have e:=Kt k.q f'.acc;have c:=h.q s k b;have i:=h.hi;have l:=h.lo;refine⟨h.g,λj d a=>?_,?_,?_⟩
   ·rw[show({f'.at s (k.num f'.acc)with acc:=(cG f'.acc k.q).2}:Fx).K=f'.K.set s (aa (k.num f'.acc)) from rfl,jF]at a;split at a
    ·split at a
     ·cases a;show(cG f'.acc k.q).1.length<=_;rw[zu];exact c
     ·cases a
    ·exact h.q j d a
   ·show 0<=(cG f'.acc k.q).2;omega
   ·show(cG f'.acc k.q).2<=_;omega
def Ln:∀(cs:aB (aY Nat)),(cE cs).length<=cs.length
 |[]=>bC 0
 |none::cs=>by have:=Ln cs;show(cE cs).length<=cs.length+1;omega
 |some c::cs=>by have:=Ln cs;show(cE cs).length+1<=cs.length+1;omega
abbrev tlX(xb d g e f c:Nat)(a b:Int):Act:=⟨#[pt xb,pt d,pt g,au,pt c,pt xb,.func (.func 96) #[] #[pt e],au,au,au,.tuple #[],pt xb,.func (.func 96) #[] #[pt f],pt c,pt xb,pt c,pt xb,pt xb,.pointer (aa (aj xb 11)),an a,an b,pt xb,.pointer (aa (aj xb 11))],[]⟩
def aes(xb m Wg B2 D:Nat)(f:Fx)(L:dG)(w:az)(h:aJ w f xb L)(hN:f.K.length<=65535)(hq:∀(s:Nat) k,f.K[s]? =aa (aa k)->k.q.length<=1048576)(ha:0<=f.acc/\f.acc<=140737488355328)(X:∀x,w.heap.size<=x->L.own x=0)(y:w.heap[m]? =aa (aA #[pt xb] 36 (0,0)))(bX:L.own m=0)(hD:w.heap[D]? =aa (.deferred (aa [])))(bB:L.own D=0):
  (vW f61).wpIn jW 3 prog (bodyPostM jW 3 prog f61 λe w'=>e=aN (.tuple #[])/\aJ w' f.qd xb L/\aV (λi=>i=D\/L.own i≠0) w w') (tlA xb m Wg B2 D) w:=by
 have cB:=aO w m 0 (pt xb) y;simp only[vW,zR,f61]
 gi_wp2_with (first|(refine⟨trivial,?_⟩;gi_at_call 59;refine(fP.2 (BO xb _)).mono ?_;rintro e n ⟨rfl,rfl⟩))
 have T:aL w (w.alloc (aA #[pt xb] 36)):=bf;have cW:(w.alloc (aA #[pt xb] 36)).heap.size=w.heap.size+1:=aC;have e3:(w.alloc (aA #[pt xb] 36)).heap[w.heap.size]? =aa (aA #[pt xb] 36 (0,0)):=cw w _;have b7:D<w.heap.size:=(bp.1 hD).1;have bA:m<w.heap.size:=(bp.1 y).1;show alG jW 3 prog _ _ _ (w.alloc (aA #[pt xb] 36));generalize w.alloc (aA #[pt xb] 36)=u at*;obtain⟨d,Bt⟩:=h.La;have b9:f.qd=(cE L.as).foldl (λa c=>a.fQ (d c)) f:=(h.all Fx.fQ (λf s hs=>EZ (aF hs)) (λf s j hj=>((T0 f s).2.2 j).2 hj) Bt).symm
 have bI:Bears (λr=>False\/r=u.heap.size+1) (λ(pre:aB Nat) W=>aJ W (pre.foldl (λa c=>a.fQ (d c)) f) xb L/\uQ f (pre.foldl (λa c=>a.fQ (d c)) f) pre.length/\aV (λi=>L.own i≠0) w W):=by
  rintro pre W O row ⟨h1,h2,Q⟩ hg hr;have cC:∀r,row=aa r->r=w.heap.size+2:=λr e=>by rcases hr r e with h|h;cases h;omega
  have bH:∀k,k<W.heap.size->k≠w.heap.size+2->O.heap[k]? =W.heap[k]? :=λk G U=>hg.block k G λe=>U (cC k e.symm);refine⟨h1.vl λb C Y=>bH b C λe=>Y (X b ak),h2,⟨hg.os.trans Q.os,dm Q.size hg.size,λk G hx=>?_⟩⟩;exact(bH k (dy G Q.size) ak).trans (Q.block k G hx)
 have N:Hid (aJ w f xb L/\w.heap[m]? =aa (aA #[pt xb] 36 (0,0))/\w.heap[D]? =aa (.deferred (aa []))):=⟨h,y,hD⟩;have bW:aJ u f xb L:=h.below T;have cz:uQ f f 0:=⟨rfl,hq,ha.1,ak⟩;have cT:L.as.length<=65535:=by rw[pG,h.cs.len];exact hN
 clear h hq y hD cB
 refine xG (w:=u) rfl bJ (gf:=96) (lb:=#[aR w.heap.size]) rfl trivial (enters_of func96 aS rfl) (encs:=vP) (λ_=>rfl)
  (R:=λ_=>False) (Kp:=λA B=>B.heap[L.sb]? =A.heap[L.sb]?) (V:=λH=>∃r,cE L.as=H++r) (S:=λH _=>H=cE L.as) (Sp:=λpre _=>∃r,cE L.as=pre++r)
  (λW hW=>?seq) (λr h=>h.elim) (λh k=>k.trans h) (λW o=>fj ?sbn) (λH W O row h _ _=>h) (λH W O row h _ _=>h)
  (λ(pre:aB Nat) W=>aJ W (pre.foldl (λa c=>a.fQ (d c)) f) xb L/\uQ f (pre.foldl (λa c=>a.fQ (d c)) f) pre.length/\aV (λi=>L.own i≠0) w W) (λ_ _=>False) bI (λ_ _ _ _ h _ _=>h) ⟨bW,cz,.below T⟩ (λc a _=>a=tlB xb m Wg B2 w.heap.size c) (λc a W O row h _ _=>h) ?assign ?body ?done ?stop
 case sbn=>
  have:=(bp.1 N.out.1.dO).1;omega
 case seq=>
  have cg:aL w W:=T.grown hW T.size (λk e=>by cases e);have vr:=(N.out.1.below cg).FI hN;exact BP 2 bJ w.heap.size xb L.sb f.K.length L.as W (aG (lN e3 hW aC) rfl) vr.1 vr.2.1 hN vr.2.2
 case assign=>
  rintro l pre c W K p hv gh J
  gi_wp2
  exact J _ W ⟨rfl,rfl⟩ rfl p rfl
 case body=>
  rintro l pre c a' W ⟨p,E,t⟩ rfl ⟨r,hv⟩ gh;have hc:c∈cE L.as:=by rw[hv];simp
  obtain⟨s,hs⟩:=NY hc;have cH:d c=s:=Bt s c hs
  have cU:pre.length+1<=65535:=by
   have h1:=Ln L.as;have h2:(cE L.as).length=pre.length+1+r.length:=by rw[hv];simp only[gR,eT,iU]
   omega
  have y:=(t.block m bA (by simp[bX])).trans N.out.2.1;have cB:=aO W m 0 (pt xb) y
  obtain⟨z,M,bP,HN⟩:∃z M:Int,W.cell? (aj xb 11)=aa (an z)/\Hid (Calls prog 102 #[pt c,an z] W.drew λe n=>e=aN (an M)/\n.cell? (aj m 0)=aa (pt xb)/\n.cell? (aj xb 11)=aa (an z)/\n.frozen? (aj xb 11)=av/\Hid (Cv 3 (roundEnd u.heap.size (λA B=>B.heap[L.sb]? =A.heap[L.sb]?) (λ(pre:aB Nat) W=>aJ W (pre.foldl (λa c=>a.fQ (d c)) f) xb L/\uQ f (pre.foldl (λa c=>a.fQ (d c)) f) pre.length/\aV (λi=>L.own i≠0) w W) (λ_ _=>False) (pre++[c]) W) .normal (tlX xb m Wg B2 w.heap.size c z M) (n.setCell (aj xb 11) (an M)))):=by
   have cu:(pre++[c]).foldl (λa c=>a.fQ (d c)) f=(pre.foldl (λa c=>a.fQ (d c)) f).fQ s:=by rw[Ao];show Fx.fQ _ (d c)=_;rw[cH]
   obtain⟨lc,k,y1,y2,y3,y4,y5⟩:=p.BN hs;have cm:=aO W xb 11 (an (pre.foldl (λa c=>a.fQ (d c)) f).acc) p.box;have cy:=Ks y3;have gC:=E.lo;have nQ:=E.hi;have cA:=E.q s k y3;generalize pre.foldl (λa c=>a.fQ (d c)) f=F at*;refine⟨F.acc,(cG F.acc k.q).2,cm,?_⟩;show Calls _ _ _ _ _
   have EJ:w.heap.size+2<=W.heap.size:=by have:=gh;omega
   have c6:=p.ey;have cF:=p.iF;have cD:L.sb<W.heap.size:=(bp.1 p.dO).1;have cX:xb<W.heap.size:=(bp.1 p.box).1;subst y2;refine(T8 lc.c lc.rb lc.mb lc.ch lc.q lc.v _ k F.acc W.drew (y4.old ((Below.refl _ W).drew)) ⟨gC,ak⟩ cA).mono ?_;rintro e n ⟨rfl,g1,g2⟩;have Z:∀b,aa b=lc.q.ownBlock->L.own b=7+2*s:=λb e=>y5.2.2.2.2.1 b e.symm;have I:aV (λb=>aa b=lc.q.ownBlock) W n:=⟨g2.os,g2.size,g2.block⟩;have e2:({L with cs:=L.cs.set s (aa lc),own:=L.own}:dG)=L:=by rw[xJ y1]
   have k1:aJ n (F.at s (k.num F.acc)) xb L:=by have:=p.client (cj:=L.own) (l':=lc) y1 rfl y3 I (λb _ e=>Z b e) (show lc.At n F.g (k.num F.acc) from g1) (λ_ _=>rfl) y5;rw[e2]at this;exact this
   have k2:aJ (n.setCell (aj xb 11) (an (cG F.acc k.q).2)) (F.fQ s) xb L:=by rw[cy];exact k1.put 11 _ _ rfl rfl rfl rfl rfl rfl ⟨rfl,rfl,rfl⟩
   have bq:aV (λb=>b=xb\/aa b=lc.q.ownBlock) W (n.setCell (aj xb 11) (an (cG F.acc k.q).2)):=by refine⟨I.os,by simpa using I.size,λb C hx=>?_⟩;rw[Below.heap_setCell n _ _ b (λe=>hx (aF e))];exact I.block b C λe=>hx (aD e)
   have bF:∀b,(b=xb\/aa b=lc.q.ownBlock)->L.own b≠0:=λb e=>by
    rcases e with e|e
    ·rw[e];omega
    ·rw[Z b e];omega
   have bE:∀b,b<W.heap.size->L.own b=0->(n.setCell (aj xb 11) (an (cG F.acc k.q).2)).heap[b]? =W.heap[b]? :=λb C h0=>bq.block b C λe=>bF b e h0;refine⟨rfl,?_,aG k1.box rfl,bz k1.box 11,?_⟩
   ·refine aG ((I.block m (dy bA t.size) λe=>?_).trans y) rfl;have:=Z m e;omega
   ·refine⟨⟨bE _ ak (X _ ak),bE _ ak (X _ ak)⟩,bq.block _ cD λe=>?_,?_⟩
    ·rcases e with e|e
     ·rw[e]at cF;omega
     ·have:=Z _ e;omega
    ·show aJ _ ((pre++[lc.c]).foldl (λa c=>a.fQ (d c)) f) xb L/\uQ f ((pre++[lc.c]).foldl (λa c=>a.fQ (d c)) f) (pre++[lc.c]).length/\_;rw[cu];exact⟨k2,by simpa using(E.next s),t.trans (bq.mono λb _ e=>bF b e)⟩
  have HI:=aT p;clear p E t y
  gi_wp2
  refine Mb (S:=λW=>W.cell? (aj m 0)=aa (pt xb)/\W.cell? (aj xb 11)=aa (an z)) 9 aS ⟨cB,bP⟩ λhH=>?_;refine js 0 ?_;refine jk 1 ?_;refine js 2 ?_;refine jk 3 ?_;refine jk 4 ?_;refine js 5 ?_;refine jr 6 λK J=>?_;go_simp;refine⟨trivial,?_⟩;refine(mJ l (fP.2 HN.out)).mono ?_;rintro e n ⟨rfl,bS,bR,cQ,cr⟩;refine J.out _ _ ⟨bS,bR⟩ λJu=>?_;refine jk 7 ?_;refine jk 8 ?_;refine jz λK J=>?_;go_simp;refine J.out _ _ ?_;refine Ma aS ?_ _;exact cr.out
 case done=>
  rintro H W rfl ⟨p,E,t⟩ Jt;have bZ:D≠u.heap.size:=ak
  gi_wp2
  have t1:=wN (P:=prog) Jt;have bY:(W.putObj u.heap.size (.deferred ay)).heap[D]? =aa (.deferred (aa [])):=(fj bZ).trans ((t.block D b7 (by simp[bB])).trans N.out.2.2);refine⟨aC,aF ⟨_,_,rfl,t1,aC,aF ⟨_,_,rfl,wN bY,.tuple #[],by simp[results,results61],rfl,?_,?_⟩⟩⟩
  ·rw[b9];have cx:L.own u.heap.size=0:=X _ ak;refine p.vl λb C Y=>?_;have e1:b≠D:=λe=>Y (by rw[e];exact bB);have e2:b≠u.heap.size:=λe=>Y (by rw[e];exact cx);rw[fj e1,fj e2]
  ·refine⟨t.os,by simpa using t.size,λk G U=>?_⟩;rw[fj (λe=>U (aF e)),fj ak];exact t.block k G λe=>U (aD e)
 case stop=>exact λ_ _ _ h _=>h.elim
end
section
open Classical
open Go.Conc Go.RowKit
open Go.Proofs.Tryz
def aJ.XD{W W' f xb L}(h:aJ W f xb L){j d cj}(D:j.length=f.K.length)(C:∀b,b<W.heap.size->(∀s,L.own b≠7+2*s)->W'.heap[b]? =W.heap[b]?)(z:∀b,b<W.heap.size->cj b=L.own b)(B:wO W' cj f.g j d)(hc:(d.map λl=>l.map Lc.c)=L.as):
  aJ W' {f with K:=j} xb {L with cs:=d,own:=cj}:=by
 have a:fq W W' L.own cj λt=>∃s,t=7+2*s:=⟨λb A E=>C b A λs e=>E ⟨s,e⟩,z⟩;have b1:=a.blk h.box h.ey ak;have m:=a.blk h.dO h.iF ak;have p:=a.row h.bD h.jw ak;have r:=a.row h.log h.lR ak;have x:=a.eW h.eW h.je ak;refine⟨?_,b1.2,?_,m.2,B,a.js h.js (λs lc F=>?_) (λn=>by rintro⟨s,e⟩;omega),a.oT h.fl ak,p.1,p.2,r.1,r.2,x.1,x.2⟩
 ·have e:=b1.1;simp only[jN,D]at e⊢;exact e
 ·show wU W' L.sb (d.map λl=>l.map Lc.c);rw[hc];exact m.1
 ·have i:(d.map λl=>l.map Lc.c)[s]? =aa (aa lc.c):=by rw[hc,iT,F];rfl
  rw[iT]at i;cases y:d[s]? with
  |none=>rw[y]at i;cases i
  |some o=>
   rw[y]at i;cases o with
   |none=>cases i
   |some G=>exact⟨G,rfl,by simpa using i⟩
def Lc.Mine(l:Lc)(b:Nat):Prop:=b=l.c\/b=l.rb\/b=l.mb\/b=l.ch\/l.q.ownBlock=aa b\/l.v.ownBlock=aa b
def Lc.gW.mine{l:Lc}{P:Nat->Prop}(h:l.gW P){b:Nat}(a:l.Mine b):P b:=by
 rcases a with rfl|rfl|rfl|rfl|e|e
 ·exact h.1
 ·exact h.2.1
 ·exact h.2.2.1
 ·exact h.2.2.2.1
 ·exact h.2.2.2.2.1 b e
 ·exact h.2.2.2.2.2 b e
def Lc.mine(l:Lc):l.gW l.Mine:=⟨aF rfl,aD (aF rfl),aD (aD (aF rfl)),aD (aD (aD (aF rfl))),λ_ e=>aD (aD (aD (aD (aF e)))),λ_ e=>aD (aD (aD (aD (aD e))))⟩
section
variable [aP] {ρ:Ren} {P:aZ} {u w:az}
def Zh{v v'}(hf:lH v)(h:VR ρ v v'):v'=v:=by cases h<;>first|rfl|exact hf.elim
def Zi{v}(hf:lH v):VR ρ v v:=by cases v<;>first|exact hf.elim|constructor
def Zj{x x'}(hf:∀u∈x.toList,lH u)(h:bM ρ x x'):x'=x:=by
 apply Ci;intro i;cases b:x[i]? with
 |none=>
  have a:=xZ.1 b;exact rA (by rw[h.1];exact a)
 |some v=>
  have a:i<x'.size:=by rw[h.1];exact(bp.1 b).1
  have hv:v∈x.toList:=by have:=lV b;exact uk.2 this
  rw[cL a,Zh (hf v hv) (h.2 i v _ b (cL a))]
def Pw{x}(hf:∀u∈x.toList,lH u):bM ρ x x:=⟨rfl,λi v d a b=>by rw[a]at b;cases b;exact Zi (hf v (uk.2 (lV a)))⟩
def SB(G:fA P ρ u w){T k n v v' xs}(hr:u.ownsRow 0 T k v n xs)(F:mQ u v)(hv:VR ρ v v'):w.ownsRow 0 T k v' n xs/\mQ w v'/\∀g,v'.ownBlock=aa g->ρ.im g:=by
 rcases hr.2 with⟨e,s⟩|⟨g,r,a,e,K,i,x,A,B,C⟩
 ·subst e;have:=afv hv;subst this;exact⟨⟨hr.1,aF ⟨rfl,s⟩⟩,zK w,λg E=>by cases E⟩
 ·subst e;cases hv with
  |@slice _ p _ _ D=>
   obtain⟨f,m,o⟩:=D;obtain⟨b,y,z⟩:=p;simp only at f m o;subst m o;have j:∀u∈a.toList,lH u:=Gk F i
   have l:w.heap[b]? =aa (aA a T (0,0)):=by
    rcases G.obj g b _ f i with h|⟨L,I,J⟩
    ·cases h
    ·cases J with
     |cells _ _ H=>rw[I,Zj j H]
   refine⟨⟨hr.1,aD ⟨b,r,a,rfl,eo _,l,x,A,B,C⟩⟩,λt d=>?_,λt d=>?_⟩
   ·cases d;exact⟨a,T,l,j⟩
   ·cases d;exact⟨_,f⟩
def afd(C:fA P ρ u w){mb us}(hm:ρ mb mb)(h:Uses u mb us):Uses w mb us:=by
 obtain⟨f,s,t,e,A,B⟩:=h;rcases C.obj mb mb _ hm t with h|⟨L,F,G⟩
 ·cases h
 ·cases G with
  |@map _ a _ d=>
   have:a=f:=by
    apply Ci;intro i;cases b:f[i]? with
    |none=>exact rA (by rw[d.1];exact xZ.1 b)
    |some m=>
     have l:i<a.size:=by rw[d.1];exact(bp.1 b).1
     obtain⟨o,p,r⟩:=d.2 i m _ b (cL l);obtain⟨y,n⟩:=e.reads m (uk.2 (lV b));obtain⟨x,j,_,_⟩:=Vj (q:=.i64) aS (Vz n);obtain⟨z,D,_⟩:=VA n;obtain⟨hv,_⟩:=unitElem_inv D;rw[cL l];generalize a[i]=E at*;obtain⟨a1,I,a3⟩:=m;obtain⟨b1,J,K⟩:=E;simp only at o p r j hv;subst j hv r;rw[Cd o];cases p with
     |@agg _ a H M=>
      have:a=#[]:=Gu H;rw[this]
   subst this;exact⟨_,s,F,e,A,B⟩
variable {c rb mb ch:Nat} {g:Cf} {k:Ck} {q v:aE}
def cg.BF(d:fA P ρ u w)(hc:ρ c c)(hr:ρ rb rb)(hm:ρ mb mb)(l:ρ ch ch)(h:cg u c rb mb ch q v g k):∃f b,cg w c rb mb ch f b g k/\(⟨c,rb,mb,ch,f,b⟩:Lc).gW ρ.im:=by
 obtain⟨e,r,z,A⟩:=Ou d hc h.p.box;have key:=A;obtain⟨f,x,L⟩:=key 13 q rfl;obtain⟨b,y,M⟩:=key 16 v rfl
 have m:e=ju g k rb f b ch:=by
  have num:∀(i:Nat) (o:IntKind) (n:Int),(ju g k rb q v ch)[i]? =aa (.int o n)->e[i]? =aa (.int o n):=λi o n C=>by obtain⟨b,a1,a⟩:=key i _ C;rw[a1,Cd a]
  apply Ci;intro i
  match i with
  |0=>exact num 0 _ _ rfl
  |1=>exact num 1 _ _ rfl
  |2=>exact num 2 _ _ rfl
  |3=>exact num 3 _ _ rfl
  |4=>exact num 4 _ _ rfl
  |5=>exact num 5 _ _ rfl
  |6=>exact num 6 _ _ rfl
  |7=>exact num 7 _ _ rfl
  |8=>exact num 8 _ _ rfl
  |9=>exact num 9 _ _ rfl
  |10=>exact num 10 _ _ rfl
  |11=>obtain⟨b,a1,a⟩:=key 11 _ rfl;rw[a1,afu d.one hr a];rfl
  |12=>obtain⟨b,a1,a⟩:=key 12 _ rfl;rw[a1,afw a];rfl
  |13=>exact x
  |14=>exact num 14 _ _ rfl
  |15=>exact num 15 _ _ rfl
  |16=>exact y
  |17=>exact num 17 _ _ rfl
  |18=>exact num 18 _ _ rfl
  |19=>exact num 19 _ _ rfl
  |20=>obtain⟨b,a1,a⟩:=key 20 _ rfl;rw[a1,afq d.one l a];rfl
  |n+21=>
   have B:e.size=21:=z;rw[rA ak];rfl
 rw[m]at r;obtain⟨D,E,F⟩:=SB d h.p.row h.p.tq L;obtain⟨p1,G,H⟩:=SB d h.p.out h.p.tv M;obtain⟨t,s,K⟩:=h.rd;refine⟨f,b,⟨⟨r,D,p1,E,G,?_⟩,t,⟨?_,afd d hm s.uses⟩,K⟩,⟨_,hc⟩,⟨_,hr⟩,⟨_,hm⟩,⟨_,l⟩,F,H⟩
 ·rcases d.obj ch ch _ l h.p.chan with h|⟨N,I,J⟩
  ·cases h
  ·cases J;exact I
 ·obtain⟨e,m1,m2,j⟩:=Ou d hr s.box
  have m:e=#[an g.sz,an g.mx,an t,.map (aa mb)]:=by
   apply Ci;intro i
   match i with
   |0=>obtain⟨b,a1,a⟩:=j 0 _ rfl;rw[a1,Cd a];rfl
   |1=>obtain⟨b,a1,a⟩:=j 1 _ rfl;rw[a1,Cd a];rfl
   |2=>obtain⟨b,a1,a⟩:=j 2 _ rfl;rw[a1,Cd a];rfl
   |3=>obtain⟨b,a1,a⟩:=j 3 _ rfl;rw[a1,afs d.one hm a];rfl
   |n+4=>
    have B:e.size=4:=m2;rw[rA ak];rfl
  rw[m]at m1;exact m1
def SC{C T k n v xs}(hr:u.ownsRow 0 T k v n xs)(a:∀b,v.ownBlock=aa b->C b):VR (eA C) v v:=by
 rcases hr.2 with⟨e,h⟩|⟨g,d,f,e,i⟩
 ·subst e;exact .gv _ _
 ·subst e;exact .slice _ _ ⟨⟨rfl,a g rfl⟩,rfl,rfl⟩
def Lc.At.closed{l:Lc}(h:l.At u g k):Closed l.Mine u:=by
 have f:=l.mine;have hv:=SC (C:=l.Mine) h.p.out f.2.2.2.2.2;obtain⟨K,r,J⟩:=h.rd;rintro b (rfl|rfl|rfl|rfl|e|e)
 ·refine⟨_,h.p.box,.cells _ _ ⟨rfl,λi x D a d=>?_⟩⟩;rw[a]at d;cases d;have j:i<21:=(bp.1 a).1
  match i,j,a with
  |0,_,a=>cases a;exact .int _ _
  |1,_,a=>cases a;exact .int _ _
  |2,_,a=>cases a;exact .int _ _
  |3,_,a=>cases a;exact .int _ _
  |4,_,a=>cases a;exact .int _ _
  |5,_,a=>cases a;exact .int _ _
  |6,_,a=>cases a;exact .int _ _
  |7,_,a=>cases a;exact .int _ _
  |8,_,a=>cases a;exact .int _ _
  |9,_,a=>cases a;exact .int _ _
  |10,_,a=>cases a;exact .int _ _
  |11,_,a=>cases a;exact .ptr ⟨⟨rfl,f.2.1⟩,rfl,rfl⟩
  |12,_,a=>cases a;exact .string _
  |13,_,a=>cases a;exact(SC (C:=l.Mine) h.p.row f.2.2.2.2.1)
  |14,_,a=>cases a;exact .int _ _
  |15,_,a=>cases a;exact .int _ _
  |16,_,a=>cases a;exact hv
  |17,_,a=>cases a;exact .int _ _
  |18,_,a=>cases a;exact .int _ _
  |19,_,a=>cases a;exact .int _ _
  |20,_,a=>cases a;exact .chan ⟨rfl,f.2.2.2.1⟩
  |n+21,j,_=>omega
 ·refine⟨_,r.box,.cells _ _ ⟨rfl,λi x D a d=>?_⟩⟩;rw[a]at d;cases d;have j:i<4:=(bp.1 a).1
  match i,j,a with
  |0,_,a=>cases a;exact .int _ _
  |1,_,a=>cases a;exact .int _ _
  |2,_,a=>cases a;exact .int _ _
  |3,_,a=>cases a;exact .map ⟨rfl,f.2.2.1⟩
  |n+4,j,_=>omega
 ·obtain⟨H,E,s,t,F,G⟩:=r.uses;refine⟨_,s,.map _ ⟨rfl,λi m I a d=>?_⟩⟩;rw[a]at d;cases d;obtain⟨y,o⟩:=t.reads m (uk.2 (lV a));obtain⟨x,A,_,_⟩:=Vj (q:=.i64) aS (Vz o);obtain⟨z,B,_⟩:=VA o;obtain⟨hv,_⟩:=unitElem_inv B;rw[A,hv];exact⟨.int _ _,.agg rfl (λi v L h=>by simp at h),rfl⟩
 ·exact⟨_,h.p.chan,.chan _ _ _ _ _⟩
 ·obtain⟨x,T,t1,t2⟩:=h.p.tq b e;exact⟨_,t1,.cells _ _ (Pw t2)⟩
 ·obtain⟨x,T,t1,t2⟩:=h.p.tv b e;exact⟨_,t1,.cells _ _ (Pw t2)⟩
end
end
section
open Classical
open Go.Conc Go.RowKit
open Go.ConcR (Payload)
open Go.Proofs.Tryz
def Ck.zA(g:Cf)(k:Ck):Ck:=Ck.read g (k.bg.size+1) k
def Fx.readAll(f:Fx):Fx:={f with K:=f.K.map λo=>o.map (Ck.zA f.g)}
section
variable {u:az} {f:Fx} {xb:Nat} {L:dG}
def aJ.tp(h:aJ u f xb L)(a:Tape):aJ (u.tp a) f xb L:=h.old λ_ _=>rfl
def aJ.SF(h:aJ u f xb L){s a:Nat}{l l':Lc}(g:L.cs[s]? =aa (aa l))(i:L.cs[a]? =aa (aa l'))(e:l.c=l'.c):s=a:=by obtain⟨j,b⟩:=h.La;have a1:=b s l.c (by grind);have d:=b a l'.c (by grind);rw[e]at a1;omega
def aJ.who(h:aJ u f xb L):∃F:Nat->Lc×Ck×Nat,∀(s:Nat) l,L.cs[s]? =aa (aa l)->(F l.c).1=l/\(F l.c).2.2=s/\f.K[s]? =aa (aa (F l.c).2.1)/\l.At u f.g (F l.c).2.1/\l.gW λb=>L.own b=7+2*s:=by
 have n:∀c:Nat,∃x:Lc×Ck×Nat,∀(s:Nat) l,L.cs[s]? =aa (aa l)->l.c=c->x.1=l/\x.2.2=s/\f.K[s]? =aa (aa x.2.1)/\l.At u f.g x.2.1/\l.gW λb=>L.own b=7+2*s:=λc=>by
  by_cases e:∃(s:Nat) (l:Lc),L.cs[s]? =aa (aa l)/\l.c=c
  ·obtain⟨s,l,a,d⟩:=e;obtain⟨t,k,j,w,o,p,q⟩:=h.BN (s:=s) (c:=c) (by rw[iT,a];show aa (aa l.c)=_;rw[d]);rw[a]at j;cases j;refine⟨⟨l,k,s⟩,λv r i m=>?_⟩;obtain rfl:=h.SF a i (d.trans m.symm);rw[a]at i;cases i;exact⟨rfl,rfl,o,p,q⟩
  ·exact⟨⟨⟨0,0,0,0,.slice ay 0 0,.slice ay 0 0⟩,⟨0,0,0,⟨#[]⟩,[],0,0,⟨#[]⟩,0,0,0,[]⟩,0⟩,λs l a d=>absurd ⟨s,l,a,d⟩ e⟩
 obtain⟨F,hF⟩:=UB n;exact⟨F,λs l a=>hF l.c s l a rfl⟩
end
section
variable [aP] [alC] {l:aB bN} {u:az} {f:Fx} {xb:Nat} {L:dG} {F:Nat->Lc×Ck×Nat}
def NH(g:Cf)(F:Nat->Lc×Ck×Nat)(c:Nat)(e:Ending)(u:az):Prop:=
 e=aN (.tuple #[])/\∃q v,cg u c (F c).1.rb (F c).1.mb (F c).1.ch q v g (Ck.zA g (F c).2.1)
abbrev Who(u:az)(f:Fx)(L:dG)(F:Nat->Lc×Ck×Nat):Prop:=∀(s:Nat) l,L.cs[s]? =aa (aa l)->(F l.c).1=l/\(F l.c).2.2=s/\f.K[s]? =aa (aa (F l.c).2.1)/\l.At u f.g (F l.c).2.1/\l.gW λb=>L.own b=7+2*s
def aJ.enters(h:aJ u f xb L)(hF:Who u f L F)(A:Fit prog l)(C:aP.ok 100)(D:aP.ok 96)(B:aP.known 61)(t:f.K.length<=65535)(r:∀(s:Nat) k,f.K[s]? =aa (aa k)->k.AM f.g):
  Enters l (λc=>(F c).1.Mine) (NH f.g F) u L.as xb L.sb f.K.length:=by
 letI:bw:=bS []
 have hS:=h.FI t
 have mine:∀{s c b:Nat},L.as[s]? =aa (aa c)->(F c).1.Mine b->L.own b=7+2*s:=λ{s c b} d a=>by obtain⟨l,j,rfl⟩:=yX d;obtain⟨i,_,_,_,p⟩:=hF s l j;rw[i]at a;exact p.mine a
 refine⟨A,C,D,B,hS.2.1,ak,hS.1,hS.2.2,⟨_,h.dO,by simp[bZ]⟩,λs c d=>?_,λs O c J d E N b a y=>?_,λs c d=>⟨λa=>?_,λa=>?_⟩,λc e u n hr=>⟨hr.1,?_⟩,λc e u hr=>⟨_,hr.1⟩,λs c d w G _ _ n=>?_⟩
 ·obtain⟨l,j,rfl⟩:=yX d;obtain⟨i,_,_,m,_⟩:=hF s l j;rw[i];exact⟨m.closed,aF rfl⟩
 ·have:=mine d a;have:=mine E y;omega
 ·have:=mine d a;have:=h.ey;omega
 ·have:=mine d a;have:=h.iF;omega
 ·obtain⟨q,v,hr⟩:=hr.2;exact⟨q,v,hr.keep ⟨trivial,trivial,trivial,trivial,λ_ _=>trivial,λ_ _=>trivial⟩ λ_ _ _=>rfl⟩
 ·obtain⟨l,j,rfl⟩:=yX d;obtain⟨i,M,o,m,_⟩:=hF s l j
  have x:cg ((mask (F l.c).1.Mine w).tp n) l.c l.rb l.mb l.ch l.q l.v f.g (F l.c).2.1:=by rw[i];exact m.keep l.mine λb a _=>(oZ a).trans (G b (by rw[i];exact a))
  refine fP.1 ((zA l.c _ _ _ _ _ f.g _ _ x (r s _ o)).mono ?_);rintro e P ⟨z,H,I,hr⟩;refine⟨z,H,I,?_⟩;rw[i];exact hr
structure VV(u c:az)(f:Fx)(xb:Nat)(L a:dG):Prop where
 at_:aJ c f.readAll xb a
 own:∀b,b<u.heap.size->a.own b=L.own b
 new:∀b,c.heap.size<=b->a.own b=0
 sb:a.sb=L.sb
def ZH{i:az}{B Wg B2 D:Nat}(h:aJ u f xb L)(hF:Who u f L F)(r:After (λc=>(F c).1.Mine) (NH f.g F) L.as u i xb B Wg B2 D):
  ∃H,VV u i f xb L H/\H.own B=0/\H.own D=0/\aV (λb=>L.own b≠0) u i:=by
 letI:bw:=bS []
 obtain⟨p,i1,Q,i3⟩:=r.reads
 have key:∀c:Nat,∃x:aE×aE,c∈sat L.as->cg i c (F c).1.rb (F c).1.mb (F c).1.ch x.1 x.2 f.g (Ck.zA f.g (F c).2.1)/\(⟨c,(F c).1.rb,(F c).1.mb,(F c).1.ch,x.1,x.2⟩:Lc).gW λb=>p c b/\b<i.heap.size:=λc=>by
  by_cases t:c∈sat L.as
  ·obtain⟨uc,bn,v,⟨_,q0,v0,j⟩,m,S,h4,h5⟩:=i3 c t;obtain⟨s,O⟩:=EX.1 t;obtain⟨l,y1,rfl⟩:=yX O;obtain⟨w,_,_,_,_⟩:=hF s l y1;have I:=(F l.c).1.mine;have J:(F l.c).1.Mine l.c:=by rw[w];exact aF rfl
   obtain⟨q',v',m1,m2⟩:=cg.BF S (m _ _ ⟨rfl,J⟩) (m _ _ ⟨rfl,I.2.1⟩) (m _ _ ⟨rfl,I.2.2.1⟩) (m _ _ ⟨rfl,I.2.2.2.1⟩) j;exact⟨(q',v'),λ_=>⟨m1,m2.mono λb ⟨a,T⟩=>⟨h5 a b T,(S.lt a b T).2⟩⟩⟩
  ·exact⟨(au,au),λh=>absurd h t⟩
 obtain⟨G,aM⟩:=UB key
 let E:Nat->Nat:=λb=>if b<u.heap.size then L.own b else if e:∃(s:Nat) (l:Lc),L.cs[s]? =aa (aa l)/\p l.c b/\b<i.heap.size then 7+2*e.choose else 0
 have A:∀{s:Nat} {l:Lc},L.cs[s]? =aa (aa l)->l.c∈sat L.as:=λ{s l} n=>EX.2 ⟨s,by rw[iT,n];rfl⟩
 have mine:∀{s:Nat} {l:Lc} {b:Nat},L.cs[s]? =aa (aa l)->(F l.c).1.Mine b->L.own b=7+2*s:=λ{s l b} n d=>by obtain⟨w,_,_,_,e5⟩:=hF s l n;rw[w]at d;exact e5.mine d
 have aL:∀{s:Nat} {l:Lc} {b:Nat},L.cs[s]? =aa (aa l)->p l.c b->b<i.heap.size->E b=7+2*s:=λ{s l b} n d aI=>by
  by_cases P:b<u.heap.size
  ·show(if b<u.heap.size then L.own b else _)=_;rw[aX P];exact mine n ((Q _ b (A n) d).2.2.2 P)
  ·have e:∃(s:Nat) (l:Lc),L.cs[s]? =aa (aa l)/\p l.c b/\b<i.heap.size:=⟨s,l,n,d,aI⟩;show(if b<u.heap.size then L.own b else if e:∃(s:Nat) (l:Lc),L.cs[s]? =aa (aa l)/\p l.c b/\b<i.heap.size then 7+2*e.choose else 0)=_;rw[aQ P,qA e];obtain⟨l',j,m,_⟩:=e.choose_spec
   have J:l'.c=l.c:=by
    by_cases W:l'.c=l.c
    ·exact W
    ·exact absurd d (i1 _ _ b (A j) (A n) W m)
   rw[h.SF j n J]
 have U:∀b,b<u.heap.size->(∀s,L.own b≠7+2*s)->i.heap[b]? =u.heap[b]? :=λb d M=>r.kept b d λs c O hm=>by obtain⟨l,j,rfl⟩:=yX O;exact M s (mine j hm)
 have aH:wO i E f.g (f.K.map λo=>o.map (Ck.zA f.g)) (L.cs.map λo=>o.map λl=>{l with q:=(G l.c).1,v:=(G l.c).2}):=by
  refine⟨by rw[pG,pG];exact h.cs.len,λs x y X Z=>?_⟩;rw[iT,eI]at X Z;obtain⟨x0,Y,rfl⟩:=X;obtain⟨y0,C,rfl⟩:=Z;have:=h.cs.at_ s _ _ Y C;cases x0 with
  |none=>cases y0 with
   |none=>trivial
   |some l=>exact this.elim
  |some k=>cases y0 with
   |none=>exact this.elim
   |some l=>
    obtain⟨w,_,R,_,_⟩:=hF s l C;rw[Y]at R;have xd:k=(F l.c).2.1:=by simpa using R
    have N:=aM l.c (A C);rw[w]at N;refine⟨?_,?_⟩
    ·rw[xd];exact N.1
    ·exact N.2.mono λb d=>aL C d.1 d.2
 have V:∀b,u.heap.size<=b->(∀c,c∈sat L.as->¬p c b)->E b=0:=λb d z=>by show(if b<u.heap.size then L.own b else if e:∃(s:Nat) (l:Lc),L.cs[s]? =aa (aa l)/\p l.c b/\b<i.heap.size then 7+2*e.choose else 0)=0;rw[aQ ak,hO];rintro⟨s,l,j,m,_⟩;exact z l.c (A j) m
 refine⟨{L with cs:=L.cs.map λo=>o.map λl=>{l with q:=(G l.c).1,v:=(G l.c).2},own:=E},⟨?_,λb d=>aX d,λb d=>?_,rfl⟩,?_,?_,⟨r.os,r.size,λb d M=>?_⟩⟩
 ·refine h.XD (by rw[pG]) U (λb d=>aX d) aH ?_;rw[List.map_map]
  congr 1
  funext o
  cases o<;>rfl
 ·show(if b<u.heap.size then L.own b else if e:∃(s:Nat) (l:Lc),L.cs[s]? =aa (aa l)/\p l.c b/\b<i.heap.size then 7+2*e.choose else 0)=0;have:=r.size;rw[aQ ak,hO];rintro⟨s,l,j,_,m⟩;omega
 ·exact V B r.news.1 λc t z=>(Q c B t z).1 rfl
 ·exact V D r.news.2.2.2 λc t z=>(Q c D t z).2.2.1 rfl
 ·refine U b d λs e=>M ?_;rw[e];omega
def aJ.Xq(h:aJ u f xb L)(M:Fit prog l)(Q:eK prog l av (vW f61)=aq)(O:aP.ok 100)(P:aP.ok 96)(N:aP.known 61)(t:f.K.length<=65535)(I:∀(s:Nat) k,f.K[s]? =aa (aa k)->k.AM f.g)(R:∀(s:Nat) k,f.readAll.K[s]? =aa (aa k)->k.q.length<=1048576)(J:0<=f.acc/\f.acc<=140737488355328)(_hnew:∀x,u.heap.size<=x->L.own x=0):
  eY prog 61 #[pt xb] u λe i=>e=aN (.tuple #[])/\∃c,aJ i f.readAll.qd xb c/\(∀b,b<u.heap.size->c.own b=L.own b)/\aV (λb=>L.own b≠0) u i:=by
 obtain⟨F,hF⟩:=h.who;refine Xs (h.enters hF M O P N t I) Q ?_ (λe u hr=>⟨_,hr.1⟩) λi w z y D j m=>?_
 ·rintro e i m ⟨d,c,o,p,a⟩;exact⟨d,c,o.tp m,p,⟨a.os,a.size,a.block⟩⟩
 ·obtain⟨c,d,o,p,a⟩:=ZH h hF j;have S:=aes xb w z y D f.readAll c (i.tp m) (d.at_.tp m) (by show(f.K.map _).length<=_;rw[pG];exact t) R J d.new j.b1 o j.df p;obtain⟨e,T,H,⟨A,B,n⟩,C,E,G⟩:=XI (b:=ep) func61 rfl rfl rfl S [bot prog];refine⟨e,T,H,⟨A,c,B,d.own,⟨n.os.trans a.os,dm a.size n.size,λb r v=>(n.block b (dy r a.size) ?_).trans (a.block b r v)⟩⟩,C,E,G⟩;rintro(rfl|e)
  ·have:=j.news.2.2.2;omega
  ·rw[d.own b r]at e;exact v e
end
end
section
attribute [local go_sem ↓] Go.wp_at_zero Go.wp_at_succ
attribute [local go_sem] bP bF
open Go.Conc Go.RowKit
open Go.ConcR (Payload)
open Go.Proofs.Tryz
abbrev TJ(xb:Nat)(a:Int)(b D:Nat)(stop:Bool):Act:=⟨#[pt xb,au,au,pt xb,pt xb,.pointer (aa (aj xb 13)),an a,an (a+1),pt xb,.pointer (aa (aj xb 13)),pt xb,.func (.func 96) #[] #[pt b],au,au,au,pt xb,pt xb,.pointer (aa (aj xb 14)),.bool stop,.bool !stop,au,au,au,au,au,au,au,au],[{target:=.collected D,args:=#[]}]⟩
abbrev LJ(xb:Nat)(a:Int)(b D:Nat)(stop:Bool)(c d e f:aE):Act:=⟨#[pt xb,au,au,pt xb,pt xb,.pointer (aa (aj xb 13)),an a,an (a+1),pt xb,.pointer (aa (aj xb 13)),pt xb,.func (.func 96) #[] #[pt b],au,au,au,pt xb,pt xb,.pointer (aa (aj xb 14)),.bool stop,.bool !stop,c,d,e,f,au,au,au,au],[{target:=.collected D,args:=#[]}]⟩
section
variable [aP]
end
end
section
open Go.Conc Go.RowKit
open Go.ConcR (Payload)
open Go.Proofs.Tryz
def opsOf:jV->aK Oper|.region _ a _=>a|_=>#[]
section
variable [aP] {l:aB bN}
def WX.Xm{P Q a u ops id d f o0 o1 ats fn body v}(b:Fit P l)(hr:eF ops.size=[0,1])(h0:ops[0]? =aa o0)(hm:o0.op=.move (.tmp 0))(m:o0.dst=aa d)(o:o0.guard=ay)(j:ops[1]? =aa o1)(t:o1.op=.call {callee:=.value (.func f),args:=#[.tmp d],argTypes:=ats}) (p:o1.guard=ay) (n:P.funcs[f]? =aa fn) (s:(fn.name== "runtime.NumGoroutine")=av) (k:fn.body=aa body) (q:aP.known f) (hv:a.eval (.tmp 0)=v) (w:(a.put (aa d) v).eval (.tmp d)=v) (c:eY P f #[v] u λe g=>∃r,e=aN r/\Q .normal ((a.put (aa d) v).put o1.dst r) g):WX P (.region id ops av) Q a u:=by
 refine WX.region ?_;rw[hr];refine OX.value (v:=v) (u1:=u) b h0 (by simp[dw,o]) (by rw[hm];rfl) (λx=>?_) ?_
 ·unfold execOp;rw[hm];simp[hv]
 ·rw[m];refine OX.call b j (by simp[dw,p]) t n s k q (by simp[cQ]) ?_;have:(#[Operand.tmp d].map (a.put (aa d) v).eval)=#[v]:=by rw[rG];simp only[sU,wE,w]
  rw[this];refine c.mono λe g ⟨r,h,i⟩=>⟨r,h,OX.nil i⟩
variable [alC]
end
end
section
attribute [local go_sem ↓] Go.wp_at_zero Go.wp_at_succ
attribute [local go_sem] bP bF
open Go.Conc Go.RowKit
open Go.ConcR (Payload)
open Go.Proofs.Tryz
def BW(fn:Func):jV:=dV (dV (dV (fn.body.getD .skip)))
def Fx.goes(f:Fx):Fx:=if f.stop then f else f.readAll.qd
def Fx.ends(f:Fx):Fx:=Fx.fin f.fl.length f
def Fx.takes(f:Fx):Fx:=Fx.turns (f.fuel 0) 0 f
def Fx.lets(f:Fx):Fx:=f.dg f.K.length
def Fx.early(f:Fx):Fx:={f with clock:=f.clock+1}.Bd
def Fx.tick(f:Fx):Fx:=f.early.goes.ends.takes.lets
section
variable {u w:az} {f:Fx} {xb:Nat} {L L0:dG}
def bG.tp(h:bG w L u L0)(a:Tape):bG w L (u.tp a) L0:=⟨h.own,⟨h.cD.os,h.cD.size,h.cD.block⟩⟩
def bG.base{τ}(h:bG (w.tp τ) L u L0):bG w L u L0:=⟨h.own,⟨h.cD.os,h.cD.size,h.cD.block⟩⟩
def aJ.norm(h:aJ u f xb L)(hf:bG w L0 u L):∃c,aJ u f xb c/\bG w L0 u c/\∀x,u.heap.size<=x->c.own x=0:=by refine⟨{L with own:=λb=>if b<u.heap.size then L.own b else 0},h.owns _ λb a=>aX a,⟨λb a=>?_,hf.cD⟩,λx d=>aQ ak⟩;show(if b<u.heap.size then L.own b else 0)=L0.own b;rw[aX (dy a hf.cD.size)];exact hf.own b a
end
def aeF{u f xb L}(h:aJ u f xb L)(j:0<=f.clock/\f.clock<=281474976710656):
  (tkZ f26).wp prog (λe a d=>e=.normal/\a=LH xb f.clock/\aJ d {f with clock:=f.clock+1} xb L/\bG u L d L) ⟨#[pt xb,au,au,au,au,au,au,au,au,au,au,au,au,au,au,au,au,au,au,au,au,au,au,au,au,au,au,au],[]⟩ u:=by
 have m:=aO u xb 13 (an f.clock) h.box;have f13:=bz h.box 13;have b:AL (f.clock+1)=f.clock+1:=by unfold AL;omega
 have c:aV (λi=>i=xb) u (u.setCell (aj xb 13) (an (AL (f.clock+1)))):=(aV.refl (λi=>i=xb) u).set (p:=aj xb 13) rfl _
 have g:Hid (AL (f.clock+1)=f.clock+1/\aJ (u.setCell (aj xb 13) (an (AL (f.clock+1)))) {f with clock:=f.clock+1} xb L/\bG u L (u.setCell (aj xb 13) (an (AL (f.clock+1)))) L):=
  ⟨b,by rw[b];exact h.put 13 _ _ rfl rfl rfl rfl rfl rfl ⟨rfl,rfl,rfl⟩,⟨λ_ _=>rfl,c.mono λk _ e=>by rw[e,h.ey];omega⟩⟩
 clear h c b j;generalize f.clock=n at*;simp only[tkZ,mz,mO,f26];go_wp2;exact g.out
def aeD{u f xb L Ee N0 D}(h:aJ u f xb L):
  (tk4 f26).wp prog (λe a b=>e=.normal/\a=TJ xb Ee N0 D f.stop/\b=u) (LI xb Ee N0 D) u:=by
 have c:=aO u xb 14 (.bool f.stop) h.box;generalize f.stop=stop at*;simp only[tk4,mz,dV,mO,f26];go_wp2
def aeE(Z:rP)(P Q:Fx->Prop)(x:AQ P)(p:Abides Q)(hS:∀f,Q f->f.uT){u f xb L Ee N0 D st v20 v21}(h:aJ u f xb L)(y:P f)(hPQ:P f.ends->Q f.ends):
  (BW f26).wp prog (λe a q=>e=.normal/\a.defers=[{target:=.collected D,args:=#[]}]/\Q f.ends.takes/\∃b,aJ q f.ends.takes.lets xb b/\bG u L q b) (LJ xb Ee N0 D st v20 v21 au au) u:=by
 have r:Hid (Calls prog 62 #[aR xb] u λe d=>e=aN (.tuple #[])/\Hid (P f.ends/\∃b,aJ d f.ends xb b/\bG u L d b)):=ZG Z P x u f xb L h y
 have t:Hid (∀c,(P f.ends/\∃b,aJ c f.ends xb b/\bG u L c b)->Calls prog 63 #[aR xb] c λe d=>e=aN (.tuple #[])/\Hid (Q f.ends.takes/\∃b,aJ d f.ends.takes xb b/\bG u L d b)):=λc ⟨g,k,j,i⟩=>
  (ZP Q p c f.ends xb k j (hPQ g)).mono λe d ⟨m,v,b,n,o⟩=>⟨m,v,b,n,i.trans o⟩
 have s:Hid (∀c,(Q f.ends.takes/\∃b,aJ c f.ends.takes xb b/\bG u L c b)->Calls prog 64 #[aR xb] c λe d=>e=aN (.tuple #[])/\Hid (Q f.ends.takes/\∃b,aJ d f.ends.takes.lets xb b/\bG u L d b)):=λc ⟨g,k,j,i⟩=>
  (PK c f.ends.takes xb k j (hS _ g) (p.zM _ g).2.2.2.1).mono λe d ⟨m,b,n,o⟩=>⟨m,g,b,n,i.trans o⟩
 simp only[BW,mz,dV,mO,f26];go_wp2_with (first|(go_at_call 62;refine r.out.mono ?_;rintro e c ⟨rfl,g⟩)|(go_at_call 63;refine(t.out _ g.out).mono ?_;rintro e z ⟨rfl,j⟩)|(go_at_call 64;refine(s.out _ j.out).mono ?_;rintro e A ⟨rfl,i⟩));exact⟨i.out.1,i.out.2⟩
structure Fx.NO(P:Fx->Prop)(f:Fx):Prop where
 clock:0<=f.clock/\f.clock<=281474976710656
 len:f.K.length<=65535
 rt:0<=f.g.rt/\f.g.rt<=65535
 bu:0<=f.g.bu/\f.g.bu<=65535
 tok:∀(s:Nat) k,f.K[s]? =aa (aa k)->0<=k.tok/\k.tok<=65535
 Iy:∀(s:Nat) k,f.early.K[s]? =aa (aa k)->k.AM f.early.g
 q:∀(s:Nat) k,f.early.readAll.K[s]? =aa (aa k)->k.q.length<=1048576
 acc:0<=f.early.acc/\f.early.acc<=140737488355328
 I4:f.early.K.length<=65535
 next:P f.early.goes
section
variable [aP] {l:aB bN}
structure AT(l:aB bN):Prop where
 fit:Fit prog l
 tail:eK prog l av (vW f61)=aq
 oR:aP.ok 100
 oS:aP.ok 96
 kR:aP.known 61
 t0:eK prog l av (tkZ f26)=aq
 t1:eK prog l av (tk1 f26)=aq
 t4:eK prog l av (tk4 f26)=aq
 t67:eK prog l av (BW f26)=aq
variable [alC] {u:az} {f:Fx} {xb:Nat} {L:dG}
def aJ.Xr(Z:rP)(P Q:Fx->Prop)(hE:AQ P)(aj:Abides Q)(hS:∀f,Q f->f.uT)(h:aJ u f xb L)(G:AT l)(p:f.NO P)(hPQ:P f.early.goes.ends->Q f.early.goes.ends):
  eY prog 26 #[pt xb] u λe d=>e=aN (.tuple #[])/\Q f.early.goes.ends.takes/\∃m,aJ d f.tick xb m/\bG u L d m:=by
 have aH:(⟨#[pt xb]++sI (f26.ntmps - #[pt xb].size) au,[]⟩:Act)=⟨#[pt xb,au,au,au,au,au,au,au,au,au,au,au,au,au,au,au,au,au,au,au,au,au,au,au,au,au,au,au],[]⟩:=aS;have e5:tk5 f26=.region 5 (opsOf (tk5 f26)) av:=aS;refine eY.U7 (n:=1) G.fit func26 (c:=.seq (tkZ f26) (.seq (tk1 f26) (.seq (.seq (tk4 f26) (.cond (.tmp 19) (tk5 f26) .skip)) (BW f26)))) rfl ?_ (λe u hr=>⟨_,hr.1⟩) ?_
 ·rintro e d g ⟨i,j,m,k,o⟩;exact⟨i,j,m,k.tp g,o.tp g⟩
 rw[aH];refine WX.seq ((WX.lift (Q:=λe a d=>e=.normal/\a=LH xb f.clock/\aJ d {f with clock:=f.clock+1} xb L/\bG u L d L) G.fit G.t0 ?_ ?_ ?_ λg=>?_).mono ?_)
 ·rintro e a d g ⟨i,j,k,o⟩;exact⟨i,j,k.tp g,o.tp g⟩
 ·rintro x a d ⟨h,_⟩;cases h
 ·rintro a d ⟨h,_⟩;cases h
 ·exact wp_mono (aeF (h.tp g) p.clock) λe a d ⟨i,j,k,o⟩=>⟨i,j,k,o.base⟩
 rintro e a M ⟨rfl,rfl,aP,bf⟩;obtain⟨z,m1,t1,J⟩:=aP.norm bf;refine WX.seq ((WX.lift (Q:=λe a d=>e=.normal/\∃r D,a=LI xb f.clock r D/\M.heap.size<=D/\d.heap[D]? =aa (.deferred (aa []))/\aJ d f.early xb z/\bG u L d z/\M.heap.size<=d.heap.size) G.fit G.t1 ?_ ?_ ?_ λg=>?_).mono ?_)
 ·rintro e a d g ⟨i,r,D,j,k,o,y,A,h7⟩;exact⟨i,r,D,j,k,o,y.tp g,A.tp g,h7⟩
 ·rintro x a d ⟨h,_⟩;cases h
 ·rintro a d ⟨h,_⟩;cases h
 ·refine wp_mono (Yw xb {f with clock:=f.clock+1} z f.clock (M.tp g) (m1.tp g) p.len p.rt p.bu p.tok J) ?_;rintro e a d ⟨i,r,D,j,k,o,y,A⟩;exact⟨i,r,D,j,k,o,y,t1.trans ⟨λ_ _=>rfl,⟨A.os,A.size,A.block⟩⟩,A.size⟩
 rintro e a N ⟨rfl,r,D,rfl,an,F,m2,t2,gh⟩;have n2:∀x,N.heap.size<=x->z.own x=0:=λx hx=>J x (dm gh hx);have K:z.own D=0:=J D an;have V:D<N.heap.size:=(bp.1 F).1;have bk:=t1.cD.size;refine WX.seq (WX.seq ((WX.lift (Q:=λe a d=>e=.normal/\a=TJ xb f.clock r D f.early.stop/\∃g,d=N.tp g) G.fit G.t4 ?_ ?_ ?_ λg=>?_).mono ?_))
 ·rintro e a d g ⟨i,j,Y,rfl⟩;exact⟨i,j,g,rfl⟩
 ·rintro x a d ⟨h,_⟩;cases h
 ·rintro a d ⟨h,_⟩;cases h
 ·exact wp_mono (aeD (m2.tp g)) λe a d ⟨i,j,k⟩=>⟨i,j,g,k⟩
 rintro e a u3 ⟨rfl,rfl,g,rfl⟩;have X:=m2.tp g;have t3:=t2.tp g
 have rest:∀(O R:aE) (s:az) (t:dG),aJ s f.early.goes xb t->bG u L s t->t.own D=0->s.heap[D]? =aa (.deferred (aa []))->WX prog (BW f26) (λe a d=>e=.normal/\∀g,LeavesInM jW 1 prog f26 a.tmps (λe d=>e=aN (.tuple #[])/\Q f.early.goes.ends.takes/\∃m,aJ d f.tick xb m/\bG u L d m) a.defers .returning (az.tp d g)) (LJ xb f.clock r D f.early.stop O R au au) s:=λO R s t I t4 C d4=>by
  refine(WX.lift (a:=LJ xb f.clock r D f.early.stop O R au au) (Q:=λe a d=>e=.normal/\a.defers=[{target:=.collected D,args:=#[]}]/\Q f.early.goes.ends.takes/\∃m,aJ d f.early.goes.ends.takes.lets xb m/\bG s t d m) G.fit G.t67 ?_ ?_ ?_ λY=>?_).mono ?_
  ·rintro e a d g ⟨i,j,k,m,o,y⟩;exact⟨i,j,k,m,o.tp g,y.tp g⟩
  ·rintro x a d ⟨h,_⟩;cases h
  ·rintro a d ⟨h,_⟩;cases h
  ·exact wp_mono (aeE Z P Q hE aj hS (I.tp Y) p.next hPQ) λe a d ⟨i,j,k,m,o,y⟩=>⟨i,j,k,m,o,y.base⟩
  ·rintro e a u6 ⟨rfl,hd,hp,T,m6,t6⟩;refine⟨rfl,λS=>?_⟩;rw[hd];have U:D<s.heap.size:=(bp.1 d4).1;have aL:(u6.tp S).heap[D]? =aa (.deferred (aa [])):=(t6.cD.block D U (by simp[C])).trans d4;have o6:T.own D=0:=(t6.own D U).trans C;refine⟨aC,aF ⟨_,_,rfl,wN aL,.tuple #[],by simp[results,results26],rfl,hp,T,(m6.tp S).vl λb W H=>fj λe=>H (by rw[e];exact o6),?_⟩⟩;have t7:=(t4.trans t6).tp S;have hu:=t7.cD.size;refine⟨t7.own,t7.cD.os,by simpa using t7.cD.size,λb W H=>?_⟩;rw[fj ak];exact t7.cD.block b W H
 refine WX.cond (v:=!f.early.stop) rfl ?_;cases E:f.early.stop with
 |true=>
  rw[E]at rest;refine WX.skip ?_;have B:f.early.goes=f.early:=by unfold Fx.goes;rw[E];rfl
  rw[B]at rest;rw[show f.tick=f.early.ends.takes.lets by unfold Fx.tick;rw[B]]at rest⊢;have:=rest au au _ z X t3 K F;rw[B];exact this
 |false=>
  rw[E]at rest;have B:f.early.goes=f.early.readAll.qd:=by unfold Fx.goes;rw[E];rfl
  show WX _ (tk5 f26) _ _ _;rw[e5];refine WX.Xm (f:=61) (v:=pt xb) G.fit rfl rfl rfl rfl rfl rfl rfl rfl func61 rfl rfl G.kR rfl rfl ?_;refine(X.Xq G.fit G.tail G.oR G.oS G.kR p.I4 p.Iy p.q p.acc n2).mono ?_;rintro e s ⟨rfl,t,I,C,t4⟩;refine⟨_,rfl,rest (pt xb) (.tuple #[]) s t (by rw[B];exact I) (t3.trans ⟨C,t4⟩) ((C D V).trans K) ?_⟩;exact(t4.block D V (by simp[K])).trans F
end
end
section
open Go.Proofs.Tryz
structure Cf.Is(g:Cf):Prop where
 sz:4<=g.sz/\g.sz<=256/\g.sz %4=0
 cl:1<=g.cl/\g.cl<=8
 qu:1<=g.qu/\g.qu<=8
 mx:4<=g.mx/\g.mx<=32/\g.mx %4=0
 qn:g.mx<=g.qn/\g.qn<=64
 rt:1<=g.rt/\g.rt<=16
 bu:1<=g.bu/\g.bu<=32
 wk:1<=g.wk/\g.wk<=8
 ou:g.mx+4<=g.ou/\g.ou<=256
structure Rq.Gd(g:Cf)(r:Rq):Prop where
 kd:0<=r.m.kd/\r.m.kd<=4
 ck:0<=r.m.ck/\r.m.ck<=65535
 of:0<=r.m.of/\0<=r.m.ln/\r.m.of+r.m.ln<=g.sz/\r.m.ln<=g.mx/\r.m.ln %4=0
 ln:r.m.kd≠2->0<r.m.ln
 z:r.m.kd=2->r.m.of=0/\r.m.ln=0
 dt:r.m.kd=1->(r.m.dt.size:Int)=r.m.ln
def Rq.Gd.ok{g}{r:Rq}(a:g.Is)(h:r.Gd g):r.Ok:=by have:=h.of;have:=a.sz;exact⟨ak,ak,ak,ak⟩
def Rq.Gd.size{g}{r:Rq}(a:g.Is)(h:r.Gd g):4<=sizeOf' r.m/\sizeOf' r.m<=36:=by have:=h.of;have:=a.mx;unfold sizeOf';split<;>omega
def Rq.Gd.cost{g}{r:Rq}(a:g.Is)(h:r.Gd g):1<=cW r.m/\cW r.m<=g.mx:=by have:=h.of;have:=a.mx;have:=h.ln;unfold cW;split<;>omega
structure Ck.In(g:Cf)(c:Int)(k:Ck):Prop where
 ph:0<=k.ph/\k.ph<=4
 wt:1<=k.wt/\k.wt<=4
 bg:k.bg.size<=1024
 q:∀r∈k.q,r.Gd g
 len:(k.q.length:Int)<=g.qu
 out:(k.out.size:Int)+k.prom<=g.ou
 tok:0<=k.tok/\k.tok<=32
 de:0<=k.de
 sv:0<=k.sv/\k.sv+32*k.tok<=1024*(c+1)
 us:qK k.us
def afi{sz kd fl of ln}(h:verdict sz kd fl of ln=0):kd<=5/\(kd≠0/\kd≠3/\kd≠1/\kd≠4->of=0/\ln=0)/\((kd=0\/kd=3\/kd=1\/kd=4)->ln≠0/\ln %4=0/\of %4=0/\of+ln<=sz):=by
 unfold verdict at h;split at h
 ·omega
 ·split at h
  ·omega
  ·split at h
   ·split at h<;>omega
   ·split at h
    ·omega
    ·split at h
     ·split at h<;>omega
     ·omega
def YZ{g}(r:g.Is){ph us s}(h:accepted (first g.sz g.mx ph us s).1=aq):(⟨(first g.sz g.mx ph us s).1,-1⟩:Rq).Gd g/\(first g.sz g.mx ph us s).1.ck∉us:=by
 have a:(first g.sz g.mx ph us s).1.wh=3/\(first g.sz g.mx ph us s).1.er=0/\(first g.sz g.mx ph us s).1.kd≠5:=by simpa[accepted]using h
 have A:=r.sz
 have key:∀d:ByteArray,(bt s 1=1->(d.size:Int)=two s 7)->verdict g.sz (bt s 1) (bt s 2) (two s 5) (two s 7)=0->bt s 1≠5->¬(bt s 0≠81\/g.mx<two s 7\/two s 3∈us)->(⟨(nx s d (verdict g.sz (bt s 1) (bt s 2) (two s 5) (two s 7))),-1⟩:Rq).Gd g/\two s 3∉us:=λd q hv y k=>by
  have w:=oO s 1;have x:=lA s 5;have p:=lA s 7;obtain⟨B,C,D⟩:=afi hv
  have z:two s 7<=g.mx:=by
   rcases Int.lt_or_le g.mx (two s 7)with u|hge
   ·exact absurd (aD (aF u)) k
   ·exact hge
  have t:¬two s 3∈us:=λe=>k (aD (aD e));refine⟨⟨?_,(lA s 3),?_,?_,?_,?_⟩,t⟩
  ·show 0<=bt s 1/\bt s 1<=4;omega
  ·show 0<=two s 5/\0<=two s 7/\two s 5+two s 7<=g.sz/\two s 7<=g.mx/\two s 7%4=0;omega
  ·show bt s 1≠2->0<two s 7;omega
  ·show bt s 1=2->two s 5=0/\two s 7=0;omega
  ·exact q
 unfold first at a⊢
 split at a
 ·rename_i e;exfalso;rw[mZ]at a
  have:∀f i,(dN s f i).1.wh≠3:=by
   intro f;induction f with
   |zero=>intro i;unfold dN;split<;>simp[bh.zero]
   |succ f v=>
    intro i;unfold dN;split
    ·simp[bh.zero]
    ·split
     ·exact v _
     ·simp[bh.closing]
  exact this 5 0 a.1
 ·rename_i l;split at a
  ·rename_i j;exfalso;unfold opt at a;split at a
   ·simp[bh.zero]at a
   ·split at a
    ·simp[bh.closing]at a
    ·simp at a
  ·rename_i j;split at a
   ·rename_i m;rw[aQ l,aQ j,aX m];unfold lU at a⊢;split at a
    ·simp[bh.zero]at a
    ·rename_i n;split at a
     ·simp[bh.closing]at a
     ·rename_i c;rw[aQ n,aQ c];split at a
      ·rename_i b;rw[aX b];split at a
       ·simp[bh.zero]at a
       ·rename_i o;rw[aQ o];refine key _ (λ_=>?_) a.2.1 a.2.2 c;have p:=lA s 7
        have:(s.extract 9 (9+two s 7).toNat).size=(9+two s 7).toNat-9:=by rw[mI];omega
        omega
      ·rename_i b;rw[aQ b];exact key _ (λe=>absurd e b) a.2.1 a.2.2 c
   ·simp[bh.zero]at a
def Sq(er:UInt8)(ck d):(nk er ck d).size=4+d.size:=by unfold nk;simp;rfl
def Wu{g ph us s}:(jL g (first g.sz g.mx ph us s).1).size<=6:=by
 unfold jL;split
 ·split
  ·exact eo _
  ·rw[Sq];exact(by decide:4+0<=6)
 ·unfold answer;split
  ·split<;>exact(by decide:1<=6)
  ·split
   ·rename_i a;split
    ·simp;exact(by decide:1+2+2<=6)
    ·split
     ·exact(by decide:1<=6)
     ·simp;have:=Pr g.sz g.mx ph us s;have e:(⟨#[85]⟩:ByteArray).size=1:=rfl;omega
   ·exact eo _
section
variable {g:Cf} {c:Int} {k:Ck}
def P8{g}(a:g.Is){q}(h:∀r∈q,r.Gd g):6<=needs q:=by
 unfold needs;cases q with
 |nil=>exact kT _
 |cons r t=>
  have:=(h r gG).size a;show 6<=6+sizeOf' r.m;omega
def Wf{ph}(h:0<=ph/\ph<=4)(m):0<=after ph m/\after ph m<=4:=by
 unfold after;split
 ·omega
 ·split
  ·omega
  ·split
   ·omega
   ·split<;>omega
def Ck.In.hear(i:g.Is)(h:k.In g c)(hm:k.may g):(k.hear g (first g.sz g.mx k.ph k.us k.bg)).In g c:=by
 have j:=P8 i h.q;have p:(jL g (first g.sz g.mx k.ph k.us k.bg).1).size<=6:=Wu;have d:=λe=>YZ (ph:=k.ph) (us:=k.us) (s:=k.bg) i e;have o:=hm.2.2;have n:=hm.2.1;generalize first g.sz g.mx k.ph k.us k.bg=x at*
 refine⟨Wf h.ph _,h.wt,?_,?_,?_,?_,h.tok,h.de,h.sv,?_⟩
 ·show(k.bg.extract x.2.toNat k.bg.size).size<=1024;rw[mI];have:=h.bg;omega
 ·show ∀r∈(if accepted x.1 then k.q++[⟨x.1,-1⟩]else k.q),r.Gd g;split
  ·rename_i e;intro r hr;rcases jZ.1 hr with hr|hr
   ·exact h.q r hr
   ·rw[lX.1 hr];exact(d e).1
  ·exact h.q
 ·show((if accepted x.1 then k.q++[⟨x.1,-1⟩]else k.q).length:Int)<=g.qu;split
  ·rw[gR];simp;omega
  ·exact h.len
 ·show((k.out++jL g x.1).size:Int)+k.prom<=g.ou;rw[qy];omega
 ·show qK (if accepted x.1 then k.us++[x.1.ck]else k.us);split
  ·rename_i e;have j:=(d e).2;refine⟨List.nodup_append.2 ⟨h.us.1,aC,λa l b m f=>?_⟩,λy hy=>?_⟩
   ·rw[lX.1 m]at f;exact j (f▸l)
   ·rcases jZ.1 hy with hy|hy
    ·exact h.us.2 y hy
    ·rw[lX.1 hy];exact((d e).1.ck)
  ·exact h.us
def Ck.In.shut(a:g.Is)(h:k.In g c):k.shut.In g c:=by
 refine⟨⟨by show(0:Int)<=4;omega,by show(4:Int)<=4;omega⟩,h.wt,by show(0:Nat)<=1024;omega,λr hr=>(by cases hr),?_,?_,h.tok,h.de,h.sv,h.us⟩
 ·have:=a.qu;show((0:Nat):Int)<=g.qu;omega
 ·have:=h.out;show((0:Nat):Int)+k.prom<=g.ou;omega
def Ck.In.read(a:g.Is):∀(f:Nat) (k:Ck),k.In g c->(Ck.read g f k).In g c
 |0,k,h=>h
 |f+1,k,h=>by
  unfold Ck.read;split
  ·rename_i hm;dsimp only;split
   ·exact h
   ·split
    ·exact h.shut a
    ·exact Ck.In.read a f _ (h.hear a hm)
  ·exact h
def Sk(g):∀(f:Nat) (k:Ck),(Ck.read g f k).no=k.no/\(Ck.read g f k).wt=k.wt/\(Ck.read g f k).bK=k.bK/\(Ck.read g f k).prom=k.prom/\(Ck.read g f k).de=k.de/\(Ck.read g f k).tok=k.tok/\(Ck.read g f k).sv=k.sv
 |0,k=>⟨rfl,rfl,rfl,rfl,rfl,rfl,rfl⟩
 |f+1,k=>by
  unfold Ck.read;split
  ·dsimp only;split
   ·exact⟨rfl,rfl,rfl,rfl,rfl,rfl,rfl⟩
   ·split
    ·exact⟨rfl,rfl,rfl,rfl,rfl,rfl,rfl⟩
    ·exact Sk g f _
  ·exact⟨rfl,rfl,rfl,rfl,rfl,rfl,rfl⟩
def Ku:∀(l:aB Rq) (n:Int),∀r∈(cG n l).1,∃b∈l,r.m=b.m
 |[],_,r,hr=>by cases hr
 |a::l,n,r,hr=>by
  unfold cG at hr;split at hr
  ·rcases kg.1 hr with rfl|hr
   ·exact⟨a,gG,rfl⟩
   ·obtain⟨b,d,e⟩:=Ku l _ r hr;exact⟨b,jG _ d,e⟩
  ·rcases kg.1 hr with rfl|hr
   ·exact⟨r,gG,rfl⟩
   ·obtain⟨b,d,e⟩:=Ku l _ r hr;exact⟨b,jG _ d,e⟩
def Rq.Gd.same{r a:Rq}(h:a.Gd g)(e:r.m=a.m):r.Gd g:=by obtain⟨b,d,f,i,j,l⟩:=h;exact⟨by rw[e];exact b,by rw[e];exact d,by rw[e];exact f,by rw[e];exact i,by rw[e];exact j,by rw[e];exact l⟩
def Ck.In.num(h:k.In g c)(n):(k.num n).In g c:=by
 refine⟨h.ph,h.wt,h.bg,λr hr=>?_,?_,h.out,h.tok,h.de,h.sv,h.us⟩
 ·obtain⟨d,a,b⟩:=Ku k.q n r hr;exact(h.q d a).same b
 ·show((cG n k.q).1.length:Int)<=g.qu;rw[zu];exact h.len
def Ck.In.lP(a:g.Is)(h:k.In g c):(k.lP g).In g (c+1):=by
 have b:=h.tok;have d:=h.sv;have e:=a.bu;have f:=a.rt;refine⟨h.ph,h.wt,h.bg,h.q,h.len,h.out,?_,h.de,?_,h.us⟩
 ·show 0<=min (k.tok+g.rt) g.bu/\min (k.tok+g.rt) g.bu<=32;omega
 ·show 0<=k.sv/\k.sv+32*min (k.tok+g.rt) g.bu<=1024*(c+1+1);omega
def Pg:∀(n:Nat) (l:aB Nat),l.Nodup->(∀x∈l,x<n)->l.length<=n
 |0,l,_,h=>by
  cases l with
  |nil=>exact bC _
  |cons a l=>exact absurd (h a gG) (rM _)
 |n+1,l,b,h=>by
  have d:(l.erase n).length<=n:=Pg n (l.erase n) (b.erase n) λx e=>by grind
  have:=List.length_erase (a:=n) (l:=l);split at this<;>omega
def YQ{us}(h:qK us):us.length<=65536:=by
 have:=Pg 65536 (us.map Int.toNat) ?_ ?_
 ·rwa [pG]at this
 ·refine CV.2 ?_;refine(List.Pairwise.and_mem.1 h.1).imp ?_;rintro a b ⟨d,f,i⟩ e;have:=h.2 a d;have:=h.2 b f;exact i ak
 ·intro x j;obtain⟨a,d,rfl⟩:=jH.1 j;have:=h.2 a d;omega
def Ck.In.Iy(a:g.Is)(h:k.In g c)(b:0<=k.prom):k.AM g:=by have:=a.sz;have:=a.mx;have:=a.qu;have:=a.ou;have:=h.out;have:=h.bg;have:=h.len;have:=YQ h.us;exact⟨ak,ak,λr hr=>(h.q r hr).ok a,ak,ak,ak,ak,ak,ak,ak⟩
end
def gB:aB Jb->Nat->Int
 |[],_=>0
 |b::l,s=>(if b.s=s then(b.rs.length:Int)else 0)+gB l s
def gP:aB Rq->Int
 |[]=>0
 |r::l=>sizeOf' r.m+gP l
def ni:aB Rq->Int
 |[]=>0
 |r::l=>r.m.ln+ni l
def iO:aB Jb->Nat->Int
 |[],_=>0
 |b::l,s=>(if b.s=s then gP b.rs else 0)+iO l s
def Ji(s):∀a b:aB Jb,gB (a++b) s=gB a s+gB b s
 |[],b=>by simp[gB]
 |x::a,b=>by simp only[jY,gB,Ji s a b];omega
def KD(s):∀a b:aB Jb,iO (a++b) s=iO a s+iO b s
 |[],b=>by simp[iO]
 |x::a,b=>by simp only[jY,iO,KD s a b];omega
def KF:∀a b:aB Rq,gP (a++b)=gP a+gP b
 |[],b=>by simp[gP]
 |x::a,b=>by simp only[jY,gP,KF a b];omega
def Ka:∀a b:aB Rq,ni (a++b)=ni a+ni b
 |[],b=>by simp[ni]
 |x::a,b=>by simp only[jY,ni,Ka a b];omega
def Zl(b l s):gB (gi b l) s=(if b.s=s then(b.rs.length:Int)else 0)+gB l s:=by unfold gi ji;have:=Ji s (l.take (nS b l)) (l.drop (nS b l));rw[pK]at this;rw[Ji,this];simp only[gB];omega
def Z0(b l s):iO (gi b l) s=(if b.s=s then gP b.rs else 0)+iO l s:=by unfold gi ji;have:=KD s (l.take (nS b l)) (l.drop (nS b l));rw[pK]at this;rw[KD,this];simp only[iO];omega
def Fl{g}(a:g.Is):∀{l:aB Rq},(∀r∈l,r.Gd g)->0<=gP l
 |[],_=>kT 0
 |r::l,h=>by have c:=(h r gG).size a;have d:=Fl a λx b=>h x (jG _ b);show 0<=sizeOf' r.m+gP l;omega
structure DF(g:Cf)(rs:aB Rq):Prop where
 ne:rs≠[]
 end_:(rs[0]?.getD qi).m.of+ni rs=(rs[rs.length-1]?.getD qi).m.of+(rs[rs.length-1]?.getD qi).m.ln
 gd:∀r∈rs,r.Gd g
 fC:4*(rs.length:Int)<=ni rs+4/\ni rs<=g.mx
structure Fx.Core(f:Fx):Prop where
 g:f.g.Is
 len:(f.K.length:Int)=f.g.cl
 aI:f.aI<f.K.length
 cl:∀(s:Nat) k,f.K[s]? =aa (aa k)->k.In f.g f.clock/\k.bK=gB f.fl s/\k.prom=iO f.fl s
 de:∀(s:Nat) k,f.K[s]? =aa (aa k)->k.de<=(if s=f.aI/\f.opn=aq then 288 else 32)
 mG:∀(s:Nat) k,f.K[s]? =aa (aa k)->0<=k.no/\k.no<f.cH
 one:∀(s t:Nat) k c,f.K[s]? =aa (aa k)->f.K[t]? =aa (aa c)->k.no=c.no->s=t
 jb:∀b∈f.fl,DF f.g b.rs/\b.rs.length<=8/\(0<=b.ft.part/\b.ft.part<=9223372036854775807)/\∃k,f.K[b.s]? =aa (aa k)
 sorted:f.fl.Pairwise λa b=>dU a.key b.key=aq
 nj:f.fl.Pairwise λa b=>a.order≠b.order
 fresh:∀b∈f.fl,b.order<f.bU/\b.due<=f.clock+16
 jh:(f.fl.length:Int)<=f.g.wk
 clock:0<=f.clock
 B:(f.B.size:Int)=f.g.sz
 bD:f.bD.length<=1048576/\∀t∈f.bD,(0<=t.delay/\t.delay<=16)/\(0<=t.part/\t.part<=9223372036854775807)
 acc:0<=f.acc
 cH:0<=f.cH
section
variable {f:Fx}
def Ex:∀(l:aB Jb) (s:Nat),0<=gB l s
 |[],_=>kT 0
 |b::l,s=>by have:=Ex l s;show 0<=(if b.s=s then(b.rs.length:Int)else 0)+gB l s;split<;>omega
def Px:∀{l:aB Jb} {b:Jb},b∈l->(b.rs.length:Int)<=gB l b.s
 |a::l,b,h=>by
  show _<=(if a.s=b.s then(a.rs.length:Int)else 0)+gB l b.s;rcases kg.1 h with rfl|h
  ·have:=Ex l b.s;rw[aX rfl];omega
  ·have:=Px h;split<;>omega
def Jj(n):∀(l:aB Jb) (s:Nat),(∀b∈l,b.rs.length<=n)->gB l s<=n*l.length
 |[],_,_=>by simp[gB]
 |b::l,s,h=>by
  have c:=Jj n l s λx a=>h x (jG _ a);have d:=h b gG;show(if b.s=s then(b.rs.length:Int)else 0)+gB l s<=n*((l.length+1:Nat):Int);have e:(n:Int) *((l.length+1:Nat):Int)=n*(l.length:Int)+n:=by grind
  split<;>omega
def KE{g}(a:g.Is):∀{l:aB Jb} (s:Nat),(∀b∈l,∀r∈b.rs,r.Gd g)->0<=iO l s
 |[],_,_=>kT 0
 |b::l,s,h=>by have d:=KE a s λx c=>h x (jG _ c);have e:=Fl a (h b gG);show 0<=(if b.s=s then gP b.rs else 0)+iO l s;split<;>omega
def Fx.Core.prom(h:f.Core)(s):0<=iO f.fl s:=KE h.g s λb a=>(h.jb b a).1.gd
def Fx.Core.bK(h:f.Core)(s):0<=gB f.fl s/\gB f.fl s<=64:=by refine⟨Ex _ _,?_⟩;have c:=Jj 8 f.fl s λb a=>(h.jb b a).2.1;have d:=h.jh;have e:=h.g.wk;have:((8:Nat):Int)=8:=rfl;omega
def Fx.Core.small(h:f.Core):f.K.length<=8:=by have:=h.len;have:=h.g.cl;omega
def Fx.Core.stay(h:f.Core):f.uT:=λb a k d=>by have g:=(h.cl _ k d).2.1;have i:=Px a;obtain⟨r,-,-,-⟩:=h.jb b a;have j:b.rs.length≠0:=λe=>r.ne (wD.1 e);have c:k.bK≠0:=ak;unfold Ck.gone;simp[c]
def Fx.Core.map(h:f.Core){f':Fx}(i:f'.g=f.g)(hf:f'.fl=f.fl)(q:f'.aI=f.aI)(C:f'.opn=f.opn)(hc:f'.cH=f.cH)(y:f'.bU=f.bU)(w:f'.B.size=f.B.size)(z:f'.bD=f.bD)(x:0<=f'.acc)(J:f.clock<=f'.clock)(p:f'.K.length=f.K.length)
  (m:∀(s:Nat) a,f'.K[s]? =aa (aa a)->∃k,f.K[s]? =aa (aa k)/\a.In f.g f'.clock/\a.bK=k.bK/\a.prom=k.prom/\a.de=k.de/\a.no=k.no)
  (A:∀(s:Nat) k,f.K[s]? =aa (aa k)->∃a,f'.K[s]? =aa (aa a)):f'.Core:=by
 refine⟨by rw[i];exact h.g,by rw[i,p];exact h.len,by rw[q,p];exact h.aI,λs a n=>?_,λs a n=>?_,λs a n=>?_,λs t D E u v e=>?_,λb l=>?_,by rw[hf];exact h.sorted,by rw[hf];exact h.nj,λb l=>by rw[hf]at l;have:=h.fresh b l;rw[y];omega,by rw[hf,i];exact h.jh,by have:=h.clock;omega,by rw[w,i];exact h.B,by rw[z];exact h.bD,x,by rw[hc];exact h.cH⟩
 ·obtain⟨k,a1,c,a3,d,o,j⟩:=m s a n;rw[i,hf,a3,d];exact⟨c,(h.cl s k a1).2⟩
 ·obtain⟨k,a1,c,a3,d,o,j⟩:=m s a n;rw[q,C,o];exact h.de s k a1
 ·obtain⟨k,a1,c,a3,d,o,j⟩:=m s a n;rw[hc,j];exact h.mG s k a1
 ·obtain⟨k,a1,c,a3,d,o,j⟩:=m s D u;obtain⟨a,b1,F,G,H,I,r⟩:=m t E v;exact h.one s t k a a1 b1 (by rw[<-j,<-r];exact e)
 ·rw[hf]at l;obtain⟨a1,c,a3,k,d⟩:=h.jb b l;rw[i];exact⟨a1,c,a3,A _ k d⟩
end
section
variable {f:Fx}
def OT(f):∀m,m<=f.K.length->∃K,(eF m).foldl Fx.gp f={f with K:=K}/\K.length=f.K.length/\∀(s:Nat),K[s]? =if s<m then(f.K[s]?).map (wH (Ck.lP f.g))else f.K[s]?
 |0,_=>⟨f.K,rfl,rfl,λs=>by rw[aQ (rM s)]⟩
 |m+1,hm=>by
  obtain⟨K,l,c,d⟩:=OT f m ak;rw[yq,Ao,l];show ∃o,Fx.gp {f with K:=K} m=_/\_;have h:K[m]? =f.K[m]? :=by grind
  have n:m<f.K.length:=ak;have a:=ef n;cases i:f.K[m]with
  |none=>
   rw[i]at a;rw[OQ (aF (h.trans a))];refine⟨K,rfl,c,λs=>?_⟩;rw[d s]
   by_cases e:s=m
   ·subst e;rw[aQ (rL s),aX (yx s),a];rfl
   ·by_cases b:s<m
    ·rw[aX b,aX ak]
    ·rw[aQ b,aQ ak]
  |some k=>
   rw[i]at a;rw[OS (h.trans a)];refine⟨K.set m (aa (k.lP f.g)),rfl,by simp[c],λs=>?_⟩;rw[jF]
   by_cases e:s=m
   ·subst e;rw[aX rfl,aX ak,aX (yx s),a];rfl
   ·rw[aQ (λj=>e j.symm),d s]
    by_cases b:s<m
    ·rw[aX b,aX ak]
    ·rw[aQ b,aQ ak]
def Yu(f:Fx):f.Bd={f with K:=f.K.map λo=>o.map (Ck.lP f.g)}:=by
 obtain⟨K,a,c,b⟩:=OT f f.K.length (bC _);unfold Fx.Bd;rw[a]
 have:K=f.K.map λo=>o.map (Ck.lP f.g):=by
  apply wB;intro s;rw[b s,iT];split
  ·rfl
  ·rename_i e;rw[yp ak];rfl
 rw[this]
def Bc(f:Fx):f.early={f with clock:=f.clock+1,K:=f.K.map λo=>o.map (Ck.lP f.g)}:=Yu _
def map_some{K:aB (aY Ck)}{b:Ck->Ck}{s:Nat}{k':Ck}(h:(K.map λo=>o.map b)[s]? =aa (aa k')):∃k,K[s]? =aa (aa k)/\k'=b k:=by rw[iT,eI]at h;obtain⟨o,c,a⟩:=h;rw[eI]at a;obtain⟨k,rfl,d⟩:=a;exact⟨k,c,d.symm⟩
def Lo{K:aB (aY Ck)}{a:Ck->Ck}{s:Nat}{k:Ck}(h:K[s]? =aa (aa k)):(K.map λo=>o.map a)[s]? =aa (aa (a k)):=by rw[iT,h];rfl
def Fx.Core.early(h:f.Core):f.early.Core:=by rw[Bc];refine h.map (f':={f with clock:=f.clock+1,K:=f.K.map λo=>o.map (Ck.lP f.g)}) rfl rfl rfl rfl rfl rfl rfl rfl h.acc (by show f.clock<=f.clock+1;omega) aC (λs c a=>?_) (λs k a=>⟨_,Lo a⟩);obtain⟨k,b,rfl⟩:=map_some a;exact⟨k,b,(h.cl s k b).1.lP h.g,rfl,rfl,rfl,rfl⟩
def Fx.Core.readAll(h:f.Core):f.readAll.Core:=by refine h.map (f':=f.readAll) rfl rfl rfl rfl rfl rfl rfl rfl h.acc (kT _) (by simp[Fx.readAll]) (λs n a=>?_) (λs k a=>⟨_,Lo a⟩);obtain⟨k,b,rfl⟩:=map_some a;obtain⟨c,j,d,e,i,l,m⟩:=Sk f.g (k.bg.size+1) k;exact⟨k,b,Ck.In.read h.g _ k (h.cl s k b).1,d,e,i,c⟩
def RI(f:Fx)(n:Nat)(l:∀(s:Nat) k,f.K[s]? =aa (aa k)->k.q.length<=n):∀m,m<=f.K.length->∃K a,(eF m).foldl Fx.fQ f={f with K:=K,acc:=a}/\K.length=f.K.length/\(f.acc<=a/\a<=f.acc+n*m)/\∀(s:Nat),(f.K[s]? =ay->K[s]? =ay)/\(f.K[s]? =aa ay->K[s]? =aa ay)/\∀k,f.K[s]? =aa (aa k)->(m<=s->K[s]? =aa (aa k))/\∃i,K[s]? =aa (aa (k.num i))\/K[s]? =aa (aa k)
 |0,_=>⟨f.K,f.acc,rfl,rfl,⟨kT _,aC⟩,λs=>⟨id,id,λk g=>⟨λ_=>g,0,aD g⟩⟩⟩
 |m+1,hm=>by
  obtain⟨K,a,r,j,t,b⟩:=RI f n l m ak;rw[yq,Ao,r];show ∃w x,Fx.fQ {f with K:=K,acc:=a} m=_/\_;have v:m<f.K.length:=ak;have d:=ef v;have z:(n:Int) *((m+1:Nat):Int)=n*(m:Int)+n:=by grind
  cases o:f.K[m]with
  |none=>
   rw[o]at d;rw[EZ (aF ((b m).2.1 d))];refine⟨K,a,rfl,j,⟨t.1,ak⟩,λs=>⟨(b s).1,(b s).2.1,λk g=>⟨λc=>((b s).2.2 k g).1 ak,((b s).2.2 k g).2⟩⟩⟩
  |some k=>
   rw[o]at d;rw[Ks (((b m).2.2 k d).1 (bC m))];have y:=Kt k.q a;have A:=l m k d;refine⟨K.set m (aa (k.num a)),(cG a k.q).2,rfl,by simp[j],⟨ak,ak⟩,λs=>⟨λc=>?_,λc=>?_,λp h=>⟨λc=>?_,?_⟩⟩⟩
   ·rw[jF];split
    ·rename_i e;subst e;rw[d]at c;cases c
    ·exact(b s).1 c
   ·rw[jF];split
    ·rename_i e;subst e;rw[d]at c;cases c
    ·exact(b s).2.1 c
   ·rw[jF,aQ ak];exact((b s).2.2 p h).1 ak
   ·by_cases e:m=s
    ·subst e;rw[d]at h;cases h;exact⟨a,aF (by grind)⟩
    ·obtain⟨i,u⟩:=((b s).2.2 p h).2;refine⟨i,?_⟩;rw[jF,aQ e];exact u
def Fx.Core.qd(h:f.Core):f.qd.Core/\(f.acc<=f.qd.acc/\f.qd.acc<=f.acc+64)/\∃K a,f.qd={f with K:=K,acc:=a}:=by
 have t:=h.g.qu;obtain⟨K,a,m,n,q,d⟩:=RI f 8 (λs k p=>by have:=(h.cl s k p).1.len;omega) f.K.length (bC _);have e:f.qd={f with K:=K,acc:=a}:=m;have j:=h.small;refine⟨?_,?_,K,a,e⟩
 ·rw[e];refine h.map (f':={f with K:=K,acc:=a}) rfl rfl rfl rfl rfl rfl rfl rfl (by have:=h.acc;show 0<=a;omega) (kT _) n (λs l j=>?_) (λs k j=>?_)
  ·have b:K[s]? =aa (aa l):=j;cases c:f.K[s]? with
   |none=>rw[(d s).1 c]at b;cases b
   |some o=>
    cases o with
    |none=>rw[(d s).2.1 c]at b;cases b
    |some k=>
     obtain⟨i,hi⟩:=((d s).2.2 k c).2;rcases hi with hi|hi
     ·rw[b]at hi;cases hi;exact⟨k,rfl,(h.cl s k c).1.num i,rfl,rfl,rfl,rfl⟩
     ·rw[b]at hi;cases hi;exact⟨l,rfl,(h.cl s l c).1,rfl,rfl,rfl,rfl⟩
  ·obtain⟨i,hi⟩:=((d s).2.2 k j).2;rcases hi with hi|hi
   ·exact⟨_,hi⟩
   ·exact⟨_,hi⟩
 ·rw[e];show f.acc<=a/\a<=f.acc+64;have r:((8:Nat):Int) *(f.K.length:Int)<=64:=ak;omega
def Fx.Core.goes(h:f.Core):f.goes.Core/\(f.goes.acc<=f.acc+64)/\∃K a,f.goes={f with K:=K,acc:=a}:=by
 unfold Fx.goes;split
 ·exact⟨h,ak,f.K,f.acc,rfl⟩
 ·obtain⟨b,c,K,a,d⟩:=h.readAll.qd;refine⟨b,c.2,K,a,d⟩
end
def aeJ(B no r b)(h:0<=r.m.ln):((nC B (pY no r b)).size:Int)+4<=sizeOf' r.m:=by
 unfold nC sizeOf'
 by_cases e:r.m.kd=0
 ·rw[aX e];split
  ·show((B.extract r.m.of.toNat (r.m.of.toNat+r.m.ln.toNat)).size:Int)+4<=_;rw[alF];omega
  ·show((0:Nat):Int)+4<=_;omega
 ·rw[aQ e,aQ (λh=>e h.1)];show((0:Nat):Int)+4<=_;omega
def aeR{us}(h:qK us)(c):qK (freed us c):=⟨h.1.sublist List.filter_sublist,λx a=>h.2 x (wF.1 a).1⟩
structure uU(k k':Ck)(n:Nat)(p:Int):Prop where
 no:k'.no=k.no
 ph:k'.ph=k.ph
 wt:k'.wt=k.wt
 bg:k'.bg=k.bg
 q:k'.q=k.q
 tok:k'.tok=k.tok
 de:k'.de=k.de
 sv:k'.sv=k.sv
 bK:k'.bK=k.bK-n
 prom:k'.prom=k.prom-p
 out:(k'.out.size:Int)+k'.prom<=k.out.size+k.prom
 us:qK k.us->qK k'.us
def E1{g}(B)(ft:Ft)(k r)(h:r.Gd g):uU k (k.hrd B ft r) 1 (sizeOf' r.m):=by
 have b:=aeJ B k.no r ft.dH h.of.2.1;unfold Ck.hrd Ck.uY;split
 ·refine⟨rfl,rfl,rfl,rfl,rfl,rfl,rfl,rfl,rfl,rfl,?_,id⟩;show(k.out.size:Int)+(k.prom-sizeOf' r.m)<=k.out.size+k.prom;omega
 ·refine⟨rfl,rfl,rfl,rfl,rfl,rfl,rfl,rfl,rfl,rfl,?_,λa=>aeR a _⟩;show((k.out++nk (xe ft) r.m.ck (nC B (pY k.no r ft.dH))).size:Int)+(k.prom-sizeOf' r.m)<=k.out.size+k.prom;rw[qy,Sq];omega
def uU.trans{a b c n m p q}(h:uU a b n p)(k:uU b c m q):uU a c (n+m) (p+q):=
 ⟨k.no.trans h.no,k.ph.trans h.ph,k.wt.trans h.wt,k.bg.trans h.bg,k.q.trans h.q,k.tok.trans h.tok,k.de.trans h.de,k.sv.trans h.sv,by rw[k.bK,h.bK];omega,by rw[k.prom,h.prom];omega,by have:=h.out;have:=k.out;omega,λd=>k.us (h.us d)⟩
def DL{g}(B)(ft:Ft):∀(a:aB Rq) (k:Ck),(∀r∈a,r.Gd g)->uU k (k.answers B ft a) a.length (gP a)
 |[],k,_=>⟨rfl,rfl,rfl,rfl,rfl,rfl,rfl,rfl,by show k.bK=k.bK-((0:Nat):Int);omega,by show k.prom=k.prom-0;omega,kT _,id⟩
 |r::a,k,h=>by have b:=E1 B ft k r (h r gG);have c:=b.trans (DL B ft a (k.hrd B ft r) λx d=>h x (jG _ d));have e:a.length+1=1+a.length:=ak;show uU k ((k.hrd B ft r).answers B ft a) (a.length+1) (sizeOf' r.m+gP a);rw[e];exact c
def Z1{g}(a:g.Is){rs}(h:∀r∈rs,r.Gd g)(i):0<=gP (rs.take i)/\gP (rs.take i)<=gP rs:=by have c:=Fl a (l:=rs.take i) λr hr=>h r (pH hr);have d:=Fl a (l:=rs.drop i) λr hr=>h r (wG hr);have b:=KF (rs.take i) (rs.drop i);rw[pK]at b;omega
def Y4{g}{r:Rq}(h:r.Gd g):(r.piece.length:Int)<=r.m.ln/\r.piece.length %4=0:=by
 have b:=h.of;unfold Rq.piece;split
 ·rename_i e;have c:=h.dt e;have a:r.m.dt.data.toList.length=r.m.dt.size:=rfl;omega
 ·split
  ·rw[Lib.repeatL_length];simp;omega
  ·show((0:Nat):Int)<=r.m.ln/\0%4=0;omega
def IS{g:Cf}:∀{a:aB Rq},(∀r∈a,r.Gd g)->((dA a).length:Int)<=ni a/\(dA a).length %4=0
 |[],_=>⟨kT 0,rfl⟩
 |r::a,h=>by
  have c:=Y4 (h r gG);have d:=IS λx b=>h x (jG _ b)
  have e:(dA (r::a)).length=r.piece.length+(dA a).length:=by unfold dA;rw[wC,gR]
  rw[e];show((r.piece.length+(dA a).length:Nat):Int)<=r.m.ln+ni a/\_;omega
def DF.fits{g a}(h:DF g a):∃r t,a=r::t/\r.Gd g/\r.m.of+ni a<=g.sz:=by
 have b:=h.end_;have c:=h.gd;cases a with
 |nil=>exact absurd rfl h.ne
 |cons r t=>
  refine⟨r,t,rfl,c r gG,?_⟩;have e:((r::t)[0]?.getD qi)=r:=rfl;rw[e]at b;have d:(r::t).length-1<(r::t).length:=aC;have hm:=c _ (UY d);rw[(ef d)]at b;simp only[mO]at b;have:=hm.of;omega
def abt(o s q):(secs o s q).length=q:=by simp[secs]
def Xx(d:Dk)(a)(ft:Ft):(d.change a ft).C.length<=d.C.length+(dA a).length / 4:=by
 unfold Dk.change;cases a with
 |nil=>exact Nat.le_add_right _ _
 |cons r t=>
  dsimp only;split
  ·exact eo _
  ·split
   ·show(stay _ _ d.C).length<=_;have:(stay r.m.of.toNat (r.m.of.toNat+(cX (r::t) ft).length) d.C).length<=d.C.length:=List.length_filter_le _ _;omega
   ·show(d.C++secs _ _ _).length<=_;rw[gR,abt];have:=Un (r::t) ft;omega
def zD{K:aB (aY Ck)}{s t:Nat}{k' x:Ck}(h:(K.set s (aa k'))[t]? =aa (aa x)):(t=s/\x=k')\/(t≠s/\K[t]? =aa (aa x)):=by
 rw[jF]at h;split at h
 ·rename_i e;split at h
  ·cases h;exact aF ⟨e.symm,rfl⟩
  ·cases h
 ·rename_i e;exact aD ⟨λa=>e a.symm,h⟩
def FN{K:aB (aY Ck)}{s t:Nat}{k' x:Ck}(h:K[t]? =aa (aa x)):∃y,(K.set s (aa k'))[t]? =aa (aa y):=by
 rw[jF];split
 ·rename_i e;subst e;rw[aX (eL.1 h).1];exact⟨_,rfl⟩
 ·exact⟨_,h⟩
section
variable {f:Fx}
def Fx.Core.does(h:f.Core){b:Jb}{r:aB Jb}(o:f.fl=b::r):∃k,f.K[b.s]? =aa (aa k)/\({f with fl:=r}.does b).Core:=by
 obtain⟨S,T,U,k,j⟩:=h.jb b (by grind);refine⟨k,j,?_⟩
 obtain⟨m,l,M,E,R,a⟩:∃(m:Dk) (l:Ck) (M:aB En),({f with fl:=r}:Fx).does b={f with fl:=r,K:=f.K.set b.s (aa l),B:=m.B,D:=m.D,C:=m.C,log:=M}/\m.B.size=f.B.size/\uU k l b.rs.length (gP b.rs):=
  ⟨({f with fl:=r}:Fx).dk.change b.rs b.ft,k.answers (({f with fl:=r}:Fx).dk.change b.rs b.ft).B b.ft (b.rs.take b.rs.length),_,vh j,Ec _ _ _,by rw[uy];exact DL _ _ _ _ S.gd⟩
 rw[E];have I:∀x∈r,x∈f.fl:=λx d=>by grind
 have G:∀s,gB f.fl s=(if b.s=s then(b.rs.length:Int)else 0)+gB r s:=λs=>by rw[o];rfl
 have H:∀s,iO f.fl s=(if b.s=s then gP b.rs else 0)+iO r s:=λs=>by rw[o];rfl
 have n:∀(s:Nat) x,(f.K.set b.s (aa l))[s]? =aa (aa x)->(s=b.s/\x=l)\/(s≠b.s/\f.K[s]? =aa (aa x)):=λs x d=>zD d;refine⟨h.g,?_,?_,λs x d=>?_,λs x d=>?_,λs x d=>?_,λs t x y d L e=>?_,λc u=>?_,?_,?_,λc u=>h.fresh c (I c u),?_,h.clock,?_,h.bD,h.acc,h.cH⟩
 ·show((f.K.set b.s (aa l)).length:Int)=f.g.cl;rw[oo];exact h.len
 ·show f.aI<(f.K.set b.s (aa l)).length;rw[oo];exact h.aI
 ·show x.In f.g f.clock/\x.bK=gB r s/\x.prom=iO r s;rcases n s x d with⟨rfl,rfl⟩|⟨p,d⟩
  ·obtain⟨i,w,z⟩:=h.cl _ k j;rw[G,aX rfl]at w;rw[H,aX rfl]at z;refine⟨⟨by rw[a.ph];exact i.ph,by rw[a.wt];exact i.wt,by rw[a.bg];exact i.bg,by rw[a.q];exact i.q,by rw[a.q];exact i.len,by have:=a.out;have:=i.out;omega,by rw[a.tok];exact i.tok,by rw[a.de];exact i.de,by rw[a.sv,a.tok];exact i.sv,a.us i.us⟩,by rw[a.bK];omega,by rw[a.prom];omega⟩
  ·obtain⟨i,w,z⟩:=h.cl _ x d;rw[G,aQ (λe=>p e.symm)]at w;rw[H,aQ (λe=>p e.symm)]at z;exact⟨i,ak,ak⟩
 ·rcases n s x d with⟨rfl,rfl⟩|⟨p,d⟩
  ·rw[a.de];exact h.de _ k j
  ·exact h.de s x d
 ·rcases n s x d with⟨rfl,rfl⟩|⟨p,d⟩
  ·rw[a.no];exact h.mG _ k j
  ·exact h.mG s x d
 ·rcases n s x d with⟨P,Q⟩|⟨_,J⟩
  ·rcases n t y L with⟨A,F⟩|⟨_,v⟩
   ·omega
   ·rw[Q,a.no]at e;rw[P];exact h.one _ _ k y j v e
  ·rcases n t y L with⟨A,F⟩|⟨_,v⟩
   ·rw[F,a.no]at e;rw[A];exact h.one _ _ x k J j e
   ·exact h.one _ _ x y J v e
 ·obtain⟨a1,N,a3,V,O⟩:=h.jb c (I c u);exact⟨a1,N,a3,FN O⟩
 ·have:=h.sorted;rw[o]at this;exact(sV.1 this).2
 ·have:=h.nj;rw[o]at this;exact(sV.1 this).2
 ·have:=h.jh;rw[o,eT]at this;show(r.length:Int)<=f.g.wk;omega
 ·show(m.B.size:Int)=f.g.sz;rw[R];exact h.B
def Fx.Core.Yj(h:f.Core){b r}(j:f.fl=b::r){k}(w:f.K[b.s]? =aa (aa k))(q:f.C.length+1048576<=1099511627776):Dt {f with fl:=r} b k:=by
 have u:b∈f.fl:=by rw[j];exact gG
 obtain⟨a,M,E,_⟩:=h.jb b u;obtain⟨l,t,p,g0,T⟩:=a.fits;have v:=IS a.gd;have H:=h.B;have S:=h.g.sz;have D:=g0.of;have F:=g0.z;have A:=g0.ln;refine⟨⟨l,t,p,ak,?_,?_⟩,ak,⟨ak,v.2⟩,λx d=>?_,E,q,λi L=>?_⟩
 ·show l.m.of.toNat<f.B.size
  by_cases e:l.m.kd=2
  ·have:=F e;omega
  ·have:=A e;omega
 ·show l.m.of.toNat+(dA b.rs).length<=f.B.size;omega
 ·have n:=a.gd x d;refine⟨n.ok h.g,n.ck,λ_=>?_⟩;have:=n.of;show x.m.of+x.m.ln<=f.B.size;omega
 ·have c:=DL (({f with fl:=r}:Fx).dk.change b.rs b.ft).B b.ft (b.rs.take i) k λx d=>a.gd x (pH d);obtain⟨o,U,V⟩:=h.cl _ k w;have P:=Z1 h.g a.gd i;have J:gB f.fl b.s=(b.rs.length:Int)+gB r b.s:=by rw[j];show(if b.s=b.s then _ else _)+_=_;rw[aX rfl]
  have R:iO f.fl b.s=gP b.rs+iO r b.s:=by rw[j];show(if b.s=b.s then _ else _)+_=_;rw[aX rfl]
  have I:=Ex r b.s;have Q:=KE h.g b.s λx d=>(h.jb x (by rw[j];exact jG _ d)).1.gd;have G:=(h.bK b.s).2;have O:=h.g.ou;have D:=o.out;have N:=c.out;have y:(b.rs.take i).length=i:=by rw[rF];omega
  refine⟨c.us o.us,?_,?_,?_⟩
  ·rw[c.bK,y];omega
  ·rw[c.prom];omega
  ·have:=c.prom;omega
end
structure Fx.uI(f:Fx):Prop where
 core:f.Core
 clock:f.clock<=1073741824
 bU:(f.bU:Int)<=8*(f.clock-1)
 log:(f.log.length:Int)+8*f.fl.length<=64*f.clock
 C:(f.C.length:Int)+64*f.fl.length<=512*f.clock
 acc:f.acc<=64*f.clock
def IU:AQ Fx.uI:=by
 refine⟨λf b r h c=>?_,λf b r h c w=>?_⟩
 ·have d:=h.core.sorted;have i:=h.core.nj;have j:=h.core.jh;have q:=h.core.g.wk;rw[c]at d i j;rw[eT]at j;exact⟨(sV.1 d).1,λx o e=>(sV.1 i).1 x o e.symm,ak⟩
 ·obtain⟨k,a,n⟩:=h.core.does c;have s:=h.C;have u:=h.log;have v:=h.clock;have z:(f.fl.length:Int)=r.length+1:=by grind
  have m:b∈f.fl:=by grind
  obtain⟨l,A,_,_⟩:=h.core.jb b m;obtain⟨F,t,p,g0,E⟩:=l.fits;have y:=IS l.gd;have D:=h.core.g.sz;have B:=g0.of;refine⟨⟨k,a,h.core.Yj c a ak⟩,ak,⟨n,?_,?_,?_,?_,?_⟩⟩
  ·rw[vh (f:={f with fl:=r}) a];exact h.clock
  ·rw[vh (f:={f with fl:=r}) a];exact h.bU
  ·rw[vh (f:={f with fl:=r}) a];show((f.log++mY b k b.rs.length).length:Int)+8*r.length<=64*f.clock;rw[gR,pG,uy];omega
  ·rw[vh (f:={f with fl:=r}) a];show(((({f with fl:=r}:Fx).dk.change b.rs b.ft).C.length:Nat):Int)+64*r.length<=512*f.clock;have:=Xx ({f with fl:=r}:Fx).dk b.rs b.ft;have e:({f with fl:=r}:Fx).dk.C.length=f.C.length:=rfl;omega
  ·rw[vh (f:={f with fl:=r}) a];exact h.acc
structure tJ(g:Cf)(c:Int)(k0 k:Ck)(rs:aB Rq):Prop where
 in_:k.In g c
 bK:k.bK=k0.bK+rs.length
 prom:k.prom=k0.prom+gP rs
 len:rs.length+k.q.length=k0.q.length
 no:k.no=k0.no
 de:k.de<=k0.de
 run:DF g rs
section
variable {g:Cf} {c:Int} {k k0:Ck} {rs:aB Rq}
def Ck.In.bU(b:g.Is)(h:k.In g c){r l}(a:k.q=r::l)(p:0<k.tok)(o:(k.out.size:Int)+k.prom+sizeOf' r.m<=g.ou)(hc:cW r.m<=k.de):(k.bU r l).In g c:=by
 have hr:=h.q r (by rw[a];exact gG);have f:=hr.cost b;have i:=h.tok;have j:=h.sv;have n:=b.mx;have d:=h.len;rw[a,eT]at d;refine⟨h.ph,h.wt,h.bg,λx e=>h.q x (by rw[a];exact jG _ e),?_,?_,?_,?_,?_,h.us⟩
 ·show(l.length:Int)<=g.qu;omega
 ·show(k.out.size:Int)+(k.prom+sizeOf' r.m)<=g.ou;omega
 ·show 0<=k.tok-1/\k.tok-1<=32;omega
 ·show 0<=k.de-cW r.m;omega
 ·show 0<=k.sv+cW r.m/\k.sv+cW r.m+32*(k.tok-1)<=1024*(c+1);omega
def RD{r l}(a:k.q=r::l):k.fst=r/\k.next=k.bU r l:=by
 have e:k.fst=r:=by unfold Ck.fst;rw[a]
 refine⟨e,?_⟩;unfold Ck.next
 rw[e,a];rfl
def tJ.first (e:g.Is)(h:k.In g c)(hr:k.fc g=aq)(hc:cW k.fst.m<=k.de):tJ g c k k.next [k.fst]:=by
 obtain⟨r,l,a,p,-,j,i⟩:=vL hr;obtain⟨d,f⟩:=RD a;rw[f,d];rw[d]at hc;have b:=h.q r (by rw[a];exact gG);have o:=b.cost e;have s:=b.of;refine⟨h.bU e a j i hc,rfl,?_,?_,rfl,?_,⟨aC,?_,λx n=>?_,by show 4*((1:Nat):Int)<=r.m.ln+0+4;omega,by show r.m.ln+0<=g.mx;omega⟩⟩
 ·show k.prom+sizeOf' r.m=k.prom+(sizeOf' r.m+0);omega
 ·rw[a];show 1+l.length=l.length+1;omega
 ·show k.de-cW r.m<=k.de;omega
 ·show r.m.of+(r.m.ln+0)=r.m.of+r.m.ln;omega
 ·rw[lX.1 n];exact b
def tJ.step(f:g.Is)(h:tJ g c k0 k rs)(hr:k.fc g=aq)(hc:cW k.fst.m<=k.de)(p:k.fst.m.of=(rs[rs.length-1]?.getD qi).m.of+(rs[rs.length-1]?.getD qi).m.ln)(i:k.fst.m.kd≠2/\k.fst.m.of+k.fst.m.ln-(rs[0]?.getD qi).m.of<=g.mx):tJ g c k0 k.next (rs++[k.fst]):=by
 obtain⟨r,l,d,A,-,s,o⟩:=vL hr;obtain⟨e,j⟩:=RD d;rw[j,e];rw[e]at hc p i;have b:=h.in_.q r (by rw[d];exact gG);have w:=b.cost f;have n:=h.len;rw[d,eT]at n;have D:=b.of;have C:=b.ln i.1;have B:=h.run.fC;have z:=h.run.end_;refine⟨h.in_.bU f d s o hc,?_,?_,?_,h.no,?_,⟨aC,?_,λx hx=>?_,?_⟩⟩
 ·show k.bK+1=k0.bK+((rs++[r]).length:Int);rw[gR,h.bK];simp;omega
 ·show k.prom+sizeOf' r.m=k0.prom+gP (rs++[r]);rw[KF,h.prom];show _=k0.prom+(gP rs+(sizeOf' r.m+0));omega
 ·rw[gR];show rs.length+1+l.length=_;omega
 ·show k.de-cW r.m<=k0.de;have:=h.de;omega
 ·have y:=h.run.end_
  have u:(rs++[r])[0]? =rs[0]? :=by
   cases rs with
   |nil=>exact absurd rfl h.run.ne
   |cons a t=>rfl
  have v:(rs++[r])[(rs++[r]).length-1]? =aa r:=by rw[gR];show(rs++[r])[rs.length+1-1]? =aa r;rw[Nat.add_sub_cancel,qz (bC _),Nat.sub_self];rfl
  rw[u,v,Ka];simp;show _+(ni rs+(r.m.ln+0))=_;omega
 ·rcases jZ.1 hx with hx|hx
  ·exact h.run.gd x hx
  ·rw[lX.1 hx];exact b
 ·rw[Ka,gR];show 4*((rs.length+1:Nat):Int)<=ni rs+(r.m.ln+0)+4/\ni rs+(r.m.ln+0)<=g.mx;omega
def Wm{f:Fx}{s}(h:f.along s k rs=aq):k.fc f.g=aq/\cW k.fst.m<=k.de/\k.fst.m.of=(rs[rs.length-1]?.getD qi).m.of+(rs[rs.length-1]?.getD qi).m.ln/\k.fst.m.kd≠2/\k.fst.m.of+k.fst.m.ln-(rs[0]?.getD qi).m.of<=f.g.mx:=by unfold Fx.along at h;rw[cM,cM,uD]at h;obtain⟨b,d,a⟩:=h;unfold Fx.free at b;rw[cM]at b;refine⟨b.1,d,?_⟩;unfold rW at a;simp at a;exact⟨a.2.2.2.1,a.1,a.2.2.2.2⟩
def Jp{f:Fx}{s}(a:f.g.Is):∀(n:Nat) (k:Ck) (rs:aB Rq),tJ f.g c k0 k rs->tJ f.g c k0 (f.jO s n k rs).1 (f.jO s n k rs).2
 |0,k,rs,h=>h
 |n+1,k,rs,h=>by
  unfold Fx.jO;split
  ·rename_i e;obtain⟨a1,b,a3,d⟩:=Wm e;exact Jp a n _ _ (h.step a a1 b a3 d)
  ·exact h
end
def WE{a b c}(d:dU a b=aq)(e:dU b c=aq):dU a c=aq:=by unfold dU at*;simp at*;omega
def JO{b x l}:x∈gi b l↔x=b\/x∈l:=by
 unfold gi ji;rw[jZ,kg];constructor
 ·rintro(h|h|h)
  ·exact aD (pH h)
  ·exact aF h
  ·exact aD (wG h)
 ·rintro(h|h)
  ·exact aD (aF h)
  ·rw[<-pK (nS b l) l]at h;rcases jZ.1 h with h|h
   ·exact aF h
   ·exact aD (aD h)
def QS(b l):(gi b l).length=l.length+1:=by unfold gi ji;have:=dX List.length (pK (nS b l) l);rw[gR]at this⊢;rw[eT];omega
def F7{b l}(h:l.Pairwise λa b=>a.order≠b.order)(e:∀x∈l,x.order<b.order):(gi b l).Pairwise λa b=>a.order≠b.order:=by
 unfold gi ji;rw[<-pK (nS b l) l]at h;obtain⟨f,i,j⟩:=Vd.1 h;refine Vd.2 ⟨f,sV.2 ⟨λx d=>?_,i⟩,λx d y hy=>?_⟩
 ·have:=e x (wG d);omega
 ·rcases kg.1 hy with rfl|hy
  ·have:=e x (pH d);omega
  ·exact j x d y hy
def QT{b}:∀{l:aB Jb},(l.Pairwise λa b=>dU a.key b.key=aq)->(∀x∈l,x.order<b.order)->(gi b l).Pairwise λa b=>dU a.key b.key=aq
 |[],_,_=>List.pairwise_singleton _ _
 |a::l,h,i=>by
  obtain⟨f,m⟩:=sV.1 h;cases d:dU a.key b.key with
  |true=>
   have e:gi b (a::l)=a::gi b l:=by unfold gi ji nS;rw[Vf,aX d];rfl
   rw[e];refine sV.2 ⟨λx hx=>?_,QT m λx hx=>i x (jG _ hx)⟩;rcases JO.1 hx with rfl|hx
   ·exact d
   ·exact f x hx
  |false=>
   have e:gi b (a::l)=b::a::l:=by unfold gi ji nS;rw[Vf,aQ (by rw[d];simp)];rfl
   rw[e]
   have j:dU b.key a.key=aq:=by have:=i a gG;unfold dU Jb.key at*;simp at d;simp;omega
   refine sV.2 ⟨λx hx=>?_,h⟩;rcases kg.1 hx with rfl|hx
   ·exact j
   ·exact WE j (f x hx)
section
variable {f:Fx}
def Fx.Core.put(h:f.Core){s k k' o}(d:f.K[s]? =aa (aa k))(F:k'.In f.g f.clock)(A:k'.bK=k.bK)(C:k'.prom=k.prom)(i:k'.no=k.no)(E:k'.de<=(if s=f.aI/\o=aq then 288 else 32))(G:∀(t:Nat) x,t≠s->f.K[t]? =aa (aa x)->x.de<=(if t=f.aI/\o=aq then 288 else 32)):({f.at s k' with opn:=o}:Fx).Core:=by
 have b:∀(t:Nat) x,(f.K.set s (aa k'))[t]? =aa (aa x)->(t=s/\x=k')\/(t≠s/\f.K[t]? =aa (aa x)):=λt x a=>zD a;refine⟨h.g,?_,?_,λt x a=>?_,λt x a=>?_,λt x a=>?_,λt r x y a q e=>?_,λc D=>?_,h.sorted,h.nj,h.fresh,h.jh,h.clock,h.B,h.bD,h.acc,h.cH⟩
 ·show((f.K.set s (aa k')).length:Int)=f.g.cl;rw[oo];exact h.len
 ·show f.aI<(f.K.set s (aa k')).length;rw[oo];exact h.aI
 ·rcases b t x a with⟨rfl,rfl⟩|⟨j,a⟩
  ·rw[A,C];exact⟨F,(h.cl _ k d).2⟩
  ·exact h.cl t x a
 ·rcases b t x a with⟨rfl,rfl⟩|⟨j,a⟩
  ·exact E
  ·exact G t x j a
 ·rcases b t x a with⟨rfl,rfl⟩|⟨j,a⟩
  ·rw[i];exact h.mG _ k d
  ·exact h.mG t x a
 ·rcases b t x a with⟨w,z⟩|⟨_,p⟩
  ·rcases b r y q with⟨m,n⟩|⟨_,l⟩
   ·omega
   ·rw[z,i]at e;rw[w];exact h.one _ _ k y d l e
  ·rcases b r y q with⟨m,n⟩|⟨_,l⟩
   ·rw[n,i]at e;rw[m];exact h.one _ _ x k p d e
   ·exact h.one _ _ x y p l e
 ·obtain⟨a1,u,a3,H,v⟩:=h.jb c D;exact⟨a1,u,a3,FN v⟩
def Fx.Core.Gl(h:f.Core){k}(c:f.K[f.aI]? =aa (aa k)):(f.bq k).In f.g f.clock/\(f.bq k).de<=288/\(f.bq k).bK=k.bK/\(f.bq k).prom=k.prom/\(f.bq k).no=k.no/\(f.bq k).wt=k.wt/\(f.bq k).q=k.q:=by
 have a:=(h.cl _ k c).1;have b:=h.de _ k c;unfold Fx.bq;split
 ·rename_i e;rw[aX ⟨rfl,e⟩]at b;exact⟨a,b,rfl,rfl,rfl,rfl,rfl⟩
 ·rename_i e;rw[aQ (λx=>e x.2)]at b;have j:=h.g.qn;have hm:=h.g.mx;have l:=a.wt;have h0:=a.de
  have i:0<=k.wt*f.g.qn/\k.wt*f.g.qn<=256:=by have d:k.wt=1\/k.wt=2\/k.wt=3\/k.wt=4:=ak;rcases d with e|e|e|e<;>rw[e]<;>omega
  refine⟨⟨a.ph,a.wt,a.bg,a.q,a.len,a.out,a.tok,?_,a.sv,a.us⟩,?_,rfl,rfl,rfl,rfl,rfl⟩
  ·show 0<=k.de+k.wt*f.g.qn;omega
  ·show k.de+k.wt*f.g.qn<=288;omega
def Fx.Core.turned(h:f.Core){k}(a:f.K[f.aI]? =aa (aa k)):(f.turned k).Core:=by obtain⟨a1,i,a3,c,d,_⟩:=h.Gl a;refine h.put a a1 a3 c d (by grind) λt x b g=>?_;have:=h.de t x g;rw[aQ (λe=>b e.1)]at this;rw[aQ (λe=>b e.1)];exact this
def Fx.Core.eJ(h:f.Core):(0<=f.eJ.delay/\f.eJ.delay<=16)/\0<=f.eJ.part/\f.eJ.part<=9223372036854775807:=by
 unfold Fx.eJ;split
 ·decide
 ·rename_i t r e;exact h.bD.2 t (by rw[e];exact gG)
def Fx.Core.gI(h:f.Core)(C:f.opn=aq){k}(n:f.K[f.aI]? =aa (aa k))(hr:k.fc f.g=aq)(hc:cW k.fst.m<=k.de)(Q:(f.fl.length:Int)<f.g.wk):(f.gI f.aI k).Core:=by
 obtain⟨F,R,S⟩:=h.cl _ k n;have d:=Jp (s:=f.aI) (f:=f) h.g k.next.q.length k.next [k.fst] (tJ.first h.g F hr hc)
 have I:f.gI f.aI k={f.at f.aI (f.jO f.aI k.next.q.length k.next [k.fst]).1 with bD:=f.bD.tail,bU:=f.bU+1,fl:=gi ⟨f.aI,(f.jO f.aI k.next.q.length k.next [k.fst]).2,f.eJ,f.clock+f.eJ.delay,f.bU⟩ f.fl}:=rfl;rw[I];generalize (f.jO f.aI k.next.q.length k.next [k.fst]).1=i at*;generalize (f.jO f.aI k.next.q.length k.next [k.fst]).2=w at*;obtain⟨O,J⟩:=h.eJ;have j:∀(t:Nat) x,(f.K.set f.aI (aa i))[t]? =aa (aa x)->(t=f.aI/\x=i)\/(t≠f.aI/\f.K[t]? =aa (aa x)):=λt x a=>zD a;have P:=h.g.qu;refine⟨h.g,?_,?_,λt x a=>?_,λt x a=>?_,λt x a=>?_,λt G x y a E e=>?_,λc hc=>?_,QT h.sorted λb u=>(h.fresh b u).1,F7 h.nj λb u=>(h.fresh b u).1,λc hc=>?_,?_,h.clock,h.B,⟨?_,λt L=>h.bD.2 t (List.mem_of_mem_tail L)⟩,h.acc,h.cH⟩
 ·show((f.K.set f.aI (aa i)).length:Int)=f.g.cl;rw[oo];exact h.len
 ·show f.aI<(f.K.set f.aI (aa i)).length;rw[oo];exact h.aI
 ·show x.In f.g f.clock/\x.bK=gB (gi _ f.fl) t/\x.prom=iO (gi _ f.fl) t;rw[Zl,Z0];rcases j t x a with⟨rfl,rfl⟩|⟨r,a⟩
  ·rw[aX rfl,aX rfl];have a1:=d.bK;have o:=d.prom;exact⟨d.in_,by show x.bK=(w.length:Int)+_;omega,by show x.prom=gP w+_;omega⟩
  ·rw[aQ (λe=>r e.symm),aQ (λe=>r e.symm)];obtain⟨b1,M,N⟩:=h.cl t x a;exact⟨b1,ak,ak⟩
 ·rcases j t x a with⟨p,l⟩|⟨r,a⟩
  ·have a1:=d.de;have o:=h.de _ k n;rw[aX ⟨rfl,C⟩]at o;show x.de<=(if t=f.aI/\f.opn=aq then 288 else 32);rw[aX ⟨p,C⟩,l];omega
  ·exact h.de t x a
 ·rcases j t x a with⟨p,l⟩|⟨r,a⟩
  ·rw[l,d.no];exact h.mG _ k n
  ·exact h.mG t x a
 ·rcases j t x a with⟨p,l⟩|⟨_,D⟩
  ·rcases j G y E with⟨z,A⟩|⟨_,v⟩
   ·omega
   ·rw[l,d.no]at e;rw[p];exact h.one _ _ k y n v e
  ·rcases j G y E with⟨z,A⟩|⟨_,v⟩
   ·rw[A,d.no]at e;rw[z];exact h.one _ _ x k D n e
   ·exact h.one _ _ x y D v e
 ·rcases JO.1 hc with rfl|hc
  ·refine⟨d.run,?_,J,i,?_⟩
   ·show w.length<=8;have:=d.len;have:=F.len;omega
   ·show(f.K.set f.aI (aa i))[f.aI]? =aa (aa i);rw[jF,aX rfl,aX h.aI]
  ·obtain⟨a1,o,a3,T,H⟩:=h.jb c hc;exact⟨a1,o,a3,FN H⟩
 ·show c.order<f.bU+1/\c.due<=f.clock+16;rcases JO.1 hc with rfl|hc
  ·exact⟨yx _,by show f.clock+f.eJ.delay<=_;omega⟩
  ·have:=h.fresh c hc;omega
 ·show((gi _ f.fl).length:Int)<=f.g.wk;rw[QS];omega
 ·show f.bD.tail.length<=1048576;have:=h.bD.1;rw[List.length_tail];omega
end
structure Fx.qI(f:Fx):Prop where
 core:f.Core
 clock:f.clock<=1073741824
 bU:(f.bU:Int)<=8*(f.clock-1)+f.fl.length
 log:(f.log.length:Int)<=64*f.clock
 C:(f.C.length:Int)<=512*f.clock
 acc:f.acc<=64*f.clock
section
variable {f:Fx}
def W8{l:aB Jb}(h:l.Pairwise λa b=>a.order≠b.order):∀(i j:Nat) (b c:Jb),l[i]? =aa b->l[j]? =aa c->b.order=c.order->i=j:=by
 induction l with
 |nil=>intro i j b c d;simp at d
 |cons a l o=>
  obtain⟨m,n⟩:=sV.1 h;intro i j b c d k e
  match i,j with
  |0,0=>rfl
  |0,j+1=>
   have g:a=b:=by simpa using d
   exact absurd (g▸e) (m c (gS (by simpa using k)))
  |i+1,0=>
   have g:a=c:=by simpa using k
   exact absurd (g▸e.symm) (m b (gS (by simpa using d)))
  |i+1,j+1=>
   have:=o n i j b c (by simpa using d) (by simpa using k) e;omega
def Ck.In.go{g c}{k:Ck}(a:g.Is)(h:k.In g c)(hc:c<=1073741824)(o:0<=k.prom)(hf:0<=k.bK/\k.bK<=64)(n:k.de<=288):k.Go:=by have b:=h.out;have d:=a.ou;have e:=h.tok;have i:=h.de;have j:=h.sv;have l:=h.len;have m:=a.qu;exact⟨ak,ak,λr hr=>(h.q r hr).ok a,ak,ak,ak,ak⟩
def Fx.qI.zM(h:f.qI):f.yU/\(∀k,f.K[f.aI]? =aa (aa k)->k.q.length<=1048576)/\f.g.cl=f.K.length/\f.K.length<=65535/\1<=f.g.wk:=by
 have a:=h.core;have c:=a.g;have N:=a.small;have H:=a.jh;have t:=c.wk;have M:=c.qu;have L:=c.qn;have I:=c.mx;have J:=c.ou;have E:=a.clock;have o:=h.clock;have F:=h.bU;have G:=a.eJ.1;refine⟨⟨⟨⟨λk d=>?_,λb i=>?_,ak,ak,W8 a.nj⟩,ak,λb i=>(a.fresh b i).1,ak,ak,a.bD.1,ak,ak⟩,a.aI,ak,λk d=>?_⟩,λk d=>?_,a.len.symm,ak,t.1⟩
 ·obtain⟨s,p⟩:=oq.1 d;obtain⟨e,v,w⟩:=a.cl s k p;have l:=e.out;have m:=a.prom s;exact⟨ak,ak,λr hr=>(e.q r hr).ok c⟩
 ·obtain⟨a1,j,_⟩:=a.jb b i;exact⟨λx u=>(a1.gd x u).ok c,ak⟩
 ·obtain⟨e,v,w⟩:=a.cl _ k d;obtain⟨a1,j,a3,y,z,A,B⟩:=a.Gl d;have l:=a.de _ k d;have m:=e.wt;have n:=e.de;have C:=a.prom f.aI;have D:=a.bK f.aI;refine⟨ak,⟨n,by split at l<;>omega⟩,a1.go c o ak ak j⟩
 ·have:=(a.cl _ k d).1.len;omega
def Cb{k}(a:f.K[f.aI]? =aa (aa k)):f.bT=if(f.turned k).free (f.bq k)then(if cW (f.bq k).fst.m<=(f.bq k).de then((f.turned k).gI f.aI (f.bq k),aq)else(f.turned k,av))else((f.turned k).at f.aI (f.bq k).lose,av):=by unfold Fx.bT;rw[a]
def Gp(a:∀k,f.K[f.aI]? ≠aa (aa k)):f.bT=(f,av):=by
 unfold Fx.bT;split
 ·rename_i k e;exact absurd e (a k)
 ·rfl
def LN{k}(h:f.Core):(f.turned k).K[(f.turned k).aI]? =aa (aa (f.bq k)):=by show(f.K.set f.aI (aa (f.bq k)))[f.aI]? =_;rw[jF,aX rfl,aX h.aI]
def Fx.Core.pass(h:f.Core)(b:∀k,f.K[f.aI]? =aa (aa k)->k.de<=32):f.pass.Core:=by
 refine⟨h.g,h.len,?_,h.cl,λs k c=>?_,h.mG,h.one,h.jb,h.sorted,h.nj,h.fresh,h.jh,h.clock,h.B,h.bD,h.acc,h.cH⟩
 ·show(f.aI+1)%f.K.length<f.K.length;have:=h.aI;exact yy _ ak
 ·have a:f.K[s]? =aa (aa k):=c;show k.de<=(if s=(f.aI+1)%f.K.length/\av=aq then 288 else 32);rw[aQ aC]
  by_cases e:s=f.aI
  ·rw[e]at a;exact b k a
  ·have:=h.de s k a;rw[aQ (λx=>e x.1)]at this;exact this
def Fx.Core.lose(h:f.Core){k}(b:f.K[f.aI]? =aa (aa k)):(f.at f.aI k.lose).Core:=by obtain⟨a,d,e⟩:=h.cl _ k b;refine h.put b ⟨a.ph,a.wt,a.bg,a.q,a.len,a.out,a.tok,kT 0,a.sv,a.us⟩ rfl rfl rfl ?_ λt x _ c=>h.de t x c;show(0:Int)<=_;split<;>omega
end
def BY:Abides Fx.qI:=by
 refine⟨λf h=>h.zM,λf h t b=>?_,λf h b=>?_⟩
 ·by_cases e:∃k,f.K[f.aI]? =aa (aa k)
  ·obtain⟨k,a⟩:=e;rw[Cb a]at b⊢;split at b
   ·rename_i c;rw[aX c];split at b
    ·rename_i d;rw[aX d]
     have j:(f.bq k).fc (f.turned k).g=aq:=by unfold Fx.free at c;rw[cM]at c;exact c.1
     refine⟨((h.core.turned a).gI rfl (LN h.core) j d t),h.clock,?_,h.log,h.C,h.acc⟩;show((f.bU+1:Nat):Int)<=8*(f.clock-1)+((gi _ f.fl).length:Int);rw[QS];have:=h.bU;omega
    ·cases b
   ·cases b
  ·rw[Gp (λk a=>e ⟨k,a⟩)]at b;cases b
 ·by_cases e:∃k,f.K[f.aI]? =aa (aa k)
  ·obtain⟨k,a⟩:=e;rw[Cb a]at b⊢;split at b
   ·rename_i c;rw[aX c];split at b
    ·cases b
    ·rename_i d;rw[aQ d];refine⟨(h.core.turned a).pass λx m=>?_,h.clock,h.bU,h.log,h.C,h.acc⟩;have n:=(LN h.core).symm.trans m;cases n
     have j:(f.bq k).fc f.g=aq:=by unfold Fx.free at c;rw[cM]at c;exact c.1
     obtain⟨r,l,s,o,_⟩:=vL j;have p:=(h.core.Gl a).1.q r (by rw[s];exact gG);have:=p.cost h.core.g;have:=h.core.g.mx;rw[o]at d;omega
   ·rename_i c;rw[aQ c];refine⟨((h.core.turned a).lose (LN h.core)).pass λx m=>?_,h.clock,h.bU,h.log,h.C,h.acc⟩;have n:((f.K.set f.aI (aa (f.bq k))).set f.aI (aa (f.bq k).lose))[f.aI]? =aa (aa x):=m;rcases zD n with⟨_,i⟩|⟨i,_⟩
    ·rw[i];show(0:Int)<=32;omega
    ·exact absurd rfl i
  ·rw[Gp (λk a=>e ⟨k,a⟩)];refine⟨h.core.pass λk a=>absurd ⟨k,a⟩ e,h.clock,h.bU,h.log,h.C,h.acc⟩
structure Fx.Rest(f:Fx):Prop where
 core:f.Core
 bU:(f.bU:Int)<=8*f.clock
 log:(f.log.length:Int)<=64*f.clock
 C:(f.C.length:Int)<=512*f.clock
 acc:f.acc<=64*f.clock
section
variable {f:Fx}
def xI{K:aB (aY Ck)}{j t:Nat}{x:Ck}(h:(K.set j ay)[t]? =aa (aa x)):t≠j/\K[t]? =aa (aa x):=by
 rw[jF]at h;split at h
 ·split at h<;>cases h
 ·rename_i e;exact⟨λa=>e a.symm,h⟩
def Fx.Core.leave(h:f.Core){j:Nat}{o:Bool}(n:∀b∈f.fl,b.s≠j)(p:o=f.opn\/f.aI=j):({f with K:=f.K.set j ay,opn:=o}:Fx).Core:=by
 refine⟨h.g,?_,?_,λs k a=>h.cl s k (xI a).2,λs k a=>?_,λs k a=>h.mG s k (xI a).2,λs t k r a q e=>h.one s t k r (xI a).2 (xI q).2 e,λb d=>?_,h.sorted,h.nj,h.fresh,h.jh,h.clock,h.B,h.bD,h.acc,h.cH⟩
 ·show((f.K.set j ay).length:Int)=f.g.cl;rw[oo];exact h.len
 ·show f.aI<(f.K.set j ay).length;rw[oo];exact h.aI
 ·have c:=h.de s k (xI a).2;rcases p with rfl|e
  ·exact c
  ·have i:=(xI a).1;rw[aQ (λx=>i (x.1.trans e))];rw[aQ (λx=>i (x.1.trans e))]at c;exact c
 ·obtain⟨a1,l,a3,k,m⟩:=h.jb b d;refine⟨a1,l,a3,k,?_⟩;rw[jF,aQ (λe=>n b d e.symm)];exact m
def Fx.Core.fZ(h:f.Core)(j):(f.fZ j).Core:=by
 unfold Fx.fZ;split
 ·rename_i k d;split
  ·rename_i c;refine h.leave (λb a e=>?_) ?_
   ·have:=h.stay b a k (by grind);rw[c]at this;cases this
   ·by_cases e:f.aI=j
    ·exact aD e
    ·rw[aQ e];exact aF rfl
  ·exact h
 ·exact h
def j9(f:Fx)(j:Nat):(f.fZ j).clock=f.clock/\(f.fZ j).bU=f.bU/\(f.fZ j).log=f.log/\(f.fZ j).C=f.C/\(f.fZ j).acc=f.acc/\(f.fZ j).stop=f.stop/\(f.fZ j).cH=f.cH/\(f.fZ j).g=f.g/\(f.fZ j).B=f.B:=by
 unfold Fx.fZ;split
 ·split<;>exact⟨rfl,rfl,rfl,rfl,rfl,rfl,rfl,rfl,rfl⟩
 ·exact⟨rfl,rfl,rfl,rfl,rfl,rfl,rfl,rfl,rfl⟩
def Fx.Core.dg(h:f.Core):∀n,(f.dg n).Core/\(f.dg n).clock=f.clock/\(f.dg n).bU=f.bU/\(f.dg n).log=f.log/\(f.dg n).C=f.C/\(f.dg n).acc=f.acc/\(f.dg n).stop=f.stop/\(f.dg n).cH=f.cH/\(f.dg n).g=f.g/\(f.dg n).B=f.B
 |0=>⟨h,rfl,rfl,rfl,rfl,rfl,rfl,rfl,rfl,rfl⟩
 |n+1=>by obtain⟨a1,b,a3,c,d,e,i,j,k,a⟩:=Fx.Core.dg h n;obtain⟨m,o,p,q,r,s,t,u,l⟩:=j9 (f.dg n) n;rw[xl];exact⟨a1.fZ n,m.trans b,o.trans a3,p.trans c,q.trans d,r.trans e,s.trans i,t.trans j,u.trans k,l.trans a⟩
def Fx.Rest.dg(h:f.Rest)(n):(f.dg n).Rest:=by obtain⟨a1,a,a3,b,c,d,_⟩:=h.core.dg n;exact⟨a1,by rw[a,a3];exact h.bU,by rw[a,b];exact h.log,by rw[a,c];exact h.C,by rw[a,d];exact h.acc⟩
def Pj:∀(n:Nat) (f:Fx),(Fx.fin n f).clock=f.clock
 |0,f=>rfl
 |n+1,f=>by
  unfold Fx.fin;split
  ·rfl
  ·split
   ·exact(Pj n _).trans (El _ _).2.1
   ·rfl
def TU(f:Fx):f.bT.1.clock=f.clock:=by
 unfold Fx.bT;split
 ·split
  ·split<;>rfl
  ·rfl
 ·rfl
def LQ:∀(n p:Nat) (f:Fx),(Fx.turns n p f).clock=f.clock
 |0,_,f=>rfl
 |n+1,p,f=>by
  unfold Fx.turns;split
  ·split
   ·exact(LQ n _ _).trans (TU f)
   ·exact(LQ n _ _).trans (TU f)
  ·rfl
def Fx.Rest.early(h:f.Rest)(hc:f.clock<1073741824):f.early.goes.uI:=by
 obtain⟨l,n,K,a,d⟩:=h.core.early.goes;have b:=Bc f;have s:=h.core.jh;have t:=h.core.g.wk;have o:=h.bU;have p:=h.log;have q:=h.C;have r:=h.acc;have c:f.early.goes.clock=f.clock+1:=by rw[d,b]
 have i:f.early.goes.bU=f.bU:=by rw[d,b]
 have j:f.early.goes.log=f.log:=by rw[d,b]
 have k:f.early.goes.C=f.C:=by rw[d,b]
 have e:f.early.goes.fl=f.fl:=by rw[d,b]
 have m:f.early.acc=f.acc:=by rw[b]
 exact⟨l,by rw[c];omega,by rw[c,i];omega,by rw[c,j,e];omega,by rw[c,k,e];omega,by rw[c];omega⟩
def Fx.Rest.ok(h:f.Rest)(hc:f.clock<1073741824):f.NO Fx.uI:=by
 have c:=h.core.g;have u:=h.core.small;have q:=h.core.clock;have a:=h.core.early;have r:=c.qu;have t:=c.rt;have p:=c.bu;have n:=h.core.acc;have o:=h.acc;have d:f.early.acc=f.acc:=by rw[Bc]
 refine⟨ak,ak,ak,ak,λs k b=>?_,λs k b=>?_,λs k b=>?_,by rw[d];omega,by have:=a.small;omega,h.early hc⟩
 ·have:=(h.core.cl s k b).1.tok;omega
 ·obtain⟨j,v,l⟩:=a.cl s k b;exact j.Iy a.g (by rw[l];exact a.prom s)
 ·have e:=(a.readAll.cl s k b).1.len;have m:=a.g.qu;have i:f.early.readAll.g=f.early.g:=rfl;rw[i]at e;omega
def Fx.uI.trn(h:f.uI):f.qI:=by have a:=h.bU;have b:=h.log;have c:=h.C;exact⟨h.core,h.clock,ak,ak,ak,h.acc⟩
def Fx.qI.rest(h:f.qI):f.Rest:=by have a:=h.bU;have b:=h.core.jh;have c:=h.core.g.wk;exact⟨h.core,ak,h.log,h.C,h.acc⟩
def aeA(h:f.Rest)(b:f.early.goes.ends.takes.qI):f.tick.Rest/\f.tick.clock=f.clock+1:=by
 obtain⟨e,g,K,a,d⟩:=h.core.early.goes;have c:f.early.goes.clock=f.clock+1:=by rw[d,Bc]
 refine⟨b.rest.dg _,?_⟩;show(f.early.goes.ends.takes.dg _).clock=_;rw[(b.core.dg _).2.1];show(Fx.turns _ _ (Fx.fin _ f.early.goes)).clock=_;rw[LQ,Pj,c]
end
end
section
open Go.Conc
open Go.Proofs.Tryz
def mD:aB bN:=[66,36,37,33,34,20,59,60,100,102,62,63,64,304,81,111,71,72,73,68,74,69,70,54,96,151,152,153,103,104,105,106,77,107,108,109,119,120,115,112,116,117,113,114,188,189,75,192,193,159,160,161,162,163,164,165,166,167,168,169,172,171,170,78,201,225,190,191,202,232,233,195,196,197,198,199,200,203,204,205,206,207,208,209,210,211,212,226,228,229,230,231,237,238,224,234,235,236,239,240,241,242,243,244,245,227,260,261,262,263,264,265,266,267,268,269,270,273,274,275,276,277,278,279,280,281,282,284,285,286,287,28,21,29,67,30,31,41,25,76,43,42]
def rX:aB bN:=[61,26,98,12,13,15]
def agd:Md prog=aq:=aS
def okP:mD.all (okF prog mD)=aq:=aS
def G5:rX.all (knF prog)=aq:=aS
def Bh(d:Nat)(t:Nat->aY Obj):@Fit (qQ prog mD rX d t) prog mD:=Zb agd okP G5
def ZY(d:Nat)(t:Nat->aY Obj):@AT (qQ prog mD rX d t) mD:=by
 letI:aP:=qQ prog mD rX d t
 exact⟨Bh d t,aS,((Bh d t).ok _).2 aS,((Bh d t).ok _).2 aS,aD aS,aS,aS,aS,aS⟩
end
section
open Go.Conc Go.RowKit
open Go.ConcR (Payload)
open Go.Proofs.Tryz
section
variable {f:Fx}
def Fx.Rest.put(h:f.Rest){s k k'}(a:f.K[s]? =aa (aa k))(i:k'.In f.g f.clock)(b:k'.bK=k.bK)(c:k'.prom=k.prom)(d:k'.no=k.no)(e:k'.de=k.de):(f.at s k').Rest:=by refine⟨h.core.put a i b c d (by rw[e];exact h.core.de s k a) λt x _ j=>h.core.de t x j,h.bU,h.log,h.C,h.acc⟩
def Fx.Rest.send(h:f.Rest){s k}(b:f.K[s]? =aa (aa k))(x):(f.send s k x).1.Rest:=by
 unfold Fx.send;split
 ·exact h
 ·split
  ·exact h
  ·rename_i c d;have a:=(h.core.cl s k b).1;refine h.put b ⟨a.ph,a.wt,?_,a.q,a.len,a.out,a.tok,a.de,a.sv,a.us⟩ rfl rfl rfl rfl;show(k.bg++x).size<=1024;rw[qy];omega
def Fx.Rest.take(h:f.Rest){s k}(c:f.K[s]? =aa (aa k))(n):(f.at s (k.takes n)).Rest/\(f.take s k n).Rest:=by
 have b:=(h.core.cl s k c).1
 have a:(f.at s (k.takes n)).Rest:=by
  unfold Ck.takes;split
  ·exact h.put c b rfl rfl rfl rfl
  ·refine h.put c ⟨b.ph,b.wt,b.bg,b.q,b.len,?_,b.tok,b.de,b.sv,b.us⟩ rfl rfl rfl rfl;have:=b.out;show((k.take (k.much n)).out.size:Int)+k.prom<=f.g.ou
   have e:(k.take (k.much n)).out.size<=k.out.size:=by show(k.out.extract _ _).size<=_;rw[mI];omega
   omega
 exact⟨a,a.dg _⟩
def Zm{l s}(h:∀b∈l,b.s≠s):gB l s=0/\iO l s=0:=by
 induction l with
 |nil=>exact⟨rfl,rfl⟩
 |cons b l g=>
  obtain⟨c,d⟩:=g λx e=>h x (jG _ e);have a:=h b gG;refine⟨?_,?_⟩
  ·show(if b.s=s then(b.rs.length:Int)else 0)+gB l s=0;rw[aQ a,c];rfl
  ·show(if b.s=s then gP b.rs else 0)+iO l s=0;rw[aQ a,d];rfl
end
section
variable [aP] [alC] {l:aB bN} {u:az} {f:Fx} {xb:Nat} {L:dG}
def aJ.ticks(Z:rP)(h:aJ u f xb L)(G:AT l)(hR:f.Rest)(hc:f.clock<1073741824):
  eY prog 26 #[pt xb] u λe b=>e=aN (.tuple #[])/\(f.tick.Rest/\f.tick.clock=f.clock+1)/\∃a,aJ b f.tick xb a/\bG u L b a:=
 (h.Xr Z Fx.uI Fx.qI IU BY (λ_ h=>h.core.stay) G (hR.ok hc) (λh=>h.trn)).mono λ_ _ ⟨c,d,g⟩=>⟨c,aeA hR d,g⟩
end
end
section
open Go.Proofs.Tryz
section
variable {f:Fx}
def Fx.Rest.nV(h:f.Rest){j wt}(J:f.K[j]? =aa ay)(L:1<=wt/\wt<=4):(f.nV j wt).Rest:=by
 have m:=h.core.g;have O:=m.bu;have S:=m.qu;have R:=m.ou;have Q:=m.mx;have G:=h.core.clock;have P:=h.core.cH
 have H:∀b∈f.fl,b.s≠j:=λb E e=>by obtain⟨_,_,_,k,u⟩:=h.core.jb b E;rw[e,J]at u;cases u
 obtain⟨M,N⟩:=Zm H
 have I:(Ck.fresh f.cH wt f.g.bu).In f.g f.clock:=by
  refine⟨⟨kT 0,by show(0:Int)<=4;omega⟩,L,by show(0:Nat)<=1024;omega,λr hr=>(by cases hr),?_,?_,?_,kT 0,?_,⟨List.nodup_nil,λx a=>(by cases a)⟩⟩
  ·show((0:Nat):Int)<=f.g.qu;omega
  ·show((0:Nat):Int)+0<=f.g.ou;omega
  ·show 0<=f.g.bu/\f.g.bu<=32;omega
  ·show(0:Int)<=0/\0+32*f.g.bu<=1024*(f.clock+1);omega
 have l:∀(t:Nat) x,(f.K.set j (aa (Ck.fresh f.cH wt f.g.bu)))[t]? =aa (aa x)->(t=j/\x=Ck.fresh f.cH wt f.g.bu)\/(t≠j/\f.K[t]? =aa (aa x)):=λt x a=>zD a;refine⟨⟨m,?_,?_,λt x a=>?_,λt x a=>?_,λt x a=>?_,λt o x y a v e=>?_,λc F=>?_,h.core.sorted,h.core.nj,h.core.fresh,h.core.jh,G,h.core.B,h.core.bD,h.core.acc,by show 0<=f.cH+1;omega⟩,h.bU,h.log,h.C,h.acc⟩
 ·show((f.K.set j _).length:Int)=f.g.cl;rw[oo];exact h.core.len
 ·show f.aI<(f.K.set j _).length;rw[oo];exact h.core.aI
 ·show x.In f.g f.clock/\x.bK=gB f.fl t/\x.prom=iO f.fl t;rcases l t x a with⟨n,i⟩|⟨_,d⟩
  ·rw[n,i,M,N];exact⟨I,rfl,rfl⟩
  ·exact h.core.cl t x d
 ·rcases l t x a with⟨n,i⟩|⟨_,d⟩
  ·rw[i];show(0:Int)<=_;split<;>omega
  ·exact h.core.de t x d
 ·show 0<=x.no/\x.no<f.cH+1;rcases l t x a with⟨n,i⟩|⟨_,d⟩
  ·rw[i];show 0<=f.cH/\f.cH<f.cH+1;omega
  ·have:=h.core.mG t x d;omega
 ·rcases l t x a with⟨n,i⟩|⟨_,d⟩
  ·rcases l o y v with⟨D,q⟩|⟨_,p⟩
   ·omega
   ·have:=h.core.mG o y p;rw[i]at e;have A:f.cH=y.no:=e;omega
  ·rcases l o y v with⟨D,q⟩|⟨_,p⟩
   ·have:=h.core.mG t x d;rw[q]at e;have A:x.no=f.cH:=e;omega
   ·exact h.core.one t o x y d p e
 ·obtain⟨a1,w,a3,k,z⟩:=h.core.jb c F;exact⟨a1,w,a3,FN z⟩
def Fx.Core.is(h:f.Core){s k}(a:f.K[s]? =aa (aa k)):f.Is k.no s k:=⟨a,rfl,λt c b e=>h.one t s c k b a e⟩
end
def vJ:aY (aY Ck)->Nat
 |some (aa k)=>k.q.length
 |_=>0
abbrev Fx.ql(f:Fx)(s:Nat):Nat:=vJ f.K[s]?
def Fx.wait(f:Fx):Nat:=f.ql 0+f.ql 1+f.ql 2+f.ql 3+f.ql 4+f.ql 5+f.ql 6+f.ql 7
def iz(f f':Fx):Prop:=∀s,f'.ql s<=f.ql s
def nH(f f':Fx):Prop:=iz f f'/\∃s,s<8/\f'.ql s<f.ql s
section
variable {f f1 f':Fx} {s:Nat} {k k':Ck}
def iz.trans(h:iz f f1)(a:iz f1 f'):iz f f':=λs=>dm (a s) (h s)
def iz.refl(f):iz f f:=λ_=>bC _
def iz.then (h:iz f f1)(a:nH f1 f'):nH f f':=⟨h.trans a.1,by obtain⟨s,b,c⟩:=a.2;exact⟨s,b,dy c (h s)⟩⟩
def nH.then (h:nH f f1)(a:iz f1 f'):nH f f':=⟨h.1.trans a,by obtain⟨s,b,c⟩:=h.2;exact⟨s,b,Nat.lt_of_le_of_lt (a s) c⟩⟩
def iz.le(h:iz f f'):f'.wait<=f.wait:=by have:=h 0;have:=h 1;have:=h 2;have:=h 3;have:=h 4;have:=h 5;have:=h 6;have:=h 7;unfold Fx.wait;omega
def nH.lt(h:nH f f'):f'.wait<f.wait:=by obtain⟨h,s,a,b⟩:=h;have:=h 0;have:=h 1;have:=h 2;have:=h 3;have:=h 4;have:=h 5;have:=h 6;have:=h 7;unfold Fx.wait;have e:s=0\/s=1\/s=2\/s=3\/s=4\/s=5\/s=6\/s=7:=ak;rcases e with e|e|e|e|e|e|e|e<;>subst e<;>omega
def Be{o}(a:f'.K=f.K.set s o)(h:vJ (aa o)<=f.ql s):iz f f':=λt=>by
 show vJ f'.K[t]? <=_;rw[a,jF];split
 ·rename_i e;subst e;split
  ·exact h
  ·exact eo _
 ·exact bC _
def BJ(a:f.K[s]? =aa (aa k)):f.ql s=k.q.length:=by show vJ f.K[s]? =_;rw[a];rfl
def PN(f j):iz f (f.fZ j)/\(f.fZ j).fl=f.fl:=by
 unfold Fx.fZ;split
 ·split
  ·exact⟨Be rfl (eo _),rfl⟩
  ·exact⟨.refl f,rfl⟩
 ·exact⟨.refl f,rfl⟩
def Ez(f):∀n,iz f (f.dg n)/\(f.dg n).fl=f.fl
 |0=>⟨.refl f,rfl⟩
 |n+1=>by rw[xl];exact⟨(Ez f n).1.trans (PN _ n).1,(PN _ n).2.trans (Ez f n).2⟩
def Pk:∀(n:Nat) (f:Fx),f.uI->iz f (Fx.fin n f)/\(Fx.fin n f).uI/\(∀b∈(Fx.fin n f).fl,b∈f.fl)/\(f.fl.length<=n->∀b∈(Fx.fin n f).fl,f.clock<b.due)
 |0,f,h=>⟨.refl f,h,λ_ h=>h,λc b a=>by have g:b∈f.fl:=a;rw[wD.1 (Nat.le_zero.1 c)]at g;cases g⟩
 |n+1,f,h=>by
  unfold Fx.fin;split
  ·rename_i e;exact⟨.refl f,h,λ_ h=>h,λ_ b a=>by rw[e]at a;cases a⟩
  ·rename_i b r e;split
   ·rename_i i;obtain⟨⟨k,j,_⟩,_,o⟩:=IU.does f b r h e i;obtain⟨d,m,_⟩:=El {f with fl:=r} b;obtain⟨u,v,w,l⟩:=Pk n _ o;have t:=(h.core.jb b (by rw[e];exact gG)).1;have p:=(DL (({f with fl:=r}:Fx).dk.change b.rs b.ft).B b.ft (b.rs.take b.rs.length) k (by rw[uy];exact t.gd)).q;refine⟨iz.trans (Be (by rw[vh (f:={f with fl:=r}) j]) ?_) u,v,λx hx=>?_,λc x hx=>?_⟩
    ·show(k.answers _ _ _).q.length<=_;rw[p,BJ j];exact bC _
    ·have:=w x hx;rw[d]at this;rw[e];exact jG _ this
    ·rw[m]at l;exact l (by rw[d];rw[e]at c;exact Nat.le_of_succ_le_succ c) x hx
   ·rename_i i;refine⟨.refl f,h,λ_ h=>h,λ_ x hx=>?_⟩;rw[e]at hx;rcases kg.1 hx with rfl|hx
    ·omega
    ·have:=(IU.top f b r h e).1 x hx;unfold dU at this;simp at this;omega
def TV(h:f.Core):iz f f.bT.1/\(f.bT.2=aq->nH f f.bT.1):=by
 by_cases e:∃k,f.K[f.aI]? =aa (aa k)
 ·obtain⟨k,a⟩:=e;obtain⟨a1,p,a3,r,t,u,b⟩:=h.Gl a;have i:∀{k':Ck} {f':Fx},f'.K=(f.turned k).K.set f.aI (aa k')->k'.q.length<=k.q.length->iz f f':=λm o=>Be (m.trans (by show(f.K.set _ _).set _ _=_;rw[Aq])) (by rw[BJ a];exact o);rw[Cb a];split
  ·rename_i j;split
   ·rename_i l;have d:=Jp (s:=f.aI) (f:=f.turned k) h.g (f.bq k).next.q.length (f.bq k).next [(f.bq k).fst] (tJ.first h.g a1 (zh j) l)
    have n:=d.len;have v:((f.turned k).jO f.aI (f.bq k).next.q.length (f.bq k).next [(f.bq k).fst]).2.length≠0:=λe=>d.run.ne (wD.1 e);rw[b]at n;have c:iz f ((f.turned k).gI f.aI (f.bq k)):=i rfl ak;refine⟨c,λ_=>⟨c,f.aI,by have:=h.aI;have:=h.small;omega,?_⟩⟩;rw[BJ a];show vJ (((f.K.set f.aI _).set f.aI _)[f.aI]?)<_;rw[Aq,jF,aX rfl,aX h.aI];show List.length _<_;omega
   ·exact⟨Be rfl (by rw[BJ a,<-b];exact bC _),λh=>by cases h⟩
  ·exact⟨i rfl (by rw[<-b];exact bC _),λh=>by cases h⟩
 ·rw[Gp (λk a=>e ⟨k,a⟩)];exact⟨.refl f,λh=>by cases h⟩
def Gn:∀(n p:Nat) (f:Fx),f.qI->iz f (Fx.turns n p f)/\(nH f (Fx.turns n p f)\/(Fx.turns n p f).fl=f.fl)
 |0,p,f,h=>⟨.refl f,aD rfl⟩
 |n+1,p,f,h=>by
  obtain⟨d,j⟩:=TV h.core;unfold Fx.turns;split
  ·rename_i e;split
   ·rename_i a;have b:=(j a).then (Gn n 0 _ (BY.used f h e.1 a)).1;exact⟨b.1,aF b⟩
   ·rename_i a;have c:f.bT.2=av:=by simpa using a
    obtain⟨g,i⟩:=Gn n (p+1) _ (BY.pass f h c);exact⟨d.trans g,i.imp (λx=>d.then x) λx=>x.trans ((zP f).2.2.2.2 c)⟩
  ·exact⟨.refl f,aD rfl⟩
def PG(j:f'.g=f.g)(hf:f'.fl=f.fl)(i:f'.K.map (wH Ck.lose)=f.K.map (wH Ck.lose))(c:k'.lose=k.lose):f'.free k'=f.free k:=by
 have d:k'.fc f.g=k.fc f.g:=show k'.lose.fc f.g=k.lose.fc f.g by rw[c]
 have e:k'.fst=k.fst:=show k'.lose.fst=k.lose.fst by rw[c]
 unfold Fx.free Fx.held;rw[j,hf,d,e]
 have b:∀(a:aY Ck->Bool) (K:aB (aY Ck)),(∀o,a (o.map Ck.lose)=a o)->K.any a=(K.map (wH Ck.lose)).any a:=λa K h=>by
  rw[List.any_map]
  congr 1
  funext o
  exact(h o).symm
 rw[b _ f'.K,b _ f.K,i]
 all_goals exact λo=>by cases o<;>rfl
def Kc(a:f.K[s]? =aa (aa k))(h:k'.lose=k.lose):(f.K.set s (aa k')).map (wH Ck.lose)=f.K.map (wH Ck.lose):=by rw[CQ];exact xJ (by rw[iT,a];exact dX (λx=>aa (aa x)) h.symm)
def Gm(f:Fx)(k):(f.bq k).lose=k.lose:=by unfold Fx.bq;split<;>rfl
def aeX(b:f.bT.2=av):f.bT.1.K.map (wH Ck.lose)=f.K.map (wH Ck.lose):=by
 by_cases e:∃k,f.K[f.aI]? =aa (aa k)
 ·obtain⟨k,a⟩:=e;rw[Cb a]at b⊢;split at b
  ·rename_i c;rw[aX c];split at b
   ·cases b
   ·rename_i d;rw[aQ d];exact Kc a (Gm f k)
  ·rename_i c;rw[aQ c];show((f.K.set _ _).set _ _).map _=_;rw[Aq];exact Kc a (Gm f k)
 ·rw[Gp (λk a=>e ⟨k,a⟩)]
def LR(s:Nat):∀(d n p:Nat) (f:Fx),f.qI->f.fl=[]->(∃k,f.K[s]? =aa (aa k)/\f.free k=aq)->(f.aI+d)%f.K.length=s->(d=0->f.opn=av)->(p:Int)+d<=f.g.cl->d<n->nH f (Fx.turns n p f)
 |d,0,p,f,_,_,_,_,_,_,I=>by omega
 |d,n+1,p,f,h,w,⟨k,a,i⟩,y,J,V,I=>by
  obtain⟨P,Q⟩:=TV h.core;have X:=h.core.g.wk;have z:(f.fl.length:Int)<f.g.wk:=by rw[w];show((0:Nat):Int)<_;omega
  unfold Fx.turns;rw[aX ⟨z,ak⟩];split
  ·rename_i b;exact(Q b).then (Gn n 0 _ (BY.used f h z b)).1
  ·rename_i b;have c:f.bT.2=av:=by simpa using b
   obtain⟨A,N,O,_,B⟩:=zP f;have x:=aeX c;cases d with
   |zero=>
    exfalso;apply b;have M:f.aI=s:=by rw[<-y,CZ,MN h.core.aI]
    rw[<-M]at a;have j:=(h.core.cl _ k a).1
    have G:(f.turned k).free (f.bq k)=aq:=by rw[<-i];exact PG rfl rfl (Kc a (Gm f k)) (Gm f k)
    obtain⟨r,l,L,H,_⟩:=vL (zh i);have R:=(j.q r (by rw[L];exact gG)).cost h.core.g;have W:=h.core.g.qn;have U:=h.core.g.mx;have S:=j.de;have Y:=j.wt
    have T:f.g.qn<=k.wt*f.g.qn:=by have D:k.wt=1\/k.wt=2\/k.wt=3\/k.wt=4:=ak;rcases D with e|e|e|e<;>rw[e]<;>omega
    have t:f.bq k=k.open f.g:=by unfold Fx.bq;rw[J rfl];rfl
    have C:(f.bq k).fst=r:=by rw[t];exact H
    rw[Cb a,aX G,aX];rw[C,t];show cW r.m<=k.de+k.wt*f.g.qn;omega
   |succ d=>
    refine P.then (LR s d n (p+1) f.bT.1.pass (BY.pass f h c) ((B c).trans w) ?_ ?_ (λ_=>rfl) (by show((p+1:Nat):Int)+d<=f.bT.1.g.cl;rw[A];omega) ak)
    ·have u:(f.bT.1.K.map (wH Ck.lose))[s]? =aa (aa k.lose):=by rw[x,iT,a];rfl
     rw[iT,eI]at u;obtain⟨o,E,v⟩:=u;rw[eI]at v;obtain⟨k',rfl,F⟩:=v;exact⟨k',E,by rw[<-i];exact PG A (B c) x F⟩
    ·show((f.bT.1.aI+1)%f.bT.1.K.length+d)%f.bT.1.K.length=s;rw[N,O,Nat.mod_add_mod,<-y]
     congr 1
     omega
def Rb:∀(l:aB (aY Ck)) (k:Ck),aa k∈l->k.q≠[]->∃k,aa k∈l/\k.q≠[]/\∀k',aa k'∈l->k'.q≠[]->k.fst.no<=k'.fst.no
 |o::l,k,hk,h=>by
  by_cases b:∃x,aa x∈l/\x.q≠[]
  ·obtain⟨x,n,p⟩:=b;obtain⟨y,i,j,d⟩:=Rb l x n p
   by_cases g:∃z,o=aa z/\z.q≠[]/\z.fst.no<y.fst.no
   ·obtain⟨z,rfl,r,t⟩:=g;refine⟨z,gG,r,λk' hk' a=>?_⟩;rcases kg.1 hk' with e|hk'
    ·cases e;exact kT _
    ·have:=d k' hk' a;omega
   ·refine⟨y,jG _ i,j,λk' hk' a=>?_⟩;rcases kg.1 hk' with e|hk'
    ·exact Int.not_lt.1 λm=>g ⟨k',e.symm,a,m⟩
    ·exact d k' hk' a
  ·refine⟨k,hk,h,λk' hk' a=>?_⟩;rcases kg.1 hk with e|hk
   ·rcases kg.1 hk' with c|hk'
    ·rw[<-e]at c;cases c;exact kT _
    ·exact absurd ⟨k',hk',a⟩ b
   ·exact absurd ⟨k,hk,h⟩ b
def aew(h:f.qI)(a:f.fl=[])(hr:∀k,aa k∈f.K->k.q≠[]->k.fc f.g=aq)(t:aa k∈f.K)(b:k.q≠[]):nH f f.takes:=by
 obtain⟨k,d,n,p⟩:=Rb _ _ t b;obtain⟨s,c⟩:=oq.1 d;have j:=(eL.1 c).1;have z:=h.core.aI;have y:=h.core.len;have A:=h.core.g.wk
 have i:f.free k=aq:=by
  unfold Fx.free;rw[hr k d n]
  have:f.held k.fst=av:=by
   unfold Fx.held;rw[a];simp;intro o u;cases o with
   |none=>simp
   |some x=>
    cases m:x.fc f.g with
    |false=>simp[m]
    |true=>
     obtain⟨r,l,b,_⟩:=vL m;have:=p x u (by rw[b];simp);simp;omega
  rw[this];rfl
 have w:f.K.length+1<f.fuel 0:=by
  unfold Fx.fuel;rw[a];have e:f.g.wk.toNat-([]:aB Jb).length=(f.g.wk.toNat-1)+1:=by show f.g.wk.toNat-0=_;omega
  rw[e,gK];have:=eo ((f.g.wk.toNat-1) *(f.g.cl.toNat+2));omega
 by_cases v:f.aI<s
 ·exact LR s (s-f.aI) _ 0 f h a ⟨k,c,i⟩ (by rw[show f.aI+(s-f.aI)=s by omega];exact MN j) (λe=>by omega) ak ak
 ·exact LR s (s+f.K.length-f.aI) _ 0 f h a ⟨k,c,i⟩ (by rw[show f.aI+(s+f.K.length-f.aI)=s+f.K.length by omega,Nat.add_mod_right];exact MN j) (λe=>by omega) ak ak
def aeB(h:f.Rest)(hc:f.clock<1073741824)(L:f.stop=aq):iz f f.tick/\(nH f f.tick\/∀b∈f.tick.fl,b∈f.fl/\f.clock+1<b.due)/\(f.fl=[]->(∀k,aa k∈f.K->k.out.size=0)->(∃k,aa k∈f.K/\k.q≠[])->nH f f.tick):=by
 have j:=h.early hc;have a:=Bc f;have y:f.early.goes=f.early:=by unfold Fx.goes;rw[aX (by rw[a];exact L)]
 rw[y]at j;obtain⟨b1,c,C,D⟩:=Pk f.early.fl.length f.early j;obtain⟨E,F⟩:=Gn (f.early.ends.fuel 0) 0 f.early.ends c.trn;obtain⟨d1,d2⟩:=Ez f.early.ends.takes f.early.ends.takes.K.length;have M:f.tick=f.early.ends.takes.lets:=by unfold Fx.tick;rw[y]
 have a1:iz f f.early:=λs=>by
  show vJ f.early.K[s]? <=_;rw[a,iT];show _<=vJ f.K[s]?;cases f.K[s]? with
  |none=>exact bC _
  |some o=>cases o<;>exact bC _
 have d:f.early.fl=f.fl:=by rw[a]
 have O:f.early.clock=f.clock+1:=by rw[a]
 rw[M];refine⟨a1.trans (b1.trans (E.trans d1)),F.imp (λx=>a1.then (b1.then (x.then d1))) λx b G=>?_,λn J ⟨k,p,t⟩=>?_⟩
 ·have w:b∈f.early.ends.fl:=by
   have:b∈(f.early.ends.takes.dg _).fl:=G;rw[d2]at this;exact x▸this
  have:=D (bC _) b w;exact⟨d▸C b w,ak⟩
 ·have H:f.early.ends=f.early:=by unfold Fx.ends;rw[d,n];rfl
  rw[H]at d1⊢;have c:=j
  have hrd:∀k,aa k∈f.early.K->k.q≠[]->k.fc f.early.g=aq:=λk p t=>by
   obtain⟨s,i⟩:=oq.1 p;obtain⟨N,Y,B⟩:=c.core.cl s k i;rw[d,n]at B;have A:=i;rw[a]at A;obtain⟨u,z,v⟩:=map_some A;have R:=c.core.g.ou;have U:=h.core.g.rt;have P:=h.core.g.bu;have V:=(h.core.cl s u z).1.tok;cases e:k.q with
   |nil=>exact absurd e t
   |cons r l=>
    have hr:=N.q r (by rw[e];exact gG);have Q:=hr.of;have X:sizeOf' r.m<=f.early.g.mx+4:=by unfold sizeOf';split<;>omega
    have S:k.out.size=0:=by rw[v];exact(J u (gS z))
    have T:k.prom=0:=B;have W:0<k.tok:=by rw[v];show 0<min (u.tok+f.g.rt) f.g.bu;omega
    unfold Ck.fc;rw[e];simp;omega
  obtain⟨s,i⟩:=oq.1 p;have I:aa (k.lP f.g)∈f.early.K:=by rw[a];exact gS (Lo i)
  exact a1.then ((aew c.trn (by rw[d];exact n) hrd I t).then d1)
def Fx.dZ(f:Fx)(m j:Nat):Prop:=f.wait<=m/\(∀b∈f.fl,b.due+1<=f.clock+j)/\(f.fl≠[]->1<=j)
def Fx.done(f:Fx):Bool:=f.stop&&(f.fl.isEmpty&&f.K.all λo=>match o with
 |none=>aq
 |some k=>k.q.isEmpty)
def P1{m j}(h:f.Rest)(hc:f.clock<1073741824)(q:f.stop=aq)(hR:f.tick.Rest/\f.tick.clock=f.clock+1)(g:f.done=av)(v:f.dZ m j)(ho:18<=j\/∀k,aa k∈f.K->k.out.size=0):∃d c,f.tick.dZ d c/\18*d+c+1<=18*m+j:=by
 obtain⟨t1,t2,t3⟩:=aeB h hc q;obtain⟨t,u,z⟩:=v;have n:∀b∈f.tick.fl,b.due+1<=f.tick.clock+(17:Nat):=λb a=>by have:=hR.1.core.fresh b a;omega
 have r:nH f f.tick->∃d c,f.tick.dZ d c/\18*d+c+1<=18*m+j:=λx=>by have:=x.lt;exact⟨m-1,17,⟨ak,n,λ_=>by omega⟩,ak⟩
 rcases ho with ho|ho
 ·exact⟨m,17,⟨dm t1.le t,n,λ_=>by omega⟩,ak⟩
 rcases t2 with x|x
 ·exact r x
 ·by_cases i:f.fl=[]
  ·refine r (t3 i ho ?_);unfold Fx.done at g;rw[q,i]at g;simp at g;obtain⟨o,y,p⟩:=g;cases o with
   |none=>simp at p
   |some k=>exact⟨k,y,by simpa using p⟩
  ·have:=z i;refine⟨m,j-1,⟨dm t1.le t,λb a=>?_,λw=>?_⟩,ak⟩
   ·have:=u b (x b a).1;rw[hR.2];omega
   ·obtain⟨b,l,e⟩:=List.exists_cons_of_ne_nil w;have a:b∈f.tick.fl:=by rw[e];exact gG
    have:=u b (x b a).1;have:=(x b a).2;omega
end
end
section
attribute [local go_sem] Oper.semAt_some
attribute [local go_sem] bP bF
open Go.Conc Go.RowKit Go.Shelf
open Go.Proofs.Tryz
def uH(w:az)(p:Nat->Bool)(e:Bool)(pre:aB Nat)(W:az):Prop:=
 aL w W/\W.heap[w.heap.size]? =aa (aA #[.bool av] 4 (0,0))/\pre.any p=e/\w.heap.size+1<=W.heap.size
def uH.bears{w p e B}(j:w.heap.size+1<=B):Bears (λx=>False\/x=B+1) (uH w p e):=by
 rintro pre W i row ⟨b,d,f,g⟩ a hr;have c:∀x,row=aa x->x=B+1:=λx e=>by rcases hr x e with h|h;cases h;exact h
 exact⟨b.grown a b.size (λk e=>by have:=c k e;omega),lN d a (λe=>by have:=c _ e;omega),f,dm g a.size⟩
abbrev dnA(xb B c:Nat):Act:=
 {tmps:=#[jp xb,au,jp B,jp c,au,au,jp xb,jp xb,.pointer (aa (aj xb 14)),.bool aq,.bool av,.bool av,jp xb,jp xb,.pointer (aa (aj xb 18)),an 0,.bool av,.bool av,jp xb,.func (.func 96) #[] #[jp (B+1)],jp c,au,au,au,au,au,au],defers:=[]}
abbrev dnW(w:az)(xb:Nat):az:=(w.alloc (aA #[.bool av] 4)).alloc (aA #[jp xb] 36)
section
variable (xb sb N n:Nat) (cs:aB (aY Nat)) (st:Bool) (fr:Nat->Rq) (p:Nat->Bool) (w:az)
def Ym(f:w.cell? (aj xb 14)=aa (.bool st))(m:n<=65535)(c:∀W,aL w W->fu 77 #[.pointer (aa (aj xb 18))] W (an n))(h:st=av\/n≠0):
  bO 43 #[jp xb] w (.bool av):=by
 have a:aL w (w.alloc (aA #[.bool av] 4)):=bf;have k:=bR a f;have d:=c _ a;have o:xb<w.heap.size:=gH f;have q:¬xb=w.heap.size:=ak;have i:decide ((n:Int)>0)=decide (n≠0):=by rw[um];simp;omega
 have b:=aT a;have g:=aT d;clear c d a;cases st with
 |false=>
  go_enter func43,ntmps43;go_wp2;refine gO (v:=.bool av) (by simp[results,results43,go_sem]) rfl ⟨rfl,?_⟩;exact b.out
 |true=>
  have l:(n:Int)>0:=by have:=h.resolve_left aC;omega
  clear h i;go_enter func43,ntmps43;go_wp2_with (go_at_call 77;refine g.out.mono ?_;rintro e j ⟨rfl,h0⟩;subst j);refine gO (v:=.bool av) (by simp[results,results43,go_sem]) rfl ⟨rfl,?_⟩;exact b.out
def Yk(hS:qH w xb sb N cs)(J:w.cell? (aj xb 14)=aa (.bool aq))(G:∀W,aL w W->fu 77 #[.pointer (aa (aj xb 18))] W (an 0))(hF:∀c∈cE cs,∀W,aL w W->bO 78 #[jp c] W (.tuple #[.agg (aM (fr c)),.bool (p c)])):
  bO 43 #[jp xb] w (.bool !((cE cs).any p)):=by
 refine fP.1 (?_:CallsIn jW 3 prog _ _ w _);have E:xb<w.heap.size:=gH J;have vD:¬xb=w.heap.size:=ak;have b:aL w (w.alloc (aA #[.bool av] 4)):=bf;have bn:=bR b J;have Q:=aT (G _ b);have H:=aT hS;have T:=aT hF;clear G hS hF b;refine callsIn_of_wp_marks func43 rfl trivial ?_ rfl;simp only[ntmps43,iV,eT,iU,Nat.reduceAdd,Nat.reduceSub,sJ,sK,sW,sQ,pI,jY]
 gi_wp2_with (first|(refine⟨trivial,?_⟩;gi_at_call 77;refine(fP.2 Q.out).mono ?_;rintro e g ⟨rfl,h0⟩;subst g)|(refine⟨trivial,?_⟩;gi_at_call 59;refine(fP.2 (BO xb _)).mono ?_;rintro e g ⟨rfl,rfl⟩))
 have D:aL w (dnW w xb):=bf.alloc aC _;have aP:(dnW w xb).heap.size=w.heap.size+2:=aC;have X:(dnW w xb).heap[w.heap.size]? =aa (aA #[.bool av] 4 (0,0)):=fO (new1 rfl);have Y:(dnW w xb).heap[w.heap.size+1]? =aa (aA #[jp xb] 36 (0,0)):=new1 aC;show alG jW 3 prog _ _ _ (dnW w xb);generalize dnW w xb=j at*;have bB:sb<w.heap.size:=by obtain⟨o,ho⟩:=H.out.row;exact(bp.1 ho).1
 have af:uH w p av [] j:=⟨D,X,rfl,ak⟩
 refine xG (w:=j) rfl bJ (gf:=96) (lb:=#[jp (w.heap.size+1)]) rfl trivial (enters_of func96 aS rfl) (encs:=vP) (λ_=>rfl)
  (R:=λ_=>False) (Kp:=λA B=>B.heap[sb]? =A.heap[sb]?) (V:=λq=>∃r,cE cs=q++r) (S:=λq _=>q=cE cs) (Sp:=λpre _=>∃r,cE cs=pre++r)
  (λW L=>?seq) (λr h=>h.elim) (λh k=>k.trans h) (λW o=>fj ak) (λq W I row h _ _=>h) (λq W I row h _ _=>h)
  (uH w p av) (uH w p aq) (uH.bears ak) (uH.bears ak) af (λc a _=>a=dnA xb w.heap.size c) (λc a W I row h _ _=>h) ?assign ?body ?done ?stop
 case seq=>
  have aH:aL w W:=D.grown L D.size (λk e=>by cases e);have z:=H.out.old aH;exact BP 2 bJ (w.heap.size+1) xb sb N cs W (aG (lN Y L aC) rfl) z.sl z.len z.small z.at_
 case assign=>
  rintro l pre c W K d hv gh hK
  gi_wp2
  exact hK _ W ⟨rfl,rfl⟩ rfl d rfl
 case body=>
  rintro lp pre c a' W d rfl ⟨r,hv⟩ gh;have hc:c∈cE cs:=by rw[hv];simp
  have y:=aT (T.out c hc W d.1);have x:=aT d;have bA:w.heap.size+1<=W.heap.size:=d.2.2.2
  have u:Hid (∀V,aL W V->wW j.heap.size W V/\V.heap[sb]? =W.heap[sb]? /\uH w p (p c) (pre++[c]) V):=λV m=>by obtain⟨f,s,t,F⟩:=x.out;exact⟨⟨m.block _ ak,m.block _ ak⟩,m.block _ ak,f.trans (m.mono f.size),bV m s,by simp[t],dm F m.size⟩
  clear d;cases M:p c with
  |false=>
   rw[M]at y u
   gi_wp2_with (first|(refine⟨trivial,?_⟩;gi_at_call 78;refine(mJ lp (fP.2 y.out)).mono ?_;rintro e g ⟨rfl,b⟩)|(refine⟨trivial,?_⟩))
   exact u.out _ (b.alloc b.size _)
  |true=>
   rw[M]at y u
   gi_wp2_with (first|(refine⟨trivial,?_⟩;gi_at_call 78;refine(mJ lp (fP.2 y.out)).mono ?_;rintro e g ⟨rfl,b⟩;have EJ:=b.size;have EG:¬w.heap.size=g.heap.size:=ak;have d2:=bV b x.out.2.1;have bt:∀o,(g.alloc o).cell? (aj w.heap.size 0)=aa (.bool av):=λo=>aG (fO d2) rfl;have bw:∀o,(g.alloc o).frozen? (aj w.heap.size 0)=av:=λo=>bz (fO d2) 0)|(refine⟨trivial,?_⟩))
   obtain⟨⟨O,P⟩,j3,j4,j5,j6,j7⟩:=u.out _ (b.alloc b.size (aA (aM (fr c)) 134));rw[aP]at O P⊢;exact⟨⟨(bH ak).trans O,(bH ak).trans P⟩,(bH ak).trans j3,j4.setCell (p:=aj w.heap.size 0) (bC _) _,cz j5 0 _,j6,by simpa using j7⟩
 case stop=>
  rintro pre W ⟨r,hv⟩ E C;have U:=aT E;clear E
  gi_wp2
  obtain⟨f,s,t,F⟩:=U.out;have Bp:=aG (w:=W.putObj j.heap.size (.deferred ay)) ((fj ak).trans s) (i:=0) (v:=.bool av) rfl;refine⟨aC,aF ⟨_,_,rfl,wN C,.bool av,by simp[results,results43,go_sem,Bp],?_,f.grown (Dj _ _ _) f.size (λk e=>by cases e;omega)⟩⟩;rw[hv,List.any_append,t];rfl
 case done=>
  rintro q W rfl d C;have cR:=aO W w.heap.size 0 (.bool av) d.2.1;have fR:=bz d.2.1 0;have x:=aT d;clear d
  gi_wp2
  obtain⟨f,s,t,F⟩:=x.out;have Z:(W.setCell (aj w.heap.size 0) (.bool aq)).heap[j.heap.size]? =aa (.deferred (aa [])):=mV C ak _ _;have Bn:(W.setCell (aj w.heap.size 0) (.bool aq)).heap[w.heap.size]? =aa (aA #[.bool aq] 4 (0,0)):=cz s 0 _;refine⟨aC,aF ⟨_,_,rfl,wN Z,.bool aq,by simp[results,results43,go_sem,(aG (w:=(W.setCell (aj w.heap.size 0) (.bool aq)).putObj j.heap.size (.deferred ay)) ((fj ak).trans Bn) (i:=0) (v:=.bool aq) rfl)],by rw[t];rfl,?_⟩⟩;exact(f.setCell (p:=aj w.heap.size 0) (bC _) _).grown (Dj _ _ _) (by have:=f.size;simpa using this) (λk e=>by cases e;omega)
end
def ZE(w f xb L)(h:aJ w f xb L)(hf:f.K.length<=65535)(S:f.fl.length<=65535):bO 43 #[jp xb] w (.bool f.done):=by
 have z:=aO w xb 14 (.bool f.stop) h.box;have u:∀W,aL w W->fu 77 #[.pointer (aa (aj xb 18))] W (an f.fl.length):=λW C=>Qx xb 18 _ L.hv L.hf W (h.below C).Br
 by_cases hq:f.stop=av\/f.fl.length≠0
 ·have e:f.done=av:=by
   unfold Fx.done;rcases hq with hq|hq
   ·rw[hq];rfl
   ·cases e:f.fl with
    |nil=>rw[e]at hq;exact absurd rfl hq
    |cons b l=>simp
  rw[e];exact Ym xb _ _ w z S u hq
 ·have M:f.stop=aq:=by cases e:f.stop with|true=>rfl|false=>exact absurd (aF e) hq
  have I:f.fl=[]:=wD.1 (og λe=>hq (aD e));rw[M]at z;rw[I]at u
  obtain⟨F,E⟩:=Fh (λx (k:Ck)=>∃(s:Nat) (l:Lc),f.K[s]? =aa (aa k)/\L.cs[s]? =aa (aa l)/\l.c=x) ⟨0,0,0,⟨#[]⟩,[],0,0,⟨#[]⟩,0,0,0,[]⟩ (by rintro x a b ⟨s,l,d,g,m⟩ ⟨X,Z,G,O,P⟩;obtain⟨_,_,_,U⟩:=h.aI g;obtain⟨_,_,_,V⟩:=h.aI O;have A:=U.1;have B:=V.1;rw[m]at A;rw[P]at B;have:s=X:=ak;subst this;rw[d]at G;simpa using G)
  have hS:qH w xb L.sb f.K.length (L.cs.map λl=>l.map Lc.c):=⟨aG h.box rfl,by simp[h.cs.len],hf,λj v R=>aG h.dO (sA R),⟨_,h.dO⟩⟩;refine(Yk xb L.sb f.K.length _ (λx=>(F x).fst) (λx=>!(F x).q.isEmpty) w hS z u λc D W Q=>?_).mono ?_
  ·obtain⟨s,l,d,rfl⟩:=qj.1 D;obtain⟨k,g,m,_⟩:=h.aI d;rw[E l.c k ⟨s,l,g,d,rfl⟩];have H:=m.p.old Q;have y:=aO W l.c 13 l.q H.box;have hr:=H.row;cases e:k.q with
   |nil=>
    rw[e]at hr;obtain⟨a,Y,A,_⟩:=hr.form;rw[A]at y;simp only[Ck.fst,e];exact Je _ _ _ W y
   |cons r t=>
    rw[e]at hr;simp only[Ck.fst,e];exact Eu _ _ r t W y hr
  ·rintro e w' ⟨rfl,C⟩;refine⟨?_,C⟩
   have B:(cE (L.cs.map λl=>l.map Lc.c)).any (λx=>!(F x).q.isEmpty)=f.K.any λo=>match o with
     |none=>av
     |some k=>!k.q.isEmpty:=by
    rw[um,pF,pF];constructor
    ·rintro⟨c,D,i⟩;obtain⟨s,l,d,rfl⟩:=qj.1 D;obtain⟨k,g,m,_⟩:=h.aI d;refine⟨aa k,gS g,?_⟩;rw[E l.c k ⟨s,l,g,d,rfl⟩]at i;exact i
    ·rintro⟨o,T,i⟩;cases o with
     |none=>cases i
     |some k=>
      obtain⟨s,J⟩:=CK T;obtain⟨l,d,g,_⟩:=h.sat J;refine⟨l.c,qj.2 ⟨s,l,d,rfl⟩,?_⟩;rw[E l.c k ⟨s,l,J,d,rfl⟩];exact i
   rw[B];unfold Fx.done;rw[M,I,List.not_any_eq_all_not];simp only[List.isEmpty_nil,Bool.true_and]
   congr 3
   funext o
   cases o<;>simp
end
section
attribute [local go_sem ↓] Go.wp_at_zero Go.wp_at_succ
attribute [local go_sem] bP bF
open Go.Proofs.Tryz
open Go.RowKit
abbrev pq(n:Nat):aK UInt8:=sI n 0
def tY(n:Nat):aK aE:=(pq n).map bW
def J8(n):madeCells (Value.int .u8 0).cells n=tY n:=by apply xY;rw[show(Value.int .u8 0).cells=#[.int .u8 0] from rfl,toList_madeCells_one];simp[tY,pq]
def N7(n:Nat)(e:n<=65535)(W:az):(Instr.makeSlice 158 (an (n:Int)) (an (n:Int))).run prog W=.ok (.slice (aa (aj W.heap.size 0)) n n) (W.alloc (aA (tY n) 5)):=by obtain⟨d,a,b,c,f⟩:=aly infoByte;have h:=run_make W 158 5 d (.int .u8 0) underlying158 a b .i64 .i64 (n:Int) (n:Int) ak ak (by grind) ak;rw[c]at h;simp at h;rw[J8]at h;exact h
def yL(w w':az)(n d:Nat):Prop:=∃a b,dz w' d a b (.slice ay 0 0) n (pq n) (pq n) []/\w.heap.size<=d/\w.heap.size<=a/\w.heap.size<=b
def ON{w n b0 b1}(a:n<=65535)(h:(b0=w.heap.size/\b1=w.heap.size+1)\/(b1=w.heap.size/\b0=w.heap.size+1)):
  yL w ((((w.alloc (aA (tY n) 5)).alloc (aA (tY n) 5)).alloc (aA #[.slice (aa (aj b0 0)) n n,.slice (aa (aj b1 0)) n n,.slice ay 0 0] 161)).drew) n (w.heap.size+2):=by
 refine⟨b0,b1,⟨new1 aC,?_,?_,tD _ _ _ _,by simp[pq],aC,ak,ak⟩,ak,ak,ak⟩
 ·rcases h with h|h
  ·exact fO (fO (new1 h.1))
  ·exact fO (new1 (by simp;exact h.2))
 ·rcases h with h|h
  ·exact fO (new1 (by simp;exact h.2))
  ·exact fO (fO (new1 h.1))
def Yh{w n}(a:n<=65535):yL w ((((w.alloc (aA (tY n) 5)).alloc (aA (tY n) 5)).alloc (aA #[.slice (aa (aj w.heap.size 0)) n n,.slice (aa (aj (w.heap.size+1) 0)) n n,.slice ay 0 0] 161)).drew) n (w.heap.size+2):=ON a (aF ⟨rfl,rfl⟩)
def Yi{w n}(a:n<=65535):yL w ((((w.alloc (aA (tY n) 5)).alloc (aA (tY n) 5)).alloc (aA #[.slice (aa (aj (w.heap.size+1) 0)) n n,.slice (aa (aj w.heap.size 0)) n n,.slice ay 0 0] 161)).drew) n (w.heap.size+2):=ON a (aD ⟨rfl,rfl⟩)
def OL(n:Nat)(c:n<=65535)(w:az):
  Calls prog 111 #[an (n:Int)] w λe d=>∃b,e=aN (aR b)/\aL w d/\yL w d n b:=by
 have m:=N7 n c;go_enter func111,ntmps111
 go_upto_region 1 with fail
 refine eD (S:=λ_=>True) trivial λl=>?_;refine tk 0 ?_;refine tk 2 ?_;refine aH [1,3] (.cons rfl (λK a=>?_) ?_)
 ·go_simp;refine a.out _ _ (trivial) (λf=>?_);clear a K;refine rH 3 λK a=>?_;go_simp;refine a.out _ _ (trivial) (λg=>?_);clear a K;refine tk 4 ?_;refine rH 5 λK a=>?_;go_simp;refine a.out _ _ (trivial) (λh=>?_);clear a K;refine tk 6 ?_;refine dc ?_
  (go_wp2_with fail;go_ret;exact⟨_,rfl,((bf.alloc aC _).alloc bY _).drew,Yh c⟩)
 refine .cons rfl (λK a=>?_) .nil;go_simp;refine a.out _ _ (trivial) (λi=>?_);clear a K;refine rH 1 λK a=>?_;go_simp;refine a.out _ _ (trivial) (λj=>?_);clear a K;refine tk 4 ?_;refine rH 5 λK a=>?_;go_simp;refine a.out _ _ (trivial) (λk=>?_);clear a K;refine tk 6 ?_;refine dc ?_
 (go_wp2_with fail;go_ret;exact⟨_,rfl,((bf.alloc aC _).alloc bY _).drew,Yi c⟩)
def It(w:az)(a N:Nat)(l i k rt h m j:Int)(e:Ending)(w':az):Prop:=
 ∃c b d f g,e=aN (.tuple #[aR c,an 0])/\VU w' c a N l i k rt h m j b N 0 0 av 0 (aa (aj d 0))/\wU w' b (nG N ay)/\dz w' d f g (.slice ay 0 0) a (pq a) (pq a) []/\aL w w'/\w.heap.size<=c/\w.heap.size<=b/\w.heap.size<=d/\w.heap.size<=f/\w.heap.size<=g
def dz.old{W W' d bb db n B D}(h:dz W d bb db (.slice ay 0 0) n B D [])(a:∀(b:Nat) (x:Obj),W.heap[b]? =aa x->W'.heap[b]? =aa x):dz W' d bb db (.slice ay 0 0) n B D []:=
 ⟨a _ _ h.box,a _ _ h.bytes,a _ _ h.fM,tD _ _ _ _,h.sizes,h.fits,h.apart,h.small⟩
def Q2{w w1 w2 S0 N b qu mx qn rt bu wk ou}(c:aL w w1)(d:Below (w1.alloc (aA (nT (nG N ay)) 119)).drew.heap.size (w1.alloc (aA (nT (nG N ay)) 119)).drew w2)(k:yL (w1.alloc (aA (nT (nG N ay)) 119)).drew w2 S0 b):
  It w S0 N qu mx qn rt bu wk ou (aN (.tuple #[aR w2.heap.size,an 0])) (w2.alloc (aA (feL S0 N qu mx qn rt bu wk ou w1.heap.size N 0 0 av 0 (aa (aj b 0))) 112)):=by
 have f:=c.size;have a:=((c.alloc f _).drew).trans (d.mono bY);obtain⟨g,i,j,l,m,n⟩:=k;have e:(w1.alloc (aA (nT (nG N ay)) 119)).drew.heap.size=w1.heap.size+1:=aC;exact⟨w2.heap.size,w1.heap.size,b,g,i,rfl,new1 rfl,fO (bV d (new1 rfl)),j.old λ_ _ h=>fO h,a.alloc a.size _,a.size,f,ak,ak,ak⟩
def Q3{w w1 w2 S0 N b qu mx qn rt bu wk ou}(a:aL w w1)(i:aL w1.drew w2)(k:yL w1.drew w2 S0 b):
  It w S0 N qu mx qn rt bu wk ou (aN (.tuple #[aR (w2.heap.size+1),an 0])) ((w2.alloc (aA (nT (nG N ay)) 119)).alloc (aA (feL S0 N qu mx qn rt bu wk ou w2.heap.size N 0 0 av 0 (aa (aj b 0))) 112)):=by
 have l:=a.size;have c:=(a.drew).trans (i.mono l);have d:=c.size;obtain⟨f,g,j,m,n,o⟩:=k;have e:w1.drew.heap.size=w1.heap.size:=rfl;exact⟨w2.heap.size+1,w2.heap.size,b,f,g,rfl,new1 aC,fO (new1 rfl),j.old λ_ _ h=>fO (fO h),(c.alloc d _).alloc bY _,ak,d,ak,ak,ak⟩
def Q4(c N:Nat)(j g i rt f k h:Int)(w:az)(r:c<=65535)(y:N<=65535)(hc:qN c N j g i rt f k h=aq):
  Calls prog 66 #[.agg (gn c N j g i rt f k h)] w (It w c N j g i rt f k h):=by
 have C:=N9 N y;go_enter func66,ntmps66
 go_upto_region 4 with(go_at_call 81;refine(Xy c N j g i rt f k h _).mono ?_;rw[hc];rintro e s ⟨rfl,m⟩)
 have p:aL w s:=bf.trans (m.mono aC);have d:s.heap[w.heap.size]? =aa (aA (gn c N j g i rt f k h) 35 (0,0)):=(m.block _ aC).trans (cw w _);have o:=aT p;clear m p;refine eD (S:=iy w.heap.size c N j g i rt f k h) ⟨aG d rfl,aG d rfl,aG d rfl,aG d rfl,aG d rfl,aG d rfl,aG d rfl,aG d rfl,aG d rfl⟩ λq=>?_;refine tk 0 ?_;refine tk 1 ?_;refine tk 2 ?_;refine tk 4 ?_;refine tk 5 ?_;refine aH [3,6] (.cons rfl (λK a=>?_) ?_)
 ·go_simp;refine a.out _ _ (iy.a1 q) (λt=>?_);clear a K;refine rH 6 λK a=>?_;go_simp
  (refine(OL c r _).mono ?_;rintro e z ⟨b,rfl,l,n⟩)
  go_wp2_with fail;refine a.out _ _ (iy.later t l) (λu=>?_);clear a K;refine tk 7 ?_;refine rH 8 λK a=>?_;go_simp;refine a.out _ _ (iy.a1 u) (λA=>?_);clear a K;refine tk 9 ?_;refine tk 10 ?_;refine dc ?_
  (go_wp2_with fail;go_ret2;exact Q2 o.out l n)
 refine .cons rfl (λK a=>?_) .nil;go_simp
 (refine(OL c r _).mono ?_;rintro e z ⟨b,rfl,l,n⟩)
 go_wp2_with fail;refine a.out _ _ (iy.later q l) (λv=>?_);clear a K;refine rH 3 λK a=>?_;go_simp;refine a.out _ _ (iy.a1 v) (λx=>?_);clear a K;refine tk 7 ?_;refine rH 8 λK a=>?_;go_simp;refine a.out _ _ (iy.a1 x) (λB=>?_);clear a K;refine tk 9 ?_;refine tk 10 ?_;refine dc ?_
 (go_wp2_with fail;go_ret2;exact Q3 o.out l n)
end
section
attribute [local go_sem ↓] Go.wp_at_zero Go.wp_at_succ
attribute [local go_sem] bP bF
open Go.Conc Go.RowKit
open Go.Proofs.Tryz
def Fx.vk(f:Fx)(t:Ft):Fx:={f with bD:=f.bD++[t]}
def F2:(prog.info? 188).map (λi=>(i.zero,i.size,i.bytes))=aa (aa (.agg #[an 0,.bool av,an 0]),3,24):=aS
def YO{w w3 f xb g cap L t o}(h:aJ w f xb L)(s:w3.ownsRow 0 188 3 (.slice (aa (aj g 0)) (f.bD.length+1) cap) (f.bD.length+1) ((f.bD.flatMap λt=>(dL t).toList)++(dL t).toList))(i:(w.alloc o).grownBy w3 L.fv.ownBlock)(q:L.fv.ownBlock=aa g\/g=w.heap.size+1):
  w3.heap[xb]? =aa (aA (jN f L) 112 (0,0))/\∃k,aJ (w3.setCell (aj xb 17) (.slice (aa (aj g 0)) (f.bD.length+1) cap)) (f.vk t) xb k/\bG w L (w3.setCell (aj xb 17) (.slice (aa (aj g 0)) (f.bD.length+1) cap)) k:=by
 have c:aL w (w.alloc o):=bf;have j:aV (λb=>aa b=L.fv.ownBlock) w w3:=⟨i.os.trans c.os,dm c.size i.size,λb d l=>(i.block b (dy d c.size) l).trans (c.block b d)⟩;have m:∀b,b<w.heap.size->aa b=L.fv.ownBlock->L.own b=4:=λb _ e=>h.jw b e.symm
 have p:=vX j h.box λe=>by have d:=h.jw xb e.symm;have l:=h.ey;omega
 refine⟨p,_,h.eJ (cj:=gu L.own w.heap.size 4) j m (by rw[rC];simpa using s) (λb a=>gM a) (λb e=>?_),⟨λb a=>gM a,(j.mono λb a e=>?_).set ?_ _⟩⟩
 ·have n:g=b:=by simpa[pN]using e
  subst n;rcases q with e|e
  ·have r:=nu h.bD g e;rw[gM r];exact h.jw g e
  ·exact tX ak
 ·have:=m b a e;show L.own b≠0;omega
 ·show L.own xb≠0;rw[h.ey];omega
def ZF(w f xb L)(h:aJ w f xb L)(t:Ft)(K:1<=t.delay/\t.delay<=16)(O:0<=t.part):Calls prog 76 #[jp xb,an t.delay,.bool t.dH,an t.part] w λe x=>∃i n,e=aN (an n)/\((n=6/\i=f)\/(n=0/\f.bD.length<64/\i=f.vk t))/\∃o,aJ x i xb o/\bG w L x o:=by
 obtain⟨G,C,D,E,F⟩:=aly F2;have u:iq t.delay 1 16=aq:=by simp[iq];omega
 have P:¬t.part<0:=ak;have hr:=h.bD;obtain⟨a,p,e⟩:=jS hr;have A:w.cell? (aj xb 17)=aa (.slice a f.bD.length p):=by rw[<-e];exact aG h.box rfl
 have Q:xb<w.heap.size:=gH A;have R:¬xb=w.heap.size:=ak;have l:=aT h;obtain⟨b,c,tp⟩:=t
 by_cases N:64<=f.bD.length
 ·have B:(f.bD.length:Int)≥64:=ak;go_enter func76,ntmps76;go_wp2_with (go_at_call 71;refine(vZ b 1 16 _).mono ?_;rw[u];rintro e j ⟨rfl,h0⟩;subst j);go_ret;exact⟨f,6,rfl,aF ⟨rfl,rfl⟩,L,l.out,bG.refl _ _⟩
 ·have B:¬(f.bD.length:Int)≥64:=ak;have z:Hid ((w.alloc (aA (dL ⟨b,c,tp⟩) 188)).ownsRow 0 188 3 (.slice a f.bD.length p) f.bD.length (f.bD.flatMap λt=>(dL t).toList)):=by rw[<-e];exact hr.alloc _
  have m:=aT e;have v:True:=trivial;go_enter func76,ntmps76
  go_wp2_with (first
   |(go_at_call 71;refine(vZ b 1 16 _).mono ?_;rw[u];rintro e j ⟨rfl,h0⟩;subst j)
   |(at_builtin;have _t:=v;refine VM _ (by rfl) _ _ 106 (by rfl) 0 188 G _ 3 24 underlying106 C D E F (by rfl) ak _ f.bD.length (f.bD.flatMap λt=>(dL t).toList) (by rfl) z.out ⟨w.heap.size,0,ay⟩ 1 1 (dL ⟨b,c,tp⟩).toList (by rfl) (by rfl) (Dg (cw w _)) (by simp[Vy]) ak (by unfold cY;omega) ak aC (w.heap.size+1) aC ?_;intro g J H s r q M;clear v;obtain⟨d,k⟩:=YO (t:=⟨b,c,tp⟩) l.out s (by rw[m.out];exact r) (by rw[m.out];exact q);have I:=aO H xb 17 L.fv d;have f3:=bz d 17;have y:=aT k;clear d k s r q))
  go_ret;exact⟨f.vk ⟨b,c,tp⟩,0,rfl,aD ⟨rfl,ak,rfl⟩,y.out⟩
def Fx.Rest.vk{f:Fx}(h:f.Rest){t}(d:f.bD.length<64)(a:1<=t.delay/\t.delay<=16)(b:0<=t.part/\t.part<=9223372036854775807):(f.vk t).Rest:=by
 have c:=h.core;refine⟨⟨c.g,c.len,c.aI,c.cl,c.de,c.mG,c.one,c.jb,c.sorted,c.nj,c.fresh,c.jh,c.clock,c.B,⟨?_,λx hx=>?_⟩,c.acc,c.cH⟩,h.bU,h.log,h.C,h.acc⟩
 ·show(f.bD++[t]).length<=_;rw[gR];show _+1<=_;omega
 ·rcases jZ.1 hx with hx|hx
  ·exact c.bD.2 x hx
  ·rw[lX.1 hx];exact⟨⟨ak,a.2⟩,b⟩
end
section
open Go.Proofs.Tryz
open Go.RowKit
abbrev mW(g:Cf):aK aE:=gn g.sz g.cl g.qu g.mx g.qn g.rt g.bu g.wk g.ou
def Fx.new(g:Cf):Fx:={g:=g,K:=nG g.cl.toNat ay,cH:=0,acc:=0,bU:=0,clock:=0,stop:=av,aI:=0,opn:=av,bD:=[],fl:=[],B:=pq g.sz.toNat,D:=pq g.sz.toNat,C:=[],log:=[]}
def Cf.Is.RM{g:Cf}(h:qN g.sz g.cl g.qu g.mx g.qn g.rt g.bu g.wk g.ou=aq):g.Is:=by unfold qN tP wZ at h;simp[iq,sC]at h;refine⟨?_,?_,?_,?_,?_,?_,?_,?_,?_⟩<;>omega
def FA{N s:Nat}{x:Ck}(h:(nG N (ay:aY Ck))[s]? =aa (aa x)):False:=by rw[CL]at h;split at h<;>cases h
def Fx.Rest.new{g:Cf}(h:g.Is):(Fx.new g).Rest:=by have e:=h.cl;have f:=h.sz;have i:=h.wk;exact⟨⟨h,by simp[Fx.new];omega,by simp[Fx.new];omega,λs k a=>(FA a).elim,λs k a=>(FA a).elim,λs k a=>(FA a).elim,λs t k j a=>(FA a).elim,λb c=>(by cases c),UT,UT,λb c=>(by cases c),by simp[Fx.new];omega,kT 0,by simp[Fx.new,pq];omega,⟨by simp[Fx.new],λt d=>(by cases d)⟩,kT 0,kT 0⟩,by simp[Fx.new],by simp[Fx.new],by simp[Fx.new],by simp[Fx.new]⟩
def rT{W:az}{a b t s:Nat}{x y:aK aE}(c:W.heap[a]? =aa (aA x t (0,0)))(d:W.heap[b]? =aa (aA y s (0,0)))(f:t≠s):a≠b:=λe=>by grind
def ZI(g)(h:qN g.sz g.cl g.qu g.mx g.qn g.rt g.bu g.wk g.ou=aq)(w):
  Calls prog 66 #[.agg (mW g)] w λe u=>∃m L,e=aN (.tuple #[jp m,an 0])/\aJ u (Fx.new g) m L/\(∀b,b<w.heap.size->L.own b=0)/\aL w u:=by
 have hI:=Cf.Is.RM h;have R:=hI.cl;have S:=hI.sz;obtain⟨k,hS⟩:∃n:Nat,g.sz=n:=⟨g.sz.toNat,ak⟩;obtain⟨N,v⟩:∃n:Nat,g.cl=n:=⟨g.cl.toNat,ak⟩;have C:g.sz.toNat=k:=ak;have D:g.cl.toNat=N:=ak;have E:=h;rw[hS,v]at E;rw[show mW g=gn k N g.qu g.mx g.qn g.rt g.bu g.wk g.ou from by unfold mW;rw[hS,v]];refine(Q4 k N g.qu g.mx g.qn g.rt g.bu g.wk g.ou w ak ak E).mono ?_;rintro e u ⟨m,q,d,r,o,rfl,p,hR,f,c,T,U,V,W,X⟩;have J:=rT p f.box bJ;have K:=rT p f.bytes bJ;have M:=rT p f.fM bJ;have O:=rT hR f.box bJ;have P:=rT hR f.bytes bJ;have Q:q≠o:=rT hR f.fM bJ;refine⟨m,⟨q,nG N ay,[],.slice ay 0 0,λ_=>0,λ_=>(0,0),.slice ay 0 0,.slice ay 0 0,d,r,o,.slice ay 0 0,λx=>if x=m then 1 else if x=q then 2 else if x=d\/x=r\/x=o then 6 else 0⟩,rfl,⟨?_,aC,?_,by simp[(rT p hR bJ).symm],⟨by simp[Fx.new,D],λs a b F c=>?_⟩,⟨rfl,λi b l c=>?_⟩,⟨tD _ _ _ _,λb c=>(by cases c),λx A=>absurd A (rM _),λi l H=>?_,λx y A=>absurd A (rM _),λi b l c=>?_,?_⟩,tD _ _ _ _,λb c=>(by cases c),tD _ _ _ _,λb c=>(by cases c),?_,⟨by simp[J.symm,O.symm],by simp[K.symm,P.symm],by simp[M.symm,Q.symm],λb c=>(by cases c)⟩⟩,λb c=>?_,c⟩
 ·rw[show jN (Fx.new g) _=feL k N g.qu g.mx g.qn g.rt g.bu g.wk g.ou q N 0 0 av 0 (aa (aj d 0)) from by simp[jN,feL,Fx.new,hS,v]];exact p
 ·rw[List.map_replicate];exact hR
 ·have t:(nG N (ay:aY Ck))[s]? =aa a:=by rw[<-D];exact F
  rw[CL]at t;have z:(nG N (ay:aY Lc))[s]? =aa b:=c;rw[CL]at z;split at t
  ·rename_i I;rw[aX I]at z;cases t;cases z;trivial
  ·cases t
 ·cases c
 ·cases H
 ·cases c
 ·exact λj h0 G=>absurd G (rM _)
 ·have:(Fx.new g).B.size=k:=by simp[Fx.new,pq,C]
  rw[this];show dz u d r o _ k (pq g.sz.toNat) (pq g.sz.toNat) [];rw[C];exact f
 ·have:b≠m/\b≠q/\b≠d/\b≠r/\b≠o:=⟨ak,ak,ak,ak,ak⟩;simp[this]
end
section
attribute [local go_sem ↓] Go.wp_at_zero Go.wp_at_succ
attribute [local go_sem] bP bF
open Go.Proofs.Tryz
open Go.RowKit
abbrev crL(g:Cf)(xb:Nat)(lv:aE):aK aE:=#[an g.sz,an g.cl,an g.qu,an g.mx,an g.qn,an g.rt,an g.bu,an g.wk,an g.ou,jp xb,lv,.slice ay 0 0,an 0,an 1,an 0]
abbrev VP(W:az)(a:Nat)(g:Cf)(xb:Nat)(lv:aE):Prop:=W.heap[a]? =aa (aA (crL g xb lv) 40 (0,0))
def VZ(g)(h:qN g.sz g.cl g.qu g.mx g.qn g.rt g.bu g.wk g.ou=aq)(w):
  Calls prog 30 #[.agg (mW g)] w λe l=>∃i f L,e=aN (jp i)/\VP l i g f (.slice ay 0 0)/\aJ l (Fx.new g) f L/\(∀b,b<w.heap.size->L.own b=0)/\L.own i=0/\w.heap.size<=i/\(∀b,l.heap.size<=b->L.own b=0)/\aL w l:=by
 have o:=aT h;clear h;go_enter func30,ntmps30;go_wp2_with (go_at_call 66;refine(ZI g o.out _).mono ?_;rintro e a ⟨f,L,rfl,hF,j,d⟩;have c:a.heap[w.heap.size]? =aa (aA (mW g) 35 (0,0)):=bV d (cw w _);have q:=aO a w.heap.size 0 (an g.sz) c;have r:=aO a w.heap.size 1 (an g.cl) c;have s:=aO a w.heap.size 2 (an g.qu) c;have t:=aO a w.heap.size 3 (an g.mx) c;have u:=aO a w.heap.size 4 (an g.qn) c;have v:=aO a w.heap.size 5 (an g.rt) c;have x:=aO a w.heap.size 6 (an g.bu) c;have y:=aO a w.heap.size 7 (an g.wk) c;have z:=aO a w.heap.size 8 (an g.ou) c;have p:Hid (aJ a (Fx.new g) f L/\(∀b,b<(w.alloc (aA (mW g) 35)).heap.size->L.own b=0)/\aL (w.alloc (aA (mW g) 35)) a):=⟨hF,j,d⟩;clear hF j d c);go_ret;obtain⟨hF,j,d⟩:=p.out;have m:aL w a:=bf.trans (d.mono aC);have n:=m.size;refine⟨a.heap.size,f,{L with own:=λb=>if b<a.heap.size then L.own b else 0},rfl,new1 rfl,(hF.owns _ λb k=>aX k).below ((Below.refl _ a).alloc (bC _) _),λb k=>?_,aQ (rL _),n,λb k=>aQ ?_,m.alloc n _⟩
 ·show(if b<a.heap.size then L.own b else 0)=0;rw[aX ak];exact j b bY
 ·simp at k;omega
end
section
attribute [local go_sem ↓] Go.wp_at_zero Go.wp_at_succ
attribute [local go_sem] bP bF Ep Er we
open Go.Conc Go.RowKit
open Go.Proofs.Tryz
structure Dw[aP](l:aB bN):Prop where
 fit:Fit prog l
 kR:aP.known 29
 kP:aP.known 21
 kC:aP.known 28
def aaJ[aP](x):results f29 x=results f29 (nD (fE 29) x):=by have h:(nD (fE 29) x).getD 4 au=x.getD 4 au:=zQ (L:=fE 29) (a:=⟨x,[]⟩) (i:=4) bJ;simp only[results,results29,CO,ux,Ap,h]
def aaI[aP](x):results f21 x=results f21 (nD (fE 21) x):=by have h:(nD (fE 21) x).getD 4 au=x.getD 4 au:=zQ (L:=fE 21) (a:=⟨x,[]⟩) (i:=4) bJ;simp only[results,results21,CO,ux,Ap,h]
def aaH[aP](x):results f28 x=results f28 (nD (fE 28) x):=by have h:(nD (fE 28) x).getD 2 au=x.getD 2 au:=zQ (L:=fE 28) (a:=⟨x,[]⟩) (i:=2) bJ;simp only[results,results28,CO,ux,Ap,h]
section
variable [aP] {u:az} {l:aB bN} {dn:Nat}
def aaa(ad len cap j ρ i v)(h:(Frame.enter prog 29 #[.slice ad len cap,an j] .normal).tmps[i]? =aa v)(b:i∉fE 29):VR ρ v v:=
 Bf func29 (body:=pW f29) aS (λi v h b ρ=>by
  match i,b with
  |0,b=>exact absurd bJ b
  |1,_=>simp at h;subst h;constructor
  |n+2,_=>simp at h) ρ i v h b
def Y2(c n ρ i v)(h:(Frame.enter prog 21 #[an c,an n] .normal).tmps[i]? =aa v)(b:i∉fE 21):VR ρ v v:=
 Bf func21 (body:=pW f21) aS (λi v h b ρ=>by
  match i with
  |0=>simp at h;subst h;constructor
  |1=>simp at h;subst h;constructor
  |n+2=>simp at h) ρ i v h b
def XK(ad len cap ρ i v)(h:(Frame.enter prog 28 #[.slice ad len cap] .normal).tmps[i]? =aa v)(b:i∉fE 28):VR ρ v v:=
 Bf func28 (body:=pW f28) aS (λi v h b ρ=>by
  match i,b with
  |0,b=>exact absurd bJ b
  |n+1,_=>simp at h) ρ i v h b
variable {Q:Exit->Act->az->Prop} {a:Act} {ops:aK Oper} {i n d:Nat} {rest:aB Nat} {f0:bN} {L:aB (Nat×aE)} {ty:aW} {ps:String} {af:aK Edge} {gd:aY (Nat×Bool)} {ats:aK aW} {x y:me} {ad:aY fS} {len cap:Nat} {j c:Int}
def FE.raw(G:Dw l)(g:len<=cY)(h:yR ad len)(E:Fa n a L)(k:∀z b,fY z->iZ a b d (an z)->Fa n b ((d,an z)::L)->FO fE f0 dn prog ops Q rest b u)(m:ops[i]? =aa ⟨aa d,.call ⟨.value (.func 29),#[x,y],ats⟩,ty,ps,af,gd⟩:=by rfl) (hv:uZ L [x,y]=aa [.slice ad len cap,an j]:=by rfl) (f:0<=j/\j<=9223372036854775807:=by omega) (o:(kO ops L gd&&lq ops n gd)=aq:=by rfl) (hc:rU [] n d []=aq:=by rfl):FO fE f0 dn prog ops Q (i::rest) a u:=by refine FE.cf (xs:=[x,y]) E func29 G.kR aaJ (aaa ad len cap j) ((aab G.fit ad len cap j g f.1 f.2 h).mono ?_) m o (hc:=hc) (hv:=hv);rintro e q ⟨z,rfl,p,h0⟩;subst q;exact⟨_,rfl,λb N E=>k z b p N E⟩
def FE.qZ{m}(G:Dw l)(h:fY c)(E:Fa n a L)(k:∀r b,(0<=r/\r<m)->iZ a b d (an r)->Fa n b ((d,an r)::L)->FO fE f0 dn prog ops Q rest b u)(f:ops[i]? =aa ⟨aa d,.call ⟨.value (.func 21),#[x,y],ats⟩,ty,ps,af,gd⟩:=by rfl) (hv:uZ L [x,y]=aa [an c,an m]:=by rfl) (hm:0<m/\m<=9223372036854775807:=by omega) (g:(kO ops L gd&&lq ops n gd)=aq:=by rfl) (hc:rU [] n d []=aq:=by rfl):FO fE f0 dn prog ops Q (i::rest) a u:=by refine FE.cf (xs:=[x,y]) E func21 G.kP aaI (Y2 c m) ((Y3 G.fit c m h hm.1 hm.2).mono ?_) f g (hc:=hc) (hv:=hv);rintro e o ⟨r,rfl,hr,h0⟩;subst o;exact⟨_,rfl,λb N E=>k r b hr N E⟩
def FE.lcf{g b k}(o:Fit prog l)(E:Fa n a L)(B:u.heap[b]? =aa (aA (mW g) 35 (0,0)))(c:∀m,iZ a m d (.agg (mW g))->Fa n m ((d,.agg (mW g))::L)->FO fE f0 dn prog ops Q rest m u)(f:ops[i]? =aa ⟨aa d,.load 35 (.tmp k),ty,ps,af,gd⟩:=by rfl) (p:lk L k=aa (pt b):=by rfl) (q:(kO ops L gd&&lq ops n gd)=aq:=by rfl) (hc:oQ (fE f0) n d L (.load 35 (.tmp k))=aq:=by rfl):FO fE f0 dn prog ops Q (i::rest) a u:=by
 refine D1 E c f q rfl hc (λh=>?_) o;have e:ia L (.tmp k)=pt b:=by show(lk L k).getD au=_;rw[p];rfl
 have f:(u.tp h).heap[b]? =_:=B;have r:=aO (u.tp h) b 0 (an g.sz) f;have s:=aO (u.tp h) b 1 (an g.cl) f;have t:=aO (u.tp h) b 2 (an g.qu) f;have v:=aO (u.tp h) b 3 (an g.mx) f;have w:=aO (u.tp h) b 4 (an g.qn) f;have z:=aO (u.tp h) b 5 (an g.rt) f;have A:=aO (u.tp h) b 6 (an g.bu) f;have C:=aO (u.tp h) b 7 (an g.wk) f;have D:=aO (u.tp h) b 8 (an g.ou) f;clear f B E c;unfold execOp;simp only[e];go_simp
def XL(G:Dw l)(ad len cap)(I:len<=cY)(h:yR ad len):
  jo fE prog dn 28 #[.slice ad len cap] u λe u'=>∃g:Cf,e=aN (.agg (mW g))/\qN g.sz g.cl g.qu g.mx g.qn g.rt g.bu g.wk g.ou=aq:=by
 have hT:=G.fit;refine jo.BG 60 func28 λa E=>?_;refine D2 (D4 [0] ?_);refine FE.nw (v:=pt u.heap.size) E (u.alloc (aA (gn 0 0 0 0 0 0 0 0 0) 35)) (hr:=λA=>by go_simp;rfl) λa _ E=>D3 ?_;obtain⟨f,V⟩:∃b,b=u.heap.size:=⟨_,rfl⟩;rw[<-V]at E;have o:(u.alloc (aA (gn 0 0 0 0 0 0 0 0 0) 35)).heap[f]? =aa (aA (gn 0 0 0 0 0 0 0 0 0) 35 (0,0)):=new1 V;generalize u.alloc (aA (gn 0 0 0 0 0 0 0 0 0) 35)=F at*;clear V;refine D2 (D4 [0,1,2,3,4,5,6,7,8,9,10,11,12,13,14,15,16,17,18,19,20] ?_);refine e9 E λa _ E=>?_;refine FE.raw G I h E λz0 a oV _ E=>?_;refine FE.qZ G oV E λJ a vB _ E=>?_;refine A2 E λa _ E=>?_;refine A2 E λa _ E=>?_;refine e9 E λa _ E=>?_;refine FE.raw G I h E λz1 a aR _ E=>?_;refine FE.qZ G aR E λK a QH _ E=>?_;refine A2 E λa _ E=>?_;refine e9 E λa _ E=>?_;refine FE.raw G I h E λz2 a oW _ E=>?_;refine FE.qZ G oW E λM a bw _ E=>?_;refine A2 E λa _ E=>?_;refine e9 E λa _ E=>?_;refine FE.raw G I h E λz3 a aT _ E=>?_;refine FE.qZ G aT E λm a bA _ E=>?_;refine A2 E λa _ E=>?_;refine A2 E λa _ E=>?_;refine D1 (v:=.agg (gn (4*(1+J)) (1+K) (1+M) (4*(1+m)) 0 0 0 0 0)) E λa _ E=>?_;refine FE.nw (v:=pt F.heap.size) E (F.alloc (aA (gn 0 0 0 0 0 0 0 0 0) 35)) (hr:=λA=>by go_simp;rfl) λa _ E=>?_;obtain⟨B,S⟩:∃b,b=F.heap.size:=⟨_,rfl⟩;rw[<-S]at E;refine FE.vo E (F.alloc (aA (gn (4*(1+J)) (1+K) (1+M) (4*(1+m)) 0 0 0 0 0) 35)) (D3 ?_) (hr:=λA=>?_)
 rotate_left
 ·show _=Result.ok _ ((F.tp A).alloc (aA (gn (4*(1+J)) (1+K) (1+M) (4*(1+m)) 0 0 0 0 0) 35));have S:B=(F.tp A).heap.size:=S;show(execOp _ _).run _ ((F.tp A).alloc (aA (gn 0 0 0 0 0 0 0 0 0) 35))=_;generalize F.tp A=x at*;subst S;go_simp
 have w:(F.alloc (aA (gn (4*(1+J)) (1+K) (1+M) (4*(1+m)) 0 0 0 0 0) 35)).heap[B]? =aa (aA (gn (4*(1+J)) (1+K) (1+M) (4*(1+m)) 0 0 0 0 0) 35 (0,0)):=new1 S;have T:f≠B:=λe=>by have:=(bp.1 o).1;omega
 replace o:(F.alloc (aA (gn (4*(1+J)) (1+K) (1+M) (4*(1+m)) 0 0 0 0 0) 35)).heap[f]? =aa (aA (gn 0 0 0 0 0 0 0 0 0) 35 (0,0)):=fO o
 generalize F.alloc (aA (gn (4*(1+J)) (1+K) (1+M) (4*(1+m)) 0 0 0 0 0) 35)=u2 at*;clear S
 replace E:Fa 60 a [(0,.slice ad len cap),(2,pt f),(3,pt B)]:=E.to
 refine D2 (FX.dr 11 10 (λi v=>match i with|0=>v=.pointer (aa (aj B 3))|1=>v=an (4*(1+m))|2=>v=.slice ad len cap|3=>∃z,v=an z/\fY z|4=>v=.pointer (aa (aj B 3))|5=>v=an (4*(1+m))|6=>v=an (65-(4*(1+m)))|7=>∃r,v=an r/\(0<=r/\r<65-(4*(1+m)))|8=>∃r,v=an ((4*(1+m))+r)/\(0<=r/\r<65-(4*(1+m)))|9=>v=.pointer (aa (aj B 4))|_=>True) E (λY P i X a is E t p=>?_) λY P a E hv=>?_)
 ·subst P
  match i,X with
  |0,_=>exact D1 E λk N _=>p k _ rfl N
  |1,_=>exact A1 (E.add (d:=23) (t 0 rfl)) w λk N _=>p k _ rfl N
  |2,_=>exact e9 E λk N _=>p k _ rfl N
  |3,_=>exact FE.raw G I h (E.add (d:=25) (t 2 rfl)) λz k R N _=>p k _ ⟨z,rfl,R⟩ N
  |4,_=>exact D1 E λk N _=>p k _ rfl N
  |5,_=>exact A1 (E.add (d:=27) (t 4 rfl)) w λk N _=>p k _ rfl N
  |6,_=>exact A2 (E.add (d:=28) (t 5 rfl)) λk N _=>p k _ rfl N
  |7,_=>obtain⟨z,D,R⟩:∃z,a.eval (.tmp 26)=an z/\fY z:=t 3 rfl;exact FE.qZ G R (((E.add (d:=29) (t 6 rfl))).add (d:=26) D) λr k hr N _=>p k _ ⟨r,rfl,hr⟩ N
  |8,_=>obtain⟨r,D,hr⟩:∃r,a.eval (.tmp 30)=an r/\(0<=r/\r<65-(4*(1+m))):=t 7 rfl;exact A2 (((E.add (d:=24) (t 1 rfl))).add (d:=30) D) λk N _=>p k _ ⟨r,rfl,hr⟩ N
  |9,_=>exact D1 E λk N _=>p k _ rfl N
  |q+10,hm=>omega
 obtain⟨r4,D,bB⟩:∃r,a.eval (.tmp 31)=an ((4*(1+m))+r)/\(0<=r/\r<65-(4*(1+m))):=hv 8 rfl
 replace E:=(E.add (d:=32) (hv 9 rfl)).add (d:=31) D
 clear hv;subst P;refine eZ.one (j:=10) aS λis U=>?_;refine FE.st E w λu4 w O=>U _ _ (eZ.none aS ?_)
 replace o:=(O f T).trans o
 replace E:Fa 60 a [(0,.slice ad len cap),(2,pt f),(3,pt B)]:=E.to
 refine D2 (D4 [0,1,2,3,4,5] ?_);refine e9 E λa _ E=>?_;refine FE.raw G I h E λz5 a aV _ E=>?_;refine FE.qZ G aV E λr5 a bD _ E=>?_;refine A2 E λa _ E=>?_;refine D1 E λa _ E=>?_;refine FE.st E w λu5 w O=>D3 ?_
 replace o:=(O f T).trans o
 replace E:Fa 60 a [(0,.slice ad len cap),(2,pt f),(3,pt B)]:=E.to
 refine D2 (D4 [0,1,2,3,4,5] ?_);refine e9 E λa _ E=>?_;refine FE.raw G I h E λz6 a bf _ E=>?_;refine FE.qZ G bf E λr6 a bE _ E=>?_;refine A2 E λa _ E=>?_;refine D1 E λa _ E=>?_;refine FE.st E w λu6 w O=>D3 ?_
 replace o:=(O f T).trans o
 replace E:Fa 60 a [(0,.slice ad len cap),(2,pt f),(3,pt B)]:=E.to
 refine D2 (D4 [0,1,2,3,4,5] ?_);refine e9 E λa _ E=>?_;refine FE.raw G I h E λz7 a bg _ E=>?_;refine FE.qZ G bg E λr7 a bF _ E=>?_;refine A2 E λa _ E=>?_;refine D1 E λa _ E=>?_;refine FE.st E w λu7 w O=>D3 ?_
 replace o:=(O f T).trans o
 replace E:Fa 60 a [(0,.slice ad len cap),(2,pt f),(3,pt B)]:=E.to
 refine D2 (FX.dr 12 11 (λi v=>match i with|0=>v=.pointer (aa (aj B 3))|1=>v=an (4*(1+m))|2=>v=an ((4*(1+m))+4)|3=>v=.slice ad len cap|4=>∃z,v=an z/\fY z|5=>v=.pointer (aa (aj B 3))|6=>v=an (4*(1+m))|7=>v=an (253-(4*(1+m)))|8=>∃r,v=an r/\(0<=r/\r<253-(4*(1+m)))|9=>∃r,v=an ((4*(1+m))+4+r)/\(0<=r/\r<253-(4*(1+m)))|10=>v=.pointer (aa (aj B 8))|_=>True) E (λY P i X a is E t p=>?_) λY P a E hv=>?_)
 ·subst P
  match i,X with
  |0,_=>exact D1 E λk N _=>p k _ rfl N
  |1,_=>exact A1 (E.add (d:=48) (t 0 rfl)) w λk N _=>p k _ rfl N
  |2,_=>exact A2 (E.add (d:=49) (t 1 rfl)) λk N _=>p k _ rfl N
  |3,_=>exact e9 E λk N _=>p k _ rfl N
  |4,_=>exact FE.raw G I h (E.add (d:=51) (t 3 rfl)) λz k R N _=>p k _ ⟨z,rfl,R⟩ N
  |5,_=>exact D1 E λk N _=>p k _ rfl N
  |6,_=>exact A1 (E.add (d:=53) (t 5 rfl)) w λk N _=>p k _ rfl N
  |7,_=>exact A2 (E.add (d:=54) (t 6 rfl)) λk N _=>p k _ rfl N
  |8,_=>obtain⟨z,D,R⟩:∃z,a.eval (.tmp 52)=an z/\fY z:=t 4 rfl;exact FE.qZ G R (((E.add (d:=55) (t 7 rfl))).add (d:=52) D) λr k hr N _=>p k _ ⟨r,rfl,hr⟩ N
  |9,_=>obtain⟨r,D,hr⟩:∃r,a.eval (.tmp 56)=an r/\(0<=r/\r<253-(4*(1+m))):=t 8 rfl;exact A2 (((E.add (d:=50) (t 2 rfl))).add (d:=56) D) λk N _=>p k _ ⟨r,rfl,hr⟩ N
  |10,_=>exact D1 E λk N _=>p k _ rfl N
  |q+11,hm=>omega
 obtain⟨r8,D,bG⟩:∃r,a.eval (.tmp 57)=an ((4*(1+m))+4+r)/\(0<=r/\r<253-(4*(1+m))):=hv 9 rfl
 replace E:=(E.add (d:=58) (hv 10 rfl)).add (d:=57) D
 clear hv;subst P;refine eZ.one (j:=11) aS λis U=>?_;refine FE.st E w λC w O=>U _ _ (eZ.none aS ?_)
 replace o:=(O f T).trans o
 replace E:Fa 60 a [(0,.slice ad len cap),(2,pt f),(3,pt B)]:=E.to
 obtain⟨g,W⟩:∃g:Cf,g=⟨(4*(1+J)),(1+K),(1+M),(4*(1+m)),((4*(1+m))+r4),(1+r5),(1+r6),(1+r7),((4*(1+m))+4+r8)⟩:=⟨_,rfl⟩
 replace w:C.heap[B]? =aa (aA (mW g) 35 (0,0)):=by rw[W];exact w
 have aP:qN g.sz g.cl g.qu g.mx g.qn g.rt g.bu g.wk g.ou=aq:=by subst W;simp[qN,tP,wZ,sC,iq];omega
 clear W;refine D2 (D4 [0,1] ?_);refine FE.lcf hT E w λa _ E=>?_;refine FE.vo E (((((((((C.setCell (aj f 0) (an g.sz)).setCell (aj f 1) (an g.cl)).setCell (aj f 2) (an g.qu)).setCell (aj f 3) (an g.mx)).setCell (aj f 4) (an g.qn)).setCell (aj f 5) (an g.rt)).setCell (aj f 6) (an g.bu)).setCell (aj f 7) (an g.wk)).setCell (aj f 8) (an g.ou)) (D3 ?_) (hr:=λA=>?_)
 rotate_left
 ·have s:(C.tp A).heap[f]? =_:=o;have Z:=aO (C.tp A) f 0 (an 0) s;have c1:=aO (C.tp A) f 1 (an 0) s;have c2:=aO (C.tp A) f 2 (an 0) s;have c3:=aO (C.tp A) f 3 (an 0) s;have c4:=aO (C.tp A) f 4 (an 0) s;have c5:=aO (C.tp A) f 5 (an 0) s;have c6:=aO (C.tp A) f 6 (an 0) s;have c7:=aO (C.tp A) f 7 (an 0) s;have c8:=aO (C.tp A) f 8 (an 0) s;have f0:=bz s 0;have f1:=bz s 1;have f2:=bz s 2;have f3:=bz s 3;have f4:=bz s 4;have f5:=bz s 5;have f6:=bz s 6;have f7:=bz s 7;have f8:=bz s 8;clear s;go_simp;simp only[SO]
 replace o:=(cz (cz (cz (cz (cz (cz (cz (cz (cz o 0 (an g.sz)) 1 (an g.cl)) 2 (an g.qu)) 3 (an g.mx)) 4 (an g.qn)) 5 (an g.rt)) 6 (an g.bu)) 7 (an g.wk)) 8 (an g.ou))
 generalize (((((((((C.setCell (aj f 0) (an g.sz)).setCell (aj f 1) (an g.cl)).setCell (aj f 2) (an g.qu)).setCell (aj f 3) (an g.mx)).setCell (aj f 4) (an g.qn)).setCell (aj f 5) (an g.rt)).setCell (aj f 6) (an g.bu)).setCell (aj f 7) (an g.wk)).setCell (aj f 8) (an g.ou))=H at*
 replace o:H.heap[f]? =aa (aA (mW g) 35 (0,0)):=o
 refine FX.rt ⟨rfl,E.defers,.agg (mW g),?_,g,rfl,aP⟩;have h2:=ev (E.at_ 2 _ rfl);have Z:=aO H f 0 (an g.sz) o;have c1:=aO H f 1 (an g.cl) o;have c2:=aO H f 2 (an g.qu) o;have c3:=aO H f 3 (an g.mx) o;have c4:=aO H f 4 (an g.qn) o;have c5:=aO H f 5 (an g.rt) o;have c6:=aO H f 6 (an g.bu) o;have c7:=aO H f 7 (an g.wk) o;have c8:=aO H f 8 (an g.ou) o;clear o;simp[results,results28,h2];go_simp
end
end
section
attribute [local go_sem ↓] Go.wp_at_zero Go.wp_at_succ
attribute [local go_sem] bP bF
open Go.Conc Go.RowKit
open Go.Proofs.Tryz
abbrev crD(g:Cf)(xb:Nat)(lv:aE)(d:Int):aK aE:=#[an g.sz,an g.cl,an g.qu,an g.mx,an g.qn,an g.rt,an g.bu,an g.wk,an g.ou,jp xb,lv,.slice ay 0 0,an 0,an d,an 0]
abbrev ptL(ps:aB Nat):aB aE:=ps.map jp
structure jm(u:az)(g:Cf)(cb xb:Nat)(f:Fx)(d:Int)(n:Nat)(lv:aE)(L:dG)(ps:aB Nat):Prop where
 fx:aJ u f xb L
 cr:u.heap[cb]? =aa (aA (crD g xb lv d) 40 (0,0))
 row:u.ownsRow 0 49 1 lv n (ptL ps)
 len:ps.length=n
 sl:∀p∈ps,(∃a b:Int,u.heap[p]? =aa (aA #[an a,an b,.string ⟨#[]⟩,.bool av] 66 (0,0)))/\L.own p=0
 own:L.own cb=0/\∀b,lv.ownBlock=aa b->L.own b=0
 no:∀b,u.heap.size<=b->L.own b=0
def dJ(u:az)(g:Cf)(cb xb:Nat)(f:Fx)(d:Int)(n:Nat)(lv:aE):Prop:=∃L ps,jm u g cb xb f d n lv L ps
section
variable {u u':az} {g:Cf} {cb xb n:Nat} {f f':Fx} {d:Int} {lv:aE} {L L':dG} {ps:aB Nat}
def jm.go(T:jm u g cb xb f d n lv L ps)(h:aJ u' f' xb L')(t:bG u L u' L'):∃L',jm u' g cb xb f' d n lv L' ps:=by obtain⟨e,l,t2,r⟩:=h.norm t;have keep:∀{b:Nat} {o:Obj},u.heap[b]? =aa o->L.own b=0->u'.heap[b]? =aa o/\e.own b=0:=λh h0=>⟨vX t.cD h λx=>x h0,(t2.own _ (bp.1 h).1).trans h0⟩;have k:∀b,lv.ownBlock=aa b->u'.heap[b]? =u.heap[b]? /\e.own b=0:=λb c=>⟨t.cD.block b (nu T.row b c) λx=>x (T.own.2 b c),(t2.own _ (nu T.row b c)).trans (T.own.2 b c)⟩;refine⟨e,l,(keep T.cr T.own.1).1,gD T.row λb c=>(k b c).1,T.len,λp q=>?_,⟨(keep T.cr T.own.1).2,λb c=>(k b c).2⟩,r⟩;obtain⟨⟨a,b,i⟩,j⟩:=T.sl p q;exact⟨⟨a,b,(keep i j).1⟩,(keep i j).2⟩
def jm.IJ(T:jm u g cb xb f d n lv L ps)(h:aJ u' f' xb L')(t:bG u L u' L'):dJ u' g cb xb f' d n lv:=by obtain⟨a,b⟩:=T.go h t;exact⟨a,ps,b⟩
def jm.tp(T:jm u g cb xb f d n lv L ps)(a:Tape):jm (u.tp a) g cb xb f d n lv L ps:=⟨T.fx.tp a,T.cr,T.row,T.len,T.sl,T.own,T.no⟩
def dJ.tp(T:dJ u g cb xb f d n lv)(a:Tape):dJ (u.tp a) g cb xb f d n lv:=by obtain⟨L,ps,T⟩:=T;exact⟨L,ps,T.tp a⟩
def dJ.at (T:dJ u g cb xb f d n lv):u.heap[cb]? =aa (aA (crD g xb lv d) 40 (0,0)):=by obtain⟨L,ps,T⟩:=T;exact T.cr
end
def dJ.form{u g cb xb n f d lv}(T:dJ u g cb xb f d n lv):∃a c,lv=.slice a n c:=by obtain⟨L,ps,T⟩:=T;exact jS T.row
def J1(cb xb n g f d lv L ps w)(h:jm w g cb xb f d n lv L ps)(D:n<=8):fu 67 #[jp cb] w (an n):=by
 obtain⟨a,o,rfl⟩:=jS h.row;have v:=aO w cb 10 (.slice a n o) h.cr;have b:=aT h;go_enter func67,ntmps67;go_wp2
 go_loopw [3,4] (λs j wr=>∃i:Nat,i<=n/\s=an i/\j=an i/\wr=w) (λ_ j _=>n-(intOf j).toNat)
 case atStart=>exact⟨0,eo _,rfl,rfl,rfl⟩
 case round=>
  obtain⟨i,C,rfl,rfl,rfl⟩:=hrel
  by_cases r:i<n
  ·have q:(i:Int)<(n:Int):=ak;have B:0<=(i:Int)/\(i:Int)<(n:Int):=ak;obtain⟨A,t,e,k⟩:=KQ b.out.row ak;cases e;obtain⟨p,c⟩:∃p,ps[i]? =aa p:=⟨ps[i]'(by rw[b.out.len];exact r),ef _⟩;have z:=k i (jp p) (by rw[iT,c];rfl);obtain⟨⟨x,y,l⟩,_⟩:=b.out.sl _ (gS c);have cs:=aG l (i:=3) rfl;clear l k c;go_wp2
   go_roundw
   case rel=>exact⟨i+1,ak,by go_num,by go_num,by first|rfl|trivial⟩
   case measure=>simp[intOf];omega
  ·have q:¬(i:Int)<(n:Int):=ak;have e:i=n:=ak;subst e;go_wp2;go_ret;exact⟨rfl,rfl⟩
def tS:ByteArray:=⟨#[70,69,82,82,89,97,103]⟩
structure Fx.Full(f:Fx)(g:Cf)(m:Nat):Prop where
 rest:f.Rest
 g:f.g=g
 stop:f.stop=av
 clock:f.clock=0
 cH:f.cH=m
 in_:∀s,s<m->f.K[s]? ≠aa ay
 out:∀s,m<=s->s<f.K.length->f.K[s]? =aa ay
def Fx.Full.new{g}(hI:g.Is):(Fx.new g).Full g 0:=⟨.new hI,rfl,rfl,rfl,rfl,λs a=>by omega,λs _ a=>by have b:s<(nG g.cl.toNat (ay:aY Ck)).length:=a;show(nG g.cl.toNat (ay:aY Ck))[s]? =_;rw[CL,aX (by simpa using b)]⟩
section
variable {f:Fx} {g:Cf} {m:Nat} {wt:Int}
def Fx.Full.free(h:f.Full g m)(hm:(m:Int)<g.cl):f.K[m]? =aa ay:=h.out m (bC _) (by have:=h.rest.core.len;rw[h.g]at this;omega)
def Fx.Full.at (h:f.Full g m)(hm:(m:Int)<g.cl):(f.nV m wt).K[m]? =aa (aa (Ck.fresh f.cH wt f.g.bu)):=rD (eL.1 (h.free hm)).1
def Fx.Full.send(h:f.Full g m)(hm:(m:Int)<g.cl)(i:1<=wt/\wt<=4):((f.nV m wt).send m (Ck.fresh f.cH wt f.g.bu) tS).2=0/\((f.nV m wt).send m (Ck.fresh f.cH wt f.g.bu) tS).1.Full g (m+1):=by
 have b:=(h.rest.nV (h.free hm) i).send (h.at hm) tS
 have e:(f.nV m wt).send m (Ck.fresh f.cH wt f.g.bu) tS=((f.nV m wt).at m ((Ck.fresh f.cH wt f.g.bu).send tS),0):=by unfold Fx.send;rw[aQ (by simp[Ck.fresh]),aQ (show ¬1024<(Ck.fresh f.cH wt f.g.bu).bg.size+tS.size from(by decide:¬1024<(⟨#[]⟩:ByteArray).size+tS.size))]
 rw[e]at b⊢;refine⟨rfl,b,h.g,h.stop,h.clock,by show f.cH+1=_;rw[h.cH];rfl,λs k=>?_,λs j c=>?_⟩
 ·show((f.K.set m _).set m _)[s]? ≠_;rw[Aq,jF];split
  ·split<;>simp
  ·exact h.in_ s ak
 ·show((f.K.set m _).set m _)[s]? =_;have a:s<((f.K.set m _).set m _).length:=c;rw[Aq,jF,aQ ak];simp at a;exact h.out s ak a
end
def F5:(prog.info? 49).map (λi=>(i.zero,i.size,i.bytes))=aa (aa (.pointer ay),1,8):=aS
def aeP(w:az)(x y){T U}:((w.alloc (aA x T)).alloc (aA y U)).heap[w.heap.size+1]? =aa (aA y U (0,0)):=by have:=cw (w.alloc (aA x T)) (aA y U);simpa using this
def YB{i w3 cb xb n gb cap g f d a b lv L ps y t2}(T:jm i g cb xb f d n lv L ps)(M:w3.ownsRow 0 49 1 (.slice (aa (aj gb 0)) (n+1) cap) (n+1) (ptL ps++[jp i.heap.size]))(l:((i.alloc (aA #[an a,an b,.string ⟨#[]⟩,.bool av] 66)).alloc (aA y t2)).grownBy w3 lv.ownBlock)(r:lv.ownBlock=aa gb\/gb=i.heap.size+2):
  w3.heap[cb]? =aa (aA (crD g xb lv d) 40 (0,0))/\dJ (w3.setCell (aj cb 10) (.slice (aa (aj gb 0)) (n+1) cap)) g cb xb f d (n+1) (.slice (aa (aj gb 0)) (n+1) cap):=by
 have v:=(bp.1 T.cr).1;have G:aL i ((i.alloc (aA #[an a,an b,.string ⟨#[]⟩,.bool av] 66)).alloc (aA y t2)):=((Below.refl _ i).alloc (bC _) _).alloc aC _;have N:=l.size;simp at N;have o:∀x,x<i.heap.size->aa x≠lv.ownBlock->w3.heap[x]? =i.heap[x]? :=λx j K=>(l.block x bY K).trans (G.block x j)
 have P:∀x,lv.ownBlock=aa x->∃c,i.heap[x]? =aa (aA c 49 (0,0)):=λx j=>by
  rcases T.row.2 with⟨e,_⟩|⟨g0,R,D,e,_,J,_⟩
  ·rw[e]at j;cases j
  ·rw[e]at j;cases j;exact⟨D,J⟩
 have A:∀{x:Nat} {c:aK aE} {U:Nat},i.heap[x]? =aa (aA c U (0,0))->U≠49->aa x≠lv.ownBlock:=λh F e=>by obtain⟨Q,s⟩:=P _ e.symm;rw[h]at s;cases s;exact F rfl
 have z:=A T.cr bJ;have q:=(o cb v z).trans T.cr
 have I:gb≠cb:=λe=>by
  subst e;rcases r with h|h
  ·exact z h.symm
  ·omega
 refine⟨q,{L with own:=λx=>if x<i.heap.size then L.own x else 0},ps++[i.heap.size],?_,cz q 10 _,gD (by simpa using M) λx j=>bH ?_,by simp[T.len],λp hp=>?_,⟨?_,λx j=>?_⟩,λx j=>aQ ?_⟩
 ·refine(T.fx.owns _ λb H=>aX H).vl λx j O=>?_;have w:L.own x≠0:=λe=>O (by show(if x<i.heap.size then L.own x else 0)=0;rw[aX j];exact e);exact(bH λe=>w (by rw[e];exact T.own.1)).trans (o x j λe=>w (T.own.2 x e.symm))
 ·have e:gb=x:=by simpa[pN]using j
  exact e▸I
 ·rcases jZ.1 hp with hp|hp
  ·obtain⟨⟨B,C,k⟩,E⟩:=T.sl p hp;have t:=(bp.1 k).1;refine⟨⟨B,C,(bH (rT k T.cr bJ)).trans ((o p t (A k bJ)).trans k)⟩,?_⟩;show(if p<i.heap.size then L.own p else 0)=0;rw[aX t];exact E
  ·rw[lX.1 hp];refine⟨⟨a,b,(bH ak).trans ((l.block _ bY λe=>?_).trans (fO (new1 rfl)))⟩,aQ (rL _)⟩;have:=nu T.row _ e.symm;omega
 ·show(if cb<i.heap.size then L.own cb else 0)=0;rw[aX v];exact T.own.1
 ·have e:gb=x:=by simpa[pN]using j
  subst e;show(if gb<i.heap.size then L.own gb else 0)=0;rcases r with h|h
  ·rw[aX (nu T.row _ h)];exact T.own.2 _ h
  ·rw[aQ ak]
 ·simp at j;omega
def Yz(cb xb n g f wt lv w)(T:dJ w g cb xb f 1 n lv)(hF:f.Full g n)(p:(n:Int)<g.cl)(hw:fY wt):
  Calls prog 31 #[jp cb,an wt] w λe b=>e=aN (.bool aq)/\∃f' aL,f'.Full g (n+1)/\dJ b g cb xb f' 1 (n+1) aL:=by
 obtain⟨iP,af,oV,aI,oW⟩:=aly F5;obtain⟨L,ps,T⟩:=T;have Z:=hF.rest.core.g.cl;rw[hF.g]at Z;have ah:=hF.rest.core.len;rw[hF.g]at ah;have v:=hF.cH;have bg:¬(n:Int)≥g.cl:=ak;have c9:=aO w cb 9 (jp xb) T.cr;have HC:=aT T;have R:=aT (RY wt 4 w hw bJ bJ)
 have Q:Hid (∀k,1<=k/\k<=4->Calls prog 36 #[jp xb,an k] w λe b=>e=aN (.tuple #[an n,an 0])/\∃L',jm b g cb xb (f.nV n k) 1 n lv L' ps):=λk y=>by refine(Zz w f xb L T.fx ak hF.stop k (by simp[iq];omega) n (hF.free p) (λi x=>hF.in_ i x) ak).mono ?_;rintro e b ⟨rfl,L',o,t⟩;exact⟨by rw[v],T.go o t⟩
 have U:Hid (∀k c h,1<=k/\k<=4->jm c g cb xb (f.nV n k) 1 n lv h ps->Calls prog 37 #[jp xb,an n,.string tS] c λe b=>e=aN (an 0)/\∃f' L',f'.Full g (n+1)/\jm b g cb xb f' 1 n lv L' ps):=λk c h y o=>by obtain⟨V,t⟩:=hF.send p y;have x:=(hF.rest.nV (hF.free p) y).core.is (hF.at p);refine(PL c _ xb h o.fx (by show(f.K.set n _).length<=_;rw[oo];omega) n tS n _ (by rw[<-v];exact x) (show(⟨#[]⟩:ByteArray).size<=1024 from by decide)).mono ?_;rintro e b ⟨rfl,L',W,X⟩;obtain⟨q,Y⟩:=o.go W X;exact⟨by rw[V],_,q,t,Y⟩
 have n8:n<=8:=ak;obtain⟨E,F,G⟩:=jS T.row;have l:=aT G;clear T hF v G;have O:True:=trivial;go_enter func31,ntmps31
 go_wp2_with (first
  |(go_at_call 21;refine R.out.mono ?_;rintro e A ⟨r,rfl,hr,h0⟩;subst A;have J:Hid (1<=1+r/\1+r<=4):=(by show 1<=1+r/\1+r<=4;omega);have bq:eP.wrap (1+r)=1+r:=iG ak ak;clear hr)
  |(go_at_call 36;go_loud (refine(Q.out _ J.out).mono ?_;rintro e c ⟨rfl,h,z⟩;have d9:=aO c cb 9 (jp xb) z.cr;have C:=aT z;clear z))
  |(go_at_call 67;refine(J1 cb xb n g _ 1 lv h ps _ C.out n8).mono ?_;rintro e A ⟨rfl,h0⟩;subst A)
  |(go_at_call 37;refine(U.out _ c h J.out C.out).mono ?_;rintro e a ⟨rfl,f2,q,N,j⟩;have f9:a.cell? (aj cb 10)=aa (.slice E n F):=(by have:=aG j.cr (i:=10) rfl;rw[l.out]at this;exact this);have f1:=aO a cb 1 (an g.cl) j.cr;have bn:cb<a.heap.size:=(bp.1 j.cr).1;have bk:¬cb=a.heap.size:=ak;have bl:¬cb=a.heap.size+1:=ak;have D:Hid (f2.Full g (n+1)/\jm a g cb xb f2 1 n lv q ps):=⟨N,j⟩;have S:Hid (((a.alloc (aA #[an n,an (1+r),.string ⟨#[]⟩,.bool av] 66)).alloc (aA #[jp a.heap.size] 49)).ownsRow 0 49 1 (.slice E n F) n (ptL ps)):=(by show World.ownsRow _ _ _ _ _ _ _;rw[<-l.out];exact(j.row.alloc _).alloc _);clear N j)
  |(at_builtin;have _t:=O;refine VM _ (by rfl) _ _ 37 (by rfl) 0 49 iP _ 1 8 underlying37 af oV aI oW (by rfl) ak _ n (ptL ps) (by rfl) S.out ⟨a.heap.size+1,0,ay⟩ 1 1 [jp a.heap.size] (by rfl) (by rfl) (Dg (aeP a _ _)) (by simp[Vy]) ak (by unfold cY;omega) ak aC (a.heap.size+2) aC ?_;intro g0 bf w3 M I H bh;clear O;obtain⟨s,B⟩:=YB D.out.2 M (by rw[l.out];exact I) (by rw[l.out];exact H);have c3:=aO w3 cb 10 lv s;have f3:=bz s 10;have P:=aT B;clear s B M I H))
 go_ret;exact⟨rfl,_,_,D.out.1,P.out⟩
def vI{a b A B:Int}(h0:0<=a)(c:0<=b)(e:a<=A)(h:b<=B):0<=a*b/\a*b<=A*B:=⟨Int.mul_nonneg h0 c,Int.mul_le_mul e h c ak⟩
def Xe{q c n d X Y:Int}(t:1<=q/\q<=8)(hc:1<=c/\c<=8)(s:4<=n/\n<=64)(r:1<=d/\d<=16)(i:X=5*c*n)(j:Y=X.tdiv 4):
  eP.wrap (eP.wrap (eP.wrap (eP.wrap (q+1) *eP.wrap (c+1)) *eP.wrap (eP.wrap Y+4)) *eP.wrap (d+2))=(q+1) *(c+1) *(Y+4) *(d+2)/\eP.wrap (eP.wrap (5*c) *n)=X/\54*(q+1)<=(q+1) *(c+1) *(Y+4) *(d+2)/\(q+1) *(c+1) *(Y+4) *(d+2)<=938952:=by
 have o:20<=X/\X<=2560:=by
  have m:=vI (a:=c-1) (b:=n) (A:=7) (B:=64) ak ak ak ak;have e:5*c*n=5*((c-1) *n)+5*n:=by rw[Int.mul_assoc,Int.sub_mul];omega
  omega
 have p:5<=Y/\Y<=640:=by rw[Int.tdiv_eq_ediv_of_nonneg ak]at j;omega
 have a1:=vI (a:=q+1) (b:=c+1) (A:=9) (B:=9) ak ak ak ak;have h:=vI (b:=Y+4) (B:=644) a1.1 ak a1.2 ak;have a3:=vI (b:=d+2) (B:=18) h.1 ak h.2 ak;have b1:2*(q+1)<=(q+1) *(c+1):=by rw[Int.mul_comm 2];exact Ai ak ak
 have k:(q+1) *(c+1) *9<=(q+1) *(c+1) *(Y+4):=Ai ak a1.1;have l:(q+1) *(c+1) *(Y+4) *3<=(q+1) *(c+1) *(Y+4) *(d+2):=Ai ak h.1;refine⟨?_,?_,ak,ak⟩
 ·rw[iG (x:=q+1) ak ak,iG (x:=c+1) ak ak,iG (x:=(q+1) *(c+1)) ak ak,iG (x:=Y) ak ak,iG (x:=Y+4) ak ak,iG (x:=(q+1) *(c+1) *(Y+4)) ak ak,iG (x:=d+2) ak ak,iG ak ak]
 ·rw[iG (x:=5*c) ak ak,<-i,iG ak ak]
section
variable (cb xb n:Nat) (g:Cf) (f:Fx) (d:Int) (lv:aE) (w:az)
def Xd(h:w.heap[cb]? =aa (aA (crD g xb lv d) 40 (0,0)))(hI:g.Is)(a:1<=d/\d<=16):Calls prog 25 #[jp cb] w λe b=>∃B,e=aN (an B)/\(54*(g.qu+1)<=B/\B<=938952)/\b=w.drew:=by
 have m:=aO w cb 1 (an g.cl) h;have p:=aO w cb 2 (an g.qu) h;have q:=aO w cb 4 (an g.qn) h;have o:=aO w cb 13 (an d) h;have c:Hid (g.Is/\1<=d/\d<=16):=⟨hI,a⟩;clear h hI a;go_enter func25,ntmps25
 go_upto_region 1 with fail
 go_region_held3 (λb=>b=w.drew) (first|rfl|assumption) (fail)
 go_wp2;go_ret;obtain⟨hI,a⟩:=c.out;have hm:=hI.mx;have r:=hI.qn;obtain⟨i,j,k,l⟩:=Xe (n:=g.qn) (d:=d) hI.qu hI.cl ak a rfl rfl;rw[j];exact⟨_,rfl,by rw[i];exact⟨k,l⟩,rfl⟩
def jm.late{u L ps}(T:jm u g cb xb f d n lv L ps)(d'):jm (u.setCell (aj cb 13) (an d')) g cb xb f d' n lv L ps:=by
 have q:∀b,L.own b≠0->b≠cb:=λb h e=>h (e▸T.own.1);refine⟨T.fx.vl λb _ h=>bH (q b h),cz T.cr 13 _,gD T.row λb c=>bH λe=>?_,T.len,λp o=>?_,T.own,λb c=>T.no b (by simpa using c)⟩
 ·rcases T.row.2 with⟨i,_⟩|⟨g0,r,s,i,_,m,_⟩
  ·rw[i]at c;cases c
  ·rw[i]at c;have k:g0=b:=by simpa[pN]using c
   exact rT m T.cr bJ (k.trans e)
 ·obtain⟨⟨a,b,j⟩,l⟩:=T.sl p o;exact⟨⟨a,b,(bH (rT j T.cr bJ)).trans j⟩,l⟩
def VT(cb xb n:Nat)(g:Cf)(f:Fx)(lv:aE)(u:az):Prop:=∃a b,a.Rest/\(a=f\/∃t,a=f.vk t)/\(1<=b/\b<=16)/\dJ u g cb xb a b n lv
def YN(o x y z)(T:dJ w g cb xb f d n lv)(hR:f.Rest)(Y:fY x)(Z:fY y)(hz:fY z)(N:1<=d/\d<=16):
  Calls prog 41 #[jp cb,.agg #[an o,an x,an y,an z]] w λe G=>e=aN (.bool aq)/\VT cb xb n g f lv G:=by
 obtain⟨L,s,T⟩:=T;have D:=(Below.refl _ w).alloc (bC _) (aA #[an o,an x,an y,an z] 46);obtain⟨J,M⟩:=T.go (T.fx.below D) ⟨λ_ _=>rfl,.below D⟩;have E:(w.alloc (aA #[an o,an x,an y,an z] 46)).heap[w.heap.size]? =aa (aA #[an o,an x,an y,an z] 46 (0,0)):=new1 rfl;have a:=aT M;have s2:=aO (w.alloc (aA #[an o,an x,an y,an z] 46)) w.heap.size 1 (an x) E;have I:=aT E;have B:Hid (∀(c m:Int) (W:az),fY c->0<m->m<=16->Calls prog 21 #[an c,an m] W λe G=>∃r,e=aN (an r)/\(0<=r/\r<m)/\G=W):=λc m W Q R h3=>RY c m W Q R ak;have p:Hid (f.Rest/\1<=d/\d<=16):=⟨hR,N⟩;clear E T M D hR N;go_enter func41,ntmps41
 go_upto_region 2 with(go_at_call 21;refine(B.out x 16 _ Y bJ bJ).mono ?_;rintro e w0 ⟨b,rfl,X,h0⟩;subst w0;have v:Hid (1<=1+b/\1+b<=16):=(by show 1<=1+b/\1+b<=16;omega);have aV:eP.wrap (1+b)=1+b:=iG ak ak;clear X)
 generalize w.alloc (aA #[an o,an x,an y,an z] 46)=i at*;refine iJ ?_;have U:i.drew.cell? (aj w.heap.size 2)=aa (an y)/\i.drew.cell? (aj w.heap.size 3)=aa (an z)/\i.drew.cell? (aj cb 9)=aa (jp xb):=⟨aG (w:=i) I.out rfl,aG (w:=i) I.out rfl,aG (w:=i) a.out.cr rfl⟩;refine dB (S:=λW=>W.cell? (aj w.heap.size 2)=aa (an y)/\W.cell? (aj w.heap.size 3)=aa (an z)/\W.cell? (aj cb 9)=aa (jp xb)) 12 aS U ?_;intro hS;refine gk 0 ?_;refine gk 1 ?_;refine gk 2 ?_;refine gs 3 ?_;refine gk 4 ?_;refine gk 5 ?_;refine gs 6 ?_;refine gk 9 ?_;refine gs 10 ?_;refine gr 7 λK j=>?_;go_simp;go_at_call 21;refine(B.out y 4 _ Z bJ bJ).mono ?_;rintro e H ⟨r2,rfl,aP,h0⟩;subst H;refine j.out _ _ hS (λBo=>?_);clear j K;refine gk 8 ?_;refine gr 11 λK j=>?_;go_simp;go_at_call 21;refine(B.out z 9 _ hz bJ bJ).mono ?_;rintro e H ⟨u,rfl,aR,h0⟩;subst H;refine j.out _ _ hS (λaL=>?_);clear j K;refine gz λK j=>?_;go_simp;go_at_call 76;refine(ZF i.drew f xb J a.out.fx.drew ⟨1+b,r2==0,u⟩ v.out (by show 0<=u;omega)).mono ?_;rintro e w2 ⟨l,m,rfl,F,L2,O,P⟩;obtain⟨C,q⟩:=jm.go (T:=(⟨a.out.fx.drew,a.out.cr,a.out.row,a.out.len,a.out.sl,a.out.own,a.out.no⟩:jm i.drew g cb xb f d n lv J s)) O P;refine j.out _ _ ?_;clear j K;refine ga 13 ?_;refine eu aS ?_ _;refine gT ?_;have Oj:=aO w2 cb 13 (an d) q.cr;have f13:=bz q.cr 13;have A:=aT q
 have k:Hid (l.Rest/\(l=f\/∃t,l=f.vk t)):=by
  rcases F with⟨_,rfl⟩|⟨_,V,rfl⟩
  ·exact⟨p.out.1,aF rfl⟩
  ·exact⟨p.out.1.vk V v.out (by show 0<=u/\u<=_;omega),aD ⟨_,rfl⟩⟩
 clear q O P;have hm:m=6\/m=0:=F.elim (λh=>aF h.1) λh=>aD h.1;clear F;rcases hm with rfl|rfl
 ·go_wp2;go_ret;exact⟨rfl,l,d,k.out.1,k.out.2,p.out.2,C,s,A.out⟩
 ·by_cases aM:1+b>d
  ·go_wp2;go_ret;exact⟨rfl,l,1+b,k.out.1,k.out.2,v.out,C,s,jm.late _ _ _ _ _ _ _ (A.out) _⟩
  ·go_wp2;go_ret;exact⟨rfl,l,d,k.out.1,k.out.2,p.out.2,C,s,A.out⟩
end
end
section
open Go.Conc Go.RowKit
open Go.ConcR (Payload)
open Go.Proofs.Tryz
def Fx.fix(f:Fx):Cf×Int×Bool:=(f.g,f.cH,f.stop)
def Bj(st:Fx->Nat->Fx)(h:∀f s,(st f s).fix=f.fix):∀(l:aB Nat) (f:Fx),(l.foldl st f).fix=f.fix
 |[],f=>rfl
 |s::l,f=>(Bj st h l (st f s)).trans (h f s)
def Yt(f:Fx)(s):(f.gp s).fix=f.fix:=by unfold Fx.gp;split<;>rfl
def T4(f:Fx)(s):(f.fQ s).fix=f.fix:=by unfold Fx.fQ;split<;>rfl
def PO(f:Fx)(s):(f.fZ s).fix=f.fix:=by
 unfold Fx.fZ;split
 ·split<;>rfl
 ·rfl
def Pm:∀(n:Nat) (f:Fx),(Fx.fin n f).fix=f.fix
 |0,f=>rfl
 |n+1,f=>by
  unfold Fx.fin;split
  ·rfl
  ·split
   ·refine(Pm n _).trans ?_;unfold Fx.does;split<;>rfl
   ·rfl
def LS:∀(n p:Nat) (f:Fx),(Fx.turns n p f).fix=f.fix
 |0,_,f=>rfl
 |n+1,p,f=>by
  have a:f.bT.1.fix=f.fix:=by
   unfold Fx.bT;split
   ·split
    ·split<;>rfl
    ·rfl
   ·rfl
  unfold Fx.turns;split
  ·split
   ·exact(LS n _ _).trans a
   ·exact(LS n _ _).trans a
  ·rfl
def aeC(f:Fx):f.tick.fix=f.fix:=by
 have a:f.early.fix=f.fix:=Bj _ Yt _ _
 have e:f.early.goes.fix=f.early.fix:=by
  unfold Fx.goes;split
  ·rfl
  ·exact(Bj _ T4 _ _).trans rfl
 exact(Bj _ PO _ _).trans ((LS _ _ _).trans ((Pm _ _).trans (e.trans a)))
structure Fx.ed(f:Fx)(g:Cf)(n:Nat)(b:Bool)(c:Int):Prop where
 rest:f.Rest
 fix:f.fix=(g,(n:Int),b)
 clock:f.clock=c
def Fx.dry(f:Fx)(m:Nat):Prop:=∀(s:Nat) k,f.K[s]? =aa (aa k)->k.no<m->k.out.size=0
section
variable {f f':Fx} {g:Cf} {n:Nat} {b:Bool} {c:Int}
def Fx.ed.cf(h:f.ed g n b c):f.g=g:=dX (·.1) h.fix
def Fx.ed.cH(h:f.ed g n b c):f.cH=n:=dX (·.2.1) h.fix
def Fx.ed.stop(h:f.ed g n b c):f.stop=b:=dX (·.2.2) h.fix
def Fx.ed.fC(h:f.ed g n b c):f.K.length<=65535:=by have:=h.rest.core.small;omega
def Fx.ed.who(h:f.ed g n b c)(i):f.nobody i\/∃s k,f.Is i s k:=by
 by_cases j:∃(s:Nat) (k:Ck),f.K[s]? =aa (aa k)/\k.no=i
 ·obtain⟨s,k,a,e⟩:=j;exact aD ⟨s,k,e▸h.rest.core.is a⟩
 ·exact aF λs k a e=>j ⟨s,k,a,e⟩
def Fx.ed.halt(h:f.ed g n b c):f.halt.ed g n aq c:=by have r:=h.rest;have k:=r.core;refine⟨⟨⟨k.g,k.len,k.aI,k.cl,k.de,k.mG,k.one,k.jb,k.sorted,k.nj,k.fresh,k.jh,k.clock,k.B,k.bD,k.acc,k.cH⟩,r.bU,r.log,r.C,r.acc⟩,?_,h.clock⟩;show(f.g,f.cH,aq)=_;rw[h.cf,h.cH]
def PS{s:Nat}{k}:∀n,(f.dg n).K[s]? =aa (aa k)->f.K[s]? =aa (aa k)
 |0,h=>h
 |n+1,h=>by
  rw[xl]at h;refine PS n ?_;unfold Fx.fZ at h;split at h
  ·split at h
   ·exact(xI h).2
   ·exact h
  ·exact h
def Fx.ed.abU(h:f.ed g n b c){s:Nat}{k}(t:f.K[s]? =aa (aa k)):(k.out.size:Int)<=g.ou/\(k.q.length:Int)<=g.qu/\k.bg.size<=1024/\k.bK<=g.wk*g.mx/\0<=k.ph/\k.ph<=4:=by
 have a:=h.rest.core;obtain⟨e,x,y⟩:=a.cl s k t;have m:=e.out;have i:=e.len;have v:=a.prom s;have j:=a.jh;have hm:=a.g.mx;rw[h.cf]at m i j hm
 have o:=Jj g.mx.toNat f.fl s λb p=>by have r:=(a.jb b p).1.fC;rw[h.cf]at r;omega
 have w:g.mx*(f.fl.length:Int)<=g.mx*g.wk:=Ai j ak;rw[Int.toNat_of_nonneg ak]at o;rw[Int.mul_comm g.wk];exact⟨ak,i,e.bg,ak,e.ph⟩
def Fx.ed.sends(h:f.ed g n b c)(i t){xb}(w L)(q:aJ w f xb L):Calls prog 37 #[jp xb,an i,.string t] w λe o=>∃v f',e=aN v/\((∃m,v=an m/\(m=0\/m=6\/m=2))/\f'.ed g n b c)/\∃j,aJ o f' xb j/\bG w L o j:=by
 rcases h.who i with h0|⟨s,k,a⟩
 ·refine(ZM w f xb L q h.fC i t h0).mono ?_;rintro e o ⟨rfl,a,p⟩;exact⟨_,f,rfl,⟨⟨2,rfl,aD (aD rfl)⟩,h⟩,L,a,p⟩
 ·refine(PL w f xb L q h.fC i t s k a (h.rest.core.cl s k a.at_).1.bg).mono ?_;rintro e o ⟨rfl,j,p,r⟩;refine⟨_,_,rfl,⟨⟨_,rfl,?_⟩,(h.rest.send a.at_ t),?_,?_⟩,j,p,r⟩<;>unfold Fx.send
  ·split
   ·exact aD (aD rfl)
   ·split
    ·exact aD (aF rfl)
    ·exact aF rfl
  ·split
   ·exact h.fix
   ·split<;>exact h.fix
  ·split
   ·exact h.clock
   ·split<;>exact h.clock
def Fx.ed.looks(h:f.ed g n b c)(i){xb:Nat}(w L)(j:aJ w f xb L):Calls prog 34 #[jp xb,an i] w λe p=>∃v f',e=aN v/\((∃q x y z B C A D m:Int,v=.tuple #[.agg #[an q,an x,an y,an z,an B,an C,an A,an D],an m]/\(m=2\/(m=0/\A<=g.ou/\y<=g.qu/\x<=1024/\z<=g.wk*g.mx/\0<=q/\q<=4)))/\f=f')/\∃r,aJ p f' xb r/\bG w L p r:=by
 rcases h.who i with h0|⟨s,k,t⟩
 ·refine(Zy w f xb L j h.fC i h0).mono ?_;rintro e p ⟨rfl,a⟩;exact⟨_,f,rfl,⟨⟨_,_,_,_,_,_,_,_,2,rfl,aF rfl⟩,rfl⟩,L,j.below a,⟨λ_ _=>rfl,.below a⟩⟩
 ·refine(Zx w f xb L j h.fC i s k t).mono ?_;rintro e p ⟨rfl,a⟩;have o:=h.abU t.at_;exact⟨_,f,rfl,⟨⟨_,_,_,_,_,_,_,_,0,rfl,aD ⟨rfl,o.1,o.2.1,by have:=o.2.2.1;omega,o.2.2.2⟩⟩,rfl⟩,L,j.below a,⟨λ_ _=>rfl,.below a⟩⟩
def Fx.ed.taken(h:f.ed g n b c)(i m j:Nat)(p:f.dZ m j)(B:f.dry i){xb:Nat}(w L)(y:aJ w f xb L):Calls prog 33 #[jp xb,an i,an 1099511627776] w λe r=>∃v f',e=aN v/\((∃x m,v=.tuple #[.string x,an m])/\f'.ed g n b c/\f'.dZ m j/\f'.dry (i+1))/\∃o,aJ r f' xb o/\bG w L r o:=by
 rcases h.who i with h0|⟨s,k,a⟩
 ·refine(ZQ w f xb L y h.fC i _ h0).mono ?_;rintro e r ⟨rfl,a,H⟩;refine⟨_,f,rfl,⟨⟨_,_,rfl⟩,h,p,λs k D N=>B s k D ?_⟩,L,a,H⟩;have:=h0 s k D;omega
 ·obtain⟨P,U,V⟩:=h.rest.core.cl s k a.at_;have S:=P.out;have T:=h.rest.core.prom s;have R:=h.rest.core.g.ou;obtain⟨F,Q⟩:=h.rest.take a.at_ 1099511627776;refine(ZO w f xb L y h.fC i _ s k a ak F.core.stay).mono ?_;rintro e r ⟨rfl,o,I,J⟩;have z:=Ez (f.at s (k.takes 1099511627776)) f.K.length;have M:iz f (f.at s (k.takes 1099511627776)):=Be rfl (by rw[BJ a.at_];show(k.takes _).q.length<=_;unfold Ck.takes;split<;>exact bC _);have A:(f.take s k 1099511627776).clock=f.clock:=(F.core.dg _).2.1;have C:(f.take s k 1099511627776).fl=f.fl:=z.2;refine⟨_,_,rfl,⟨⟨_,_,rfl⟩,⟨Q,(Bj _ PO _ _).trans h.fix,A.trans h.clock⟩,⟨dm (M.trans z.1).le p.1,by rw[C,A];exact p.2.1,by rw[C];exact p.2.2⟩,λt x O N=>?_⟩,o,I,J⟩;rcases zD (PS _ O)with⟨_,rfl⟩|⟨e,E⟩
  ·show(k.takes 1099511627776).out.size=0;unfold Ck.takes;rw[aQ bJ];show(k.out.extract (k.much 1099511627776) k.out.size).size=0;rw[mI];unfold Ck.much;omega
  ·refine B t x E ?_;have:x.no≠i:=λG=>e (a.one t x E G);omega
end
section
variable [aP] {l:aB bN} {u:az} {g:Cf} {cb xb n:Nat} {f:Fx} {d:Int} {lv:aE} {b:Bool} {c:Int}
def dJ.call{F args}{R:aE->Fx->Prop}(p:Fit prog l)(q:aP.ok F)(B:dJ u g cb xb f d n lv)(h:∀w L,aJ w f xb L->Calls prog F args w λe m=>∃v f',e=aN v/\R v f'/\∃a,aJ m f' xb a/\bG w L m a):
  eY prog F args u λe r=>∃v f',e=aN v/\R v f'/\dJ r g cb xb f' d n lv:=by
 refine eY.lift p q (λe u o ⟨v,f',i,j,k⟩=>⟨v,f',i,j,k.tp o⟩) (λe u ⟨v,f',h,_⟩=>⟨_,h⟩) λo=>?_;obtain⟨L,s,T⟩:=B.tp o;refine(h _ L T.fx).mono ?_;rintro e m ⟨v,f',rfl,i,a,j,k⟩;exact⟨v,f',rfl,i,T.IJ j k⟩
def dJ.old(B:dJ u g cb xb f d n lv){u'}(a:aL u u'):dJ u' g cb xb f d n lv:=by obtain⟨L,e,T⟩:=B;exact T.IJ (T.fx.below a) ⟨λ_ _=>rfl,.below a⟩
def dJ.alloc(B:dJ u g cb xb f d n lv)(o):dJ (u.alloc o) g cb xb f d n lv:=B.old ((Below.refl _ u).alloc (bC _) o)
def dJ.drew(B:dJ u g cb xb f d n lv)(e:Tape)(m):dJ {u with tape:=e,drawn:=m} g cb xb f d n lv:=by obtain⟨L,a,T⟩:=B;exact⟨L,a,T.fx.old λ_ _=>rfl,T.cr,T.row,T.len,T.sl,T.own,T.no⟩
def WZ(m:Fit prog l)(o:aP.ok 42)(B:dJ u g cb xb f d n lv)(h:f.ed g n b c):eY prog 42 #[pt xb] u λe p=>∃v f',e=aN v/\(v=.tuple #[]/\f'=f.halt)/\dJ p g cb xb f' d n lv:=
 B.call m o λw L k=>(ZN w f xb L k).mono λe q ⟨a,i,j⟩=>⟨_,_,a,⟨rfl,rfl⟩,L,i,j⟩
def WT(k:Fit prog l)(m:aP.ok 36)(B:dJ u g cb xb f d n lv)(h:f.stop=aq):eY prog 36 #[pt xb,an 1] u λe o=>∃v f',e=aN v/\(v=.tuple #[an 0,an 4]/\f=f')/\dJ o g cb xb f' d n lv:=
 B.call k m λw L i=>(ZA w f xb L i h 1).mono λe p ⟨j,a⟩=>⟨_,f,j,⟨rfl,rfl⟩,L,by rw[a];exact i,by rw[a];exact bG.refl _ _⟩
def WU(k:Fit prog l)(m:aP.ok 43)(B:dJ u g cb xb f d n lv)(h:f.ed g n b c):eY prog 43 #[pt xb] u λe o=>∃v f',e=aN v/\(v=.bool f.done/\f=f')/\dJ o g cb xb f' d n lv:=
 B.call k m λw L i=>(ZE w f xb L i h.fC (by have:=h.rest.core.jh;have:=h.rest.core.g.wk;omega)).mono λe p ⟨j,a⟩=>⟨_,f,j,⟨rfl,rfl⟩,L,i.below a,⟨λ_ _=>rfl,.below a⟩⟩
def WQ(o:Fit prog l)(q:aP.ok 25)(B:dJ u g cb xb f d n lv)(hI:g.Is)(p:1<=d/\d<=16):eY prog 25 #[pt cb] u λe r=>∃z,e=aN (an z)/\(54*(g.qu+1)<=z/\z<=938952)/\∃a m,r={u with tape:=a,drawn:=m}:=by refine eY.lift o q (λe u a ⟨z,i,j,t,m,k⟩=>⟨z,i,j,a,m,by rw[k]⟩) (λe u ⟨z,h,_⟩=>⟨_,h⟩) λa=>?_;refine(Xd cb xb g d lv (u.tp a) B.at hI p).mono ?_;rintro e s ⟨z,rfl,i,rfl⟩;exact⟨z,rfl,i,a,_,rfl⟩
def WW(p:Fit prog l)(r:aP.ok 41)(B:dJ u g cb xb f d n lv)(h:f.ed g n b c)(q:1<=d/\d<=16)(kd x y z)(s:fY x)(v:fY y)(w:fY z):eY prog 41 #[pt cb,.agg #[an kd,an x,an y,an z]] u λe A=>e=aN (.bool aq)/\∃f' a,f'.ed g n b c/\(1<=a/\a<=16)/\dJ A g cb xb f' a n lv:=by
 refine eY.lift p r (λe u j ⟨k,f',a,i,m,o⟩=>⟨k,f',a,i,m,o.tp j⟩) (λe u h=>⟨_,h.1⟩) λj=>?_;refine(YN cb xb n g f d lv (u.tp j) kd x y z (B.tp j) h.rest s v w q).mono ?_;rintro e C ⟨rfl,f',a,k,i,m,o⟩;refine⟨rfl,f',a,⟨k,?_,?_⟩,m,o⟩
 ·rcases i with rfl|⟨t,rfl⟩<;>exact h.fix
 ·rcases i with rfl|⟨t,rfl⟩<;>exact h.clock
def WV(o:Fit prog l)(q:aP.ok 31)(B:dJ u g cb xb f 1 n lv)(h:f.Full g n)(p:(n:Int)<g.cl)(wt)(r:fY wt):eY prog 31 #[pt cb,an wt] u λe t=>e=aN (.bool aq)/\∃f' s,f'.Full g (n+1)/\dJ t g cb xb f' 1 (n+1) s:=by refine eY.lift o q (λe u a ⟨j,f',i,k,m⟩=>⟨j,f',i,k,m.tp a⟩) (λe u h=>⟨_,h.1⟩) λa=>?_;exact Yz cb xb n g f wt lv (u.tp a) (B.tp a) h p r
def WY(r:Fit prog l)(v:aP.ok 30)(t:qN g.sz g.cl g.qu g.mx g.qn g.rt g.bu g.wk g.ou=aq):
  eY prog 30 #[.agg (mW g)] u λe x=>∃cb xb,e=aN (pt cb)/\dJ x g cb xb (Fx.new g) 1 0 (.slice ay 0 0):=by
 refine eY.lift r v (λe u m ⟨a,i,j,k⟩=>⟨a,i,j,k.tp m⟩) (λe u ⟨a,i,h,_⟩=>⟨_,h⟩) λm=>?_;refine(VZ g t (u.tp m)).mono ?_;rintro e B ⟨a,i,L,rfl,j,k,y,o,z,q,A⟩;exact⟨a,i,rfl,L,[],k,j,tD _ _ _ _,rfl,λp w=>(by cases w),⟨o,λb s=>(by cases s)⟩,q⟩
variable [alC]
def Of(G:AT l)(B:dJ u g cb xb f d n lv)(h:f.ed g n b c)(hc:c<1073741824):eY prog 26 #[pt xb] u λe i=>e=aN (.tuple #[])/\f.tick.ed g n b (c+1)/\(f.tick.Rest/\f.tick.clock=f.clock+1)/\dJ i g cb xb f.tick d n lv:=by obtain⟨L,o,T⟩:=B;refine(T.fx.ticks bld G h.rest (by rw[h.clock];exact hc)).mono ?_;rintro e i ⟨rfl,a,m,j,k⟩;exact⟨rfl,⟨a.1,(aeC f).trans h.fix,by rw[a.2,h.clock]⟩,a,T.IJ j k⟩
end
end
end Go.Proofs.YtpobhljcainmdaaGreat
