/- Parts of the proof. -/
import Derived.ArgAppend
import Derived.BigQuiet
import Derived.Conc.AppendEvents3
import Derived.Conc.EventLaws
import Derived.Conc.SmallLaws
import Derived.Deep.AppendLies
import Derived.Deep.DrawnRows
import Derived.Deep.Draws
import Derived.Deep.QuietTactic
import Derived.Defers
import Derived.Laws.IdiomCopy
import Derived.Laws.MakeOwn
import Derived.Lib.AppendStr
import Derived.Lib.BufferWrite
import Derived.Lib.LazyBuf
import Derived.Lib.SliceRun
import Derived.Lib.Strings
import Derived.Lib.UnsafeStr
import Derived.Lib.Walk
import Derived.LoopIn
import Derived.LoopNIn
import Derived.Maps.OwnSet
import Derived.RangeFuncBound
import Derived.RangeFuncCalls
import Derived.Recover
import Derived.Shelf.Abstract
import Derived.Shelf.RegionOpen
import Derived.Stop.RegionWithIn
import Derived.Tactics2
import Derived.TacticsInMore
import Derived.Test.YtpobhljcainmdaaGreatJ02
set_option maxRecDepth 100000
set_option maxHeartbeats 8000000
set_option linter.all false
namespace Go.Proofs.YtpobhljcainmdaaGreat
open Go renaming World->az,Value->aE,heap_alloc_new->cw,maxLen->cY,bodyPost_ret->gO,FuncId->bN,below_drewN->iX,Ending->lW,run_append_room_cells->Ij,run_underlying->Ik,callsIn_wide->fP,Frame->aU,run_convert_bytes_back->VK,Oper->kU,Goroutine->bQ,TypeId->aW,Addr->fS,step_append_lies->Np,info_parts->aly,run_storeCells_cells->alz,wpS_region->Ip,bodyPost->Hw,results_none->alB,Operand->me,run_takeDeferred->wN,sizeOf->GO,leaves_cons->Nj,Func->iH,grownBy_putObj'->Dj,Program->aZ,Code->jV
open Go.World renaming cell?_of_block->fX,grownBy_alloc->pP,cell?->fH,setCell->gm,cell?_setCell_same'->Hu,frozen?->pO,size_alloc->AB,news_of_block->Dg,cell?_setCell_far->Nb,putObj_heap_other->fj,frozen?_setCell->Nd,cell?_setCell_other->VC,cell?_setCells_out->VD,ownsRow_nil->tD,drewN_drewN->VF
open _root_.ByteArray renaming empty->nZ
open Go.Region renaming ready->eB,wanted->dw,schedule->Vu,binds->tA
open _root_.List renaming range->eF,take_succ->Vg
open Go.Conc renaming stepG_region_end->cO,stepG_seq->cq,aside_setCell->Dh,enter_at->uE,events_call_body->Ni,mem_seen->qB
open Go.IntKind renaming i64->eP,wrap_i64->GV,signed->UP,bits->UO
open Go.Builtin renaming zeroCells->mH,append_->nY,clear_->uo,copy_->sM,lenOf->UA
open Go.Instr renaming makeFunc->sP,typeAssert->CC,sureAddr->GS,lookup->Cy,loadAt->GP
open Go.ConcR renaming wgBlock->Ad,Payload->alC
open Go.RowKit renaming intOf->gU
open Go.Value renaming ownBlock->pN,slice->ff,int->alD
open _root_.Array renaming getD->wj,replicate->sI,getElem_range->Us,getElem_map->Ur,mem_filter->Ut
open Go.Result renaming andThen_ok->Hs
open Go.Frame renaming finish_at->yg
open Go.Ending renaming returned->yd
open Go.Sem renaming run_bind->Df,run_pure->MY
open _root_.Nat renaming reduceAdd->pM,reduceSub->alA,beq->tg
open Go.Lib renaming size_eq->Al,byteCells->lD
open Go.Addr renaming add_lit->Me
open Go.Fence renaming wide->jW
open Go.Conc.LoneTo renaming goes->Hh,step->Vh
open _root_.UInt8 renaming toNat_ofNat'->Vw,ofNat->HV
open Go.Exit renaming thenS->GI,normal->Mr,ret->alE
open Go.Maps renaming keyOf_int_mk->Vk,int_keyed->CX,setOf->Ar
open Go.Oper renaming wp->Ho
open _root_.Prod renaming fst->Dc
open _root_.List.range renaming loop->pJ
open Go.CallsIn renaming inRound->mJ
open Go renaming undef->au
open Go.Ending renaming returned->aN
open Go.Obj renaming cells->aA
open _root_.Bool renaming false->av,true->aq
open _root_.Option renaming none->ay,some->aa
open _root_.Or renaming inl->aF,inr->aD
section
open Go.Conc Go.Conc.Lib Go.ConcN.Gen Go.ConcR.Gen Go.RowKit
open Go.ConcN (ShN WgLive Has)
open Go.Proofs.Tryz
section
variable [aP] [bw] {O:Nat->Prop} {w:az} {xb sb B1 Wg n B2 D L B i c:Nat} {cl:aB (aY Nat)} {cs0:aB aU} {v:Nat->aE}
def PR(fn:iH):aK kU:=match goCode fn with|.region _ x _=>x|_=>#[]
def goT(xb B1 Wg B2 B c:Nat):aK aE:=#[pt xb,pt B1,pt Wg,pt B,au,pt xb,.func (.func 96) #[] #[pt B2],pt c,.tuple #[],.func (.func 98) #[] #[pt Wg,pt B],au,au,au,au,au,au,au,au,au,au,au,au,au]
def goF(a:iH)(xb B1 Wg B2 L B c:Nat)(is:aB Nat):aU:=rf L ep ⟨goT xb B1 Wg B2 B c,[]⟩ (.inRegion (PR a) is::.inBlock 1::[])
def Wc(fD):(rnF fD xb B1 Wg B2 L B c [0] au).finish (.tuple #[])=rf L ep ((⟨rnT xb B1 Wg B2 B c au,[]⟩:Act).put (((DK fD)[0]?).bind (·.dst)) (.tuple #[])) (.inRegion (DK fD) []::.code (goCode fD)::.inBlock 1::[]):=FC ..
def abC:CJ prog aq link.tWg Wg (λa b d=>a=O/\b=G (goF f61 xb B1 Wg B2 L B c [1]) (itF f96 xb sb B2 L n i c v::vK f61 xb B1 Wg B2 D L::cs0)/\Rel link.tWg Wg O w d) O (G ((rnF f61 xb B1 Wg B2 L B c [0] au).finish (.tuple #[])) (itF f96 xb sb B2 L n i c v::vK f61 xb B1 Wg B2 D L::cs0)) w:=by
 rw[Wc];generalize hS:(λ(a:Nat->Prop) (b:bQ) (d:az)=>a=O/\b=G (goF f61 xb B1 Wg B2 L B c [1]) _/\Rel link.tWg Wg O w d)=e;generalize f:itF _ _ _ _ _ _ _ _ _=f1 at hS⊢;generalize g:vK _ _ _ _ _ _ _=f2 at hS⊢;simp only[DK,goCode,lM,f61,rnT]
 walk_nrm
 refine .KU (.KS ?_);simp;refine .rop (.func (.func 98) #[] #[pt Wg,pt B]) rfl rfl aC (by simp[ep]) iC iD ?_
 walk_nrm
 subst hS;exact .stop λh r=>⟨rfl,rfl,r⟩
def LF(f1 f2 w):stepG prog aq (G (goF f61 xb B1 Wg B2 L B c [1]) (f1::f2::cs0)) w=.spawn (G (goF f61 xb B1 Wg B2 L B c []) (f1::f2::cs0)) (born prog (vf Wg B)) w #[]:=by
 have hr:∀(a:Act) (o:kU),o.op=.go {callee:=.value (.tmp 9),args:=#[],argTypes:=#[]}->a.eval (.tmp 9)=.func (.func 98) #[] #[pt Wg,pt B]->(execOp a.eval o).run prog w=.ok (.spawn (vf Wg B)) w/\(execOp a.eval o).events prog w #[]=#[]:=λa o g j=>by
  have e:execOp a.eval o=pure (.spawn (vf Wg B)):=by unfold execOp;simp[g,resolve,Deferred.ofValue,j,vf,bind,Sem.bind,pure]
  rw[e];exact⟨rfl,rfl⟩
 unfold goF;rw[(aaU (P:=prog) (main:=aq) (w:=w) (b:=ep) (a:=⟨goT xb B1 Wg B2 B c,[]⟩) (k:=[.inBlock 1]) (cs:=f1::f2::cs0) (l:=L) (ops:=PR f61) (i:=1) (rest:=[]) (d:=vf Wg B) rfl rfl (λc (h:Op.go {callee:=.value (.tmp 9),args:=#[],argTypes:=#[]}=Op.defer c)=>by cases h) (by simp[ep]) (hr _ _ rfl rfl).1 rfl)]
 have m:∀(f:bN) (a:Act) (o:kU),(execOp a.eval o).events prog w #[]=#[]->listed prog f a o w=#[]:=λf a o h=>by unfold listed;rw[h,seen_none]
 rw[m _ _ _ (hr _ _ rfl rfl).2];rfl
def abB(d:fy f61 xb sb B1 Wg B2 D L n cl .busy O w)(A:i<n)(C:n<4294967296):
  CJ prog aq link.tWg Wg (λj m a=>j=O/\(∃v,m=oU f61 f96 xb sb B1 Wg B2 D L n (i+1) v cs0)/\fy f61 xb sb B1 Wg B2 D L n cl .ready O a/\(∀b,O b->b≠L->a.heap[b]? =w.heap[b]?)/\w.heap.size<=a.heap.size/\a.os=w.os) O
   (G (goF f61 xb B1 Wg B2 L B c []) (itF f96 xb sb B2 L n i c v::vK f61 xb B1 Wg B2 D L::cs0)) w:=by
 have H:(i:Int)<(n:Int):=ak;have F:(0:Int)<=(i:Int):=ak;have u:=Um A C;generalize hS:(λ(j:Nat->Prop) (m:bQ) (a:az)=>j=O/\(∃v,m=oU _ _ xb sb B1 Wg B2 D L n (i+1) v cs0)/\fy _ xb sb B1 Wg B2 D L n cl .ready O a/\(∀b,O b->b≠L->a.heap[b]? =w.heap[b]?)/\w.heap.size<=a.heap.size/\a.os=w.os)=E;refine .KU (.aaV (.gl (l:=L) (r:=lT ep ⟨kL xb B1 Wg B2,[]⟩ #[7] (nL f61) (lM f61) D .ready) rfl d.oL (bp.1 d.lp).1 (λp r=>aaN rfl aS (d.rel r).lp) λh g=>?_));have s:=(d.rel g).gl .ready;have q:∀b,O b->b≠L->(gl h L (lT ep ⟨kL xb B1 Wg B2,[]⟩ #[7] (nL f61) (lM f61) D .ready)).heap[b]? =w.heap[b]? :=λb f o=>(qh o).trans (g.own b f);have y:w.heap.size<=(gl h L (lT ep ⟨kL xb B1 Wg B2,[]⟩ #[7] (nL f61) (lM f61) D .ready)).heap.size:=by rw[xF];exact g.size
 have x:(gl h L (lT ep ⟨kL xb B1 Wg B2,[]⟩ #[7] (nL f61) (lM f61) D .ready)).os=w.os:=g.os;generalize gl h L _=I at s q y x⊢;generalize z:vK _ _ _ _ _ _ _=f2;unfold itF;rw[yg];simp only[On,Oz,QN,rZ,f96,itT]
 walk_nrm
 refine .op (.bool av) rfl rfl (by simp[base]) iC iD ?_
 walk_nrm
 refine .op (.bool av) rfl rfl (by simp[base]) iC iD ?_
 walk_nrm
 refine .regionEnd (.cond (v:=av) rfl ?_);simp;refine .skip (.inBlock ?_);refine .region ?_;simp;refine .op (an ((i+1:Nat):Int)) rfl rfl (by simp[base]) (λp r=>by unfold execOp;simp[go_sem,Act.put,Act.eval,u]) (λp r e t=>by unfold execOp at t;simp[go_sem,Act.put,Act.eval,u]at t) ?_
 walk_nrm
 refine .op (an ((i+1:Nat):Int)) rfl rfl (by simp[base]) iC iD ?_
 walk_nrm
 refine .regionEnd (.inLoop ?_);subst hS z;exact .stop λp r=>⟨rfl,⟨(λk=>(#[au,au,au,au,pt c,au,au,au,au,au,au,.bool aq,.pointer (aa (aj sb i)),pt c,pt c,.bool aq,.bool aq,.func (.yield L) #[] #[],pt c,.bool aq,.bool av,.bool av,an ((i+1:Nat):Int)]:aK aE).getD k au),rfl⟩,s.rel r,λb f o=>(r.own b f).trans (q b f o),dm y r.size,r.os.trans x⟩
def aaf(fD x):(vK fD xb B1 Wg B2 D L).finish x=ep.at ⟨kL xb B1 Wg B2,[{target:=.collected D,args:=#[]}]⟩ (.endRangeFunc L::.inBlock 0::.code (zR fD)::[]):=rfl
def afA(fn:iH):aK kU:=match zR fn with|.seq (.region _ x _) _=>x|_=>#[]
def vW(fn:iH):jV:=match zR fn with|.seq _ x=>x|_=>.skip
def wtF(a:iH)(xb B1 Wg B2 D:Nat)(is:aB Nat)(t10:aE):aU:=ep.at ⟨(kL xb B1 Wg B2).setIfInBounds 10 t10,[{target:=.collected D,args:=#[]}]⟩ (.inRegion (afA a) is::.code (vW a)::[])
def abE(d:fy f61 xb sb B1 Wg B2 D L n cl .ready O w):
  CJ prog aq link.tWg Wg (λh j a=>h=O/\j=G (Frame.enter prog 101 #[pt Wg] .normal) (wtF f61 xb B1 Wg B2 D [0] au::cs0)/\fy f61 xb sb B1 Wg B2 D L n cl .exhausted O a/\(∀b,O b->b≠L->a.heap[b]? =w.heap[b]?)/\w.heap.size<=a.heap.size/\a.os=w.os) O
   (oU f61 f96 xb sb B1 Wg B2 D L n n v cs0) w:=by
 generalize hS:(λ(h:Nat->Prop) (j:bQ) (a:az)=>h=O/\j=G (Frame.enter prog 101 #[pt Wg] .normal) _/\fy _ xb sb B1 Wg B2 D L n cl .exhausted O a/\(∀b,O b->b≠L->a.heap[b]? =w.heap[b]?)/\w.heap.size<=a.heap.size/\a.os=w.os)=t;simp only[oU,rZ,f96,hdT];refine .seq ?_;refine .region ?_;simp only[iV,eT,iU,pM,fU,eF,pJ];refine .op (.bool av) rfl rfl (by simp[base]) iC iD ?_
 walk_nrm
 refine .regionEnd (.seq (.cond (v:=av) rfl ?_));simp only[cS,eR,dQ];refine .exit rfl (.end_ (.leave rfl rfl rfl func96 rfl ?_));rw[aaf];refine .gl (l:=L) (r:=lT ep ⟨kL xb B1 Wg B2,[]⟩ #[7] (nL f61) (lM f61) D .exhausted) rfl d.oL (bp.1 d.lp).1 (λs r=>aeh aS (d.rel r).lp rfl rfl) λg f=>?_;have o:=(d.rel f).gl .exhausted;have m:∀b,O b->b≠L->(gl g L (lT ep ⟨kL xb B1 Wg B2,[]⟩ #[7] (nL f61) (lM f61) D .exhausted)).heap[b]? =w.heap[b]? :=λb e k=>(qh k).trans (f.own b e);have q:w.heap.size<=(gl g L (lT ep ⟨kL xb B1 Wg B2,[]⟩ #[7] (nL f61) (lM f61) D .exhausted)).heap.size:=by rw[xF];exact f.size
 have p:(gl g L (lT ep ⟨kL xb B1 Wg B2,[]⟩ #[7] (nL f61) (lM f61) D .exhausted)).os=w.os:=f.os;generalize gl g L _=u at o m q p⊢;simp only[zR,f61];refine .inBlock (.seq ?_);refine .region ?_;simp only[iV,eT,iU,pM,fU,eF,pJ];refine .call rfl rfl (by simp[ep]) rfl func101 aS rfl ?_
 walk_nrm
 subst hS;exact .stop λs r=>⟨rfl,rfl,o.rel r,λb e k=>(r.own b e).trans (m b e k),dm q r.size,r.os.trans p⟩
end
end
section
open Classical
open Go.Conc Go.Conc.Lib Go.ConcN.Gen Go.ConcR.Gen Go.RowKit
open Go.ConcN (ShN WgLive Has)
open Go.ConcR (Payload stA smA WgAt)
open Go.Proofs.Tryz
section
variable [aP] [bw]
def WS.mono{P}{a:aW}{Wg Q Q' p O g w}(h:WS P a Wg Q p O g w)(d:∀O w,Q O w->Q' O w):WS P a Wg Q' p O g w:=by
 induction h with
 |quit h k=>exact .quit h λj r=>d _ _ (k j r)
 |step c b q h f _ e=>exact .step c b q h f e
structure Setup(l:aB bN)(C:Nat->Nat->Prop)(R:Nat->lW->az->Prop)(K:Nat->Prop)(w0:az)(cl:aB (aY Nat))(xb sb B1 Wg n:Nat):Prop where
 fit:Fit prog l
 okR:aP.ok 100
 j8:prog.globals.size<=w0.heap.size
 len:cl.length=n
 small:n<2147483647
 closed:∀(j:Nat) c,cl[j]? =aa (aa c)->Closed (C c) w0/\C c c
 IT:∀(j f:Nat) c d,cl[j]? =aa (aa c)->cl[f]? =aa (aa d)->j≠f->∀b,C c b->¬C d b
 cA:∀(j:Nat) c,cl[j]? =aa (aa c)->∀b,C c b->¬K b/\b≠Wg/\b<w0.heap.size
 kx:K xb/\K sb/\K B1
 klt:∀b,K b->b<w0.heap.size
 KW:∀c e u a,R c e u->R c e (az.tp u a)
 KV:∀c e u,R c e u->∃v,e=aN v
 calls:∀(j:Nat) c,cl[j]? =aa (aa c)->∀w,(∀b,C c b->w.heap[b]? =w0.heap[b]?)->w0.heap.size<=w.heap.size->w.os=w0.os->∀a,Calls prog 100 #[pt c] ((mask (C c) w).tp a) (R c)
structure jq(C:Nat->Nat->Prop)(K:Nat->Prop)(w0:az)(cl:aB (aY Nat))(i:Nat)(O:Nat->Prop)(w:az):Prop where
 size:w0.heap.size<=w.heap.size
 os:w.os=w0.os
 lt:∀b,O b->b<w.heap.size
 rest:∀(j:Nat) c,i<=j->cl[j]? =aa (aa c)->∀b,C c b->O b/\w.heap[b]? =w0.heap[b]?
 kept:∀b,K b->O b/\w.heap[b]? =w0.heap[b]?
variable {C:Nat->Nat->Prop} {R:Nat->lW->az->Prop} {K:Nat->Prop} {w0:az} {cl:aB (aY Nat)} {xb sb B1 Wg n B2 D L:Nat} {O:Nat->Prop} {w:az} {i:Nat}
def jq.rel{w₁}(h:jq C K w0 cl i O w)(r:Rel link.tWg Wg O w w₁):jq C K w0 cl i O w₁:=
 ⟨dm h.size r.size,r.os.trans h.os,λb a=>dy (h.lt b a) r.size,λj c e d b a=>⟨(h.rest j c e d b a).1,(r.own b (h.rest j c e d b a).1).trans (h.rest j c e d b a).2⟩,λb a=>⟨(h.kept b a).1,(r.own b (h.kept b a).1).trans (h.kept b a).2⟩⟩
def jq.next(h:jq C K w0 cl i O w){i'}(b:i<=i'):jq C K w0 cl i' O w:=⟨h.size,h.os,h.lt,λj c d a=>h.rest j c ak a,h.kept⟩
def Lk{fD st ad v}(a:ad.block=Wg)(h:fy fD xb sb B1 Wg B2 D L n cl st O w)(d:WgLive link.tWg Wg (w.setCell ad v)):fy fD xb sb B1 Wg B2 D L n cl st O (w.setCell ad v):=
 h.kept (λ_ x=>x) h.nW (λb c=>(Dh w ad v).block b λe=>h.nW (a▸e▸c)) d
def Li{ad v}(k:ad.block=Wg)(g:¬O Wg)(h:jq C K w0 cl i O w):jq C K w0 cl i O (w.setCell ad v):=
 ⟨by simpa using h.size,(by simp[gm]:(w.setCell ad v).os=w.os).trans h.os,λb a=>by simpa using h.lt b a,λj c f d b a=>⟨(h.rest j c f d b a).1,((Dh w ad v).block b λe=>g (k▸e▸(h.rest j c f d b a).1)).trans (h.rest j c f d b a).2⟩,λb a=>⟨(h.kept b a).1,((Dh w ad v).block b λe=>g (k▸e▸(h.kept b a).1)).trans (h.kept b a).2⟩⟩
def sat(cl:aB (aY Nat)):aB Nat:=cl.filterMap id
def Qs(C:Nat->Nat->Prop)(R:Nat->lW->az->Prop)(cl:aB (aY Nat))(m:Nat)(O:Nat->Prop)(w:az):Prop:=∃c,(sat cl)[m]? =aa c/\Qr (C c) (R c) O w
def DD(a:iH)(C:Nat->Nat->Prop)(K:Nat->Prop)(w0:az)(cl:aB (aY Nat))(xb sb B1 Wg n:Nat)(cs0:aB aU)(m:Nat)(O:Nat->Prop)(g:bQ)(w:az):Prop:=
 m=(sat cl).length/\∃B2 D L,g=G (wtF a xb B1 Wg B2 D [] (.tuple #[])) cs0/\fy a xb sb B1 Wg B2 D L n cl .exhausted O w/\jq C K w0 cl n O w/\w0.heap.size<=B2/\w0.heap.size<=D
def abm{c}(h:cl[i]? =aa (aa c)):(sat cl)[(sat (cl.take i)).length]? =aa c/\(sat (cl.take (i+1))).length=(sat (cl.take i)).length+1:=by
 have e:sat cl=sat (cl.take i)++(c::sat (cl.drop (i+1))):=by
  have a:=eL.1 h
  have b:cl=cl.take i++(aa c::cl.drop (i+1)):=by rw[<-a.2,<-An ((eL.1 h).1),pK]
  rw[(dX sat b)];simp[sat]
 constructor
 ·rw[e,qz (bC _)];simp
 ·rw[sX,h];simp[sat]
def abl(h:cl[i]? =aa ay):(sat (cl.take (i+1))).length=(sat (cl.take i)).length:=by rw[sX,h];simp[sat]
def abk:∀cl:aB (aY Nat),(sat cl).length<=cl.length:=λcl=>List.length_filterMap_le _ _
end
end
section
open Go.Conc Go.Conc.Lib Go.ConcN.Gen Go.ConcR.Gen Go.RowKit
open Go.ConcN (ShN WgLive Has)
open Go.ConcR (Payload stA smA WgAt)
open Go.Proofs.Tryz
section
variable [aP] [bw] {l:aB bN} {C:Nat->Nat->Prop} {R:Nat->lW->az->Prop} {K:Nat->Prop} {w0:az} {cl:aB (aY Nat)} {xb sb B1 Wg n L:Nat} {O:Nat->Prop} {w:az} {i:Nat}
def jq.BF(S:Setup l C R K w0 cl xb sb B1 Wg n)(h:jq C K w0 cl i O w)(q:w0.heap.size<=L){O' w'}(f:∀b,O b->O' b)(m:∀b,O' b->b<w'.heap.size)(he:∀b,O b->b≠L->w'.heap[b]? =w.heap[b]?)(p:w.heap.size<=w'.heap.size)(o:w'.os=w.os):jq C K w0 cl i O' w':=by
 refine⟨dm h.size p,o.trans h.os,m,λj c k g b d=>?_,λb d=>?_⟩
 ·obtain⟨a,e⟩:=h.rest j c k g b d;have:=(S.cA j c g b d).2.2;exact⟨f b a,(he b a ak).trans e⟩
 ·obtain⟨a,e⟩:=h.kept b d;have:=S.klt b d;exact⟨f b a,(he b a ak).trans e⟩
def We(Wg):Frame.enter prog 97 #[pt Wg,an 1] .normal=(base link.add).at ⟨#[pt Wg,an 1,au,au,au,au,au,au,au,au,au,au,au,au,au,au,au,au,au,au,au,au,au,au,au,au,au,au,au,au,au,au,au,au,au,au,au,au,au,au,au,au,au,au,au,au,au,au,au,au,au,au,au,au,au,au,au,au,au,au,au,au,au,au,au,au,au,au,au,au,au,au,au,au,au,au,au,au,au,au,au,au,au,au,au,au,au,au,au,au,au,au,au,au,au,au,au,au,au,au,au,au,au,au,au,au,au,au,au,au,au,au,au,au,au,au,au],[]⟩ [.code (body_add link)]:=by
 rw[uE _ xU.f_add rfl]
 walk_nrmf addFn
 rfl
def afC(Wg):Frame.enter prog 101 #[pt Wg] .normal=(base link.wait).at ⟨#[pt Wg,au,au,au,au,au,au,au,au,au,au,au,au,au,au,au,au,au,au,au,au,au,au,au,au,au,au,au,au,au,au,au,au,au,au,au,au,au,au,au,au,au,au,au,au,au,au,au,au,au,au,au,au,au,au,au,au,au,au,au,au,au,au,au,au,au,au,au,au,au,au,au,au,au,au,au,au,au,au,au,au,au,au,au],[]⟩ [.code (body_wait link)]:=by
 rw[uE _ xU.f_wait rfl]
 walk_nrmf waitFn
 rfl
end
section
variable [aP] [bw] {l:aB bN} {C:Nat->Nat->Prop} {R:Nat->lW->az->Prop} {K:Nat->Prop} {w0:az} {cl:aB (aY Nat)} {xb sb B1 Wg n B2 D L:Nat} {O:Nat->Prop} {w:az} {cs0:aB aU}
def O7{M m}(S:Setup l C R K w0 cl xb sb B1 Wg n)(hm:m=(sat cl).length)(f:w0.heap.size<=B2)(i:w0.heap.size<=D)(c:fy f61 xb sb B1 Wg B2 D L n cl .exhausted O w)(hF:jq C K w0 cl n O w):
  MS prog link.tWg Wg (DD f61 C K w0 cl xb sb B1 Wg n cs0) (Qs C R cl) M m .opn O (G (Frame.enter prog 101 #[pt Wg] .normal) (wtF f61 xb B1 Wg B2 D [0] au::cs0)) w:=by
 rw[afC]
 refine O9 (J:=λw=>fy f61 xb sb B1 Wg B2 D L n cl .exhausted O w/\jq C K w0 cl n O w) (λw j r h=>⟨h.1.rel r,h.2.rel r⟩) (λw v a h=>⟨Lk rfl h.1 a,Li rfl h.1.nW h.2⟩) (λw v a h=>⟨Lk rfl h.1 a,Li rfl h.1.nW h.2⟩) (b:=2147483646) (bC _)
  (Fin:=λg w=>g=G (wtF f61 xb B1 Wg B2 D [] (.tuple #[])) cs0) (λg w d h=>?_) (afE xU (λw _=>rfl)) ⟨c,hF⟩ (afB xU w c.lv)
 have e:=h w (.refl ..);subst e;exact .done λj r=>⟨hm,B2,D,L,rfl,d.1.rel r,d.2.rel r,f,i⟩
def O6{Post Q M m B c f1 f2 fD}(J:az->Prop)(d:∀w b,Rel link.tWg Wg O w b->J w->J b)(f:∀w v,WgLive link.tWg Wg (w.setCell (stA Wg) v)->J w->J (w.setCell (stA Wg) v))(hF:∀w,J w->MS prog link.tWg Wg Post Q M m .ready O (G ((rnF fD xb B1 Wg B2 L B c [0] au).finish (.tuple #[])) (f1::f2::cs0)) w)(a:J w)(i:WgLive link.tWg Wg w):
  MS prog link.tWg Wg Post Q M m .opn O (G (Frame.enter prog 97 #[pt Wg,an 1] .normal) (rnF fD xb B1 Wg B2 L B c [0] au::f1::f2::cs0)) w:=by
 rw[We];refine O4 (J:=J) d f (Fin:=λg w=>g=G ((rnF fD xb B1 Wg B2 L B c [0] au).finish (.tuple #[])) (f1::f2::cs0)) (λg w a h=>?_) a (Wd xU (λw _=>rfl) w i);have e:=h w (.refl ..);subst e;exact hF w a
end
section
variable [aP] [bw] {l:aB bN} {C:Nat->Nat->Prop} {R:Nat->lW->az->Prop} {K:Nat->Prop} {w0:az} {cl:aB (aY Nat)} {xb sb B1 Wg n B2 D L:Nat} {cs0:aB aU}
def fy.split{fD st}{O A:Nat->Prop}{w:az}(h:fy fD xb sb B1 Wg B2 D L n cl st O w)(g:¬A xb)(f:¬A sb)(a:¬A B1)(c:¬A B2)(d:¬A D)(e:¬A L):fy fD xb sb B1 Wg B2 D L n cl st (λb=>O b/\¬A b) w:=
 ⟨⟨h.ox,g⟩,⟨h.os,f⟩,⟨h.o1,a⟩,⟨h.o2,c⟩,⟨h.oD,d⟩,⟨h.oL,e⟩,λk=>h.nW k.1,h.lv,h.b1,h.b2,h.sl,h.at_,h.len,h.df,h.lp,h.bx⟩
def Kj[alC](S:Setup l C R K w0 cl xb sb B1 Wg n)(F:w0.heap.size<=B2)(G:w0.heap.size<=D)(u:w0.heap.size<=L):∀(k i:Nat) (v:Nat->aE) (O:Nat->Prop) (w:az),i+k=n->fy f61 xb sb B1 Wg B2 D L n cl .ready O w->jq C K w0 cl i O w->
  MS prog link.tWg Wg (DD f61 C K w0 cl xb sb B1 Wg n cs0) (Qs C R cl) n (sat (cl.take i)).length .opn O (oU f61 f96 xb sb B1 Wg B2 D L n i v cs0) w
 |0,i,v,O,w,hk,f,hF=>by obtain rfl:i=n:=ak;refine xB (aF rfl) (abE f) λz N s h=>?_;obtain⟨rfl,rfl,bf,he,g,X⟩:=h s (.refl ..);refine O7 S ?_ F G bf (hF.BF S u (λ_ x=>x) (λb a=>dy (hF.lt b a) g) he g X);rw[sY (Nat.le_of_eq S.len)]
 |k+1,i,v,O,w,hk,f,hF=>by
  have I:i<n:=ak;have W:n<4294967296:=by have:=S.small;omega
  have aG:i<cl.length:=by rw[S.len];exact I
  cases hx:cl[i]with
  |none=>
   have d:cl[i]? =aa ay:=by rw[ef aG,hx]
   refine xB (aF rfl) (Stop:=λz N s=>z=O/\(∃v,N=oU f61 f96 xb sb B1 Wg B2 D L n (i+1) v cs0)/\Rel link.tWg Wg O w s) (abD f I W d λv=>.stop λbJ r=>⟨rfl,⟨v,rfl⟩,r⟩) λz N s h=>?_;obtain⟨rfl,⟨v',rfl⟩,r⟩:=h s (.refl ..);have:=Kj S F G u k (i+1) v' z s ak (f.rel r) ((hF.rel r).next (kr i));rw[abl d]at this;exact this
  |some c=>
   have d:cl[i]? =aa (aa c):=by rw[ef aG,hx]
   obtain⟨aH,bF⟩:=abm d;refine xB (aF rfl) (abA f hF.lt I W d) λE g1 Z h=>?_;obtain⟨B,v1,rfl,Ju,m,Qd,zk,bk,ah,bt,aI,bB⟩:=h Z (.refl ..);have bA:∀b,E b->b<Z.heap.size:=λb a=>(ah b a).elim (λh=>dy (hF.lt b h) aI) λh=>h.2;have aT:jq C K w0 cl i E Z:=hF.BF S u bk bA bt aI bB;have bP:w.heap.size<=B:=(ah B m).elim (λh=>absurd h Qd) λh=>h.1
   refine O6 (λw=>fy f61 xb sb B1 Wg B2 D L n cl .busy E w/\jq C K w0 cl i E w/\w.cell? (aj B 0)=aa (pt c)) (λw bJ r h=>⟨h.1.rel r,h.2.1.rel r,(r.cell (ad:=aj B 0) m).trans h.2.2⟩)
    (λw v hl h=>⟨Lk rfl h.1 hl,Li rfl h.1.nW h.2.1,(cell_of (ad:=aj B 0) ((Dh w (stA Wg) v).block B λe=>h.1.nW ((show B=Wg from e)▸m))).trans h.2.2⟩) (λw2 hJ=>?_) ⟨Ju,aT,zk⟩ Ju.lv
   obtain⟨A3,aV,bl⟩:=hJ;refine xB (aD rfl) abC λJ g3 w3 h=>?_;obtain⟨rfl,rfl,Y⟩:=h w3 (.refl ..);have T:=A3.rel Y;have Q:=aV.rel Y
   have aS:∀b,C c b->b≠B:=λb a e=>by have:=(S.cA i c d b a).2.2;have:=hF.size;omega
   have hA:∀b,(C c b\/b=B)->J b:=λb a=>a.elim (λh=>(Q.rest i c (bC _) d b h).1) λh=>h▸m;have an:∀b,O b->¬C c b->¬(C c b\/b=B):=λb a hc h=>h.elim hc λe=>Qd (e▸a);have H:∀b,K b->¬(C c b\/b=B):=λb a=>an b (hF.kept b a).1 λh=>(S.cA i c d b h).1 a
   have U:∀b,O b->w0.heap.size<=b->¬(C c b\/b=B):=λb a bR=>an b a λh=>by have:=(S.cA i c d b h).2.2;omega
   refine .spawn (A:=λb=>C c b\/b=B) (R:=λb=>J b/\¬(C c b\/b=B)) ?_ rfl hA (λb a=>a.1) (λb a h=>h.2 a) (λb a=>(Classical.em (C c b\/b=B)).imp id λh=>⟨a,h⟩) (λy q=>⟨_,_,LF _ _ y,rfl⟩) (λy g4 ch q g=>?_) λy g4 ch q g=>?_
   ·have P:=abk cl;have h2:=(eL.1 aH).1;rw[S.len]at P;omega
   ·rw[LF]at g;cases g;have p:=Q.rel q;have aC:∀b,C c b->y.heap[b]? =w0.heap[b]? :=λb a=>(p.rest i c (bC _) d b a).2;refine(afX S.fit S.okR (dm S.j8 p.size) (λb a=>?_) (S.closed i c d).2 (λh=>aS B h rfl) (λh=>(S.cA i c d Wg h).2.1 rfl) (λe=>T.nW (e▸m)) (q.live T.lv) ((q.cell (ad:=aj B 0) m).trans ((Y.cell (ad:=aj B 0) m).trans bl)) (S.KW c) (S.KV c) (S.calls i c d y aC p.size p.os)).mono λz s hq=>⟨c,aH,hq⟩;obtain⟨o,X,xx⟩:=(S.closed i c d).1 b a;exact⟨o,(aC b a).trans X,xx⟩
   ·rw[LF]at g;cases g
    have p:jq C K w0 cl (i+1) (λb=>J b/\¬(C c b\/b=B)) y:=by have t:=Q.rel q;refine⟨t.size,t.os,λb a=>t.lt b a.1,λj M hj V b a=>?_,λb a=>⟨⟨(t.kept b a).1,H b a⟩,(t.kept b a).2⟩⟩;obtain⟨P,h2⟩:=t.rest j M ak V b a;refine⟨⟨P,λh=>h.elim (S.IT j i M c V d ak b a) λe=>?_⟩,h2⟩;have:=(S.cA j M V b a).2.2;have:=hF.size;omega
    refine xB (aF rfl) (abB ((T.rel q).split (A:=λb=>C c b\/b=B) (H _ S.kx.1) (H _ S.kx.2.1) (H _ S.kx.2.2) (U _ f.o2 F) (U _ f.oD G) (U _ f.oL u)) I W) λO5 g5 w5 h=>?_;obtain⟨rfl,⟨v5,rfl⟩,bg,bu,aJ,bD⟩:=h w5 (.refl ..);have:=Kj S F G u k (i+1) v5 _ w5 ak bg (p.BF S u (λ_ x=>x) (λb a=>dy (p.lt b a) aJ) bu aJ bD);rw[bF]at this;exact this
end
end
section
open Classical
open Go.Conc Go.Conc.Lib Go.ConcN.Gen Go.ConcR.Gen Go.RowKit
open Go.ConcN (ShN WgLive Has)
open Go.ConcR (Payload stA smA WgAt)
open Go.Proofs.Tryz
section
variable [aP]
structure Enters(l:aB bN)(C:Nat->Nat->Prop)(R:Nat->lW->az->Prop)(u:az)(cl:aB (aY Nat))(xb sb n:Nat):Prop where
 fit:Fit prog l
 okR:aP.ok 100
 okS:aP.ok 96
 kn:aP.known 61
 len:cl.length=n
 small:n<2147483647
 sl:u.cell? (aj xb 9)=aa (.slice (aa (aj sb 0)) n n)
 at_:∀(j:Nat) v,cl[j]? =aa v->u.cell? (aj sb j)=aa (vp v)
 dO:∃o,u.heap[sb]? =aa o/\o≠bZ
 closed:∀(j:Nat) c,cl[j]? =aa (aa c)->Closed (C c) u/\C c c
 IT:∀(j f:Nat) c d,cl[j]? =aa (aa c)->cl[f]? =aa (aa d)->j≠f->∀b,C c b->¬C d b
 cA:∀(j:Nat) c,cl[j]? =aa (aa c)->¬C c xb/\¬C c sb
 KW:∀c e u a,R c e u->R c e (az.tp u a)
 KV:∀c e u,R c e u->∃v,e=aN v
 calls:∀(j:Nat) c,cl[j]? =aa (aa c)->∀w,(∀b,C c b->w.heap[b]? =u.heap[b]?)->u.heap.size<=w.heap.size->w.os=u.os->∀a,Calls prog 100 #[pt c] ((mask (C c) w).tp a) (R c)
structure After(C:Nat->Nat->Prop)(R:Nat->lW->az->Prop)(cl:aB (aY Nat))(u d:az)(xb g m h D:Nat):Prop where
 size:u.heap.size<=d.heap.size
 os:d.os=u.os
 news:u.heap.size<=g/\u.heap.size<=m/\u.heap.size<=h/\u.heap.size<=D
 kept:∀b,b<u.heap.size->(∀(j:Nat) c,cl[j]? =aa (aa c)->¬C c b)->d.heap[b]? =u.heap[b]?
 b1:d.heap[g]? =aa (aA #[pt xb] 36)
 b2:d.heap[h]? =aa (aA #[pt xb] 36)
 df:d.heap[D]? =aa (.deferred (aa []))
 reads:∃e:Nat->Nat->Prop,(∀c i b,c∈sat cl->i∈sat cl->c≠i->e c b->¬e i b)/\(∀c b,c∈sat cl->e c b->b≠g/\b≠h/\b≠D/\(b<u.heap.size->C c b))/\
  ∀c,c∈sat cl->∃k f v,R c (aN v) k/\(eA (C c)).le f/\fA prog f k d/\Whole (λ_=>False) f k/\∀a b,f a b->e c b
def EX{cl c}:c∈sat cl↔∃j:Nat,cl[j]? =aa (aa c):=by
 unfold sat;rw[Hf];constructor
 ·rintro⟨x,b,e⟩;obtain rfl:x=aa c:=e;exact oq.1 b
 ·rintro⟨j,a⟩;exact⟨aa c,oq.2 ⟨j,a⟩,rfl⟩
def Ce{X b}(h:X b):VR (eA X) (pt b) (pt b):=.ptr ⟨⟨rfl,h⟩,rfl,rfl⟩
def V5{X b}(t)(h:X b):OR (eA X) (aA #[pt b] t) (aA #[pt b] t):=.cells _ _ ⟨rfl,λi v d a c=>by
 rw[a]at c;cases c
 match i,a with
 |0,a=>cases a;exact Ce h
 |i+1,a=>simp at a⟩
variable [bw] {l:aB bN} {C:Nat->Nat->Prop} {R:Nat->lW->az->Prop} {cl:aB (aY Nat)} {xb sb n:Nat} {u u1 w w1:az} {cs:aB aU} {fr:aU} {gs:aK bQ} {t:Trace} {q:Nat->Nat} {Shun:Loc->Prop} {S:Nat->Prop} {ρ:Ren} {x:Obj}
def Kb(C:Nat->Nat->Prop)(cl:aB (aY Nat))(S:Nat->Prop)(ρ:Ren)(b:Nat):Prop:=(ρ b b/\¬S b)/\∀(j:Nat) c,cl[j]? =aa (aa c)->¬C c b
def Enters.own(E:Enters l C R u cl xb sb n)(p:∀b,b<u.heap.size->u1.heap[b]? =u.heap[b]?)(i:dZ prog Shun S fr cs u1 ρ gs w t q){j c:Nat}(m:cl[j]? =aa (aa c)){b:Nat}(k:C c b):b<u.heap.size/\ρ b b/\¬S b/\w.heap[b]? =u.heap[b]? /\∃o,w.heap[b]? =aa o/\OR (eA (C c)) o o:=by obtain⟨o,a,f⟩:=(E.closed j c m).1 b k;have e:=(bp.1 a).1;obtain⟨g,h,d,_⟩:=i.heap ((p b e).trans a) (fF f);exact⟨e,g,h,d.trans a.symm,o,d,f⟩
def Enters.setup(E:Enters l C R u cl xb sb n)(m:∀b,b<u.heap.size->u1.heap[b]? =u.heap[b]?)(N:u1.heap.size=u.heap.size+1)(D:u1.cell? (aj u.heap.size 0)=aa (pt xb))(H:u1.os=u.os)(f:dZ prog Shun S fr cs u1 ρ gs w t q)(v:w1.heap=w.heap.push x)(I:w1.os=w.os):
  Setup l C R (Kb C cl S ρ) w1 cl xb sb u.heap.size w.heap.size n:=by
 have M:u1.heap.size=w.heap.size:=f.size;have L:w1.heap.size=w.heap.size+1:=by rw[v];simp
 have s:∀b,b<w.heap.size->w1.heap[b]? =w.heap[b]? :=λb d=>by rw[v,fG,aQ ak]
 have k:=λ{j c:Nat} (a:cl[j]? =aa (aa c)) {b:Nat} (d:C c b)=>E.own m f a d
 have p:∀b,(∃o,u1.heap[b]? =aa o/\o≠bZ)->(∀(j:Nat) c,cl[j]? =aa (aa c)->¬C c b)->Kb C cl S ρ b:=λb ⟨o,e,i⟩ F=>by obtain⟨g,r,_,_⟩:=f.heap e i;exact⟨⟨g,r⟩,F⟩
 refine⟨E.fit,E.okR,?_,E.len,E.small,λj c a=>⟨λb d=>?_,(E.closed j c a).2⟩,E.IT,λj c a b d=>?_,⟨p _ ?_ λj c a=>(E.cA j c a).1,p _ ?_ λj c a=>(E.cA j c a).2,p _ (qY D) λj c a h=>?_⟩,λb d=>?_,E.KW,E.KV,λj c a J g r z=>?_⟩
 ·have:=f.world.base;omega
 ·obtain⟨g,_,_,_,o,A,B⟩:=k a d;exact⟨o,(s b ak).trans A,B⟩
 ·obtain⟨g,_⟩:=k a d;exact⟨λG=>G.2 j c a d,ak,ak⟩
 ·obtain⟨o,e,i⟩:=qY E.sl;exact⟨o,(m _ (bp.1 e).1).trans e,i⟩
 ·obtain⟨o,e,i⟩:=E.dO;exact⟨o,(m _ (bp.1 e).1).trans e,i⟩
 ·have:=(k a h).1;exact rL _ this
 ·have:=(f.world.lt b b d.1.1).2;omega
 ·refine E.calls j c a J (λb d=>?_) ak ?_
  ·obtain⟨K,_,_,y,_⟩:=k a d;exact(g b d).trans ((s b ak).trans y)
  ·rw[z,I,f.world.os.1,H]
end
section
variable [aP] [bw] {l:aB bN} {C:Nat->Nat->Prop} {R:Nat->lW->az->Prop} {cl:aB (aY Nat)} {xb sb n:Nat} {u u1 w w1 w':az} {cs:aB aU} {fr:aU} {gs:aK bQ} {t:Trace} {q:Nat->Nat} {Shun:Loc->Prop} {S:Nat->Prop} {ρ:Ren} {x:Obj} {Oq:Nat->Nat->Prop} {O':Nat->Prop} {m B2 D L:Nat}
def NC(C:Nat->Nat->Prop)(R:Nat->lW->az->Prop)(cl:aB (aY Nat))(m:Nat)(Oq:Nat->Nat->Prop)(w':az)(i c:Nat)(e:az)(d:Ren)(v:aE):Prop:=
 i<m/\(sat cl)[i]? =aa c/\R c (aN v) e/\(eA (C c)).le d/\fA prog d e w'/\Whole (λ_=>False) d e/\∀a b,d a b->Oq i b
def Ob(C:Nat->Nat->Prop)(R:Nat->lW->az->Prop)(cl:aB (aY Nat))(S:Nat->Prop)(ρ:Ren)(m:Nat)(Oq:Nat->Nat->Prop)(w':az)(B2 D:Nat)(b:Nat):Prop:=
 Kb C cl S ρ b\/b=B2\/b=D\/∃i c e d v,NC C R cl m Oq w' i c e d v/\∃a,d a b
def Enters.over(E:Enters l C R u cl xb sb n)(P:∀b,b<u.heap.size->u1.heap[b]? =u.heap[b]?)(bF:u1.heap.size=u.heap.size+1)(xw:u1.heap[u.heap.size]? =aa (aA #[pt xb] 36))(bn:u1.os=u.os)(G:dZ prog Shun S fr cs u1 ρ gs w t q)(aI:w1.heap=w.heap.push x)(bq:w1.os=w.os)
  (hm:m=(sat cl).length) (K:fy f61 xb sb u.heap.size w.heap.size B2 D L n cl .exhausted O' w') (hF:jq C (Kb C cl S ρ) w1 cl n O' w') (Qc:w1.heap.size<=B2) (hD:w1.heap.size<=D)
  (hQ:∀i,i<m->Qs C R cl i (Oq i) w') (T:∀b,O' b->∀i,i<m->¬Oq i b) (aC:∀b i j,i<m->j<m->Oq i b->Oq j b->i=j) (nR:∀b,O' b\/(∃i,i<m/\Oq i b)->b≠w.heap.size/\b<w'.heap.size/\¬S b/\((ρ b b/\¬S b)\/w.heap.size<b)) (aH:gY w1 w'):
  (∀b,ρ b b->Ob C R cl S ρ m Oq w' B2 D b\/S b\/b=w.heap.size)/\
  (∀b,Ob C R cl S ρ m Oq w' B2 D b->b≠w.heap.size/\(b<w.heap.size->ρ b b/\¬S b)/\∃o,w'.heap[b]? =aa o/\OR (eA λb=>Ob C R cl S ρ m Oq w' B2 D b\/S b\/b=w.heap.size) o o)/\
  After C R cl u (mask (Ob C R cl S ρ m Oq w' B2 D) w') xb u.heap.size w.heap.size B2 D:=by
 have bE:=G.size;have bD:w1.heap.size=w.heap.size+1:=by rw[aI];simp
 have bB:=aH.size;have bl:∀b,b<w.heap.size->w1.heap[b]? =w.heap[b]? :=λb d=>by rw[aI,fG,aQ ak]
 have QL:∀b,ρ b b->b<w.heap.size:=λb d=>(G.world.lt b b d).2
 have Y:∀c,c∈sat cl->∃i z A v,NC C R cl m Oq w' i c z A v:=λc F=>by
  obtain⟨i,O⟩:=oq.1 F;have M:i<m:=by rw[hm];exact(eL.1 O).1
  obtain⟨k,g,z,A,v,r,f,B,h5,h6⟩:=hQ i M;rw[O]at g;cases g;exact⟨i,z,A,v,M,O,r,f,B,h5,h6⟩
 have bw:∀i c,i<m->(sat cl)[i]? =aa c->∀b,Oq i b->b<w.heap.size->C c b:=λi c M O b d U=>by
  have bk:=(nR b (aD ⟨i,M,d⟩)).2.2.2.resolve_right ak;refine og λah=>?_
  by_cases y:Kb C cl S ρ b
  ·exact T b (hF.kept b y).1 i M d
  ·obtain⟨j,s⟩:∃j k,cl[j]? =aa (aa k)/\C k b:=og λh=>y ⟨bk,λj k s F=>h ⟨j,k,s,F⟩⟩;obtain⟨k,s,N⟩:=s;obtain⟨i',z,A,v,V,Q,_,W,_,_,X⟩:=Y k (EX.2 ⟨j,s⟩);have:=aC b i i' M V d (X b b (W b b ⟨rfl,N⟩));subst this;rw[O]at Q;cases Q;exact ah N
 have aJ:∀b,ρ b b->Ob C R cl S ρ m Oq w' B2 D b\/S b\/b=w.heap.size:=λb d=>by
  by_cases hS:S b
  ·exact aD (aF hS)
  by_cases y:Kb C cl S ρ b
  ·exact aF (aF y)
  ·obtain⟨j,k,s,N⟩:∃j k,cl[j]? =aa (aa k)/\C k b:=og λh=>y ⟨⟨d,hS⟩,λj k s F=>h ⟨j,k,s,F⟩⟩;obtain⟨i,z,A,v,p⟩:=Y k (EX.2 ⟨j,s⟩);exact aF (aD (aD (aD ⟨i,k,z,A,v,p,b,p.2.2.2.1 b b ⟨rfl,N⟩⟩)))
 have aT:Kb C cl S ρ xb:=by obtain⟨o,I,J⟩:=qY E.sl;obtain⟨g,r,_,_⟩:=G.heap ((P _ (bp.1 I).1).trans I) J;exact⟨⟨g,r⟩,λj c s=>(E.cA j c s).1⟩
 have an:Kb C cl S ρ u.heap.size:=by obtain⟨g,r,_,_⟩:=G.heap xw (by intro e;cases e);exact⟨⟨g,r⟩,λj c s h=>rL _ (E.own P G s h).1⟩
 have af:∀b,Kb C cl S ρ b->∃o,u1.heap[b]? =aa o/\o≠bZ/\w'.heap[b]? =aa o/\OR (eA λb=>ρ b b) o o:=λb y=>by obtain⟨o,I,J⟩:=G.EW y.1.1 y.1.2;obtain⟨_,_,f,B⟩:=G.heap I J;exact⟨o,I,J,(hF.kept b y).2.trans ((bl b (QL b y.1.1)).trans f),B⟩
 have aG:∀b,Ob C R cl S ρ m Oq w' B2 D b->(b<w.heap.size->(ρ b b/\¬S b)):=λb d U=>by
  rcases d with d|rfl|rfl|⟨i,c,z,A,v,p,a,H⟩
  ·exact d.1
  ·omega
  ·omega
  ·exact(nR b (aD ⟨i,p.1,p.2.2.2.2.2.2 a b H⟩)).2.2.2.resolve_right ak
 refine⟨aJ,λb d=>⟨?_,aG b d,?_⟩,?_⟩
 ·rcases d with d|rfl|rfl|⟨i,c,z,A,v,p,a,H⟩
  ·have:=QL b d.1.1;omega
  ·omega
  ·omega
  ·exact(nR b (aD ⟨i,p.1,p.2.2.2.2.2.2 a b H⟩)).1
 ·rcases d with d|rfl|rfl|⟨i,c,z,A,v,p,a,H⟩
  ·obtain⟨o,_,_,f,B⟩:=af b d;exact⟨o,f,B.mono (QM aJ)⟩
  ·exact⟨_,K.bx,V5 _ (aF (aF aT))⟩
  ·exact⟨_,K.df,.pX⟩
  ·obtain⟨o,I,xx⟩:=fA.closed p.2.2.2.2.1 p.2.2.2.2.2.1 b ⟨a,H⟩;exact⟨o,I,xx.mono (QM λb' bf=>aF (aD (aD (aD ⟨i,c,z,A,v,p,bf⟩))))⟩
 ·refine⟨by rw[vG];omega,?_,⟨bC _,ak,ak,ak⟩,λb d F=>?_,?_,?_,?_,λc b=>∃i,i<m/\(sat cl)[i]? =aa c/\Oq i b,?_,?_,?_⟩
  ·show w'.os=u.os;rw[aH.os,bq,G.world.os.1,bn]
  ·have U:b<w.heap.size:=ak;have Z:u.heap[b]? =aa u.heap[b]:=cL d
   by_cases J:u.heap[b]=bZ
   ·have ah:¬Ob C R cl S ρ m Oq w' B2 D b:=λI=>by
     obtain⟨g,r⟩:=aG b I U;obtain⟨o,f,B⟩:=G.EW g r;rw[P b d,Z]at f;exact B ((dM f).symm.trans J)
    rw[EV ah ak,Z,J]
   ·obtain⟨g,r,_,_⟩:=G.heap ((P b d).trans Z) J;have y:Kb C cl S ρ b:=⟨⟨g,r⟩,F⟩;obtain⟨o,f,_,B,_⟩:=af b y;rw[oZ (aF y),B,<-f,P b d]
  ·obtain⟨o,f,_,B,_⟩:=af _ an;rw[oZ (aF an),B,<-f,xw]
  ·rw[oZ (aD (aF rfl)),K.bx]
  ·rw[oZ (aD (aD (aF rfl))),K.df]
  ·rintro c k b F N bh ⟨i,g,r,f⟩ ⟨i',k1,k2,k3⟩;have:=aC b i i' g k1 f k3;subst this;rw[r]at k2;cases k2;exact bh rfl
  ·rintro c b F ⟨i,g,r,f⟩;exact⟨λe=>T _ K.o1 i g (e▸f),λe=>T _ K.o2 i g (e▸f),λe=>T _ K.oD i g (e▸f),λU=>bw i c g r b f ak⟩
  ·intro c F;obtain⟨i,z,A,v,p⟩:=Y c F;have bg:=p;obtain⟨V,Q,g3,W,g5,g6,X⟩:=p;exact⟨z,A,v,g3,W,g5.EW λa b H=>aD (aD (aD ⟨i,c,z,A,v,bg,a,H⟩)),g6,λa b H=>⟨i,V,Q,X a b H⟩⟩
end
end
section
open Go.Conc Go.Conc.Lib Go.ConcN.Gen Go.ConcR.Gen Go.RowKit
open Go.ConcN (ShN WgLive Has)
open Go.ConcR (Payload stA smA WgAt)
open Go.Proofs.Tryz
section
variable [aP] {l:aB bN} {C:Nat->Nat->Prop} {R:Nat->lW->az->Prop} {cl:aB (aY Nat)} {xb sb n:Nat} {u u1 w w1:az} {cs:aB aU} {fr:aU} {gs kJ:aK bQ} {t:Trace} {q:Nat->Nat} {Shun:Loc->Prop} {S:Nat->Prop} {ρ:Ren} {x:Obj} {sl:aY (Nat×Nat)}
def NA(e:iH)(C:Nat->Nat->Prop)(R:Nat->lW->az->Prop)(cl:aB (aY Nat))(u:az)(xb:Nat)(cs:aB aU)(f:aU)(d:aB aU)(g:az):Prop:=
 d=cs/\∃a c b D,f=wtF e xb a c b D [] (.tuple #[])/\After C R cl u g xb a c b D
def aga{X fD c d a D}(hS:aP.ok 96)(r:aP.known 61)(s:X xb)(g:X c)(m:X d)(j:X a)(k:X D):XF (eA X) (wtF fD xb c d a D [] (.tuple #[])):=by
 haveI:bw:=bS []
 have f:VR (eA X) au au:=sF _;have y:VR (eA X) (.tuple #[]) (.tuple #[]):=f
 have p:VR (eA X) (.func (.func 96) #[] #[pt a]) (.func (.func 96) #[] #[pt a]):=.func (.func _ hS) rfl (λi v e hv=>by simp at hv) rfl λi v e h b=>by
  rw[h]at b;cases b
  match i,h with
  |0,h=>cases h;exact Ce j
  |i+1,h=>simp at h
 refine⟨⟨rfl,λi v e h b=>?_⟩,.cons ⟨.collected ⟨rfl,k⟩,rfl,λi v e h=>by simp at h⟩ .nil,rfl,r,.run⟩;rw[h]at b;cases b;change((kL xb c d a).setIfInBounds 10 (.tuple #[]))[i]? =aa v at h
 have o:∀v∈(kL xb c d a).setIfInBounds 10 (.tuple #[]),VR (eA X) v v:=by
  intro v hv;simp only[kL,rI,rJ,rK,gx,kg,CU,or_false]at hv;rcases hv with rfl|rfl|rfl|rfl|rfl|rfl|rfl|rfl|rfl|rfl|rfl|rfl|rfl|rfl|rfl|rfl|rfl|rfl|rfl|rfl|rfl|rfl|rfl
  all_goals first|exact f|exact Ce s|exact Ce g|exact Ce m|exact p
 exact o v (lV h)
def atA(c:iH)(xb a b:Nat):aU:=ep.at ⟨#[pt xb,pt a,pt b,au,au,au,au,au,au,au,au,au,au,au,au,au,au,au,au,au,au,au,au],[]⟩ [.code (zB c)]
def Enters.ms[bw][alC](E:Enters l C R u cl xb sb n)(s:∀b,b<u.heap.size->u1.heap[b]? =u.heap[b]?)(Y:u1.heap.size=u.heap.size+1)(V:u1.heap[u.heap.size]? =aa (aA #[pt xb] 36))(Z:u1.os=u.os)(o:dZ prog Shun S fr cs u1 ρ gs w t q)(J:w1.heap=w.heap.push x)(ah:w1.os=w.os)(af:WgAt link.tWg w.heap.size w1 0 0):
  MS prog link.tWg w.heap.size (DD f61 C (Kb C cl S ρ) w1 cl xb sb u.heap.size w.heap.size n cs) (Qs C R cl) n 0 .opn (λb=>ρ b b/\¬S b) (G (atA f61 xb u.heap.size w.heap.size) cs) w1:=by
 have aG:w1.heap.size=w.heap.size+1:=by rw[J];simp
 have W:∀b,b<w.heap.size->w1.heap[b]? =w.heap[b]? :=λb d=>by rw[J,fG,aQ ak]
 have K:∀b,ρ b b->b<w.heap.size:=λb d=>(o.world.lt b b d).2
 have k:∀{a:fS} {v:aE},u1.cell? a=aa v->(ρ a.block a.block/\¬S a.block)/\w1.cell? a=aa v:=λ{a v} h=>by obtain⟨m,M,p⟩:=o.cell h;exact⟨⟨m,M⟩,(cell_of (W _ (K _ m))).trans p⟩
 have y:∀{a:fS} {v:aE},u.cell? a=aa v->u1.cell? a=aa v:=λ{a v} h=>(cell_of (s _ (za h))).trans h;have H:u1.cell? (aj u.heap.size 0)=aa (pt xb):=by simp[fH,V]
 obtain⟨aH,N,X⟩:=E.dO;obtain⟨s1,s2,_,_⟩:=o.heap ((s _ (bp.1 N).1).trans N) X
 refine xB (aF rfl) (Stop:=λi g e=>∃f D L v,g=oU f61 f96 xb sb u.heap.size w.heap.size f D L n 0 v cs/\fy f61 xb sb u.heap.size w.heap.size f D L n cl .ready i e/\jq C (Kb C cl S ρ) w1 cl 0 i e/\w1.heap.size<=f/\w1.heap.size<=D/\w1.heap.size<=L)
  (abz (cl:=cl) (n:=n) (k H).1 (k (y E.sl)).1 ⟨s1,s2⟩ (λh=>rL _ (K _ h.1)) (λb d=>by have:=K b d.1;omega) ⟨_,_,af⟩ (k H).2 (k (y E.sl)).2 (λj v I=>(k (y (E.at_ j v I))).2) E.len λf D L i e v m M p Q T U z A B F=>.stop λaI r=>⟨f,D,L,v,rfl,F.rel r,?_,z,A,B⟩) λi g e h=>?_
 ·refine jq.rel (w:=e) ?_ r;refine⟨T,U,Q,λj c _ I b d=>?_,λb d=>⟨m b d.1,p b d.1⟩⟩;obtain⟨_,O,P,_⟩:=E.own s o I d;exact⟨m b ⟨O,P⟩,p b ⟨O,P⟩⟩
 ·obtain⟨f,D,L,v,rfl,F,hF,z,A,B⟩:=h e (.refl ..);have:=Kj (cs0:=cs) (E.setup s Y H Z o J ah) z A B n 0 v i e ak F hF;simpa[sat]using this
def Enters.vq[bw][alC](E:Enters l C R u cl xb sb n)(r:∀b,b<u.heap.size->u1.heap[b]? =u.heap[b]?)(U:u1.heap.size=u.heap.size+1)(p:u1.heap[u.heap.size]? =aa (aA #[pt xb] 36))(V:u1.os=u.os)(c:dZ prog Shun S fr cs u1 ρ gs w t q)(s:w1.heap=w.heap.push x)(v:gY w w1)(W:WgAt link.tWg w.heap.size w1 0 0)
  {a} (I:kJ[0]? =aa a) (T:kJ.size=gs.size) (G:Leavers prog t kJ q)
  (N:MS prog link.tWg w.heap.size (DD f61 C (Kb C cl S ρ) w1 cl xb sb u.heap.size w.heap.size n cs) (Qs C R cl) n 0 .opn (λb=>ρ b b/\¬S b) a w1):
  Dx prog (NA f61 C R cl u xb cs) ρ Shun w kJ w1 sl t:=by
 refine ZZ c s v W I T G E.small N λm X Y j g P H J K O Z Q=>?_;obtain⟨hm,d,D,L,rfl,F,hF,y,z⟩:=P;obtain⟨h,A,B⟩:=E.over r U p V c s v.os hm F hF y z H J K O Q
 have M:ρ.le (eA λb=>Ob C R cl S ρ m g j d D b\/S b\/b=w.heap.size):=λa b k=>by obtain rfl:=c.same _ _ k;exact⟨rfl,h a k⟩
 have own:∀{b:Nat} {o:Obj},u1.heap[b]? =aa o->o≠bZ->Ob C R cl S ρ m g j d D b\/S b\/b=w.heap.size:=λf i=>h _ (c.heap f i).1;refine⟨_,cs,Ob C R cl S ρ m g j d D,rfl,⟨rfl,_,_,d,D,rfl,B⟩,A,aga E.okS E.kn ?_ (own p (by intro e;cases e)) (aD (aD rfl)) (aF (aD (aF rfl))) (aF (aD (aD (aF rfl)))),h,c.below.mono M⟩;obtain⟨o,f,i⟩:=qY E.sl;exact own ((r _ (bp.1 f).1).trans f) i
end
def qg(fn:iH):aK kU:=match fn.body with|some (.seq (.region _ x _) _)=>x|_=>#[]
def pg(fn:iH):aK kU:=match fn.body with|some (.seq _ (.seq (.region _ x _) _))=>x|_=>#[]
section
variable [aP] {l:aB bN} {C:Nat->Nat->Prop} {R:Nat->lW->az->Prop} {cl:aB (aY Nat)} {xb sb n:Nat} {u:az} {cs:aB aU}
def S8{Q k}(h:∀id a u,¬Q (.exit id) a u):qG Q k:=λid ⟨a,u,b⟩=>absurd b (h id a u)
def kK(xb:Nat)(x y:aE):Act:=⟨#[pt xb,x,y,au,au,au,au,au,au,au,au,au,au,au,au,au,au,au,au,au,au,au,au],[]⟩
def YC(xb):Frame.enter prog 61 #[pt xb] .normal=ep.at (kK xb au au) [.code (.seq (.region 0 (qg f61) av) (.seq (.region 1 (pg f61) av) (zB f61)))]:=by
 rw[uE (c:=.seq (.region 0 (qg f61) av) (.seq (.region 1 (pg f61) av) (zB f61))) _ func61 rfl];generalize (Code.seq _ _)=c;have a:f61.ntmps=23:=rfl;rw[a]
 walk_nrm
 rfl
def Xi(w):(execOp (kK xb au au).eval ((qg f61).getD 0 default)).run prog w=.ok (.value (pt w.heap.size)) {w with heap:=w.heap.push (aA #[pt xb] 36)}:=by simp only[qg,f61];unfold execOp;simp[go_sem,kK,Act.eval]
def K3(x w):(execOp (kK xb x au).eval ((pg f61).getD 0 default)).run prog w=.ok (.value (pt w.heap.size)) {w with heap:=w.heap.push (Ad link.tWg 0 0)}:=by simp;unfold execOp;simp[go_sem,kK,Act.eval];rfl
def K2(x w):listed prog ep.fn (kK xb x au) ((pg f61).getD 0 default) w=#[]:=by
 have:(execOp (kK xb x au).eval ((pg f61).getD 0 default)).events prog w #[]=#[]:=by simp only[pg,f61];unfold execOp;simp[go_sem,kK,Act.eval]
 unfold listed;rw[this];exact seen_none _ _
def aal[alC](E:Enters l C R u cl xb sb n):Reach prog (NA f61 C R cl u xb cs) (Frame.enter prog 61 #[pt xb] .normal) cs u:=by
 haveI:bw:=bS []
 have a1:(qg f61)[0]? =aa ((qg f61).getD 0 default):=rfl;have z:dw ((qg f61).getD 0 default) (yielded (qg f61) (kK xb au au).tmps)=aq:=rfl;have a3:okB prog l ((qg f61).getD 0 default).op=aq:=rfl;have A:eF (qg f61).size=[0]:=rfl;have B:∀v,(kK xb au au).put ((qg f61).getD 0 default).dst v=kK xb v au:=λv=>rfl;have b1:(pg f61)[0]? =aa ((pg f61).getD 0 default):=rfl;have D:∀v,dw ((pg f61).getD 0 default) (yielded (pg f61) (kK xb v au).tmps)=aq:=λv=>rfl;have F:eF (pg f61).size=[0]:=rfl;have H:∀v c,(kK xb v au).put ((pg f61).getD 0 default).dst c=kK xb v c:=λv c=>rfl;have K:=λw=>Xi (xb:=xb) w;have M:=λx w=>K3 (xb:=xb) x w;have L:=λx w=>K2 (xb:=xb) x w;have I:∀(y:Nat),ep.at (kK xb (pt u.heap.size) (pt y)) [.code (zB f61)]=atA f61 xb u.heap.size y:=λy=>rfl;rw[YC];generalize qg f61=Z at*;generalize pg f61=p at*;generalize Y:zB f61=rest at*;refine .at_ (λ_=>cq) (.at_ (λ_=>stepG_region) ?_);rw[A];refine Reach.bind ((OX.value (Q:=λe i P=>e=.normal/\i=kK xb (pt u.heap.size) au/\P={u with heap:=u.heap.push (aA #[pt xb] 36)}) (u1:={u with heap:=u.heap.push (aA #[pt xb] 36)}) (v:=pt u.heap.size) E.fit a1 z a3 (λT=>K (u.tp T)) (OX.nil ⟨rfl,B _,rfl⟩)) ep _ cs trivial (S8 λ_ _ _ h=>by cases h.1)) ?_;rintro V a u1 ⟨e,i,⟨rfl,rfl,rfl⟩,rfl,rfl⟩;refine .at_ (λ_=>cq) (.at_ (λ_=>stepG_region) ?_);rw[F];refine Reach.V0 λU S s gs w t q j _=>?_
 have N:stepG prog aq (G (ep.at (kK xb (pt u.heap.size) au) [.inRegion p [0],.code rest]) a) w=.go (G (ep.at (kK xb (pt u.heap.size) (pt w.heap.size)) [.inRegion p [],.code rest]) a) {w with heap:=w.heap.push (Ad link.tWg 0 0)}:=by rw[stepG_value (v:=pt w.heap.size) b1 (D _) (by simp[ep]) (M _ w),L,H]
 refine⟨_,_,_,N,λW sl h0 O J=>?_⟩;have m:∀b,b<u.heap.size->(u.heap.push (aA #[pt xb] 36))[b]? =u.heap[b]? :=λb X=>by rw[fG,aQ ak]
 have o:WgAt link.tWg w.heap.size {w with heap:=w.heap.push (Ad link.tWg 0 0)} 0 0:=by show(w.heap.push _)[w.heap.size]? =_;simp
 have k:=E.ms (u1:={u with heap:=u.heap.push (aA #[pt xb] 36)}) (w1:={w with heap:=w.heap.push (Ad link.tWg 0 0)}) m aC aC rfl j rfl rfl o;refine E.vq (u1:={u with heap:=u.heap.push (aA #[pt xb] 36)}) (w1:={w with heap:=w.heap.push (Ad link.tWg 0 0)}) m aC aC rfl j rfl ⟨rfl,rfl,rfl,aC⟩ o h0 O J ?_;rw[<-I]at k;refine xB (aF rfl) (Stop:=λf g d=>f=(λb=>s b b/\¬S b)/\g=G (ep.at (kK xb (pt u.heap.size) (pt w.heap.size)) [.code rest]) a/\Rel link.tWg w.heap.size (λb=>s b b/\¬S b) {w with heap:=w.heap.push (Ad link.tWg 0 0)} d) (.regionEnd (.stop λah r=>⟨rfl,rfl,r⟩)) λf g d h=>?_;obtain⟨rfl,rfl,r⟩:=h d (.refl ..);exact k.rely r
end
end
section
open Go.Conc Go.Conc.Lib Go.ConcN.Gen Go.ConcR.Gen Go.RowKit
open Go.ConcR (Payload)
open Go.Proofs.Tryz
section
variable [aP] {l:aB bN} {C:Nat->Nat->Prop} {R:Nat->lW->az->Prop} {cl:aB (aY Nat)} {xb sb n:Nat} {u:az} {cs:aB aU}
def tlF(d:iH)(xb a c b D:Nat):aU:=ep.at ⟨(kL xb a c b).setIfInBounds 10 (.tuple #[]),[{target:=.collected D,args:=#[]}]⟩ [.code (vW d)]
def Xs[alC](E:Enters l C R u cl xb sb n){R'}(k:eK prog l av (vW f61)=aq)(hR:∀e u i,R' e u->R' e (az.tp u i))(m:∀e u,R' e u->∃v,e=aN v)
  (h:∀d a c b D,After C R cl u d xb a c b D->∀i,∃e g f,R' e g/\Comes prog (lone (tlF f61 xb a c b D) [bot prog] (d.tp i)) (lone f [bot prog] g) e/\f.fn=61/\f.leaving prog g e):
  eY prog 61 #[pt xb] u R':=λcs=>by
 letI:bw:=bS []
 refine(aal (cs:=cs) E).bind ?_;rintro p o d ⟨rfl,a,c,b,D,rfl,j⟩;refine .at_ (k':=[.code (vW f61)]) (λ_=>cO) ?_;exact Reach.left (l:=l) E.fit (λq=>.cons (.code k) .nil) rfl hR m (h d a c b D j)
end
end
section
open Go.RowKit
def bP(w:az)(n:Nat)(o:Obj):(w.drewN n).alloc o=(w.alloc o).drewN n:=rfl
def bF(w:az)(n:Nat)(a:fS)(v:aE):(w.drewN n).setCell a v=(w.setCell a v).drewN n:=rfl
def Sw{k a b}(h:a=b):yd (.int k a)=aN (.int k b):=by rw[h]
abbrev gn(sz cl e b d rt a f c:Int):aK aE:=#[an sz,an cl,an e,an b,an d,an rt,an a,an f,an c]
abbrev jR(d:Int)(c:ByteArray)(b fl a of ln:Int)(dt:ByteArray)(er:Int):aK aE:=#[an d,.string c,an b,an fl,an a,an of,an ln,.string dt,an er]
abbrev fN(m:bh):aK aE:=jR m.wh m.nm m.kd m.fl m.ck m.of m.ln m.dt m.er
abbrev gL:aK aE:=jR 0 ⟨#[]⟩ 0 0 0 0 0 ⟨#[]⟩ 0
abbrev qV(s:ByteArray):aK aE:=jR 3 ⟨#[]⟩ (bt s 1) (bt s 2) (two s 3) (two s 5) (two s 7) ⟨#[]⟩ 0
end
section
open Go.Proofs.Tryz
open Go.RowKit
def Kx(b:UInt8)(w):
  bO 237 #[.int .u8 (b.toNat:Int)] w (.string ⟨#[b]⟩):=by
 have d:=VK (w.alloc (aA #[.int .u8 (b.toNat:Int)] 5)) 158 9 5 ⟨w.heap.size,0,ay⟩ 1 [b] underlying158 underlying5 underlying9
 have a:∀(j:Nat) (c:j<[b].length),(w.alloc (aA #[.int .u8 (b.toNat:Int)] 5)).cell? ((⟨w.heap.size,0,ay⟩:fS).add j)=aa (.int .u8 (([b]:aB UInt8)[j].toNat:Int)):=by
  intro j c
  match j,c with
  |0,_=>simp;simp[Addr.add,go_sem]
 have e:(convert 158 9 (.slice (aa (aj w.heap.size 0)) 1 1)).run prog (w.alloc (aA #[.int .u8 (b.toNat:Int)] 5))=.ok (.string ⟨#[b]⟩) (w.alloc (aA #[.int .u8 (b.toNat:Int)] 5)):=d a;clear d a;go_enter func237,ntmps237;go_wp2;go_ret;exact⟨rfl,bf⟩
def aeN(s w)(c:s.size<=cY)(a:1<s.size):
  Calls prog 273 #[.string s] w λe d=>e=aN (an (two s 0))/\∃n,d=w.drewN n:=by
 unfold cY at c;have b:0<s.size:=ak;have f:=ve s 0 b;have g:=ve s 1 a;have h:=oO s 0;have i:=oO s 1;go_enter func273,ntmps273;go_wp2
 go_quiet (fail)
 go_wp2;go_ret;refine⟨Sw ?_,_,rfl⟩;simp only[two]
 go_light
 rw[fU];omega
def Bi(m:bh):Bool:=if m.kd=1\/m.kd=3\/m.kd=4 then decide (m.fl<=1)else decide (m.fl=0)
def BK(m:bh):Bool:=if m.kd=2\/m.kd=5 then decide (m.of=0/\m.ln=0)else decide (m.ln≠0/\m.of %4=0/\m.ln %4=0)
def Jg(m w):
  bO 274 #[.agg (fN m)] w (.bool (Bi m)):=by
 obtain⟨g,f,e,d,a,of,ln,b,c⟩:=m;go_enter func274,ntmps274;go_wp2
 all_goals (go_ret;refine⟨?_,bf⟩;go_light;simp_all[Bi];try rfl)
def Sf(m w)(h0:0<=m.of)(a:0<=m.ln):
  bO 275 #[.agg (fN m)] w (.bool (BK m)):=by
 obtain⟨h,g,f,e,b,of,ln,c,d⟩:=m;dsimp only at h0 a;go_enter func275,ntmps275;go_wp2
 all_goals (go_ret;refine⟨?_,bf⟩;go_light;simp_all[BK];try(first|omega|(rw[um];simp_all)))
def infoByte:(prog.info? 5).map (λi=>(i.zero,i.size,i.bytes))=aa (aa (.int .u8 0),1,1):=aS
def I9(s w)(C:s.size<=281474976710656):
  bO 171 #[.string s] w (.string s):=by
 by_cases h0:s.size=0
 ·obtain rfl:s=⟨#[]⟩:=wu (Gu h0);go_enter func171,ntmps171;go_wp2;go_ret;exact⟨rfl,Below.refl _ _⟩
 ·obtain⟨i,c,v,d,y⟩:=aly infoByte;have r:(prog.info? 5).map (·.size)=aa 1:=by rw[c];simp[d]
  have o:prog.cellsOf 5=1:=by simp[Program.cellsOf,c,d]
  obtain⟨M,a⟩:∃M,M=madeCells (alD .u8 0).cells (((s.size:Nat):Int).toNat*i.size):=⟨_,rfl⟩;have z:M.size=s.size:=by rw[a,size_madeCells,d];simp
  have D:∀W:az,(Instr.makeSlice 158 (an (s.size:Int)) (an (s.size:Int))).run prog W=.ok (.slice (aa (aj W.heap.size 0)) s.size s.size) (W.alloc (aA M 5)):=λW=>by have h:=run_make (P:=prog) W 158 5 i (.int .u8 0) underlying158 c v .i64 .i64 (s.size:Int) (s.size:Int) ak ak (by rw[y];omega) ak;rw[<-a]at h;simpa using h
  clear a;have q:=Lib.run_copy_row_string (P:=prog) (w.alloc (aA M 5)) 158 9 3 5 w.heap.size 0 s.size s.size s M 5 underlying158 r (cw w _) (bC _) ak;obtain⟨Y,b⟩:∃Y,Y=(M.toList.take 0++lD s.data.toList++M.toList.drop (0+s.size)).toArray:=⟨_,rfl⟩;rw[<-b]at q
  have f:Y.toList=lD s.data.toList:=by rw[b,List.toList_toArray,List.take_zero,pI,List.drop_of_length_le (by rw[wm];omega),yl]
  have A:Y.size=s.size:=by rw[<-wm,f,Lib.byteCells_length,<-Al]
  have g:((w.alloc (aA M 5)).setRow w.heap.size Y).heap[w.heap.size]? =aa (aA Y 5 (0,0)):=setRow_heap _ _ M _ 5 (0,0) (cw w _);have t:s.data.toList≠[]:=λe=>h0 (by rw[Al,e];rfl)
  have l:=Lib.run_unsafeString_row (P:=prog) ((w.alloc (aA M 5)).setRow w.heap.size Y) 262 3 9 5 underlying262 o w.heap.size Y.size (by unfold World.shape?;rw[g]) s.data.toList t (by rw[<-Al];omega) (by rw[<-Al];omega)
   (λj x u=>Lib.cells_of_row g Y.size j _ (by rw[sY (by rw[wm];exact bC _),f];simp[lD,u]))
  rw[<-Al]at l;clear b;go_enter func171,ntmps171;go_wp2;go_ret;have m:aL w (w.alloc (aA M 5)):=bf;have n:Below w.heap.size (w.alloc (aA M 5)) ((w.alloc (aA M 5)).setRow w.heap.size Y):=⟨rfl,rfl,rfl,aC,λk B=>setRow_other _ _ _ _ ak⟩;exact⟨rfl,Lib.below_freeze (m.trans n) (p:=aj w.heap.size 0) (bC _) _⟩
def IN(s w)(b:s.size<=281474976710656):
  bO 117 #[.string s] w (.string s):=by
 go_enter func117,ntmps117;go_wp2_with (go_at_call 171;refine(I9 s _ b).mono ?_;rintro e c ⟨rfl,a⟩);go_ret;exact⟨rfl,a⟩
abbrev Pf:ByteArray:=⟨#[70,69,82,82,89]⟩
def B9(k)(h:k<Pf.size):(Pf[k].toNat:Int)=vu k:=by
 match k,h with
 |0,_=>rfl
 |1,_=>rfl
 |2,_=>rfl
 |3,_=>rfl
 |4,_=>rfl
def C2(k):0<=vu k/\vu k<=255:=by unfold vu;repeat' split;all_goals omega
def DT{B b w W}(h:Below B w W)(a:B<=b)(v0 v1 v2 v3 v4 v5 v6 v7 v8):
  Below B w (((((((((W.setCell (aj b 0) v0).setCell (aj b 1) v1).setCell (aj b 2) v2).setCell (aj b 3) v3).setCell (aj b 4) v4).setCell (aj b 5) v5).setCell (aj b 6) v6).setCell (aj b 7) v7).setCell (aj b 8) v8):=
 ((((((((h.setCell (p:=aj b 0) a v0).setCell (p:=aj b 1) a v1).setCell (p:=aj b 2) a v2).setCell (p:=aj b 3) a v3).setCell (p:=aj b 4) a v4).setCell (p:=aj b 5) a v5).setCell (p:=aj b 6) a v6).setCell (p:=aj b 7) a v7).setCell (p:=aj b 8) a v8
abbrev bh.val(m:bh):aE:=.agg (fN m)
def lf(m:bh)(sz:Int):Int:=
 if 5<m.kd\/Bi m=av\/BK m=av then 22 else if m.of+m.ln<=sz then 0 else if m.kd=1\/m.kd=4 then 28 else 22
def YP(m sz)(n:0<=m.kd)(hf:0<=m.fl)(s:0<=sz):lf m sz=verdict sz m.kd m.fl m.of m.ln:=by
 obtain⟨u,t,f,g,p,of,ln,q,r⟩:=m;dsimp only at n hf;unfold lf verdict Bi BK;dsimp only
 by_cases i:5<f
 ·simp[i]
 have k:f=0\/f=1\/f=2\/f=3\/f=4\/f=5:=ak
 by_cases l:1<g
 ·have f1:¬g<=1:=ak;have f0:¬g=0:=ak;simp[i,l,f1,f0]
 have j:g=0\/g=1:=ak
 by_cases e:of+ln<=sz
 ·have h:¬sz<of+ln:=ak;simp only[e,h,cS,dQ]
  by_cases a:of=0<;>by_cases b:ln=0<;>by_cases c:of %4=0<;>by_cases d:ln %4=0
  all_goals (rcases k with rfl|rfl|rfl|rfl|rfl|rfl<;>rcases j with rfl|rfl<;>simp[a,b,c,d])
 ·have h:sz<of+ln:=ak;simp only[e,h,cS,dQ];have o:¬(of=0/\ln=0):=ak
  by_cases a:of=0<;>by_cases b:ln=0<;>by_cases c:of %4=0<;>by_cases d:ln %4=0
  all_goals (try(exfalso;exact o ⟨a,b⟩))
  all_goals (rcases k with rfl|rfl|rfl|rfl|rfl|rfl<;>rcases j with rfl|rfl<;>simp[a,b,c,d])
def Pe(m sz w)(h0:0<=m.of)(u:m.of<=65535)(r:0<=m.ln)(v:m.ln<=65535):
  bO 261 #[m.val,an sz] w (an (lf m sz)):=by
 obtain⟨i,g,a,f,b,of,ln,c,d⟩:=m;dsimp only at h0 u r v
 by_cases s:5<a
 ·have hF:Hid (lf ⟨i,g,a,f,b,of,ln,c,d⟩ sz=22):=by unfold lf;rw[aX (aF s)];rfl
  have z:decide (5<a)=aq:=by simpa using s
  go_enter func261,ntmps261;go_wp2_with fail;go_ret;exact⟨dX (λx=>yd (an x)) hF.out.symm,bf⟩
 ·have z:decide (5<a)=av:=by simpa using s
  cases l:Bi ⟨i,g,a,f,b,of,ln,c,d⟩with
  |false=>
   have hF:Hid (lf ⟨i,g,a,f,b,of,ln,c,d⟩ sz=22):=by unfold lf;rw[aX (aD (aF l))];rfl
   go_enter func261,ntmps261;go_wp2_with (go_at_call 274;refine(Jg ⟨i,g,a,f,b,of,ln,c,d⟩ _).mono ?_;rw[l];rintro e k ⟨rfl,j⟩);go_ret;exact⟨dX (λx=>yd (an x)) hF.out.symm,bf.trans (j.mono aC)⟩
  |true=>
   cases p:BK ⟨i,g,a,f,b,of,ln,c,d⟩with
   |false=>
    have hF:Hid (lf ⟨i,g,a,f,b,of,ln,c,d⟩ sz=22):=by unfold lf;rw[aX (aD (aD p))];rfl
    go_enter func261,ntmps261;go_wp2_with (first|(go_at_call 274;refine(Jg ⟨i,g,a,f,b,of,ln,c,d⟩ _).mono ?_;rw[l];rintro e k ⟨rfl,j⟩;obtain⟨y,A⟩:=kZ j;have q:=j.size)|(go_at_call 275;refine(Sf ⟨i,g,a,f,b,of,ln,c,d⟩ _ h0 r).mono ?_;rw[p];rintro e t ⟨rfl,n⟩));go_ret;exact⟨dX (λx=>yd (an x)) hF.out.symm,(bf.trans (j.mono aC)).trans (n.mono (by simp at q;omega))⟩
   |true=>
    have hF:Hid (lf ⟨i,g,a,f,b,of,ln,c,d⟩ sz=(if of+ln<=sz then 0 else if a=1\/a=4 then 28 else 22)):=by unfold lf;rw[aQ (by rw[l,p];simp;omega)];rfl
    have B:∀k:az,(w.alloc (aA (jR i g a f b of ln c d) 132)).heap.size<=k.heap.size->w.heap.size+1<=k.heap.size:=λk h=>by simpa using h
    go_enter func261,ntmps261;go_wp2_with (first|(go_at_call 274;refine(Jg ⟨i,g,a,f,b,of,ln,c,d⟩ _).mono ?_;rw[l];rintro e k ⟨rfl,j⟩;obtain⟨y,A⟩:=kZ j;have q:=j.size)|(go_at_call 275;refine(Sf ⟨i,g,a,f,b,of,ln,c,d⟩ _ h0 r).mono ?_;rw[p];rintro e t ⟨rfl,n⟩;have C:∀o,t.cell? (aj w.heap.size o)=k.cell? (aj w.heap.size o):=λo=>n.cell (B _ q)))
    all_goals (go_ret;refine⟨Eq.trans (Sw ?_) (dX (λx=>yd (an x)) hF.out.symm),(bf.trans (j.mono aC)).trans (n.mono (by simp at q;omega))⟩;go_light;(repeat' split)<;>simp_all<;>omega)
abbrev oN(n:Int):aE:=.iface 294 (.agg #[an n])
def Ends(r:bh×Int)(e:lW):Prop:=
 (r.1=.closing/\e=.panicked [{v:=oN r.2,recovered:=av}])\/(r.1.wh≠4/\e=aN (.tuple #[r.1.val,an r.2]))
def Pb(s:ByteArray)(i:Nat)(h:i<s.size):s.extract i (i+1)=⟨#[s[i]]⟩:=by
 apply wu;apply xX
 ·simp[wq];omega
 ·intro j a b;have:j=0:=by grind
  subst this;simp[wq];rfl
def RO(s:ByteArray)(w:az)(l:s.size<=cY):
  Calls prog 229 #[.string s] w λe m=>Ends (opt s) e/\aL w m:=by
 unfold cY at l
 by_cases h0:s.size=0
 ·obtain rfl:s=⟨#[]⟩:=wu (Gu h0);go_enter func229,ntmps229;go_wp2;exact gO (v:=.tuple #[bh.zero.val,an 0]) (by simp[results,results229,go_sem,bh.zero]) rfl ⟨aD ⟨by rw[show opt ⟨#[]⟩=(bh.zero,0) from rfl];decide,rfl⟩,bf⟩
 ·have o:s.toList.isEmpty=av:=by
   rw[Bool.eq_false_iff,ByteArray.toList_eq];intro e;have:=List.isEmpty_iff.1 e;exact h0 (by rw[Al,this];rfl)
  have g:0<s.size:=ak;have q:(0:Int)<s.size:=ak;have i:=ve s 0 g;have r:=oO s 0
  by_cases a:bt s 0<97\/122<bt s 0
  ·have b:Hid (opt s=(.closing,1)):=by unfold opt;rw[aQ h0,aX a];rfl
   have c:=aT a;clear a
   by_cases k:bt s 0<97
   ·clear c;go_enter func229,ntmps229;go_wp2;exact⟨rfl,aF (by rw[b.out];exact⟨rfl,rfl⟩),bf⟩
   ·have j:122<bt s 0:=by have:=c.out;omega
    clear c;go_enter func229,ntmps229;go_wp2;exact⟨rfl,aF (by rw[b.out];exact⟨rfl,rfl⟩),bf⟩
  ·have b:Hid (opt s=(⟨2,s.extract 0 1,0,0,0,0,0,⟨#[]⟩,0⟩,1)):=by unfold opt;rw[aQ h0,aQ a];rfl
   have k:¬bt s 0<97:=ak;have j:¬122<bt s 0:=ak;clear a
   have f:∀W,bO 237 #[.int .u8 (bt s 0)] W (.string (s.extract 0 1)):=λW=>by have:=Kx s[0] W;rw[i]at this;rw[Pb s 0 g];exact this
   have h:=aT f;clear f;go_enter func229,ntmps229;go_wp2_with (go_at_call 237;refine(h.out _).mono ?_;rintro e t ⟨rfl,d⟩;obtain⟨n,p⟩:=kZ d);exact gO (v:=.tuple #[bh.val ⟨2,s.extract 0 1,0,0,0,0,0,⟨#[]⟩,0⟩,an 1]) (by simp[results,results229,go_sem, *]) rfl ⟨aD (by rw[b.out];exact⟨show(2:Int)≠4 by decide,rfl⟩),DT (bf.trans (d.mono aC)) (bC _) _ _ _ _ _ _ _ _ _⟩
def PY(s:ByteArray)(w:az)(u:s.size<=cY):
  Calls prog 228 #[.string s] w λe x=>Ends (mZ s) e/\aL w x:=by
 unfold cY at u;obtain⟨N,q⟩:∃N:Nat,N=min s.size 5:=⟨_,rfl⟩
 have I:∀W,(Builtin.min_ #[3,3] 3 #[an (s.size:Int),an 5]).run prog W=.ok (an (N:Int)) W:=λW=>by
  rw[run_min_int2]
  congr 2
  split<;>omega
 have B:N<=5:=ak;have C:N<=s.size:=ak;have g:=aT q;go_enter func228,ntmps228;go_wp2
 go_loopw [8] (λi wr=>∃k:Nat,k<=N/\i=an k/\Hid (mZ s=dN s (5-k) k)/\∃d,wr=(w.alloc (aA (gL) 132)).drewN d) (λi _=>N-(gU i).toNat)
 case atStart=>exact⟨0,eo _,rfl,rfl,0,rfl⟩
 case round=>
  obtain⟨k,F,rfl,b,d,rfl⟩:=hrel
  by_cases H:k<N
  ·have f:k<5:=ak;have t:k<s.size:=ak;have y:=ve s k t;have z:=B9 k f;have L:=oO s k;have M:=C2 k;have J:(k:Int)<s.size:=ak
   by_cases c:bt s k=vu k
   ·have a:Hid (mZ s=dN s (5-(k+1)) (k+1)):=by
     have:=b.out;rw[show 5-k=(5-(k+1))+1 by omega,dN,aQ ak,aX c]at this;exact this
    have r:(bt s k !=vu k)=av:=by simpa using c
    go_wp2
    go_quiet (fail)
    go_wp2
    go_roundw
    case rel=>exact⟨k+1,ak,by go_num,a,_,rfl⟩
    case measure=>simp[gU];omega
   ·have a:Hid (mZ s=(.closing,(k:Int)+1)):=by
     have:=b.out;rw[show 5-k=(5-(k+1))+1 by omega,dN,aQ ak,aQ c]at this;exact this
    have r:(bt s k !=vu k)=aq:=by simpa using c
    go_wp2
    go_quiet (fail)
    go_wp2;exact⟨rfl,aF (by rw[a.out];exact⟨rfl,rfl⟩),iX (bf) _⟩
  ·obtain rfl:k=N:=ak
   by_cases A:s.size<=5
   ·have a:Hid (mZ s=(.zero,0)):=by
     have h:=b.out;have G:k=s.size:=by have:=g.out;omega
     by_cases p:k=5
     ·rw[p,show 5-5=0 from rfl,dN,aX ak]at h;exact h
     ·rw[show 5-k=(4-k)+1 by omega,dN,aX ak]at h;exact h
    go_wp2;exact gO (v:=.tuple #[bh.zero.val,an 0]) (by simp[results,results228,go_sem,bh.zero]) rfl ⟨aD (by rw[a.out];exact⟨bJ,rfl⟩),DT (iX (bf) _) (bC _) _ _ _ _ _ _ _ _ _⟩
   ·have f:k=5:=by have:=g.out;omega
    have a:Hid (mZ s=(⟨1,s.extract 5 6,0,0,0,0,0,⟨#[]⟩,0⟩,6)):=by have h:=b.out;rw[f,show 5-5=0 from rfl,dN,aQ ak]at h;exact h
    have m:5<s.size:=ak;have K:(5:Int)<s.size:=ak;have o:=ve s 5 m;have O:=oO s 5
    have l:∀W,bO 237 #[.int .u8 (bt s 5)] W (.string (s.extract 5 6)):=λW=>by have:=Kx s[5] W;rw[o]at this;rw[Pb s 5 m];exact this
    have n:=aT l;clear l;go_wp2_with (go_at_call 237;refine(n.out _).mono ?_;rintro e P ⟨rfl,j⟩;obtain⟨D,E⟩:=kZ j);exact gO (v:=.tuple #[bh.val ⟨1,s.extract 5 6,0,0,0,0,0,⟨#[]⟩,0⟩,an 6]) (by simp[results,results228,go_sem, *]) rfl ⟨aD (by rw[a.out];exact⟨show(1:Int)≠4 by decide,rfl⟩),DT ((iX (bf) _).trans (j.mono aC)) (bC _) _ _ _ _ _ _ _ _ _⟩
def sizeOf'(m:bh):Int:=if m.kd=0 then 4+m.ln else 4
def cW(m:bh):Int:=if m.kd=2 then 4 else m.ln
def Xk(x)(h0:0<=x)(a:x<256):((HV x.toNat).toNat:Int)=x:=by simp[Vw];omega
end
section
attribute [local go_sem ↓] Go.wp_at_zero Go.wp_at_succ
attribute [local go_sem] bP bF
open Go.Conc Go.RowKit
open Go.Proofs.Tryz
abbrev clL(no wt sz cl e b d rt a f c:Int)(rb:Nat)(s:ByteArray)(out:aE)(tok de:Int)(ch:Nat):aK aE:=
 #[an no,an wt,an sz,an cl,an e,an b,an d,an rt,an a,an f,an c,aR rb,.string s,.slice ay 0 0,an 0,an 0,out,an tok,an de,an 0,.chan (aa ch)]
def zm(c ch w)(h:w.cell? (aj c 20)=aa (.chan (aa ch)))(hc:w.heap[ch]? =aa (.chan 0 #[] av 0 0 av)):
  fu 116 #[aR c] w (.bool av):=by
 refine calls_of_loneTo λcs=>?_
 have e:Frame.enter prog 116 #[aR c] .normal=(base 116).at ⟨#[aR c,au,au,au,au,au,au,au,au,au],[]⟩ [.code (f116.body.getD .skip)]:=by simp[Frame.enter,Frame.at,func116,base,f116]
 rw[e];refine Hh (n:=13) ?_;simp only[f116,mO]
 s_c cq
 s_reg
 s_op
 s_c cO
 s_c cq
 s_reg
 s_op
 s_op
 s_op
 s_op
 s_c cO
 s_c cq
 s_reg
 s_stop
 refine Vh (step_lone_select_default (c:=ch) (z:=.agg #[]) (cap:=0) (s:=0) (r:=0) (tm:=av) (stepG_comm (cases:=#[rcase ch (.agg #[])]) (blocking:=av) (shape:=.select) (w':=w) rfl rfl bJ (by simp[go_sem,execOp,rcase,Act.eval])) hc) ?_;rw[yg]
 walk_nrm
 refine Hh (n:=11) ?_
 s_op
 s_op
 s_c cO
 s_c stepG_block
 s_cond av
 s_c cq
 s_reg
 s_op
 s_c cO
 s_c stepG_ret'
 s_stop
 exact LoneTo.done ⟨aN (.bool av),_,rfl,⟨rfl,rfl⟩,rfl,rfl,rfl,rfl,_,func116,by simp[results,f116,Frame.at]⟩
def EM(c ch w)(h:w.cell? (aj c 20)=aa (.chan (aa ch)))(hc:w.heap[ch]? =aa (.chan 0 #[] aq 0 0 av)):
  fu 116 #[aR c] w (.bool aq):=by
 refine calls_of_loneTo λcs=>?_
 have e:Frame.enter prog 116 #[aR c] .normal=(base 116).at ⟨#[aR c,au,au,au,au,au,au,au,au,au],[]⟩ [.code (f116.body.getD .skip)]:=by simp[Frame.enter,Frame.at,func116,base,f116]
 rw[e];refine Hh (n:=13) ?_;simp only[f116,mO]
 s_c cq
 s_reg
 s_op
 s_c cO
 s_c cq
 s_reg
 s_op
 s_op
 s_op
 s_op
 s_c cO
 s_c cq
 s_reg
 s_stop
 refine Vh (step_lone_select_recv_shut (c:=ch) (z:=.agg #[]) (cap:=0) (s:=0) (r:=0) (tm:=av) (stepG_comm (cases:=#[rcase ch (.agg #[])]) (blocking:=av) (shape:=.select) (w':=w) rfl rfl bJ (by simp[go_sem,execOp,rcase,Act.eval])) hc) ?_;rw[yg]
 walk_nrm
 refine Hh (n:=11) ?_
 s_op
 s_op
 s_c cO
 s_c stepG_block
 s_cond aq
 s_c cq
 s_reg
 s_op
 s_c cO
 s_c stepG_ret'
 s_stop
 exact LoneTo.done ⟨aN (.bool aq),_,rfl,⟨rfl,rfl⟩,rfl,rfl,rfl,rfl,_,func116,by simp[results,f116,Frame.at]⟩
def gH{w:az}{a:fS}{v:aE}(h:w.cell? a=aa v):a.block<w.heap.size:=by
 unfold fH at h;cases e:w.heap[a.block]? with
 |none=>rw[e]at h;cases h
 |some o=>exact(bp.1 e).1
def bR{w w':az}(b:aL w w'){a:fS}{v:aE}(h:w.cell? a=aa v):w'.cell? a=aa v:=by rw[fX (b.block a.block (gH h))];exact h
abbrev aaA:aE:=.agg #[an 0,.string ⟨#[]⟩,an 0,an 0,an 0,an 0,an 0,.string ⟨#[]⟩,an 0,an 0]
def K7(c ch w)(h:w.cell? (aj c 20)=aa (.chan (aa ch)))(hc:w.heap[ch]? =aa (.chan 0 #[] aq 0 0 av)):
  bO 151 #[aR c] w (.bool av):=by
 go_enter func151,ntmps151;go_wp2
 go_quiet ((go_at_call 116;exact Calls.quiet_of_same (EM c ch _ h hc)))
 go_wp2;go_ret;exact⟨rfl,iX (Below.refl _ _) _⟩
end
section
attribute [local go_sem ↓] Go.wp_at_zero Go.wp_at_succ
attribute [local go_sem] bP bF
open Go.Proofs.Tryz
open Go.RowKit
def byte_back(x)(h0:0<=x)(a:x<256):((HV x.toNat).toNat:Int)=x:=by simp[Vw];omega
def Ke(n w)(h0:0<=n)(e:n<=65535):
  bO 238 #[an n] w (.string ⟨(jQ n).toArray⟩):=by
 have a:=byte_back (n %256) ak ak;have b1:=byte_back (n / 256) ak ak;have d:=VK (w.alloc (aA #[.int .u8 (n %256),.int .u8 (n / 256)] 5)) 158 9 5 ⟨w.heap.size,0,ay⟩ 2 (jQ n) underlying158 underlying5 underlying9
 have b:∀(j:Nat) (c:j<(jQ n).length),(w.alloc (aA #[.int .u8 (n %256),.int .u8 (n / 256)] 5)).cell? ((⟨w.heap.size,0,ay⟩:fS).add j)=aa (.int .u8 ((jQ n)[j].toNat:Int)):=by
  intro j c
  match j,c with
  |0,_=>simp only[jQ,rE,a];simp[Addr.add,go_sem]
  |1,_=>simp only[jQ,sS,rE,b1];simp[Addr.add,go_sem]
 have f:(convert 158 9 (.slice (aa (aj w.heap.size 0)) 2 2)).run prog (w.alloc (aA #[.int .u8 (n %256),.int .u8 (n / 256)] 5))=.ok (.string ⟨(jQ n).toArray⟩) (w.alloc (aA #[.int .u8 (n %256),.int .u8 (n / 256)] 5)):=d b;clear d b a b1;go_enter func238,ntmps238;go_wp2;go_ret;exact⟨rfl,bf⟩
def Wq(s w v)(hv:Hid (v=if(s.toList==[97])=aq then⟨#[89]⟩else⟨#[78]⟩)):
  fu 232 #[.string s] w (.string v):=by
 cases h:(s.toList==[97])with
 |true=>
  go_enter func232,ntmps232;go_wp2;go_ret;exact⟨by rw[hv.out,aX h];rfl,rfl⟩
 |false=>
  go_enter func232,ntmps232;go_wp2;go_ret;exact⟨by rw[hv.out,h];rfl,rfl⟩
def Wr(sz cl qu mx qn rt bu wk ou s w v)(h0:0<=sz/\sz<=65535)(f:0<=mx/\mx<=65535)(n:s.size<=65535)(hv:Hid (v=if(s.toList==[105])=aq then⟨#[73]⟩++⟨(jQ sz).toArray⟩++⟨(jQ mx).toArray⟩else if(s.toList==[103])=aq then⟨#[71]⟩else⟨#[85]⟩++s)):
  bO 233 #[.agg (gn sz cl qu mx qn rt bu wk ou),.string s] w (.string v):=by
 have k:(jQ sz).length=2:=rfl;have l:(jQ mx).length=2:=rfl;cases h:(s.toList==[105])with
 |true=>
  go_enter func233,ntmps233
  go_upto_region 3 with fail
  have c:Hid (aL w (w.alloc (aA (gn sz cl qu mx qn rt bu wk ou) 35)).drew):=bf.drew;refine eD (S:=λW=>W.cell? (aj w.heap.size 0)=aa (an sz)/\W.cell? (aj w.heap.size 3)=aa (an mx)) ⟨by simp[go_sem],by simp[go_sem]⟩ λj=>?_;refine tk 0 ?_;refine tk 1 ?_;refine tk 4 ?_;refine tk 5 ?_;refine rH 2 λK a=>?_;go_simp
  (refine(Ke sz _ h0.1 h0.2).mono ?_;rintro e o ⟨rfl,b⟩)
  go_wp2_with fail;refine a.out _ _ (⟨bR b j.1,bR b j.2⟩) (λi=>?_);clear a K;refine tk 3 ?_;refine rH 6 λK a=>?_;go_simp
  (refine(Ke mx _ f.1 f.2).mono ?_;rintro e p ⟨rfl,d⟩)
  go_wp2_with fail;refine a.out _ _ (⟨bR d i.1,bR d i.2⟩) (λm=>?_);clear a K;refine tk 7 ?_;refine tk 8 ?_;refine dc ?_
  (go_wp2_with fail;go_ret;exact⟨by rw[hv.out,aX h];rfl,c.out.trans ((b.mono c.out.size).trans (d.mono (dm c.out.size b.size)))⟩)
 |false=>
  cases g:(s.toList==[103])with
  |true=>
   go_enter func233,ntmps233;go_wp2;go_ret;exact⟨by rw[hv.out,h,g];rfl,bf⟩
  |false=>
   go_enter func233,ntmps233;go_wp2;go_ret;exact⟨by rw[hv.out,h,g];rfl,bf⟩
def Ws(sz cl qu a qn rt bu wk ou m w)(h0:0<=sz/\sz<=65535)(k:0<=a/\a<=65535)(j:m.nm.size<=65535)(hm:m.wh=1\/m.wh=2\/m.wh=4):
  bO 192 #[.agg (gn sz cl qu a qn rt bu wk ou),.agg (fN m)] w (.string (answer sz a m)):=by
 obtain⟨o,b,i,h,d,of,ln,f,g⟩:=m;dsimp only at hm j;rcases hm with rfl|rfl|rfl
 ·have hv:Hid (answer sz a ⟨1,b,i,h,d,of,ln,f,g⟩=if(b.toList==[97])=aq then⟨#[89]⟩else⟨#[78]⟩):=rfl;obtain⟨v,c⟩:∃v,v=answer sz a ⟨1,b,i,h,d,of,ln,f,g⟩:=⟨_,rfl⟩;rw[<-c]at hv⊢;clear c;go_enter func192,ntmps192;go_wp2_with (go_at_call 232;refine(Wq b _ v hv).mono ?_;rintro e n ⟨rfl,rfl⟩);go_ret;exact⟨rfl,bf.alloc aC _⟩
 ·have hv:Hid (answer sz a ⟨2,b,i,h,d,of,ln,f,g⟩=if(b.toList==[105])=aq then⟨#[73]⟩++⟨(jQ sz).toArray⟩++⟨(jQ a).toArray⟩else if(b.toList==[103])=aq then⟨#[71]⟩else⟨#[85]⟩++b):=rfl;obtain⟨v,c⟩:∃v,v=answer sz a ⟨2,b,i,h,d,of,ln,f,g⟩:=⟨_,rfl⟩;rw[<-c]at hv⊢;clear c;go_enter func192,ntmps192;go_wp2_with (go_at_call 233;refine(Wr sz cl qu a qn rt bu wk ou b _ v h0 k j hv).mono ?_;rintro e n ⟨rfl,l⟩);go_ret;exact⟨rfl,(bf.alloc aC _).trans (l.mono bY)⟩
 ·have hv:Hid (answer sz a ⟨4,b,i,h,d,of,ln,f,g⟩=⟨#[]⟩):=rfl;obtain⟨v,c⟩:∃v,v=answer sz a ⟨4,b,i,h,d,of,ln,f,g⟩:=⟨_,rfl⟩;rw[<-c]at hv⊢;clear c;go_enter func192,ntmps192;go_wp2;go_ret;exact⟨by rw[hv.out];rfl,bf.alloc aC _⟩
def WL(w o1 o2 o3 d):aL w ((((w.alloc o1).alloc o2).alloc o3).drewN d):=
 iX ((bf.alloc aC _).alloc bY _) d
def iB{w:az}{b o:Nat}{v:aE}(h:w.cell? (aj b o)=aa v):b<w.heap.size:=by
 by_cases a:b<w.heap.size
 ·exact a
 ·simp[fH,rA (Nat.le_of_not_lt a)]at h
def afa(us:aB Int)(b:Int):Maps.has (Ar (H:=Unit) (.agg []) (us.map (Lit.int .i64))) (.int .i64 b)=decide (b∈us):=by rw[Maps.has_setOf _ _ _ (by intro x c;simp at c;obtain⟨a,_,rfl⟩:=c;trivial)];rw[um];simp[Lit.sameKey,pF]
abbrev Uses(w:az)(mb:Nat)(us:aB Int):Prop:=w.ownsMap prog 3 (unitElem (H:=Unit)) mb us.length (Ar (.agg []) (us.map (Lit.int .i64)))
def afc{w mb us}(h:Uses w mb us)(a:Int)(c:0<=a/\a<=65535):
  (Cy 226 (.map (aa mb)) (an a) aq).run prog w=.ok (.tuple #[.agg #[],.bool (decide (a∈us))]) w:=by
 obtain⟨v,d,b,hv⟩:=h.look_ok (CX underlying3) underlying226 (zeroValue169 w) unitElem_mk (kl:=.int .i64 a) (Vk underlying3 (by simp[Lit.wf,IntKind.min,IntKind.max,UP,UO];omega));obtain⟨rfl,_⟩:=unitElem_inv hv;rw[afa]at b;exact b
structure dR(w:az)(rb mb:Nat)(sz mx ph:Int)(us:aB Int):Prop where
 box:w.heap[rb]? =aa (aA #[an sz,an mx,an ph,.map (aa mb)] 228 (0,0))
 uses:Uses w mb us
def dR.lt{w rb mb sz mx ph us}(h:dR w rb mb sz mx ph us):rb<w.heap.size/\mb<w.heap.size:=
 ⟨(bp.1 h.box).1,h.uses.lt⟩
def dR.cell{w rb mb sz mx ph us}(h:dR w rb mb sz mx ph us):
  w.cell? (aj rb 0)=aa (an sz)/\w.cell? (aj rb 1)=aa (an mx)/\w.cell? (aj rb 2)=aa (an ph)/\w.cell? (aj rb 3)=aa (.map (aa mb)):=by
 simp[fH,h.box]
def dR.kept{w w' rb mb sz mx ph us}(h:dR w rb mb sz mx ph us){row}(a:w.grownBy w' row)(b:aa rb≠row)(c:aa mb≠row):dR w' rb mb sz mx ph us:=
 ⟨(a.block _ h.lt.1 b).trans h.box,h.uses.kept a c⟩
def Js{w w'}(h:aL w w'):w.grownBy w' ay:=⟨h.os,h.tape,h.output,h.size,λk a _=>h.block k a⟩
def dR.later{w w' rb mb sz mx ph us}(h:dR w rb mb sz mx ph us)(a:aL w w'):dR w' rb mb sz mx ph us:=
 h.kept (Js a) aC aC
def aeO(s i)(h:i+1<s.size):two (s.extract i s.size) 0=two s i:=by
 have e:∀j,i+j<s.size->bt (s.extract i s.size) j=bt s (i+j):=λj a=>by
  unfold bt
  congr 1
  simp[wq,wj,a];split
  ·rfl
  ·rename_i b;have:s.data.size=s.size:=rfl;omega
 unfold two;rw[e 0 ak,e (0+1) ak];rfl
def ug(s i s' w)(d:s.size<=cY)(a:i+1<s.size)(b:s'=s.extract i s.size):
  Calls prog 273 #[.string s'] w λe c=>e=aN (an (two s i))/\∃n,c=w.drewN n:=by
 subst b;have f:(s.extract i s.size).size=s.size-i:=by simp[mI]
 have:=aeN (s.extract i s.size) w ak ak;rw[aeO s i a]at this;exact this
abbrev tK(rb mb b:Nat)(a:Int)(us:aB Int)(W:az):Prop:=
 W.cell? (aj rb 3)=aa (.map (aa mb))/\W.cell? (aj b 4)=aa (an a)/\(Cy 226 (.map (aa mb)) (an a) aq).run prog W=.ok (.tuple #[.agg #[],.bool (decide (a∈us))]) W/\Uses W mb us/\(0<=a/\a<=65535)
def tK.mk'{rb mb b ck us W}(d:W.cell? (aj rb 3)=aa (.map (aa mb)))(e:W.cell? (aj b 4)=aa (an ck))(a:Uses W mb us)(c:0<=ck/\ck<=65535):tK rb mb b ck us W:=
 ⟨d,e,afc a ck c,a,c⟩
def tK.keep{rb mb b ck us W o}(h:tK rb mb b ck us W):tK rb mb b ck us (W.alloc o):=
 have a:=(Below.refl W.heap.size W).alloc (bC _) o
 .mk' ((a.cell (iB h.1)).trans h.1) ((a.cell (iB h.2.1)).trans h.2.1) (h.2.2.2.1.alloc o) h.2.2.2.2
abbrev Qt(s:ByteArray):bh:=⟨3,⟨#[]⟩,bt s 1,bt s 2,two s 3,two s 5,two s 7,⟨#[]⟩,0⟩
def EC(rb mb sz mx ph us s w)(c:s.size<=cY)(L:9<=s.size)(hR:dR w rb mb sz mx ph us):
  Calls prog 260 #[aR rb,.string s] w λe b=>
   (if bt s 0≠81\/mx<two s 7\/two s 3∈us then e=.panicked [{v:=oN 9,recovered:=av}]else e=aN (Qt s).val)/\aL w b:=by
 have E:=c;unfold cY at E;have n0:0<s.size:=ak;have n1:1<s.size:=ak;have n2:2<s.size:=ak;have i0:(0:Int)<s.size:=ak;have i1:(1:Int)<s.size:=ak;have i2:(2:Int)<s.size:=ak;have i3:(3:Int)<=s.size:=ak;have i5:(5:Int)<=s.size:=ak;have i7:(7:Int)<=s.size:=ak;have G:=ve s 0 ak;have H:=ve s 1 ak;have I:=ve s 2 ak;have r0:=oO s 0;have r1:=oO s 1;have r2:=oO s 2;have k1:eP.wrap (bt s 1)=bt s 1:=by rw[GV];omega
 have k2:eP.wrap (bt s 2)=bt s 2:=by rw[GV];omega
 have F:=lA s 3;have r5:=lA s 5;have r7:=lA s 7;obtain⟨g0,y,J,z⟩:=hR.cell;have o:=hR.lt;have r:=o.1;have x:=aT hR;clear hR o;go_enter func260,ntmps260
 go_upto_region 1 with fail
 go_cut [5] (λp b=>∃d,p=aR (w.heap.size+1)/\b=((w.alloc (aA (gL) 132)).alloc (aA (qV s) 132)).drewN d)
 case first=>
  refine eD (S:=λ_=>True) trivial λm=>?_;refine tk 0 ?_;refine tk 1 ?_;refine tk 2 ?_;refine tk 3 ?_;refine tk 4 ?_;refine tk 5 ?_;refine tk 6 ?_;refine tk 7 ?_;refine tk 9 ?_;refine tk 10 ?_;refine tk 12 ?_;refine tk 13 ?_;refine aH [8,16] (.cons rfl (λK a=>?_) ?_)
  ·go_simp
   (refine(ug s 3 _ _ c ak rfl).mono ?_;rintro e b ⟨rfl,d,rfl⟩)
   go_wp2_with fail;refine a.out _ _ (trivial) (λT=>?_);clear a K;refine aH [11,16] (.cons rfl (λK a=>?_) ?_)
   ·go_simp
    (refine(ug s 5 _ _ c ak rfl).mono ?_;rintro e b ⟨rfl,d,rfl⟩)
    go_wp2_with fail;refine a.out _ _ (trivial) (λU=>?_);clear a K;refine aH [14,16] (.cons rfl (λK a=>?_) ?_)
    ·go_simp
     (refine(ug s 7 _ _ c ak rfl).mono ?_;rintro e b ⟨rfl,d,rfl⟩)
     go_wp2_with fail;refine a.out _ _ (trivial) (λV=>?_);clear a K;refine tk 15 ?_;refine rH 16 λK a=>?_;go_simp;refine a.out _ _ (trivial) (λW=>?_);clear a K;refine rH 17 λK a=>?_;go_simp;refine a.out _ _ (trivial) (λX=>?_);clear a K;refine dc ?_
     (go_wp2_with fail;go_meet;case rel=>exact⟨_,rfl,rfl⟩)
    refine .cons rfl (λK a=>?_) .nil;go_simp;refine a.out _ _ (trivial) (λY=>?_);clear a K;refine rH 14 λK a=>?_;go_simp
    (refine(ug s 7 _ _ c ak rfl).mono ?_;rintro e b ⟨rfl,d,rfl⟩)
    go_wp2_with fail;refine a.out _ _ (trivial) (λZ=>?_);clear a K;refine tk 15 ?_;refine rH 17 λK a=>?_;go_simp;refine a.out _ _ (trivial) (λaf=>?_);clear a K;refine dc ?_
    (go_wp2_with fail;go_meet;case rel=>exact⟨_,rfl,rfl⟩)
   refine .cons rfl (λK a=>?_) .nil;go_simp;refine a.out _ _ (trivial) (λah=>?_);clear a K;refine rH 11 λK a=>?_;go_simp
   (refine(ug s 5 _ _ c ak rfl).mono ?_;rintro e b ⟨rfl,d,rfl⟩)
   go_wp2_with fail;refine a.out _ _ (trivial) (λaG=>?_);clear a K;refine rH 14 λK a=>?_;go_simp
   (refine(ug s 7 _ _ c ak rfl).mono ?_;rintro e b ⟨rfl,d,rfl⟩)
   go_wp2_with fail;refine a.out _ _ (trivial) (λaI=>?_);clear a K;refine tk 15 ?_;refine rH 17 λK a=>?_;go_simp;refine a.out _ _ (trivial) (λaJ=>?_);clear a K;refine dc ?_
   (go_wp2_with fail;go_meet;case rel=>exact⟨_,rfl,rfl⟩)
  refine .cons rfl (λK a=>?_) .nil;go_simp;refine a.out _ _ (trivial) (λN=>?_);clear a K;refine rH 8 λK a=>?_;go_simp
  (refine(ug s 3 _ _ c ak rfl).mono ?_;rintro e b ⟨rfl,d,rfl⟩)
  go_wp2_with fail;refine a.out _ _ (trivial) (λO=>?_);clear a K;refine rH 11 λK a=>?_;go_simp
  (refine(ug s 5 _ _ c ak rfl).mono ?_;rintro e b ⟨rfl,d,rfl⟩)
  go_wp2_with fail;refine a.out _ _ (trivial) (λP=>?_);clear a K;refine rH 14 λK a=>?_;go_simp
  (refine(ug s 7 _ _ c ak rfl).mono ?_;rintro e b ⟨rfl,d,rfl⟩)
  go_wp2_with fail;refine a.out _ _ (trivial) (λQ=>?_);clear a K;refine tk 15 ?_;refine rH 17 λK a=>?_;go_simp;refine a.out _ _ (trivial) (λR=>?_);clear a K;refine dc ?_
  (go_wp2_with fail;go_meet;case rel=>exact⟨_,rfl,rfl⟩)
 case rest=>
  obtain⟨d,rfl,rfl⟩:=hcut;have l:aL w ((w.alloc (aA (gL) 132)).alloc (aA (qV s) 132)):=bf.alloc aC _
  have n:tK rb mb (w.heap.size+1) (two s 3) us (((w.alloc (aA (gL) 132)).alloc (aA (qV s) 132)).drewN d).drew:=
   tK.mk' (by simp only[World.drew_drewN,World.cell?_drewN];exact(l.cell (p:=aj rb 3) r).trans z) (by simp[go_sem]) (x.out.later l).uses F
  go_upto_region 2 with fail
  go_cut [7] (λq b=>∃d,q=.bool (decide (two s 3∈us))/\b=(((w.alloc (aA (gL) 132)).alloc (aA (qV s) 132)).alloc (aA #[] 169)).drewN d)
  case first=>
   refine eD (S:=λb=>tK rb mb (w.heap.size+1) (two s 3) us b) n λm=>?_;refine tk 0 ?_;refine tk 1 ?_;refine tk 2 ?_;refine tk 3 ?_;refine tk 4 ?_;refine tk 5 ?_;refine tk 6 ?_;refine tk 7 ?_;refine tk 8 ?_;refine tk 9 ?_;refine rH 10 λK a=>?_;go_simp;refine a.out _ _ (tK.keep m) (λA=>?_);clear a K;refine rH 11 λK a=>?_;go_simp;refine a.out _ _ (A) (λM=>?_);clear a K;refine tk 12 ?_;refine dc ?_
   (go_wp2_with fail;go_meet;case rel=>exact⟨_,rfl,rfl⟩)
  case rest=>
   clear n;obtain⟨d2,rfl,rfl⟩:=hcut;have q0:¬rb=w.heap.size:=ak;have q1:¬rb=w.heap.size+1:=ak;have q2:¬rb=w.heap.size+1+1:=ak;have k:aL w (((w.alloc (aA (gL) 132)).alloc (aA (qV s) 132)).alloc (aA #[] 169)):=l.trans ((Below.refl _ _).alloc bY _);have m1:(((w.alloc (aA (gL) 132)).alloc (aA (qV s) 132)).alloc (aA #[] 169)).cell? (aj rb 1)=aa (an mx):=(k.cell (p:=aj rb 1) r).trans y
   by_cases g:bt s 0=81
   ·have B:(bt s 0 !=81)=av:=by simpa using g
    have t:=aT g;clear g
    by_cases i:mx<two s 7
    ·have f:Hid (bt s 0≠81\/mx<two s 7\/two s 3∈us):=aD (aF i);have C:decide (mx<two s 7)=aq:=by simpa using i
     clear i;go_wp2
     go_quiet (fail)
     go_wp2;exact⟨rfl,by first|rfl|(rw[aX f.out]),iX k _⟩
    ·have C:decide (mx<two s 7)=av:=by simpa using i
     have u:=aT i;clear i
     by_cases j:two s 3∈us
     ·have f:Hid (bt s 0≠81\/mx<two s 7\/two s 3∈us):=aD (aD j);have D:decide (two s 3∈us)=aq:=by simpa using j
      clear j;go_wp2
      go_quiet (fail)
      go_wp2;exact⟨rfl,by first|rfl|(rw[aX f.out]),iX k _⟩
     ·have f:Hid (¬(bt s 0≠81\/mx<two s 7\/two s 3∈us)):=by
       rintro(h|h|h)
       ·exact h t.out
       ·exact u.out h
       ·exact j h
      have D:decide (two s 3∈us)=av:=by simpa using j
      clear j;go_wp2
      go_quiet (fail)
      go_wp2;exact gO (v:=(Qt s).val) (by simp[results,results260,go_sem]) rfl ⟨by first|rfl|(rw[aQ f.out]),WL _ _ _ _ _⟩
   ·have f:Hid (bt s 0≠81\/mx<two s 7\/two s 3∈us):=aF g;have B:(bt s 0 !=81)=aq:=by simpa using g
    clear g;go_wp2
    go_quiet (fail)
    go_wp2;exact⟨rfl,by first|rfl|(rw[aX f.out]),iX k _⟩
end
section
open Go.Proofs.Tryz
open Go.RowKit
abbrev fY(c:Int):Prop:=-9223372036854775808<=c/\c<=9223372036854775807
def RY(c n:Int)(w:az)(hc:fY c)(h0:0<n)(i:n<=9223372036854775807):
  Calls prog 21 #[an c,an n] w λe f=>∃r,e=aN (an r)/\(0<=r/\r<n)/\f=w:=by
 by_cases j:c<0
 ·have g:eP.wrap (c+1)=c+1:=by rw[GV];omega
  have h:eP.wrap (-(c+1))= -(c+1):=by rw[GV];omega
  have hr:0<=(-(c+1)).tmod n/\(-(c+1)).tmod n<n:=⟨Aj _ ak,CE _ h0⟩;have a:Hid (0<=(-(c+1)).tmod n/\(-(c+1)).tmod n<n):=hr;have d:¬n=0:=ak;clear hr;go_enter func21,ntmps21;go_wp2;go_ret;exact⟨_,rfl,by rw[<-Int.neg_tmod];exact a.out,rfl⟩
 ·have hr:0<=c.tmod n/\c.tmod n<n:=⟨Aj _ ak,CE _ h0⟩;have a:Hid (0<=c.tmod n/\c.tmod n<n):=hr;have b:Hid (c %n=c.tmod n):=(GU ak).symm;have d:¬n=0:=ak;clear hr;go_enter func21,ntmps21;go_wp2;go_ret;exact⟨_,rfl,by first|exact a.out|(rw[b.out];exact a.out),rfl⟩
end
section
open Go.Conc Go.RowKit
def Se(a:Act)(d:aY Tmp)(v:aE):(a.put d v).tmps.size=a.tmps.size:=by cases d<;>simp[Act.put]
def put_defers(a:Act)(d:aY Tmp)(v:aE):(a.put d v).defers=a.defers:=by cases d<;>rfl
def OW{a:Act}{d:Nat}(v)(h:d<a.tmps.size):(a.put (aa d) v).eval (.tmp d)=v:=by simp[Act.put,Act.eval,wj,h]
def OV{a:Act}{d i:Nat}(v)(h:i≠d):(a.put (aa d) v).eval (.tmp i)=a.eval (.tmp i):=by simp only[Act.put,Act.eval,uh];rw[dP (dF h)]
def ev{a:Act}{k:Nat}{v:aE}(h:a.eval (.tmp k)=v):a.tmps[k]?.getD au=v:=by simpa[Act.eval,uh]using h
def ct:jV->jV|.cond _ x _=>x|_=>.skip
def cf:jV->jV|.cond _ _ y=>y|_=>.skip
end
section
attribute [local go_sem ↓] Go.wp_at_zero Go.wp_at_succ
attribute [local go_sem] bP bF
open Go.RowKit
def bh.cells(m:bh):aB aE:=[an m.wh,.string m.nm,an m.kd,an m.fl,an m.ck,an m.of,an m.ln,.string m.dt,an m.er]
end
section
attribute [local go_sem ↓] Go.wp_at_zero Go.wp_at_succ
attribute [local go_sem] bP bF
open Go.Proofs.Tryz
open Go.RowKit
def vN{B}{e:aW}{k v n xs w w'}(h:w.ownsRow B e k v n xs)(a:aL w w'):w'.ownsRow B e k v n xs:=
 h.kept (row:=ay) ⟨a.os,a.tape,a.output,a.size,λj b _=>a.block j b⟩ (by grind)
abbrev iA(w:az)(b:Nat)(m:bh):Prop:=
 w.cell? (aj b 0)=aa (an m.wh)/\w.cell? (aj b 1)=aa (.string m.nm)/\w.cell? (aj b 2)=aa (an m.kd)/\w.cell? (aj b 3)=aa (an m.fl)/\w.cell? (aj b 4)=aa (an m.ck)/\w.cell? (aj b 5)=aa (an m.of)/\w.cell? (aj b 6)=aa (an m.ln)/\w.cell? (aj b 7)=aa (.string m.dt)/\w.cell? (aj b 8)=aa (an m.er)
def iA.cA{w w' row b m}(h:iA w b m)(a:w.grownBy w' row)(c:b<w.heap.size)(d:aa b≠row):iA w' b m:=by obtain⟨h0,e,f,g,i,j,k,l,n⟩:=h;exact⟨(a.cell_far _ c d).trans h0,(a.cell_far _ c d).trans e,(a.cell_far _ c d).trans f,(a.cell_far _ c d).trans g,(a.cell_far _ c d).trans i,(a.cell_far _ c d).trans j,(a.cell_far _ c d).trans k,(a.cell_far _ c d).trans l,(a.cell_far _ c d).trans n⟩
def iA.later{w w' b m}(h:iA w b m)(a:aL w w')(d:b<w.heap.size):iA w' b m:=
 h.cA (row:=ay) ⟨a.os,a.tape,a.output,a.size,λj c _=>a.block j c⟩ d aC
abbrev jK(rb b:Nat)(sz:Int)(m:bh)(W:az):Prop:=W.cell? (aj rb 0)=aa (an sz)/\iA W b m/\W.frozen? (aj b 8)=av
def jK.later{rb b sz m W W'}(h:jK rb b sz m W)(a:aL W W'):jK rb b sz m W':=by have c:=iB h.2.1.1;exact⟨(a.cell (iB h.1)).trans h.1,h.2.1.later a c,(a.frozen c).trans h.2.2⟩
def Fu{W:az}{b:Nat}(m)(h:∀j,j<9->(W.cell? (aj b j)).isSome=aq):iA (W.setCells b 0 m.cells) b m:=by have key:=World.cell?_setCells_in b m.cells 0 W (λj a=>by simpa using h j a);exact⟨key 0 (by simp[bh.cells]),key 1 (by simp[bh.cells]),key 2 (by simp[bh.cells]),key 3 (by simp[bh.cells]),key 4 (by simp[bh.cells]),key 5 (by simp[bh.cells]),key 6 (by simp[bh.cells]),key 7 (by simp[bh.cells]),key 8 (by simp[bh.cells])⟩
def Sv{W b m}(h:iA W b m)(tmps v)(a:tmps.getD 4 au=aR b)(c:tmps.getD 5 au=v):
  (results f230 tmps).run prog W=.ok (.tuple #[m.val,v]) W:=by
 obtain⟨h0,d,e,f,g,i,j,k,l⟩:=h;simp at a c;simp[results,results230,go_sem,a,c,h0,d,e,f,g,i,j,k,l]
def acg{w w1:az}{o:Obj}(a:aL (w.alloc o) w1){m:bh}(c:o=aA (fN m) 132):∀j,j<9->(w1.cell? (aj w.heap.size j)).isSome=aq:=λj b=>by
 subst c;rw[a.cell aC]
 match j,b with
 |0,_|1,_|2,_|3,_|4,_|5,_|6,_|7,_|8,_=>simp[go_sem]
def DS{B b w W}(h:Below B w W)(a:B<=b)(m:bh):Below B w (W.setCells b 0 m.cells):=DT h a _ _ _ _ _ _ _ _ _
def aaB(rb s w)(a:s.size<9):
  bO 230 #[aR rb,.string s] w (.tuple #[bh.zero.val,an 0]):=by
 go_enter func230,ntmps230;go_wp2;exact gO (by simp[results,results230,go_sem,bh.zero]) rfl ⟨rfl,bf⟩
def aaE(rb mb sz mx ph us s w)(b:s.size<=cY)(c:9<=s.size)(hR:dR w rb mb sz mx ph us)(hc:bt s 0≠81\/mx<two s 7\/two s 3∈us):
  Calls prog 230 #[aR rb,.string s] w λe a=>e=.panicked [{v:=oN 9,recovered:=av}]/\aL w a:=by
 have g:Hid (∀W,aL w W->Calls prog 260 #[aR rb,.string s] W λe a=>e=.panicked [{v:=oN 9,recovered:=av}]/\aL W a):=λW d=>by exact(EC rb mb sz mx ph us s W b c (hR.later d)).mono (λe a h=>by rw[aX hc]at h;exact h)
 unfold cY at b;go_enter func230,ntmps230;go_wp2_with (go_at_call 260;refine(g.out _ (bf)).mono ?_;rintro e i ⟨rfl,f⟩);exact⟨rfl,rfl,bf.trans (f.mono aC)⟩
def aaD(rb mb:Nat)(sz f ph:Int)(us:aB Int)(s:ByteArray)(w:az)(j:s.size<=cY)(l:9<=s.size)(hR:dR w rb mb sz f ph us)(hc:¬(bt s 0≠81\/f<two s 7\/two s 3∈us))(q:bt s 1=1)(u:(s.size:Int)<9+two s 7):
  bO 230 #[aR rb,.string s] w (.tuple #[bh.zero.val,an 0]):=by
 have p:Hid (∀W,aL w W->bO 260 #[aR rb,.string s] W (.agg (qV s))):=λW n=>by exact(EC rb mb sz f ph us s W j l (hR.later n)).mono (λe B h=>by rw[aQ hc]at h;exact h)
 have A:=lA s 7;have z:(bt s 1==1)=aq:=by simpa using q
 unfold cY at j;go_enter func230,ntmps230;go_wp2_with (go_at_call 260;refine(p.out _ (bf)).mono ?_;rintro e a ⟨rfl,d⟩;obtain⟨r,t⟩:=kZ d;have k:w.heap.size<a.heap.size:=(by have:=d.size;simp at this;omega);have x:∀(c:Obj) (o:Nat),(a.alloc c).cell? (aj w.heap.size o)=a.cell? (aj w.heap.size o):=(λc o=>fX (Below.heap_alloc a c _ k));have y:∀(c:Obj) (o:Nat),(a.alloc c).frozen? (aj w.heap.size o)=a.frozen? (aj w.heap.size o):=(λc o=>World.frozen?_of_block (Below.heap_alloc a c _ k)));have g:=Fu bh.zero (acg (m:=bh.zero) d rfl);have i:w.heap.size<(a.setCells w.heap.size 0 bh.zero.cells).heap.size:=iB g.1
 exact gO (v:=.tuple #[bh.zero.val,an 0]) (Sv (b:=w.heap.size) (m:=bh.zero) (iA.later (w:=a.setCells w.heap.size 0 bh.zero.cells) g (bf) i) _ _ rfl rfl) rfl
  ⟨rfl,(DS (bf.trans (d.mono aC)) (bC _) bh.zero).alloc (mN i) _⟩
def Sr{W:az}{rb b:Nat}{sz:Int}{m:bh}{d:ByteArray}(h:W.cell? (aj rb 0)=aa (an sz))(i:rb≠b)(a:W.heap[b]? =aa (aA (jR m.wh m.nm m.kd m.fl m.ck m.of m.ln ⟨#[]⟩ m.er) 132 (0,0))):
  jK rb b sz {m with dt:=d} (W.setCell (aj b 7) (.string d)).drew:=by
 refine⟨(Nb W ⟨b,7,ay⟩ ⟨rb,0,ay⟩ _ (dF i)).trans h,?_,?_⟩
 ·have f:∀j,j≠7->((W.setCell (aj b 7) (.string d)).drew).cell? (aj b j)=W.cell? (aj b j):=λj g=>VC W ⟨b,7,ay⟩ ⟨b,j,ay⟩ _ (λe=>g (by cases e;rfl));have c:((W.setCell (aj b 7) (.string d)).drew).cell? (aj b 7)=aa (.string d):=Hu W ⟨b,7,ay⟩ _ (by simp[fH,a]);refine⟨?_,?_,?_,?_,?_,?_,?_,c,?_⟩<;>(rw[f _ bJ];simp[fH,a])
 ·show(W.setCell (aj b 7) (.string d)).frozen? (aj b 8)=av;rw[Nd];simp[pO,a]
def jK.err{rb b sz m W}(h:jK rb b sz m W)(e):iA (W.setCell (aj b 8) (an e)) b {m with er:=e}:=by obtain⟨_,⟨h0,c,d,f,g,i,k,l,n⟩,_⟩:=h;have a:∀j,j≠8->(W.setCell (aj b 8) (an e)).cell? (aj b j)=W.cell? (aj b j):=λj o=>VC W ⟨b,8,ay⟩ ⟨b,j,ay⟩ _ (λe=>o (by cases e;rfl));exact⟨(a 0 bJ).trans h0,(a 1 bJ).trans c,(a 2 bJ).trans d,(a 3 bJ).trans f,(a 4 bJ).trans g,(a 5 bJ).trans i,(a 6 bJ).trans k,(a 7 bJ).trans l,Hu W ⟨b,8,ay⟩ _ (by rw[n];rfl)⟩
def DW{W:az}{b a j:Nat}{o:Obj}{v:aE}(h:W.heap[b]? =aa o)(c:b≠a):(W.setCell (aj a j) v).heap[b]? =aa o:=(Below.heap_setCell W ⟨a,j,ay⟩ v b c).trans h
def IK{W b}(h:W.heap[b]? =aa (aA (gL) 132 (0,0))):iA W b bh.zero:=by refine⟨?_,?_,?_,?_,?_,?_,?_,?_,?_⟩<;>simp[fH,h,bh.zero]
def DY{W:az}{b:Nat}(h:W.heap[b]? =aa (aA (gL) 132 (0,0))):∀j,j<9->(W.cell? (aj b j)).isSome=aq:=λj a=>by
 match j,a with
 |0,_|1,_|2,_|3,_|4,_|5,_|6,_|7,_|8,_=>simp[fH,h]
def Ss{w W:az}(m:bh)(tmps:aK aE)(v:aE)(a:tmps.getD 4 au=aR w.heap.size)(b:tmps.getD 5 au=v)(d:∀j,j<9->(W.cell? (aj w.heap.size j)).isSome=aq)(c:aL w W):
  Hw prog f230 (λe f=>e=aN (.tuple #[m.val,v])/\aL w f) alE {tmps:=tmps,defers:=[]}
   (((((((((W.setCell (aj w.heap.size 0) (an m.wh)).setCell (aj w.heap.size 1) (.string m.nm)).setCell (aj w.heap.size 2) (an m.kd)).setCell (aj w.heap.size 3) (an m.fl)).setCell (aj w.heap.size 4) (an m.ck)).setCell (aj w.heap.size 5) (an m.of)).setCell (aj w.heap.size 6) (an m.ln)).setCell (aj w.heap.size 7) (.string m.dt)).setCell (aj w.heap.size 8) (an m.er)):=
 gO (Sv (Fu m d) tmps v a b) rfl ⟨rfl,DS c (bC _) m⟩
def DX{W W'}{b:Nat}{o:Obj}(h:W.heap[b]? =aa o)(a:aL W W'):W'.heap[b]? =aa o:=(a.block b (bp.1 h).1).trans h
def aaF(rb mb:Nat)(sz v ph:Int)(us:aB Int)(s:ByteArray)(w:az)(J:s.size<=cY)(R:9<=s.size)(hR:dR w rb mb sz v ph us)(hc:¬(bt s 0≠81\/v<two s 7\/two s 3∈us))(H:bt s 1=1)(hl:¬(s.size:Int)<9+two s 7)(Qy:s.size<=281474976710656):
  bO 230 #[aR rb,.string s] w (.tuple #[bh.val ⟨3,⟨#[]⟩,bt s 1,bt s 2,two s 3,two s 5,two s 7,s.extract 9 (9+two s 7).toNat,lf (nx s (s.extract 9 (9+two s 7).toNat) 0) sz⟩,an (9+two s 7)]):=by
 have G:Hid (∀W,aL w W->bO 260 #[aR rb,.string s] W (.agg (qV s))):=λW U=>by exact(EC rb mb sz v ph us s W J R (hR.later U)).mono (λe k h=>by rw[aQ hc]at h;exact h)
 have M:=lA s 5;have N:=lA s 7;have kb:(bt s 1==1)=aq:=by simpa using H
 have i9:(9:Int)<=s.size:=ak;have F:=hR.cell;have aS:=hR.lt.1;have x:=aT F.1;unfold cY at J;clear hR hc F;clear H;go_enter func230,ntmps230
 go_upto_region 10 with(first|(go_at_call 260;refine(G.out _ (bf)).mono ?_;rintro e a ⟨rfl,o⟩;obtain⟨V,Y⟩:=kZ o;have r:w.heap.size<a.heap.size:=(by have:=o.size;simp at this;omega))|(go_at_call 117;refine(IN _ _ (by simp<;>omega)).mono ?_;rintro e c ⟨rfl,n⟩;obtain⟨X,Z⟩:=kZ n))
 have z:aL w a:=bf.trans (o.mono aC);have u:aL w c:=(z.alloc (mN r) _).trans (n.mono (by simp;exact mN (Da r)));have oW:a.heap.size<c.heap.size:=by have:=n.size;simp at this;omega
 have I:c.heap[a.heap.size]? =aa (aA (qV s) 132 (0,0)):=(n.block _ aC).trans (cw a _);have g:c.heap[w.heap.size]? =aa (aA (gL) 132 (0,0)):=(n.block _ bY).trans ((Below.heap_alloc _ _ _ r).trans ((o.block _ aC).trans (cw w _)));have E:jK rb a.heap.size sz (nx s (s.extract 9 (9+two s 7).toNat) 0) (c.setCell (aj a.heap.size 7) (.string (s.extract 9 (9+two s 7).toNat))).drew:=Sr (W:=c) (rb:=rb) (b:=a.heap.size) (m:=⟨3,⟨#[]⟩,bt s 1,bt s 2,two s 3,two s 5,two s 7,⟨#[]⟩,0⟩) (d:=(s.extract 9 (9+two s 7).toNat)) (((u.cell (p:=aj rb 0) aS).trans x.out)) ak I;have y:Hid ((c.setCell (aj a.heap.size 7) (.string (s.extract 9 (9+two s 7).toNat))).heap[w.heap.size]? =aa (aA (gL) 132 (0,0))):=DW g ak;have t:Hid (aL w (c.setCell (aj a.heap.size 7) (.string (s.extract 9 (9+two s 7).toNat)))):=u.setCell (p:=aj a.heap.size 7) (mN r) _;clear V Y X Z o n z u I g;have l:Hid (jK rb a.heap.size sz (nx s (s.extract 9 (9+two s 7).toNat) 0) (c.setCell (aj a.heap.size 7) (.string (s.extract 9 (9+two s 7).toNat))).drew):=E;obtain⟨C,⟨ah,aG,aH,aI,aJ,EF,aM,aO,aP⟩,D⟩:=E
 go_cut [7] (λq k=>q=an (9+two s 7)/\iA k a.heap.size ⟨3,⟨#[]⟩,bt s 1,bt s 2,two s 3,two s 5,two s 7,s.extract 9 (9+two s 7).toNat,lf (nx s (s.extract 9 (9+two s 7).toNat) 0) sz⟩/\aL w k/\k.heap[w.heap.size]? =aa (aA (gL) 132 (0,0)))
 case first=>
  refine eD (S:=λk=>k.cell? (aj rb 0)=aa (an sz)/\k.frozen? (aj a.heap.size 8)=av) ⟨C,D⟩ λT=>?_;refine tk 1 ?_;refine tk 2 ?_;refine tk 3 ?_;refine tk 4 ?_;refine rH 0 λK f=>?_;go_simp;refine f.out _ _ (T) (λbg=>?_);clear f K;refine rH 5 λK f=>?_;go_simp
  (refine(Pe (nx s (s.extract 9 (9+two s 7).toNat) 0) sz _ M.1 M.2 N.1 N.2).mono ?_;rintro e O ⟨rfl,i⟩;have bl:O.cell? (aj a.heap.size 8)=aa (an 0):=(jK.later l.out i).2.1.2.2.2.2.2.2.2.2;have bn:O.frozen? (aj a.heap.size 8)=av:=(jK.later l.out i).2.2)
  go_wp2_with fail;refine f.out _ _ (⟨(jK.later l.out i).1,(jK.later l.out i).2.2⟩) (λB=>?_);clear f K;refine tk 6 ?_;refine rH 7 λK f=>?_;go_simp;refine f.out _ _ (⟨(Nb _ ⟨a.heap.size,8,ay⟩ ⟨rb,0,ay⟩ _ (by show a.heap.size≠rb;omega)).trans B.1,(Nd _ _ _ _).trans B.2⟩) (λy9=>?_);clear f K;refine dc ?_
  (go_wp2_with fail;go_meet;case rel=>exact⟨rfl,(jK.later l.out i).err _,((t.out.drew).trans (i.mono (by exact t.out.size))).setCell (p:=aj a.heap.size 8) (mN r) _,DW (DX (by exact y.out) i) ak⟩)
 case rest=>
  clear ah aG aH aI aJ EF aM aO aP C D l y t x G;obtain⟨rfl,⟨z0,z1,z2,z3,z4,z5,z6,z7,z8⟩,A,g⟩:=hcut;have L:∀j,j<9->(wc.cell? (aj w.heap.size j)).isSome=aq:=λj hj=>DY g j hj;have Q:Hid (∀j,j<9->(wc.cell? (aj w.heap.size j)).isSome=aq):=L;obtain⟨p0,p1,p2,p3,p4,p5,p6,p7,p8⟩:=IK g;have pf:∀j,wc.frozen? (aj w.heap.size j)=av:=λj=>by simp[pO,g]
  have aV:Hid (wc.heap[w.heap.size]? =aa (aA (gL) 132 (0,0))):=g;have P:Hid (aL w wc):=A;clear g L A;go_wp2;exact Ss (W:=wc) ⟨3,⟨#[]⟩,bt s 1,bt s 2,two s 3,two s 5,two s 7,s.extract 9 (9+two s 7).toNat,lf (nx s (s.extract 9 (9+two s 7).toNat) 0) sz⟩ _ _ rfl rfl Q.out P.out
def aaC(rb mb:Nat)(sz v ph:Int)(us:aB Int)(s:ByteArray)(w:az)(J:s.size<=cY)(R:9<=s.size)(hR:dR w rb mb sz v ph us)(hc:¬(bt s 0≠81\/v<two s 7\/two s 3∈us))(H:¬bt s 1=1)(Qy:s.size<=281474976710656):
  bO 230 #[aR rb,.string s] w (.tuple #[bh.val ⟨3,⟨#[]⟩,bt s 1,bt s 2,two s 3,two s 5,two s 7,nZ,lf (nx s nZ 0) sz⟩,an 9]):=by
 have G:Hid (∀W,aL w W->bO 260 #[aR rb,.string s] W (.agg (qV s))):=λW U=>by exact(EC rb mb sz v ph us s W J R (hR.later U)).mono (λe k h=>by rw[aQ hc]at h;exact h)
 have M:=lA s 5;have N:=lA s 7;have kb:(bt s 1==1)=av:=by simpa using H
 have i9:(9:Int)<=s.size:=ak;have F:=hR.cell;have aS:=hR.lt.1;have x:=aT F.1;unfold cY at J;clear hR hc F;clear H;go_enter func230,ntmps230
 go_upto_region 10 with(first|(go_at_call 260;refine(G.out _ (bf)).mono ?_;rintro e a ⟨rfl,o⟩;obtain⟨V,Y⟩:=kZ o;have r:w.heap.size<a.heap.size:=(by have:=o.size;simp at this;omega))|(go_at_call 117;refine(IN _ _ (by simp<;>omega)).mono ?_;rintro e c ⟨rfl,n⟩;obtain⟨X,Z⟩:=kZ n))
 have z:aL w a:=bf.trans (o.mono aC);have u:aL w c:=(z.alloc (mN r) _).trans (n.mono (by simp;exact mN (Da r)));have oW:a.heap.size<c.heap.size:=by have:=n.size;simp at this;omega
 have I:c.heap[a.heap.size]? =aa (aA (qV s) 132 (0,0)):=(n.block _ aC).trans (cw a _);have g:c.heap[w.heap.size]? =aa (aA (gL) 132 (0,0)):=(n.block _ bY).trans ((Below.heap_alloc _ _ _ r).trans ((o.block _ aC).trans (cw w _)));have E:jK rb a.heap.size sz (nx s nZ 0) (c.setCell (aj a.heap.size 7) (.string (nZ))).drew:=Sr (W:=c) (rb:=rb) (b:=a.heap.size) (m:=⟨3,⟨#[]⟩,bt s 1,bt s 2,two s 3,two s 5,two s 7,⟨#[]⟩,0⟩) (d:=(nZ)) (((u.cell (p:=aj rb 0) aS).trans x.out)) ak I;have y:Hid ((c.setCell (aj a.heap.size 7) (.string (nZ))).heap[w.heap.size]? =aa (aA (gL) 132 (0,0))):=DW g ak;have t:Hid (aL w (c.setCell (aj a.heap.size 7) (.string (nZ)))):=u.setCell (p:=aj a.heap.size 7) (mN r) _;clear V Y X Z o n z u I g;have l:Hid (jK rb a.heap.size sz (nx s nZ 0) (c.setCell (aj a.heap.size 7) (.string (nZ))).drew):=E;obtain⟨C,⟨ah,aG,aH,aI,aJ,EF,aM,aO,aP⟩,D⟩:=E
 go_cut [7] (λq k=>q=an 9/\iA k a.heap.size ⟨3,⟨#[]⟩,bt s 1,bt s 2,two s 3,two s 5,two s 7,nZ,lf (nx s nZ 0) sz⟩/\aL w k/\k.heap[w.heap.size]? =aa (aA (gL) 132 (0,0)))
 case first=>
  refine eD (S:=λk=>k.cell? (aj rb 0)=aa (an sz)/\k.frozen? (aj a.heap.size 8)=av) ⟨C,D⟩ λT=>?_;refine tk 1 ?_;refine tk 2 ?_;refine tk 3 ?_;refine tk 4 ?_;refine rH 0 λK f=>?_;go_simp;refine f.out _ _ (T) (λbg=>?_);clear f K;refine rH 5 λK f=>?_;go_simp
  (refine(Pe (nx s nZ 0) sz _ M.1 M.2 N.1 N.2).mono ?_;rintro e O ⟨rfl,i⟩;have bk:O.cell? (aj a.heap.size 8)=aa (an 0):=(jK.later l.out i).2.1.2.2.2.2.2.2.2.2;have bl:O.frozen? (aj a.heap.size 8)=av:=(jK.later l.out i).2.2)
  go_wp2_with fail;refine f.out _ _ (⟨(jK.later l.out i).1,(jK.later l.out i).2.2⟩) (λB=>?_);clear f K;refine tk 6 ?_;refine rH 7 λK f=>?_;go_simp;refine f.out _ _ (⟨(Nb _ ⟨a.heap.size,8,ay⟩ ⟨rb,0,ay⟩ _ (by show a.heap.size≠rb;omega)).trans B.1,(Nd _ _ _ _).trans B.2⟩) (λy9=>?_);clear f K;refine dc ?_
  (go_wp2_with fail;go_meet;case rel=>exact⟨rfl,(jK.later l.out i).err _,((t.out.drew).trans (i.mono (by exact t.out.size))).setCell (p:=aj a.heap.size 8) (mN r) _,DW (DX (by exact y.out) i) ak⟩)
 case rest=>
  clear ah aG aH aI aJ EF aM aO aP C D l y t x G;obtain⟨rfl,⟨z0,z1,z2,z3,z4,z5,z6,z7,z8⟩,A,g⟩:=hcut;have L:∀j,j<9->(wc.cell? (aj w.heap.size j)).isSome=aq:=λj hj=>DY g j hj;have Q:Hid (∀j,j<9->(wc.cell? (aj w.heap.size j)).isSome=aq):=L;obtain⟨p0,p1,p2,p3,p4,p5,p6,p7,p8⟩:=IK g;have pf:∀j,wc.frozen? (aj w.heap.size j)=av:=λj=>by simp[pO,g]
  have aV:Hid (wc.heap[w.heap.size]? =aa (aA (gL) 132 (0,0))):=g;have P:Hid (aL w wc):=A;clear g L A;go_wp2;exact Ss (W:=wc) ⟨3,⟨#[]⟩,bt s 1,bt s 2,two s 3,two s 5,two s 7,nZ,lf (nx s nZ 0) sz⟩ _ _ rfl rfl Q.out P.out
def TW(s sz d)(a:0<=sz):lf (nx s d 0) sz=verdict sz (bt s 1) (bt s 2) (two s 5) (two s 7):=
 YP _ sz (oO s 1).1 (oO s 2).1 a
def Su(rb mb sz mx ph us s w)(k:0<=sz)(j:s.size<=281474976710656)(hR:dR w rb mb sz mx ph us):
  Calls prog 230 #[aR rb,.string s] w λe d=>Ends (lU sz mx us s) e/\aL w d:=by
 have i:s.size<=cY:=by unfold cY;omega
 by_cases b:s.size<9
 ·refine(aaB rb s w b).mono λe d h=>⟨aD ?_,h.2⟩;unfold lU;rw[aX b];exact⟨bJ,h.1⟩
 ·have f:9<=s.size:=ak
  by_cases a:bt s 0≠81\/mx<two s 7\/two s 3∈us
  ·refine(aaE rb mb sz mx ph us s w i f hR a).mono λe d h=>⟨aF ?_,h.2⟩;unfold lU;rw[aQ b,aX a];exact⟨rfl,h.1⟩
  ·by_cases c:bt s 1=1
   ·by_cases g:(s.size:Int)<9+two s 7
    ·refine(aaD rb mb sz mx ph us s w i f hR a c g).mono λe d h=>⟨aD ?_,h.2⟩;unfold lU;rw[aQ b,aQ a,aX c,aX g];exact⟨bJ,h.1⟩
    ·refine(aaF rb mb sz mx ph us s w i f hR a c g j).mono λe d h=>⟨aD ?_,h.2⟩;unfold lU;rw[aQ b,aQ a,aX c,aQ g];refine⟨show(3:Int)≠4 by decide,?_⟩;rw[h.1,TW s sz _ k]
   ·refine(aaC rb mb sz mx ph us s w i f hR a c j).mono λe d h=>⟨aD ?_,h.2⟩;unfold lU;rw[aQ b,aQ a,aQ c];refine⟨show(3:Int)≠4 by decide,?_⟩;rw[h.1,TW s sz _ k];rfl
def abe(n w):(CC (oN n) 20 294 aq).run prog w=.ok (.tuple #[.agg #[an n],.bool aq]) w:=by simp[CC,Ik underlying294,go_sem,Result.andThen]
def XG(n w):
  bO 227 #[oN n] w (.tuple #[bh.closing.val,an n]):=by
 have a:=abe n;go_enter func227,ntmps227;go_wp2
 go_region
 all_goals (go_wp2)
 exact gO (by simp[results,results227,go_sem,bh.closing]) rfl ⟨rfl,(bf.alloc aC _).drew⟩
def Bm(W:az)(b j:Nat)(v:aE):W.grownBy (W.setCell (aj b j) v) (aa b):=⟨rfl,rfl,rfl,by simp[gm],λk _ a=>Below.heap_setCell W ⟨b,j,ay⟩ v k (λe=>a (by rw[e]))⟩
def OO(p q w):
  CallsD prog 226 #[.pointer (aa p),.pointer (aa q)] .returning w λe c d=>e=aN (.tuple #[])/\c=.returning/\d=w:=by
 refine callsD_of_wpS func226 rfl λa cs b=>?_;apply wpS_seq;apply Ip;simp[wpOpsS,go_sem,recoverD,b,ntmps226,GI];apply wpS_seq;apply Ip;simp[wpOpsS,go_sem,GI];refine wpS_cond (t:=av) (by simp[Act.eval,sI]) ?_;simp;refine wpS_of_wp (wp_skip ?_);cases a
 simp_all[bodyPostS,results,results226]
def Yn(a bn:Nat)(n:Int)(q:aB PanicEntry)(w:az)(m:a≠bn)(hm:w.heap[a]? =aa (aA (gL) 132 (0,0)))(l:w.heap[bn]? =aa (aA #[an 0] 3 (0,0))):
  CallsD prog 226 #[aR a,aR bn] (.panicking ({v:=oN n,recovered:=av}::q)) w λe A i=>
   e=aN (.tuple #[])/\A=.panicking ({v:=oN n,recovered:=aq}::q)/\iA i a bh.closing/\i.cell? (aj bn 0)=aa (an n)/\∀B,B<=a->B<=bn->B<=w.heap.size->Below B w i:=by
 refine callsD_of_wpS func226 rfl λD cs o=>?_;apply wpS_seq;apply Ip;simp[wpOpsS,go_sem,recoverD,o,ntmps226,GI];apply wpS_seq;apply Ip;simp[wpOpsS,go_sem,GI];refine wpS_cond (t:=aq) (by simp[Act.eval,sI]) ?_;simp only[cS];refine wpS_of_wp ?_;simp only[sJ,sK,sW,pI,jY,sQ,rI,rK,rJ];have HM:=aT hm;have s:=aT l;clear hm l o;go_wp2_with (go_at_call 227;refine(XG n _).mono ?_;rintro e c ⟨rfl,g⟩;have d:=DX HM.out g;have f:=DX s.out g;obtain⟨E,p1,F,G,H,I,J,K,L⟩:=IK d;have M:∀j,c.frozen? (aj a j)=av:=(λj=>by simp[pO,d]);have z:c.cell? (aj bn 0)=aa (an 0):=(by simp[fH,f]);have N:c.frozen? (aj bn 0)=av:=(by simp[pO,f]);have r:=aT d;have C:=aT f;clear d f);have k:=Fu (W:=c) (b:=a) bh.closing (DY r.out);refine⟨rfl,_,rfl,.tuple #[],by simp[results,results226],rfl,rfl,?_,?_,?_⟩
 ·exact iA.cA (w:=c.setCells a 0 bh.closing.cells) (row:=aa bn) k (Bm _ _ _ _) (iB k.1) (by simp;exact m)
 ·refine Hu (c.setCells a 0 bh.closing.cells) ⟨bn,0,ay⟩ _ ?_;have e:(c.setCells a 0 bh.closing.cells).cell? (aj bn 0)=c.cell? (aj bn 0):=VD a bh.closing.cells 0 c ⟨bn,0,ay⟩ (λh=>absurd h (dF m));rw[e,z];rfl
 ·intro B u x y;exact(DS (g.mono y) u bh.closing).setCell (p:=aj bn 0) x _
def IY{f args w m n}(h:Calls prog f args w λe a=>Ends (m,n) e/\aL w a)(hr:m.wh≠4):
  Calls prog f args w λe a=>e=aN (.tuple #[.agg (fN m),an n])/\aL w a:=
 h.mono λe a h=>by
  obtain⟨⟨b,_⟩|⟨_,c⟩,d⟩:=h
  ·exact absurd (by rw[show m=bh.closing from b];rfl) hr
  ·exact⟨c,d⟩
def IX{f args w m n}(h:Calls prog f args w λe a=>Ends (m,n) e/\aL w a)(hr:m.wh=4):
  Calls prog f args w λe a=>e=.panicked [{v:=oN n,recovered:=av}]/\(m=.closing/\aL w a):=
 h.mono λe a h=>by
  obtain⟨⟨b,c⟩|⟨b,_⟩,d⟩:=h
  ·exact⟨c,b,d⟩
  ·exact absurd hr b
def KP{W b bn m n}(h:iA W b m)(o:W.cell? (aj bn 0)=aa (an n))(tmps)(a:tmps.getD 4 au=aR b)(c:tmps.getD 5 au=aR bn):
  (results f190 tmps).run prog W=.ok (.tuple #[m.val,an n]) W:=by
 obtain⟨h0,d,e,f,g,i,j,k,l⟩:=h;simp at a c;simp[results,results190,go_sem,a,c,h0,d,e,f,g,i,j,k,l,o]
abbrev Ko(w:az):az:=(w.alloc (aA (gL) 132)).alloc (aA #[an 0] 3)
def RA{w w1}(a:aL (Ko w) w1):w1.heap[w.heap.size]? =aa (aA (gL) 132 (0,0))/\w1.heap[w.heap.size+1]? =aa (aA #[an 0] 3 (0,0))/\aL w w1:=by
 refine⟨?_,?_,?_⟩
 ·rw[a.block _ bY,Below.heap_alloc _ _ _ aC];exact cw w _
 ·rw[a.block _ aC];have:=cw (w.alloc (aA (gL) 132)) (aA #[an 0] 3)
  rwa [AB]at this
 ·exact(bf.alloc aC _).trans (a.mono bY)
def Kr{w w1}{m:bh}{n:Int}(tmps)(c:tmps.getD 4 au=aR w.heap.size)(d:tmps.getD 5 au=aR (w.heap.size+1))(j:aL (Ko w) w1):
  bodyPostD prog f190 (λe o=>e=aN (.tuple #[m.val,an n])/\aL w o) alE
   {tmps:=tmps,defers:=[{target:=.fn (.func 226) #[aR w.heap.size,aR (w.heap.size+1)],args:=#[]}]}
   ((((((((((w1.setCell (aj w.heap.size 0) (an m.wh)).setCell (aj w.heap.size 1) (.string m.nm)).setCell (aj w.heap.size 2) (an m.kd)).setCell (aj w.heap.size 3) (an m.fl)).setCell (aj w.heap.size 4) (an m.ck)).setCell (aj w.heap.size 5) (an m.of)).setCell (aj w.heap.size 6) (an m.ln)).setCell (aj w.heap.size 7) (.string m.dt)).setCell (aj w.heap.size 8) (an m.er)).setCell (aj (w.heap.size+1) 0) (an n)):=by
 obtain⟨hm,k,i⟩:=RA j;have a:=Fu m (DY hm)
 have g:iA ((w1.setCells w.heap.size 0 m.cells).setCell (aj (w.heap.size+1) 0) (an n)) w.heap.size m:=
  iA.cA (row:=aa (w.heap.size+1)) a (Bm _ _ _ _) (iB a.1) aC
 have l:((w1.setCells w.heap.size 0 m.cells).setCell (aj (w.heap.size+1) 0) (an n)).cell? (aj (w.heap.size+1) 0)=aa (an n):=by refine Hu (w1.setCells w.heap.size 0 m.cells) ⟨w.heap.size+1,0,ay⟩ _ ?_;have e:(w1.setCells w.heap.size 0 m.cells).cell? (aj (w.heap.size+1) 0)=w1.cell? (aj (w.heap.size+1) 0):=VD w.heap.size m.cells 0 w1 ⟨w.heap.size+1,0,ay⟩ (λh=>absurd h aC);rw[e];simp[fH,k]
 refine Nj (f:=226) (args:=#[aR w.heap.size,aR (w.heap.size+1)]) aC (by simp[go_sem]) ?_;refine(OO _ _ _).mono ?_;rintro e q r ⟨rfl,rfl,rfl⟩;exact⟨_,KP (b:=w.heap.size) (bn:=w.heap.size+1) (m:=m) (n:=n) g l _ c d,rfl,(DS i (bC _) m).setCell (p:=aj (w.heap.size+1) 0) (kr _) _⟩
def Kq{w w1}{m:bh}{n:Int}(k:m=.closing)(tmps)(c:tmps.getD 4 au=aR w.heap.size)(d:tmps.getD 5 au=aR (w.heap.size+1))(i:aL (Ko w) w1):
  bodyPostD prog f190 (λe o=>e=aN (.tuple #[m.val,an n])/\aL w o) (Exit.panic [{v:=oN n,recovered:=av}])
   {tmps:=tmps,defers:=[{target:=.fn (.func 226) #[aR w.heap.size,aR (w.heap.size+1)],args:=#[]}]} w1:=by
 subst k;obtain⟨hm,l,a⟩:=RA i;refine Nj (f:=226) (args:=#[aR w.heap.size,aR (w.heap.size+1)]) aC (by simp[go_sem]) ?_;refine(Yn w.heap.size (w.heap.size+1) n [] w1 ak hm l).mono ?_;rintro e p q ⟨rfl,rfl,g,j,h⟩;exact⟨_,KP (b:=w.heap.size) (bn:=w.heap.size+1) (m:=bh.closing) (n:=n) g j _ c d,rfl,a.trans (h _ (bC _) (kr _) a.size)⟩
def R5(rb s w)(i:s.size<=cY)(h:w.cell? (aj rb 2)=aa (an 0))(m n)(g:mZ s=(m,n))(j:m.wh≠4):
  bO 190 #[aR rb,.string s] w (.tuple #[m.val,an n]):=by
 have p:∀(b:Fn) (first a:aK aE) (w:az),(sP b first a).run prog w=.ok (.func b first a) w:=λ_ _ _ _=>rfl;have f:Hid (∀W,aL w W->bO 228 #[.string s] W (.tuple #[.agg (fN m),an n])):=λW k=>IY (by rw[<-g];exact PY s W i) j;have q:=iB h;have r:¬rb=w.heap.size:=ak;have t:¬rb=w.heap.size+1:=ak;have d:Hid (aL w ((w.alloc (aA (gL) 132)).alloc (aA #[an 0] 3))):=bf.alloc aC _
 go_enter_defers func190,ntmps190
 go_wp2_with (go_at_call 228;refine(f.out _ d.out).mono ?_;rintro e u ⟨rfl,c⟩;obtain⟨l,o⟩:=kZ c);exact Kr _ rfl rfl c
def R4(rb s w)(j:s.size<=cY)(i:w.cell? (aj rb 2)=aa (an 0))(m n)(h:mZ s=(m,n))(k:m.wh=4):
  bO 190 #[aR rb,.string s] w (.tuple #[m.val,an n]):=by
 have r:∀(b:Fn) (first a:aK aE) (w:az),(sP b first a).run prog w=.ok (.func b first a) w:=λ_ _ _ _=>rfl;have f:Hid (∀W,aL w W->Calls prog 228 #[.string s] W λe l=>e=.panicked [{v:=oN n,recovered:=av}]/\(m=.closing/\aL W l)):=λW o=>IX (by rw[<-h];exact PY s W j) k;have t:=iB i;have u:¬rb=w.heap.size:=ak;have x:¬rb=w.heap.size+1:=ak;have d:Hid (aL w ((w.alloc (aA (gL) 132)).alloc (aA #[an 0] 3))):=bf.alloc aC _
 go_enter_defers func190,ntmps190
 go_wp2_with (go_at_call 228;refine(f.out _ d.out).mono ?_;rintro e y ⟨rfl,g,c⟩;obtain⟨p,q⟩:=kZ c);exact Kq g _ rfl rfl c
def R8(rb s w)(i:s.size<=cY)(h:w.cell? (aj rb 2)=aa (an 1))(m n)(g:opt s=(m,n))(j:m.wh≠4):
  bO 190 #[aR rb,.string s] w (.tuple #[m.val,an n]):=by
 have p:∀(b:Fn) (first a:aK aE) (w:az),(sP b first a).run prog w=.ok (.func b first a) w:=λ_ _ _ _=>rfl;have f:Hid (∀W,aL w W->bO 229 #[.string s] W (.tuple #[.agg (fN m),an n])):=λW k=>IY (by rw[<-g];exact RO s W i) j;have q:=iB h;have r:¬rb=w.heap.size:=ak;have t:¬rb=w.heap.size+1:=ak;have d:Hid (aL w ((w.alloc (aA (gL) 132)).alloc (aA #[an 0] 3))):=bf.alloc aC _
 go_enter_defers func190,ntmps190
 go_wp2_with (go_at_call 229;refine(f.out _ d.out).mono ?_;rintro e u ⟨rfl,c⟩;obtain⟨l,o⟩:=kZ c);exact Kr _ rfl rfl c
def R7(rb s w)(j:s.size<=cY)(i:w.cell? (aj rb 2)=aa (an 1))(m n)(h:opt s=(m,n))(k:m.wh=4):
  bO 190 #[aR rb,.string s] w (.tuple #[m.val,an n]):=by
 have r:∀(b:Fn) (first a:aK aE) (w:az),(sP b first a).run prog w=.ok (.func b first a) w:=λ_ _ _ _=>rfl;have f:Hid (∀W,aL w W->Calls prog 229 #[.string s] W λe l=>e=.panicked [{v:=oN n,recovered:=av}]/\(m=.closing/\aL W l)):=λW o=>IX (by rw[<-h];exact RO s W j) k;have t:=iB i;have u:¬rb=w.heap.size:=ak;have x:¬rb=w.heap.size+1:=ak;have d:Hid (aL w ((w.alloc (aA (gL) 132)).alloc (aA #[an 0] 3))):=bf.alloc aC _
 go_enter_defers func190,ntmps190
 go_wp2_with (go_at_call 229;refine(f.out _ d.out).mono ?_;rintro e y ⟨rfl,g,c⟩;obtain⟨p,q⟩:=kZ c);exact Kq g _ rfl rfl c
def S3(rb s w mb sz mx us)(l:0<=sz)(i:s.size<=281474976710656)(hR:dR w rb mb sz mx 2 us)(j:w.cell? (aj rb 2)=aa (an 2))(m n)(h:lU sz mx us s=(m,n))(k:m.wh≠4):
  bO 190 #[aR rb,.string s] w (.tuple #[m.val,an n]):=by
 have q:∀(b:Fn) (first a:aK aE) (w:az),(sP b first a).run prog w=.ok (.func b first a) w:=λ_ _ _ _=>rfl;have f:Hid (∀W,aL w W->bO 230 #[aR rb,.string s] W (.tuple #[.agg (fN m),an n])):=λW g=>IY (by rw[<-h];exact Su rb mb sz mx 2 us s W l i (hR.later g)) k;have r:=iB j;have t:¬rb=w.heap.size:=ak;have u:¬rb=w.heap.size+1:=ak;have d:Hid (aL w ((w.alloc (aA (gL) 132)).alloc (aA #[an 0] 3))):=bf.alloc aC _
 go_enter_defers func190,ntmps190
 go_wp2_with (go_at_call 230;refine(f.out _ d.out).mono ?_;rintro e v ⟨rfl,c⟩;obtain⟨o,p⟩:=kZ c);exact Kr _ rfl rfl c
def R9(rb s w mb sz mx us)(o:0<=sz)(j:s.size<=281474976710656)(hR:dR w rb mb sz mx 2 us)(k:w.cell? (aj rb 2)=aa (an 2))(m n)(i:lU sz mx us s=(m,n))(l:m.wh=4):
  bO 190 #[aR rb,.string s] w (.tuple #[m.val,an n]):=by
 have t:∀(b:Fn) (first a:aK aE) (w:az),(sP b first a).run prog w=.ok (.func b first a) w:=λ_ _ _ _=>rfl;have f:Hid (∀W,aL w W->Calls prog 230 #[aR rb,.string s] W λe p=>e=.panicked [{v:=oN n,recovered:=av}]/\(m=.closing/\aL W p)):=λW g=>IX (by rw[<-i];exact Su rb mb sz mx 2 us s W o j (hR.later g)) l;have u:=iB k;have x:¬rb=w.heap.size:=ak;have y:¬rb=w.heap.size+1:=ak;have d:Hid (aL w ((w.alloc (aA (gL) 132)).alloc (aA #[an 0] 3))):=bf.alloc aC _
 go_enter_defers func190,ntmps190
 go_wp2_with (go_at_call 230;refine(f.out _ d.out).mono ?_;rintro e z ⟨rfl,h,c⟩;obtain⟨q,r⟩:=kZ c);exact Kq h _ rfl rfl c
def R6(rb s w ph)(h:w.cell? (aj rb 2)=aa (an ph))(h0:ph≠0)(d:ph≠1)(g:ph≠2):
  bO 190 #[aR rb,.string s] w (.tuple #[bh.zero.val,an 0]):=by
 have k:∀(c:Fn) (first a:aK aE) (w:az),(sP c first a).run prog w=.ok (.func c first a) w:=λ_ _ _ _=>rfl;have l:=iB h;have o:¬rb=w.heap.size:=ak;have p:¬rb=w.heap.size+1:=ak;have i:(ph==0)=av:=by simpa using h0
 have b1:(ph==1)=av:=by simpa using d
 have j:(ph==2)=av:=by simpa using g
 go_enter_defers func190,ntmps190
 go_wp2;refine Nj (f:=226) (args:=#[aR w.heap.size,aR (w.heap.size+1)]) aC (by simp[go_sem]) ?_;refine(OO _ _ _).mono ?_;rintro e q r ⟨rfl,rfl,rfl⟩;exact⟨_,KP (b:=w.heap.size) (bn:=w.heap.size+1) (m:=bh.zero) (n:=0) (by simp[iA,go_sem,bh.zero]) (by simp[go_sem]) _ rfl rfl,rfl,bf.alloc aC _⟩
def Q9(rb mb sz mx ph us s w)(h:0<=sz)(g:s.size<=281474976710656)(hR:dR w rb mb sz mx ph us):
  bO 190 #[aR rb,.string s] w (.tuple #[(first sz mx ph us s).1.val,an (first sz mx ph us s).2]):=by
 have c:s.size<=cY:=by unfold cY;omega
 have b:=hR.cell.2.2.1
 by_cases h0:ph=0
 ·subst h0;have e:first sz mx 0 us s=mZ s:=by unfold first;simp
  rw[e]
  by_cases a:(mZ s).1.wh=4
  ·exact R4 rb s w c b _ _ rfl a
  ·exact R5 rb s w c b _ _ rfl a
 ·by_cases d:ph=1
  ·subst d;have e:first sz mx 1 us s=opt s:=by unfold first;simp
   rw[e]
   by_cases a:(opt s).1.wh=4
   ·exact R7 rb s w c b _ _ rfl a
   ·exact R8 rb s w c b _ _ rfl a
  ·by_cases f:ph=2
   ·subst f;have e:first sz mx 2 us s=lU sz mx us s:=by unfold first;simp
    rw[e]
    by_cases a:(lU sz mx us s).1.wh=4
    ·exact R9 rb s w mb sz mx us h g hR b _ _ rfl a
    ·exact S3 rb s w mb sz mx us h g hR b _ _ rfl a
   ·have e:first sz mx ph us s=(.zero,0):=by unfold first;simp[h0,d,f]
    rw[e];exact R6 rb s w ph b h0 d f
def wV(w w':az)(rb mb:Nat):Prop:=∃row,w.grownBy w' row/\∀r,row=aa r->r=rb\/r=mb
def afe{w mb us}(h:Uses w mb us)(ck)(g:0<=ck/\ck<=65535)(c:us.length<cY):
  ∃a,(Instr.mapUpdate 226 (.map (aa mb)) (an ck) (.agg #[])).run prog w=.ok () a/\Uses a mb (us++[ck])/\w.grownBy a (aa mb):=by
 obtain⟨a,f,e,b⟩:=h.update (CX underlying3) underlying226 c (kl:=.int .i64 ck) (d:=.agg []) (ps:=[]) (Vk underlying3 (by simp[Lit.wf,IntKind.min,IntKind.max,UP,UO];omega)) unitElem_mk;refine⟨a,f,?_,b⟩;unfold Uses;rw[CP,gR,sU,wE,Maps.setOf_snoc];exact e
def dR.phase{w rb mb sz mx ph us}(h:dR w rb mb sz mx ph us)(p):dR (w.setCell (aj rb 2) (an p)) rb mb sz mx p us:=by
 have b:mb≠rb:=λe=>by obtain⟨d,c,a,_⟩:=h.uses;rw[e,h.box]at a;cases a
 refine⟨?_,h.uses.setCell b _⟩;have f:=h.lt.1;have a:=(bp.1 h.box).2;simp only[gm,lB];simp[h.box]
def dR.frozen{w rb mb sz mx ph us}(h:dR w rb mb sz mx ph us):w.frozen? (aj rb 2)=av:=by simp[pO,h.box]
def dR.drew{w rb mb sz mx ph us}(h:dR w rb mb sz mx ph us):dR w.drew rb mb sz mx ph us:=⟨h.box,h.uses⟩
def Jk{R a w}(b:a.defers=[])(h:R (aN (.tuple #[])) w):Hw prog f231 R Mr a w:=
 ⟨b,.tuple #[],by simp[results,results231],h⟩
def Zo(rb mb:Nat)(sz q ph:Int)(us:aB Int)(m:bh)(w:az)(hR:dR w rb mb sz q ph us)(x:0<=m.ck/\m.ck<=65535)(H:us.length<cY):
  Calls prog 231 #[aR rb,m.val] w λe j=>e=aN (.tuple #[])/\dR j rb mb sz q (if m.er=0/\m.kd=5 then 3 else ph) (if m.er=0/\m.kd≠5 then us++[m.ck]else us)/\wV w j rb mb:=by
 obtain⟨D,C,g,t,a,of,ln,s,o⟩:=m;dsimp only at x⊢;obtain⟨g0,Q,R,T⟩:=hR.cell;have X:=hR.lt.1;have q0:¬rb=w.heap.size:=ak;have f2:=hR.frozen;have n:=aT hR;clear hR;generalize h:(if o=0/\g=5 then 3 else ph)=P;generalize d:(if o=0/\g≠5 then us++[a]else us)=U
 by_cases i:o=0
 ·subst i
  by_cases f:g=5
  ·subst f;obtain rfl:3=P:=ak;obtain rfl:us=U:=by simpa using d
   clear h d;go_enter func231,ntmps231;go_wp2;refine Jk rfl ⟨rfl,?_,aa rb,(Bm w rb 2 _).trans (pP _ _ (aa rb)),λr e=>aF (by cases e;rfl)⟩;exact(n.out.phase 3).kept (pP _ _ ay) aC aC
  ·obtain rfl:ph=P:=by simpa[f]using h
   obtain rfl:us++[a]=U:=by simpa[f]using d
   clear h d;have Z:(g==5)=av:=by simpa using f
   have c:dR ((w.alloc (aA (jR D C g t a of ln s 0) 132)).drew) rb mb sz q ph us:=(n.out.kept (pP _ _ ay) aC aC).drew;obtain⟨l,Y,B,p⟩:=afe c.uses a x H
   have A:aa rb≠aa mb:=λe=>by obtain⟨O,M,v,_⟩:=c.uses;cases e;rw[c.box]at v;cases v
   have y:dR l rb mb sz q ph (us++[a]):=⟨(p.block _ c.lt.1 A).trans c.box,B⟩;have J:wV w l rb mb:=⟨aa mb,World.grownBy.trans (b:=(w.alloc (aA (jR D C g t a of ln s 0) 132)).drew) ⟨rfl,rfl,rfl,aC,λk G _=>Below.heap_alloc _ _ _ G⟩ p,λr e=>aD (by cases e;rfl)⟩;have F:=c.cell.2.2.2;have I:=n.out.lt.2;have z:l.cell? (aj w.heap.size 4)=aa (an a):=(fX (p.block _ aC (λe=>absurd I (by cases e;exact rL _)))).trans (by simp[go_sem]);have E:Hid (l.cell? (aj rb 3)=aa (.map (aa mb))/\l.cell? (aj w.heap.size 4)=aa (an a)):=⟨y.cell.2.2.2,z⟩;clear z;have L:=aT f;clear f c B p A;go_enter func231,ntmps231
   go_upto_region 1 with fail
   refine eD (S:=λj=>j.cell? (aj rb 3)=aa (.map (aa mb))/\j.cell? (aj w.heap.size 4)=aa (an a)) ⟨F,by simp[go_sem]⟩ λW=>?_;refine tk 0 ?_;refine tk 1 ?_;refine tk 2 ?_;refine tk 3 ?_;refine tk 4 ?_;refine tk 5 ?_;refine tk 6 ?_;refine rH 7 λK u=>?_;go_simp;refine u.out _ _ (E.out) (λV=>?_);clear u K;refine dc ?_
   (go_wp2_with fail;exact Jk rfl ⟨rfl,y,J⟩)
 ·obtain rfl:ph=P:=by simpa[i]using h
  obtain rfl:us=U:=by simpa[i]using d
  have N:(o !=0)=aq:=by simpa using i
  clear i h d;go_enter func231,ntmps231;go_wp2;refine Jk rfl ⟨rfl,?_,ay,pP _ _ ay,λr e=>by cases e⟩;exact n.out.kept (pP _ _ ay) aC aC
def xj{R a w}(b:a.defers=[])(h:R (aN (.tuple #[])) w):Hw prog f191 R Mr a w:=
 ⟨b,.tuple #[],by simp[results,results191],h⟩
abbrev Cc(us:aB Int)(m:bh):aB Int:=if accepted m then us++[m.ck]else us
def Zp(rb mb:Nat)(sz l ph:Int)(us:aB Int)(m:bh)(w:az)(hR:dR w rb mb sz l ph us)(A:0<=m.ck/\m.ck<=65535)(G:us.length<cY):
  Calls prog 191 #[aR rb,m.val] w λe n=>e=aN (.tuple #[])/\dR n rb mb sz l (after ph m) (Cc us m)/\wV w n rb mb:=by
 obtain⟨b,f,d,i,g,of,ln,h,c⟩:=m;dsimp only at A;obtain⟨g0,O,Q,R⟩:=hR.cell;have S:=hR.lt.1;have T:¬rb=w.heap.size:=ak;have f2:=hR.frozen;have y:=aT hR;clear hR;generalize a:after ph ⟨b,f,d,i,g,of,ln,h,c⟩=P;generalize j:Cc us ⟨b,f,d,i,g,of,ln,h,c⟩=U;have k:=aT a;have z:=aT j;clear a j
 have stay:Hid (P=ph->U=us->dR (w.alloc (aA (jR b f d i g of ln h c) 132)) rb mb sz l P U/\wV w (w.alloc (aA (jR b f d i g of ln h c) 132)) rb mb):=λo q=>by rw[o,q];exact⟨y.out.kept (pP _ _ ay) aC aC,ay,pP _ _ ay,λr e=>by cases e⟩
 have move:Hid (∀p,P=p->U=us->dR ((w.setCell (aj rb 2) (an p)).alloc (aA (jR b f d i g of ln h c) 132)) rb mb sz l P U/\wV w ((w.setCell (aj rb 2) (an p)).alloc (aA (jR b f d i g of ln h c) 132)) rb mb):=λp o q=>by rw[o,q];exact⟨(y.out.phase p).kept (pP _ _ ay) aC aC,aa rb,(Bm w rb 2 _).trans (pP _ _ (aa rb)),λr e=>aF (by cases e;rfl)⟩
 by_cases s:b=3
 ·subst s
  have H:Hid (Calls prog 231 #[aR rb,.agg (jR 3 f d i g of ln h c)] (w.alloc (aA (jR 3 f d i g of ln h c) 132)) λe n=>e=aN (.tuple #[])/\dR n rb mb sz l P U/\wV w n rb mb):=by
   refine(Zo rb mb sz l ph us ⟨3,f,d,i,g,of,ln,h,c⟩ _ (y.out.kept (pP _ _ ay) aC aC) A G).mono ?_;rintro e n ⟨E,hr,row,F,J⟩
   have o:(if c=0/\d=5 then 3 else ph)=P:=by rw[<-k.out];simp[after,and_comm]
   have q:(if c=0/\d≠5 then us++[g]else us)=U:=by rw[<-z.out];simp[Cc,accepted]
   dsimp only at hr;rw[o,q]at hr;exact⟨E,hr,row,(pP _ _ row).trans F,J⟩
  clear stay move;go_enter func191,ntmps191;go_wp2_with (go_at_call 231;refine H.out.mono ?_;rintro e V ⟨rfl,I,K⟩);exact xj rfl ⟨rfl,I,K⟩
 ·have M:(b==3)=av:=by simpa using s
  have j:Hid (U=us):=by show U=us;rw[<-z.out];simp[Cc,accepted,s]
  have D:=aT s;clear s
  by_cases u:b=1
  ·subst u;cases t:f.toList==[97]with
   |true=>
    have a:Hid (P=1):=by show P=1;rw[<-k.out];simp only[after,t];simp
    go_enter func191,ntmps191;go_wp2_with fail;exact xj rfl ⟨rfl,move.out 1 a.out j.out⟩
   |false=>
    have a:Hid (P=ph):=by show P=ph;rw[<-k.out];simp only[after,t];simp
    go_enter func191,ntmps191;go_wp2_with fail;exact xj rfl ⟨rfl,stay.out a.out j.out⟩
  ·have b1:(b==1)=av:=by simpa using u
   have B:=aT u;clear u
   by_cases v:b=2
   ·subst v;cases t:f.toList==[103]with
    |true=>
     have a:Hid (P=2):=by show P=2;rw[<-k.out];simp only[after,t];simp
     go_enter func191,ntmps191;go_wp2_with fail;exact xj rfl ⟨rfl,move.out 2 a.out j.out⟩
    |false=>
     have a:Hid (P=ph):=by show P=ph;rw[<-k.out];simp only[after,t];simp
     go_enter func191,ntmps191;go_wp2_with fail;exact xj rfl ⟨rfl,stay.out a.out j.out⟩
   ·have L:(b==2)=av:=by simpa using v
    have C:=aT v;clear v
    by_cases x:b=4
    ·subst x;have a:Hid (P=4):=by show P=4;rw[<-k.out];simp[after]
     go_enter func191,ntmps191;go_wp2_with fail;exact xj rfl ⟨rfl,move.out 4 a.out j.out⟩
    ·have N:(b==4)=av:=by simpa using x
     have a:Hid (P=ph):=by show P=ph;rw[<-k.out];simp[after,B.out,C.out,D.out,x]
     clear x;go_enter func191,ntmps191;go_wp2_with fail;exact xj rfl ⟨rfl,stay.out a.out j.out⟩
def Rz(sz cl qu mx qn rt bu wk ou ph w):
  Calls prog 115 #[.agg (gn sz cl qu mx qn rt bu wk ou),an ph] w λe a=>e=aN (aR (w.heap.size+2))/\
   a=((w.alloc (aA (gn sz cl qu mx qn rt bu wk ou) 35)).alloc (.map #[] 0)).alloc (aA #[an sz,an mx,an ph,.map (aa (w.heap.size+1))] 228):=by
 have b:=@run_makeMap prog;go_enter func115,ntmps115;go_wp2;go_ret;exact⟨rfl,rfl⟩
def K8(rb s w):
  Calls prog 152 #[aR rb,.string s] w λe c=>e=aN (.func (.func 189) #[] #[aR w.heap.size,aR (w.heap.size+1)])/\
   c=(w.alloc (aA #[aR rb] 164)).alloc (aA #[.string s] 9):=by
 have d:∀(b:Fn) (first a:aK aE) (w:az),(sP b first a).run prog w=.ok (.func b first a) w:=λ_ _ _ _=>rfl;go_enter func152,ntmps152;go_wp2;go_ret;exact⟨rfl,rfl⟩
structure kF(W:az)(rb mb a sb:Nat)(sz mx:Int)(s:ByteArray)(st:St):Prop where
 rd:dR W rb mb sz mx st.ph st.used
 cp:W.heap[a]? =aa (aA #[aR rb] 164 (0,0))
 tx:W.heap[sb]? =aa (aA #[.string (s.extract st.pos s.size)] 9 (0,0))
 apart:rb≠sb/\mb≠sb/\a≠sb/\a≠rb/\a≠mb
abbrev ItR(rb mb a:Nat)(r:Nat):Prop:=r=rb\/r=mb\/r=a
def wS(rb mb a b:Nat)(A B:az):Prop:=B.heap[rb]? =A.heap[rb]? /\B.heap[mb]? =A.heap[mb]? /\B.heap[a]? =A.heap[a]? /\B.heap[b]? =A.heap[b]?
def Uses.block{w w' mb us}(h:Uses w mb us)(c:w'.heap[mb]? =w.heap[mb]?):Uses w' mb us:=by obtain⟨b,a,d,r⟩:=h;exact⟨b,a,c.trans d,r⟩
def kF.kept{A B rb mb cb sb sz mx s st}(h:kF A rb mb cb sb sz mx s st)(k:wS rb mb cb sb A B):kF B rb mb cb sb sz mx s st:=
 ⟨⟨k.1.trans h.rd.box,h.rd.uses.block k.2.1⟩,k.2.2.1.trans h.cp,k.2.2.2.trans h.tx,h.apart⟩
def kF.later{A B rb mb cb sb sz mx s st}(h:kF A rb mb cb sb sz mx s st)(a:A.grownBy B ay):kF B rb mb cb sb sz mx s st:=
 h.kept ⟨a.block _ h.rd.lt.1 aC,a.block _ h.rd.lt.2 aC,a.block _ (bp.1 h.cp).1 aC,a.block _ (bp.1 h.tx).1 aC⟩
def YJ(s:ByteArray)(p n:Nat)(_h:p+n<=s.size):(s.extract p s.size).extract n (s.extract p s.size).size=s.extract (p+n) s.size:=by
 apply wu;simp[wq,mI]
 congr 1
 omega
def kF.step{A B rb mb cb sb sz mx s st m n}(h:kF A rb mb cb sb sz mx s st)(hr:dR B rb mb sz mx (after st.ph m) (Cc st.used m))(i:wV A B rb mb):
  kF (B.setCell (aj sb 0) (.string (s.extract (st.pos+n.toNat) s.size))) rb mb cb sb sz mx s (st.step (m,n)):=by
 obtain⟨row,b,c⟩:=i;obtain⟨a1,a,a3,d,f⟩:=h.apart;have g:B.heap[cb]? =_:=(b.block cb (bp.1 h.cp).1 (λe=>(c _ e.symm).elim d f)).trans h.cp;have j:B.heap[sb]? =_:=(b.block sb (bp.1 h.tx).1 (λe=>(c _ e.symm).elim (λe=>a1 e.symm) (λe=>a e.symm))).trans h.tx;refine⟨⟨?_,?_⟩,?_,?_,h.apart⟩
 ·rw[Below.heap_setCell _ _ _ _ (by exact a1)];exact hr.box
 ·exact Uses.block hr.uses (Below.heap_setCell _ _ _ _ (by exact a))
 ·rw[Below.heap_setCell _ _ _ _ (by exact a3)];exact g
 ·simp only[gm,lB,j];simp[St.step]
def Pq(sz mx ph us s):0<=(first sz mx ph us s).1.ck/\(first sz mx ph us s).1.ck<=65535:=by
 have g:∀f i,(dN s f i).1.ck=0:=λf=>by
  induction f with
  |zero=>intro i;unfold dN;split<;>rfl
  |succ f a=>intro i;unfold dN;split;rfl;split;exact a _;rfl
 unfold first
 split
 ·rw[mZ,g];simp
 ·split
  ·unfold opt;repeat' split
   all_goals simp[bh.zero,bh.closing]
  ·split
   ·unfold lU;repeat' split
    all_goals (first|exact(lA s 3)|simp[bh.zero,bh.closing])
   ·simp[bh.zero]
def abg(st:St)(xs:aB (bh×Int)):(st.run xs).used.length<=st.used.length+xs.length:=by
 induction xs generalizing st with
 |nil=>simp[St.run]
 |cons x xs a=>
  have:=a (st.step x)
  have e:(st.step x).used.length<=st.used.length+1:=by simp only[St.step];split<;>simp
  simp only[St.run,sR,eT]at this⊢;omega
end
section
attribute [local go_sem] Oper.semAt_some
attribute [local go_sem] bP bF
open Go.Proofs.Tryz
open Go.RowKit Go.Shelf
abbrev Kk(x:bh×Int):aK aE:=#[.agg (jR x.1.wh x.1.nm x.1.kd x.1.fl x.1.ck x.1.of x.1.ln x.1.dt x.1.er),an x.2]
def EO(W:az)(a:Nat):Nat:=match W.cell? (aj a 0)with|some (.string t)=>t.size|_=>0
def Re{W rb mb cb sb sz mx s st}(h:kF W rb mb cb sb sz mx s st):EO W sb=s.size-st.pos:=by simp[EO,fH,h.tx,mI]
def G1(n)(hn:1<=n)(rb mb cb sb sz d s)(st:St)(W)(hz:0<=sz)(Qy:s.size<=281474976710656)(hu:st.used.length<=281474976710656)(hp:st.pos<=s.size)(h0:kF W rb mb cb sb sz d s st):
  Iter jW n prog 189 #[aR cb,aR sb] Kk (ItR rb mb sb) (wS rb mb cb sb) (mq sz d s st)
   (λk i=>mq sz d s st k/\((st.run k).next sz d s).2=0/\kF i rb mb cb sb sz d s (st.run k))
   (λpre i=>mq sz d s st pre/\kF i rb mb cb sb sz d s (st.run pre)) W:=by
 intro l J Jx H bH hY bl;refine callsIn_of_wp func189 rfl trivial ?_ rfl;simp only[ntmps189,iV,eT,iU,pM,alA,sJ,sK,sW,sQ,pI,jY]
 gi_wp2
 gi_loopw [5] (λ_ wr=>∃pre,Hid (mq sz d s st pre/\kF wr rb mb cb sb sz d s (st.run pre)/\J pre wr)) (λ_ wr=>EO wr sb)
 case atStart=>exact⟨[],trivial,h0,bl⟩
 case round=>
  obtain⟨pre,hH⟩:=hrel;obtain⟨F,f,K⟩:=hH.out;clear hH;have Q:=KZ sz d s st pre hp F;have T:=abg st pre;generalize v:st.run pre=c at f Q T;obtain⟨⟨m,a⟩,u⟩:∃x,c.next sz d s=x:=⟨_,rfl⟩
  have B:=RB sz d s c;rw[u]at B;have I:=Pq sz d c.ph c.used (s.extract c.pos s.size);have L:first sz d c.ph c.used (s.extract c.pos s.size)=(m,a):=u
  rw[L]at I;obtain⟨t,j⟩:∃t,t=s.extract c.pos s.size:=⟨_,rfl⟩;have S:t.size=s.size-c.pos:=by rw[j];simp[mI]
  have Y:wr.cell? (aj cb 0)=aa (aR rb):=by simp[fH,f.cp]
  have c2:wr.cell? (aj sb 0)=aa (.string t):=by simp[fH,f.tx,j]
  have hN:Hid (bO 190 #[aR rb,.string t] wr (.tuple #[.agg (fN m),an a])):=by have:=Q9 rb mb sz d c.ph c.used t wr hz ak f.rd;rw[j,L]at this;rw[j];exact this
  by_cases P:a=0
  ·subst P
   have HD:Hid (∀b,aL wr b->(∃k,(mq sz d s st k/\((st.run k).next sz d s).2=0/\kF (b.alloc (aA (fN m) 132)) rb mb cb sb sz d s (st.run k))/\J k (b.alloc (aA (fN m) 132)))):=λb y=>by have A:wr.grownBy (b.alloc (aA (fN m) 132)) ay:=(Js y).trans (pP _ _ ay);exact⟨pre,⟨F,by rw[v,u],by rw[v];exact f.later A⟩,H _ _ _ ay K A (λr e=>by cases e)⟩
   clear F f K u L I B Q T v S j
   gi_wp2_with (first|(refine⟨trivial,?_⟩;gi_at_call 190;refine(fP.2 hN.out).mono ?_;rintro e b ⟨rfl,z⟩))
   refine gO (alB rfl _ _ _) rfl ?_;exact⟨⟨_,rfl⟩,aF (HD.out b z)⟩
  ·have bI:(a==0)=av:=by simpa using P
   have hv:mq sz d s st (pre++[(m,a)]):=(SD sz d s st pre (m,a)).2 ⟨F,by rw[v,u],P⟩;have bM:a<=(t.size:Int):=by rw[S];exact B.2
   have bL:0<=a:=B.1;have aP:c.used.length<cY:=by unfold cY;omega
   have QI:st.run (pre++[(m,a)])=c.step (m,a):=by rw[St.KY,v]
   have HF:Hid (∀b,aL wr b->Calls prog 191 #[aR rb,.agg (fN m)] (b.alloc (aA (fN m) 132)) λe g=>e=aN (.tuple #[])/\(g.cell? (aj sb 0)=aa (.string t)/\g.frozen? (aj sb 0)=av/\iA g b.heap.size m/\sb<b.heap.size/\
     kF (g.setCell (aj sb 0) (.string (t.extract a.toNat t.size))) rb mb cb sb sz d s (c.step (m,a))/\J pre (g.setCell (aj sb 0) (.string (t.extract a.toNat t.size))))):=λb y=>by
    have A:wr.grownBy (b.alloc (aA (fN m) 132)) ay:=(Js y).trans (pP _ _ ay);have C:=f.later A;have bz:sb<wr.heap.size:=(bp.1 f.tx).1;have aJ:sb<b.heap.size:=dy bz y.size;refine(Zp rb mb sz d c.ph c.used m (b.alloc (aA (fN m) 132)) C.rd I aP).mono ?_;rintro e g ⟨he,bw,aM⟩;have bA:=C.step (n:=a) bw aM;obtain⟨row,O,R⟩:=aM;have aG:=f.apart;have aO:g.heap[sb]? =_:=(O.block sb (bp.1 C.tx).1 (λe=>(R _ e.symm).elim (λe=>aG.1 e.symm) (λe=>aG.2.1 e.symm))).trans C.tx;have hcut:t.extract a.toNat t.size=s.extract (c.pos+a.toNat) s.size:=by rw[j];exact YJ s c.pos a.toNat ak
    rw[hcut]
    have bt:iA g b.heap.size m:=iA.cA (w:=b.alloc (aA (fN m) 132)) (row:=row) (by simp[iA,go_sem]) O aC (λe=>by have:=C.rd.lt;have Z:=f.rd.lt;have:=y.size;rcases R _ e.symm with e|e<;>omega)
    exact⟨he,by simp[fH,aO,j],by simp[pO,aO],bt,aJ,bA,
     H _ _ _ (aa sb) (H _ _ _ row (H _ _ _ ay K A (λr e=>by cases e)) O (λr e=>(R r e).elim aF (λh=>aD (aF h)))) (Bm _ _ _ _) (λr e=>aD (aD (by cases e;rfl)))⟩
   have HY:Hid (∀q,J pre q->YieldAt jW (n-1) prog l (Kk (m,a)) q λe i=>(e=aN (.bool aq)/\J (pre++[(m,a)]) i/\wS rb mb cb sb q i)\/(e=aN (.bool av)/\Jx (pre++[(m,a)]) i/\wS rb mb cb sb q i)):=λq C4=>hY pre (m,a) q C4 hv;have p:Hid (mq sz d s st (pre++[(m,a)])/\st.run (pre++[(m,a)])=c.step (m,a)/\EO wr sb=s.size-c.pos/\c.pos+a.toNat<=s.size):=⟨hv,QI,Re f,ak⟩;clear F f K u L I Q T v j hv QI aP B S
   gi_wp2_with (first|(refine⟨trivial,?_⟩;gi_at_call 190;refine(fP.2 hN.out).mono ?_;rintro e b ⟨rfl,z⟩;have V:=aT z;obtain⟨bJ,bK⟩:=kZ z;clear z;have bk:b.cell? (aj cb 0)=aa (aR rb):=(V.out.cell (iB Y)).trans Y;have hx:∀(U:Obj) (o:Nat),(b.alloc U).cell? (aj cb o)=b.cell? (aj cb o):=(λU o=>fX (Below.heap_alloc b U _ (iB bk))))|(refine⟨trivial,?_⟩;gi_at_call 191;refine(fP.2 (HF.out b V.out)).mono ?_;rintro e g ⟨rfl,d2,df,⟨m0,m1,m2,m3,m4,m5,m6,m7,m8⟩,aJ,aH,aI⟩;have b7:¬sb=b.heap.size:=ak;obtain⟨fn,b8,assign,body,hy,N⟩:=HY.out _ aI;have X:=aT aH;clear aH aI))
   refine N.mono ?_;rintro e W3 (⟨rfl,Qf,E⟩|⟨rfl,Qg,E⟩)
   ·have D:=X.out.kept E;have G:=aT D;have M:=aT Qf;clear D Qf E N hy
    gi_wp2
    go_roundw
    case rel=>exact⟨pre++[(m,a)],p.out.1,by rw[p.out.2.1];exact G.out,M.out⟩
    case measure=>
     rw[p.out.2.2.1,Re G.out];have:=p.out.2.2.2;have Z:(c.step (m,a)).pos=c.pos+a.toNat:=rfl;rw[Z];omega
   ·have D:=X.out.kept E;have G:=aT D;have M:=aT Qg;clear D Qg E N hy
    gi_wp2
    refine gO (alB rfl _ _ _) rfl ?_;exact⟨⟨_,rfl⟩,aD ⟨pre++[(m,a)],⟨p.out.1,by rw[p.out.2.1];exact G.out⟩,M.out⟩⟩
end
section
attribute [local go_sem ↓] Go.wp_at_zero Go.wp_at_succ
attribute [local go_sem] bP bF
open Go.Conc Go.RowKit
structure aV(X:Nat->Prop)(w w':az):Prop where
 os:w'.os=w.os
 size:w.heap.size<=w'.heap.size
 block:∀k,k<w.heap.size->¬X k->w'.heap[k]? =w.heap[k]?
def aV.refl(X w):aV X w w:=⟨rfl,bC _,λ_ _ _=>rfl⟩
def aV.trans{X a b c}(h:aV X a b)(k:aV X b c):aV X a c:=
 ⟨k.os.trans h.os,dm h.size k.size,λi d e=>(k.block i (dy d h.size) e).trans (h.block i d e)⟩
def aV.mono{X Y a b}(h:aV X a b)(e:∀k,k<a.heap.size->X k->Y k):aV Y a b:=⟨h.os,h.size,λi c f=>h.block i c λd=>f (e i c d)⟩
def aV.below{X w w'}(h:aL w w'):aV X w w':=⟨h.os,h.size,λk a _=>h.block k a⟩
def aV.set{X a w}(h:aV X a w){p}(d:X p.block)(v):aV X a (w.setCell p v):=
 ⟨h.os,by simpa using h.size,λk c b=>(Below.heap_setCell w p v k (λe=>b (e▸d))).trans (h.block k c b)⟩
abbrev Iq(w:az)(c:Nat)(no wt sz cl f b e rt a g d:Int)(rb:Nat)(s:ByteArray)(out:aE)(tok de:Int)(ch:Nat):Prop:=
 w.heap[c]? =aa (aA (clL no wt sz cl f b e rt a g d rb s out tok de ch) 168 (0,0))
def aG{w:az}{b T:Nat}{x:aK aE}(h:w.heap[b]? =aa (aA x T (0,0))){i:Nat}{v:aE}(hv:x[i]? =aa v):w.cell? (aj b i)=aa v:=by simp[fH,h,hv]
def bz{w:az}{b T:Nat}{x:aK aE}(h:w.heap[b]? =aa (aA x T (0,0)))(i):w.frozen? (aj b i)=av:=by simp[pO,h]
def cz{w:az}{b T:Nat}{x:aK aE}(h:w.heap[b]? =aa (aA x T (0,0)))(i v):(w.setCell (aj b i) v).heap[b]? =aa (aA (x.setIfInBounds i v) T (0,0)):=by simp[gm,lB,h]
def mV{w:az}{b k:Nat}{o:aY Obj}(h:w.heap[k]? =o)(a:k≠b)(i v):(w.setCell (aj b i) v).heap[k]? =o:=
 (Below.heap_setCell w ⟨b,i,ay⟩ v k a).trans h
def eO{P fn R a w}(hr:fn.results=#[])(b:a.defers=[])(h:R (aN (.tuple #[])) w):Hw P fn R Mr a w:=
 ⟨b,.tuple #[],by simp[results,hr],h⟩
def aO(w:az)(b i:Nat)(v:aE){T:Nat}{x:aK aE}(h:w.heap[b]? =aa (aA x T (0,0)))(hv:x[i]? =aa v:=by rfl):w.cell? ⟨b,i,ay⟩=aa v:=aG h hv
end
section
attribute [local go_sem ↓] Go.wp_at_zero Go.wp_at_succ
attribute [local go_sem] bP bF
open Go.Conc Go.RowKit
open Go.Proofs.Tryz
def Sm{P o a w w' K Q y sl x}{t u:aW}{v v' s}(d:dw o y=aq)(b:o.op=.call {callee:=.builtin .append,args:=#[sl,x],argTypes:=#[t,u]}) (c:a.eval sl=v) (e:a.eval x=.string s) (hr:(nY #[t,u] o.type #[v,.string s]).run P w=.ok v' w') (h:K (a.put o.dst v') w'):
  if dw o y=aq then Ho P o a w K Q else K (a.put o.dst au) w:=by
 rw[aX d];unfold Ho execOp;simp only[b,resolve,invoke,builtin,Df,MY,Hs,rG,sU,wE,c,e,hr];exact h
def jS{w:az}{B e k n:Nat}{v:aE}{xs:aB aE}(h:w.ownsRow B e k v n xs):∃d a,v=.slice d n a:=by
 rcases h.2 with⟨b,c⟩|⟨g,a,f,b,_⟩
 ·exact⟨ay,0,by rw[b,c]⟩
 ·exact⟨_,a,b⟩
def Ww{P w w' base t u ty e}{i:TypeInfo}(b:P.underlying t=aa (.slice e))(c:P.underlying u=aa .string)(a:P.info? e=aa i)(p:i.zero=aa (.int .u8 0))(l:i.size=1)(m:i.bytes=1){v v' n xs}(f:w.ownsRow base e 1 v n xs){s}(A:n+s.size<=140737488355328)(hr:(nY #[t,u] ty #[v,.string s]).run P w=.ok v' w'):
  v'.ownBlock=v.ownBlock\/∀g,v'.ownBlock=aa g->w.heap.size<=g:=by
 have z:xs.length=n:=by simpa using f.1
 rcases f.2 with⟨rfl,rfl⟩|⟨g,d,q,rfl,B,r,E,C,D,F⟩
 ·by_cases hm:s.size=0
  ·have o:=Lib.run_firstCells_string (P:=P) w 1 s;rw[hm]at o;simp[nY,Ik b,Ik c,sizeOf,typeInfo,a,l,UA,hm,o]at hr;exact aF (by rw[<-hr.1])
  ·have k:=run_append_nil_string (P:=P) w t u ty e i (.int .u8 0) b c a p s ak ak (by rw[m];omega);rw[k]at hr;cases hr;exact aD λg h=>by cases h;exact bC _
 ·by_cases y:n+s.size<=d
  ·have k:=Lib.run_append_room_string (P:=P) w t u ty e i b c a l g n d q r s y ak;rw[k]at hr;cases hr;exact aF rfl
  ·have x:∀j u,xs[j]? =aa u->w.cell? ((⟨g,0,ay⟩:fS).add j)=aa u:=f.cells (g:=g) rfl;have k:=Lib.run_append_grow_string (P:=P) w t u ty e i (.int .u8 0) b c a p ⟨g,0,ay⟩ n d xs (by rw[l];simpa using z) x s ak ak (by rw[m];exact growslice_fits ak ak);rw[k]at hr;cases hr;exact aD λg h=>by cases h;exact bC _
abbrev tM(w:az)(b:Nat)(m:bh):Prop:=w.heap[b]? =aa (aA (fN m) 132 (0,0))
abbrev tN(w:az)(out:aE)(o:ByteArray):Prop:=w.ownsRow 0 5 1 out o.size (Lib.strCells o)
abbrev HeS(c b:Nat)(sz cl g d f rt a h e:Int)(m:bh)(W:az):Prop:=
 (W.cell? (aj c 2)=aa (an sz)/\W.cell? (aj c 3)=aa (an cl)/\W.cell? (aj c 4)=aa (an g)/\W.cell? (aj c 5)=aa (an d)/\W.cell? (aj c 6)=aa (an f)/\W.cell? (aj c 7)=aa (an rt)/\W.cell? (aj c 8)=aa (an a)/\W.cell? (aj c 9)=aa (an h)/\W.cell? (aj c 10)=aa (an e))/\
 (W.cell? (aj b 0)=aa (an m.wh)/\W.cell? (aj b 1)=aa (.string m.nm)/\W.cell? (aj b 2)=aa (an m.kd)/\W.cell? (aj b 3)=aa (an m.fl)/\W.cell? (aj b 4)=aa (an m.ck)/\W.cell? (aj b 5)=aa (an m.of)/\W.cell? (aj b 6)=aa (an m.ln)/\W.cell? (aj b 7)=aa (.string m.dt)/\W.cell? (aj b 8)=aa (an m.er))
section
variable {W W':az}
def bV{W W'}(a:aL W W'){k:Nat}{x:Obj}(h:W.heap[k]? =aa x):W'.heap[k]? =aa x:=(a.block k (bp.1 h).1).trans h
end
end
section
attribute [local go_sem] Oper.semAt_some
attribute [local go_sem] bP bF
open Go.Proofs.Tryz
open Go.RowKit Go.Shelf
structure VN(W:az)(c rb mb ch:Nat)(sz cl qu mx qn rt bu wk ou de:Int)(k:Cl):Prop where
 box:∃v,Iq W c k.no k.wt sz cl qu mx qn rt bu wk ou rb k.bg v k.tok de ch/\tN W v k.out
 rd:∃a,dR W rb mb sz mx a []/\(k.ph≠4->a=k.ph)
 chan:W.heap[ch]? =aa (.chan 0 #[] (decide (k.ph=4)) 0 0 av)
abbrev Aside(rb mb b:Nat)(x:Nat):Prop:=x=rb\/x=mb\/x=b\/x=b+1\/x=b+2\/x=b+3
section
def lN{W a:az}{row:aY Nat}{i:Nat}{o:Obj}(h:W.heap[i]? =aa o)(b:W.grownBy a row)(hr:row≠aa i):a.heap[i]? =aa o:=
 (b.block i (bp.1 h).1 (λe=>hr e.symm)).trans h
end
abbrev ReS(c rb a:Nat)(s:ByteArray)(W:az):Prop:=W.cell? (aj c 11)=aa (aR rb)/\W.cell? (aj c 12)=aa (.string s)/\W.cell? (aj a 0)=aa (aR c)
def ReS.G8{c rb B0 s W x y}(h:ReS c rb B0 s W):ReS c rb B0 s ((W.alloc x).alloc y):=by have a:aL W ((W.alloc x).alloc y):=((Below.refl _ W).alloc (bC _) _).alloc aC _;exact⟨bR a h.1,bR a h.2.1,bR a h.2.2⟩
def ReA(c rb b a:Nat)(s:ByteArray)(x:bh×Int)(d:Nat):Act:=
 {tmps:=#[aR c,aR a,aR d,an x.2,aR c,.bool aq,.bool av,aR c,aR c,.pointer (aa (aj c 11)),aR rb,
   aR c,aR c,.pointer (aa (aj c 12)),.string s,.func (.func 189) #[] #[aR b,aR (b+1)],
   .agg (jR x.1.wh x.1.nm x.1.kd x.1.fl x.1.ck x.1.of x.1.ln x.1.dt x.1.er),an x.2,au,au,au,au,au,au,au,au,au,au,au,au,au,au,au],defers:=[]}
def ReB(c rb b a:Nat)(s t:ByteArray)(m:bh)(K:Nat)(d:Nat):Act:=
 {tmps:=#[aR c,aR a,aR d,an K,aR c,.bool aq,.bool av,aR c,aR c,.pointer (aa (aj c 11)),aR rb,
   aR c,aR c,.pointer (aa (aj c 12)),.string s,.func (.func 189) #[] #[aR b,aR (b+1)],
   .agg (fN m),an K,aR c,aR c,aR c,.pointer (aa (aj c 12)),.string t,an K,.string (t.extract K t.size),aR c,.pointer (aa (aj c 12)),au,au,au,au,au,au],defers:=[]}
def ReM(c rb b e:Nat)(s:ByteArray)(x:bh×Int)(a:Act)(W:az):Prop:=∃d,b+4<=d/\W.heap[d]? =aa (aA (jR x.1.wh x.1.nm x.1.kd x.1.fl x.1.ck x.1.of x.1.ln x.1.dt x.1.er) 132 (0,0))/\a=ReA c rb b e s x d
def ReM.bears{c rb mb b d:Nat}{s:ByteArray}(m:rb<b)(n:mb<b)(x:bh×Int):Bears (λr=>ItR rb mb (b+1) r\/r=b+2+1) (ReM c rb b d s x):=by rintro a W l row ⟨f,g,i,j⟩ k hr;refine⟨f,g,lN i k (λe=>?_),j⟩;rcases hr _ e with(h|h|h)|h<;>omega
abbrev vM(w1:az)(rb:Nat)(s:ByteArray):az:=((w1.alloc (aA #[aR rb] 164)).alloc (aA #[.string s] 9)).drew
def aah(w1 rb s):(vM w1 rb s).heap.size=w1.heap.size+2/\(vM w1 rb s).heap[w1.heap.size]? =aa (aA #[aR rb] 164 (0,0))/\(vM w1 rb s).heap[w1.heap.size+1]? =aa (aA #[.string s] 9 (0,0))/\aL w1 (vM w1 rb s):=by
 refine⟨aC,?_,?_,(((Below.refl _ w1).alloc (bC _) _).alloc aC _).drew⟩
 ·exact(Below.heap_alloc _ _ _ aC).trans (cw w1 _)
 ·have:=cw (w1.alloc (aA #[aR rb] 164)) (aA #[.string s] 9);rw[AB]at this;exact this
def G3{rb mb b X W W'}(d:aV X W W')(e:∀i,X i->¬Aside rb mb b i)(a:rb<W.heap.size)(c:mb<W.heap.size)(j:b+4<=W.heap.size):wW (b+2) W W'/\wS rb mb b (b+1) W W':=by have key:∀i,i<W.heap.size->Aside rb mb b i->W'.heap[i]? =W.heap[i]? :=λi g f=>d.block i g λh=>e i h f;exact⟨⟨key _ ak (by simp[Aside]),key _ ak (by simp[Aside])⟩,key _ a (by simp[Aside]),key _ c (by simp[Aside]),key _ ak (by simp[Aside]),key _ ak (by simp[Aside])⟩
def fL{W:az}{i j:Nat}{o a:Obj}(h:W.heap[i]? =aa o)(c:W.heap[j]? =aa a)(b:o≠a):i≠j:=λe=>b (by grind)
def Wt{sz mx m}(h:m.nm.size<=65535):(answer sz mx m).size<=65540:=by
 unfold answer;split
 ·split<;>exact(by decide:(1:Nat)<=65540)
 ·split
  ·split
   ·rw[qy,qy];exact(by decide:1+2+2<=65540)
   ·split
    ·exact(by decide:(1:Nat)<=65540)
    ·rw[qy];show 1+m.nm.size<=65540;omega
  ·exact(by decide:(0:Nat)<=65540)
def V7{W v o i x}(h:tN W v o)(c:W.heap[i]? =aa x)(d:∀a,x≠aA a 5 (0,0)):aa i≠v.ownBlock:=λe=>by
 rcases h.2 with⟨rfl,_⟩|⟨g,f,a,rfl,_,b,_⟩
 ·cases e
 ·cases e;exact d a (dM (c.symm.trans b))
def vX{X W W' i x}(h:aV X W W')(a:W.heap[i]? =aa x)(b:¬X i):W'.heap[i]? =aa x:=(h.block i (bp.1 a).1 b).trans a
def cE(cl:aB (aY Nat)):aB Nat:=cl.filterMap id
def kN(v:aY Nat):aE:=.pointer (v.map λc=>⟨c,0,ay⟩)
def ace{cl:aB (aY Nat)}{i c:Nat}(h:cl[i]? =aa (aa c)):cE (cl.take (i+1))=cE (cl.take i)++[c]:=by rw[sX,h];simp[cE]
def acd{cl:aB (aY Nat)}{i:Nat}(h:cl[i]? =aa ay):cE (cl.take (i+1))=cE (cl.take i):=by rw[sX,h];simp[cE]
def acf(cl i):∃r,cE cl=cE (cl.take i)++r:=⟨cE (cl.drop i),by unfold cE;rw[<-List.filterMap_append,pK]⟩
abbrev vP(c:Nat):aK aE:=#[aR c]
def BO(xb w):
  Calls prog 59 #[aR xb] w λe c=>e=aN (.func (.func 96) #[] #[aR w.heap.size])/\c=w.alloc (aA #[aR xb] 36):=by
 have d:∀(b:Fn) (first a:aK aE) (w:az),(sP b first a).run prog w=.ok (.func b first a) w:=λ_ _ _ _=>rfl;go_enter func59,ntmps59;go_wp2;go_ret;exact⟨rfl,rfl⟩
def BP(n)(M:1<=n)(cb xb sb N cl W)(G:W.cell? (aj cb 0)=aa (aR xb))(O:W.cell? (aj xb 9)=aa (.slice (aa (aj sb 0)) N N))(K:cl.length=N)(F:N<=65535)(x:∀(j:Nat) v,cl[j]? =aa v->W.cell? (aj sb j)=aa (kN v)):
  Iter jW n prog 96 #[aR cb] vP (λ_=>False) (λA B=>B.heap[sb]? =A.heap[sb]?) (λd=>∃r,cE cl=d++r)
   (λd _=>d=cE cl) (λpre _=>∃r,cE cl=pre++r) W:=by
 intro l J z D E w q;refine callsIn_of_wp func96 rfl trivial ?_ rfl;simp only[ntmps96,iV,eT,iU,pM,alA,sJ,sK,sW,sQ,pI,jY]
 gi_wp2
 gi_loopw [10] (λi wr=>∃j:Nat,j<=N/\i=an j/\Hid (J (cE (cl.take j)) wr/\wr.heap[sb]? =W.heap[sb]?)) (λi _=>N-(gU i).toNat)
 case atStart=>exact⟨0,eo _,rfl,q,rfl⟩
 case round=>
  obtain⟨j,H,rfl,a⟩:=hrel
  by_cases L:j<N
  ·have y:decide ((j:Int)<(N:Int))=aq:=bY;obtain⟨v,hv⟩:∃v,cl[j]? =aa v:=⟨cl[j],by rw[ef]⟩
   have m:wr.cell? (aj sb j)=aa (kN v):=by rw[fX a.out.2];exact x j v hv
   cases v with
   |none=>
    simp only[kN,Vr]at m
    gi_wp2
    refine⟨λ_ h=>(by cases h),?_⟩
    gi_wp2
    go_roundw
    case rel=>exact⟨j+1,ak,by go_num,by rw[(aT (acd hv)).out];exact a.out.1,a.out.2⟩
    case measure=>simp[gU];omega
   |some c=>
    have f:=aT (ace hv)
    have g:Hid (∃r,cE cl=(cE (cl.take j)++[c])++r):=by have:=acf cl (j+1);rw[f.out]at this;exact this
    simp only[kN,tr]at m;obtain⟨C,Q,assign,body,P,u⟩:=w (cE (cl.take j)) c wr a.out.1 g.out
    gi_wp2
    refine u.mono ?_;rintro e k (⟨rfl,s,o⟩|⟨rfl,t,o⟩)
    ·have b:Hid (J (cE (cl.take (j+1))) k/\k.heap[sb]? =W.heap[sb]?):=⟨by rw[f.out];exact s,o.trans (aT a.out.2).out⟩
     gi_wp2
     go_roundw
     case rel=>exact⟨j+1,ak,by go_num,b.out⟩
     case measure=>simp[gU];omega
    ·have b:=aT t
     gi_wp2
     refine gO (alB rfl _ _ _) rfl ?_;exact⟨⟨_,rfl⟩,aD ⟨_,g.out,b.out⟩⟩
  ·have y:decide ((j:Int)<(N:Int))=av:=bY;have I:j=N:=ak
   have p:Hid (J (cE cl) wr):=by have:=a.out.1;rw[sY ak]at this;exact this
   gi_wp2
   exact eO rfl rfl ⟨⟨_,rfl⟩,aF ⟨_,rfl,p.out⟩⟩
def Fb(c n w)(h:w.cell? (aj c 0)=aa (an n)):
  fu 112 #[aR c] w (an n):=by
 go_enter func112,ntmps112;go_wp2;go_ret;exact⟨rfl,rfl⟩
structure qH(W:az)(xb sb N:Nat)(cl:aB (aY Nat)):Prop where
 sl:W.cell? (aj xb 9)=aa (.slice (aa (aj sb 0)) N N)
 len:cl.length=N
 small:N<=65535
 at_:∀(j:Nat) v,cl[j]? =aa v->W.cell? (aj sb j)=aa (kN v)
 row:∃o,W.heap[sb]? =aa o
def qH.old{W W' xb sb N cl}(h:qH W xb sb N cl)(a:aL W W'):qH W' xb sb N cl:=
 ⟨bR a h.sl,h.len,h.small,λj v b=>bR a (h.at_ j v b),by obtain⟨o,c⟩:=h.row;exact⟨o,bV a c⟩⟩
abbrev fiA(xb:Nat)(u:Int)(B:Nat)(c:Nat):Act:=
 {tmps:=#[aR xb,an u,au,aR B,aR (B+1),aR c,aR xb,.func (.func 96) #[] #[aR (B+1+1)],aR c,au,au,au,au,au],defers:=[]}
abbrev fiB(xb:Nat)(u:Int)(B:Nat)(c:Nat)(k:Int)(y:Bool):Act:=
 {tmps:=#[aR xb,an u,au,aR B,aR (B+1),aR c,aR xb,.func (.func 96) #[] #[aR (B+1+1)],aR c,aR c,an k,an u,.bool y,au],defers:=[]}
def bH{w:az}{b k i:Nat}{v:aE}(a:k≠b):(w.setCell (aj b i) v).heap[k]? =w.heap[k]? :=Below.heap_setCell w ⟨b,i,ay⟩ v k a
def FiI(w:az)(u:Int)(no:Nat->Int)(pre:aB Nat)(W:az):Prop:=
 aL w W/\W.heap[w.heap.size]? =aa (aA #[an u] 3 (0,0))/\W.heap[w.heap.size+1]? =aa (aA #[.pointer ay] 119 (0,0))/\∀c∈pre,no c≠u
def FiX(w:az)(u:Int)(no:Nat->Int)(pre:aB Nat)(W:az):Prop:=
 aL w W/\∃a c,pre=a++[c]/\(∀c∈a,no c≠u)/\no c=u/\W.heap[w.heap.size+1]? =aa (aA #[aR c] 119 (0,0))
abbrev xh(w:az)(xb:Nat)(u:Int):az:=((w.alloc (aA #[an u] 3)).alloc (aA #[.pointer ay] 119)).alloc (aA #[aR xb] 36)
def YW(xb C N:Nat)(cl:aB (aY Nat))(u:Int)(no:Nat->Int)(w:az)(hS:qH w xb C N cl)(bw:∀c∈cE cl,w.cell? (aj c 0)=aa (an (no c))):
  CallsIn jW 3 prog 68 #[aR xb,an u] w λe w'=>e=aN (kN ((cE cl).find? λc=>decide (no c=u)))/\aL w w':=by
 refine callsIn_of_wp_marks func68 rfl trivial ?_ rfl;simp only[ntmps68,iV,eT,iU,pM,alA,sJ,sK,sW,sQ,pI,jY]
 gi_wp2_with (first|(refine⟨trivial,?_⟩;gi_at_call 59;refine(fP.2 (BO xb _)).mono ?_;rintro e w1 ⟨rfl,rfl⟩))
 have U:aL w (xh w xb u):=(bf.alloc aC _).alloc bY _;have bB:(xh w xb u).heap.size=w.heap.size+3:=aC;have e1:(xh w xb u).heap[w.heap.size]? =aa (aA #[an u] 3 (0,0)):=(Below.heap_alloc _ _ _ bY).trans ((Below.heap_alloc _ _ _ aC).trans (cw w _));have e2:(xh w xb u).heap[w.heap.size+1]? =aa (aA #[.pointer ay] 119 (0,0)):=(Below.heap_alloc _ _ _ aC).trans (by have:=cw (w.alloc (aA #[an u] 3)) (aA #[.pointer ay] 119);rwa [AB]at this);have e3:(xh w xb u).heap[w.heap.size+1+1]? =aa (aA #[aR xb] 36 (0,0)):=by have:=cw ((w.alloc (aA #[an u] 3)).alloc (aA #[.pointer ay] 119)) (aA #[aR xb] 36);rwa [AB,AB]at this
 have bK:C<w.heap.size:=by obtain⟨o,ho⟩:=hS.row;exact(bp.1 ho).1
 show Code.wpIn jW 3 prog _ _ _ (xh w xb u);generalize xh w xb u=g at*;have bt:FiI w u no [] g:=⟨U,e1,e2,λc h=>by cases h⟩
 have bI:Bears (λr=>False\/r=g.heap.size+1) (FiI w u no):=by
  rintro pre W E row ⟨y,L,M,O⟩ q hr;have s:∀r,row=aa r->r=w.heap.size+4:=λr e=>by rcases hr r e with h|h;cases h;omega
  exact⟨y.grown q y.size (λk e=>by have:=s k e;omega),lN L q (λe=>by have:=s _ e;omega),lN M q (λe=>by have:=s _ e;omega),O⟩
 have bX:Bears (λr=>False\/r=g.heap.size+1) (FiX w u no):=by
  rintro pre W E row ⟨y,aI,c,L,M,O,h5⟩ q hr;have s:∀r,row=aa r->r=w.heap.size+4:=λr e=>by rcases hr r e with h|h;cases h;omega
  exact⟨y.grown q y.size (λk e=>by have:=s k e;omega),aI,c,L,M,O,lN h5 q (λe=>by have:=s _ e;omega)⟩
 refine xG (w:=g) rfl bJ (gf:=96) (lb:=#[aR (w.heap.size+1+1)]) rfl trivial (enters_of func96 aS rfl) (encs:=vP) (λ_=>rfl)
  (R:=λ_=>False) (Kp:=λA B=>B.heap[C]? =A.heap[C]?) (V:=λx=>∃r,cE cl=x++r) (S:=λx _=>x=cE cl) (Sp:=λpre _=>∃r,cE cl=pre++r)
  (λW hW=>?seq) (λr h=>h.elim) (λh k=>k.trans h) (λW o=>fj ak) (λx W E row h _ _=>h) (λx W E row h _ _=>h)
  (FiI w u no) (FiX w u no) bI bX bt (λc a _=>a=fiA xb u w.heap.size c) (λc a W E row h _ _=>h) ?assign ?body ?done ?stop
 case seq=>
  have bu:aL w W:=U.grown hW U.size (λk e=>by cases e);have xd:=lN e3 hW aC;have F:=hS.old bu;exact BP 2 bJ (w.heap.size+1+1) xb C N cl W (aG xd rfl) F.sl F.len F.small F.at_
 case assign=>
  rintro l pre c W K b hv gh d
  gi_wp2
  exact d _ W ⟨rfl,rfl⟩ rfl b rfl
 case body=>
  rintro l pre c a' W b rfl ⟨r,hv⟩ gh;have X:c∈cE cl:=by rw[hv];simp
  have Z:W.cell? (aj c 0)=aa (an (no c)):=bR b.1 (bw c X);have cU:=aO W w.heap.size 0 (an u) b.2.1;have cR:=aO W (w.heap.size+1) 0 (.pointer ay) b.2.2.1;have fR:=bz b.2.2.1 0;have D:=aT b;clear b
  by_cases t:no c=u
  ·have bD:(no c==u)=aq:=by simpa using t
   have G:=aT t;clear t
   gi_wp2
   rename_i H z;have T:=z
   have I:H (fiB xb u w.heap.size c (no c) aq) W.drew:=by
    refine T _ _ ?_;unfold fiB;clear z
    gi_wp2
    obtain⟨f,Y,m,n⟩:=D.out;rw[bB];refine⟨⟨?_,?_⟩,?_,?_,pre,c,rfl,n,G.out,?_⟩
    ·exact bH ak
    ·exact bH ak
    ·exact bH ak
    ·exact f.drew.setCell (p:=aj (w.heap.size+1) 0) (kr _) _
    ·exact cz (w:=W.drew) m 0 _
   refine Mb (S:=λW=>W.cell? (aj w.heap.size 0)=aa (an u)) 3 aS cU λQ=>?_;refine jk 0 ?_;refine js 2 ?_;refine jr 1 λK d=>?_;go_simp;refine⟨trivial,?_⟩;refine(mJ l (fP.2 (Fb c (no c) W.drew Z))).mono ?_;rintro e w1 ⟨rfl,rfl⟩;refine d.out _ _ Q λ_=>?_;refine jz λK d=>?_;go_simp;refine d.out _ _ ?_;refine Ma aS ?_ _;exact I
  ·have bD:(no c==u)=av:=by simpa using t
   have G:=aT t;clear t
   gi_wp2
   rename_i H z;have T:=z
   have I:H (fiB xb u w.heap.size c (no c) av) W.drew:=by
    refine T _ _ ?_;unfold fiB;clear z
    gi_wp2
    obtain⟨f,Y,m,n⟩:=D.out;refine⟨⟨rfl,rfl⟩,rfl,f.drew,Y,m,λJ j=>?_⟩;rcases jZ.1 j with h|h
    ·exact n J h
    ·rw[lX.1 h];exact G.out
   refine Mb (S:=λW=>W.cell? (aj w.heap.size 0)=aa (an u)) 3 aS cU λQ=>?_;refine jk 0 ?_;refine js 2 ?_;refine jr 1 λK d=>?_;go_simp;refine⟨trivial,?_⟩;refine(mJ l (fP.2 (Fb c (no c) W.drew Z))).mono ?_;rintro e w1 ⟨rfl,rfl⟩;refine d.out _ _ Q λ_=>?_;refine jz λK d=>?_;go_simp;refine d.out _ _ ?_;refine Ma aS ?_ _;exact I
 case done=>
  rintro x W rfl b P;have cR:=aO W (w.heap.size+1) 0 (.pointer ay) b.2.2.1;have fR:=bz b.2.2.1 0;have D:=aT b;clear b
  gi_wp2
  obtain⟨f,Y,m,n⟩:=D.out;have Jt:(W.setCell (aj (w.heap.size+1) 0) (.pointer ay)).heap[g.heap.size]? =aa (.deferred (aa [])):=mV P ak _ _;have Bn:(W.setCell (aj (w.heap.size+1) 0) (.pointer ay)).heap[w.heap.size+1]? =aa (aA #[.pointer ay] 119 (0,0)):=cz m 0 _;have j:=aG (w:=(W.setCell (aj (w.heap.size+1) 0) (.pointer ay)).putObj g.heap.size (.deferred ay)) ((fj ak).trans Bn) (i:=0) (v:=.pointer ay) rfl;refine⟨aC,aF ⟨_,_,rfl,wN Jt,.pointer ay,by simp[results,results68,go_sem,j],?_,?_⟩⟩
  ·rw[GZ.2 (λc X=>by simpa using n c X)];rfl
  ·exact(f.setCell (p:=aj (w.heap.size+1) 0) (kr _) _).grown (Dj _ _ _) (by have:=f.size;simpa using this) (λk e=>by cases e;omega)
 case stop=>
  rintro pre W ⟨r,hv⟩ hx P;have HX:=aT hx;clear hx
  gi_wp2
  obtain⟨f,aI,c,rfl,m,n,i5⟩:=HX.out;have j:=aG (w:=W.putObj g.heap.size (.deferred ay)) ((fj ak).trans i5) (i:=0) (v:=aR c) rfl;refine⟨aC,aF ⟨_,_,rfl,wN P,aR c,by simp[results,results68,go_sem,j],?_,?_⟩⟩
  ·have e:(cE cl).find? (λc=>decide (no c=u))=aa c:=by
    rw[hv,CI,List.find?_append,GZ.2 (λJ j=>by simpa using m J j)];simp[n]
   rw[e];rfl
  ·exact f.grown (Dj _ _ _) f.size (λk e=>by cases e;omega)
def Pn(xb a N:Nat)(cl:aB (aY Nat))(u:Int)(no:Nat->Int)(w:az)(hS:qH w xb a N cl)(b:∀c∈cE cl,w.cell? (aj c 0)=aa (an (no c))):
  bO 68 #[aR xb,an u] w (kN ((cE cl).find? λc=>decide (no c=u))):=fP.1 (YW xb a N cl u no w hS b)
end
section
attribute [local go_sem ↓] Go.wp_at_zero Go.wp_at_succ
attribute [local go_sem] bP bF
open Go.Proofs.Tryz
open Go.RowKit
section
end
def aba(rb p w)(h:w.cell? (aj rb 2)=aa (an p)):
  fu 170 #[aR rb] w (an p):=by
 go_enter func170,ntmps170;go_wp2;go_ret;exact⟨rfl,rfl⟩
def iG{x}(a:-9223372036854775808<=x)(b:x<=9223372036854775807):eP.wrap x=x:=by rw[GV];omega
def aV.drew'{X a w}(h:aV X a w):aV X a w.drew:=⟨h.os,h.size,h.block⟩
abbrev feL(sz cl f c e rt a h d:Int)(g N:Nat)(cH clock:Int)(stop:Bool)(aI:Int)(b:aY fS):aK aE:=
 #[an sz,an cl,an f,an c,an e,an rt,an a,an h,an d,.slice (aa (aj g 0)) N N,an cH,an 0,an 0,an clock,.bool stop,an aI,.bool av,.slice ay 0 0,.slice ay 0 0,.pointer b,.slice ay 0 0]
abbrev VU(W:az)(xb:Nat)(sz cl f c e rt a h d:Int)(g N:Nat)(cH clock:Int)(stop:Bool)(aI:Int)(b:aY fS):Prop:=
 W.heap[xb]? =aa (aA (feL sz cl f c e rt a h d g N cH clock stop aI b) 112 (0,0))
def nT(cs:aB (aY Nat)):aK aE:=(cs.map kN).toArray
abbrev wU(W:az)(a:Nat)(cs:aB (aY Nat)):Prop:=W.heap[a]? =aa (aA (nT cs) 119 (0,0))
def sA{cs}{j:Nat}{v:aY Nat}(h:cs[j]? =aa v):(nT cs)[j]? =aa (kN v):=by simp[nT,h]
def SA{cs}(j)(v:aY Nat):(nT cs).setIfInBounds j (kN v)=nT (cs.set j v):=by simp[nT,CQ]
def xJ{α:Type}{l:aB α}{j:Nat}{a:α}(h:l[j]? =aa a):l.set j a=l:=by obtain⟨b,c⟩:=eL.1 h;rw[<-c];exact List.set_getElem_self b
def YE(a w):(binOp .eql 119 (.pointer ay) (.pointer (aa a))).run prog w=.ok (.bool av) w:=by
 have b:(Op.equal 119 (.pointer ay) (.pointer (aa a))).run prog w=.ok av w:=by unfold Op.equal;rw[show Op.maxDepth=9999+1 from rfl];unfold Op.equalIn;rw[Df,Ik underlying119];rfl
 unfold binOp;rw[Df,b];rfl
def Zq(cs:aB (aY Nat))(j:Nat):Prop:=cs[j]? =aa ay/\∀i,i<j->cs[i]? ≠aa ay
def F0(sb N cs w)(hR:wU w sb cs)(o:cs.length=N)(l:N<=65535):
  Calls prog 72 #[.slice (aa (aj sb 0)) N N,.pointer ay] w λe k=>k=w/\((∃j:Nat,e=aN (an j)/\Zq cs j)\/(e=aN (an (-1))/\∀i:Nat,cs[i]? ≠aa ay)):=by
 go_enter func72,ntmps72;go_wp2
 go_loop [8] (λi=>∃j:Nat,j<=N/\i=an j/\Hid (∀i,i<j->cs[i]? ≠aa ay)) (λi=>N-(gU i).toNat)
 case atStart=>exact⟨0,eo _,rfl,λi h=>by omega⟩
 case round=>
  obtain⟨j,n,rfl,b⟩:=hrel
  by_cases p:j<N
  ·have g:decide ((j:Int)<(N:Int))=aq:=bY;obtain⟨v,hv⟩:∃v,cs[j]? =aa v:=⟨cs[j],by rw[ef]⟩;have f:=aG hR (sA hv);have d:=aT hv;cases v with
   |none=>
    simp only[kN,Vr]at f;go_wp2;go_ret;exact⟨rfl,aF ⟨j,rfl,d.out,b.out⟩⟩
   |some c=>
    simp only[kN,tr]at f;have m:=YE ⟨c,0,ay⟩ w;go_wp2
    go_round
    case rel=>
     refine⟨j+1,ak,by go_num,λi a=>?_⟩
     by_cases e:i=j
     ·subst e;rw[d.out];simp
     ·exact b.out i ak
    case measure=>simp[gU];omega
  ·have g:decide ((j:Int)<(N:Int))=av:=bY;go_wp2;go_ret;refine⟨rfl,aD ⟨rfl,λi a=>?_⟩⟩;have:=(eL.1 a).1;exact b.out i ak a
end
section
attribute [local go_sem ↓] Go.wp_at_zero Go.wp_at_succ
attribute [local go_sem] bP bF
open Go.Conc Go.RowKit
open Go.Proofs.Tryz
def Cl.fresh(no wt bu:Int):Cl:=⟨no,wt,0,⟨#[]⟩,⟨#[]⟩,bu⟩
abbrev iy(b:Nat)(sz cl qu mx qn rt bu wk ou:Int)(W:az):Prop:=W.cell? (aj b 0)=aa (an sz)/\W.cell? (aj b 1)=aa (an cl)/\W.cell? (aj b 2)=aa (an qu)/\W.cell? (aj b 3)=aa (an mx)/\W.cell? (aj b 4)=aa (an qn)/\W.cell? (aj b 5)=aa (an rt)/\W.cell? (aj b 6)=aa (an bu)/\W.cell? (aj b 7)=aa (an wk)/\W.cell? (aj b 8)=aa (an ou)
section
variable {b:Nat} {sz cl qu mx qn rt bu wk ou:Int} {W W':az}
def iy.later(h:iy b sz cl qu mx qn rt bu wk ou W)(a:aL W W'):iy b sz cl qu mx qn rt bu wk ou W':=
 ⟨bR a h.1,bR a h.2.1,bR a h.2.2.1,bR a h.2.2.2.1,bR a h.2.2.2.2.1,bR a h.2.2.2.2.2.1,bR a h.2.2.2.2.2.2.1,bR a h.2.2.2.2.2.2.2.1,bR a h.2.2.2.2.2.2.2.2⟩
def iy.a1{x}(h:iy b sz cl qu mx qn rt bu wk ou W):iy b sz cl qu mx qn rt bu wk ou (W.alloc x):=h.later ((Below.refl _ W).alloc (bC _) _)
def iy.a3{x y z}(h:iy b sz cl qu mx qn rt bu wk ou W):iy b sz cl qu mx qn rt bu wk ou (((W.alloc x).alloc y).alloc z):=h.a1.a1.a1
end
def L9(w):(Instr.makeChan 166 (an 0)).run prog w=.ok (.chan (aa w.heap.size)) (w.alloc (.chan 0 #[] av 0 0 av)):=by have h:(prog.info? 169).map (·.bytes)=aa 0:=aS;obtain⟨i,a,c⟩:=eI.1 h;simpa using run_makeChan underlying166 a .i64 0 ak ak
def DC(w:az)(sz cl qu mx qn rt bu wk ou no wt:Int)(e:lW)(w':az):Prop:=
 ∃c d f a,e=aN (aR c)/\VN w' c d f a sz cl qu mx qn rt bu wk ou 0 (Cl.fresh no wt bu)/\Iq w' c no wt sz cl qu mx qn rt bu wk ou d ⟨#[]⟩ (.slice ay 0 0) bu 0 a/\aL w w'/\w.heap.size<=c/\w.heap.size<=d/\w.heap.size<=f/\w.heap.size<=a
def fO{W:az}{o x:Obj}{k:Nat}(h:W.heap[k]? =aa x):(W.alloc o).heap[k]? =aa x:=(Below.heap_alloc W o k (bp.1 h).1).trans h
def new1{W:az}{o:Obj}{k:Nat}(h:k=W.heap.size):(W.alloc o).heap[k]? =aa o:=by subst h;exact cw W o
def Ry{w V rb mb ch c}(sz cl qu mx qn rt bu wk ou no wt)(m:aL w V)(j:V.heap[rb]? =aa (aA #[an sz,an mx,an 0,.map (aa mb)] 228 (0,0)))(k:V.heap[mb]? =aa (.map #[] 0))(l:V.heap[ch]? =aa (.chan 0 #[] av 0 0 av))(d:Iq V c no wt sz cl qu mx qn rt bu wk ou rb ⟨#[]⟩ (.slice ay 0 0) bu 0 ch)(f:w.heap.size<=c)(g:w.heap.size<=rb)(h:w.heap.size<=mb)(i:w.heap.size<=ch):DC w sz cl qu mx qn rt bu wk ou no wt (aN (aR c)) V:=by obtain⟨o,n,a,e⟩:=World.ownsMap_made w prog 3 unitElem;rw[cw]at a;cases a;exact⟨c,rb,mb,ch,rfl,⟨⟨_,d,tD _ _ _ _⟩,⟨0,⟨j,#[],0,k,e⟩,λ_=>rfl⟩,l⟩,d,m,f,g,h,i⟩
def Q5(w sz cl qu mx qn rt bu wk ou no wt):DC w sz cl qu mx qn rt bu wk ou no wt (aN (aR (w.heap.size+1+1+1+1+1)))
  ((((((w.alloc (aA (gn sz cl qu mx qn rt bu wk ou) 35)).alloc (aA (gn sz cl qu mx qn rt bu wk ou) 35)).alloc (.map #[] 0)).alloc (aA #[an sz,an mx,an 0,.map (aa (w.heap.size+1+1))] 228)).alloc (.chan 0 #[] av 0 0 av)).alloc (aA (clL no wt sz cl qu mx qn rt bu wk ou (w.heap.size+1+2) ⟨#[]⟩ (.slice ay 0 0) bu 0 (w.heap.size+1+1+1+1)) 168)).drew:=by
 refine Ry (rb:=w.heap.size+1+2) (mb:=w.heap.size+1+1) (ch:=w.heap.size+1+1+1+1) sz cl qu mx qn rt bu wk ou no wt ?_ ?_ ?_ ?_ ?_ ak ak ak ak
 ·exact((((bf.alloc aC _).alloc bY _).alloc bY _).alloc bY _).alloc bY _ |>.drew
 ·exact fO (fO (new1 aC))
 ·exact fO (fO (fO (new1 aC)))
 ·exact fO (new1 aC)
 ·exact new1 aC
def Q6(w sz cl qu mx qn rt bu wk ou no wt):DC w sz cl qu mx qn rt bu wk ou no wt (aN (aR (w.heap.size+1+1+1+1+1)))
  ((((((w.alloc (aA (gn sz cl qu mx qn rt bu wk ou) 35)).alloc (.chan 0 #[] av 0 0 av)).alloc (aA (gn sz cl qu mx qn rt bu wk ou) 35)).alloc (.map #[] 0)).alloc (aA #[an sz,an mx,an 0,.map (aa (w.heap.size+1+1+1))] 228)).alloc (aA (clL no wt sz cl qu mx qn rt bu wk ou (w.heap.size+1+1+2) ⟨#[]⟩ (.slice ay 0 0) bu 0 (w.heap.size+1)) 168)).drew:=by
 refine Ry (rb:=w.heap.size+1+1+2) (mb:=w.heap.size+1+1+1) (ch:=w.heap.size+1) sz cl qu mx qn rt bu wk ou no wt ?_ ?_ ?_ ?_ ?_ ak ak ak ak
 ·exact((((bf.alloc aC _).alloc bY _).alloc bY _).alloc bY _).alloc bY _ |>.drew
 ·exact fO (new1 aC)
 ·exact fO (fO (new1 aC))
 ·exact fO (fO (fO (fO (new1 aC))))
 ·exact new1 aC
def XC(sz cl qu mx qn rt bu wk ou no wt w):
  Calls prog 73 #[.agg (gn sz cl qu mx qn rt bu wk ou),an no,an wt] w (DC w sz cl qu mx qn rt bu wk ou no wt):=by
 have l:=L9;go_enter func73,ntmps73
 go_upto_region 1 with fail
 refine eD (S:=iy w.heap.size sz cl qu mx qn rt bu wk ou) ⟨by simp[go_sem],by simp[go_sem],by simp[go_sem],by simp[go_sem],by simp[go_sem],by simp[go_sem],by simp[go_sem],by simp[go_sem],by simp[go_sem]⟩ λc=>?_;refine tk 0 ?_;refine tk 1 ?_;refine tk 2 ?_;refine tk 3 ?_;refine tk 5 ?_;refine tk 6 ?_;refine aH [4,7] (.cons rfl (λK a=>?_) ?_)
 ·go_simp
  (refine(Rz sz cl qu mx qn rt bu wk ou 0 _).mono ?_;rintro e i ⟨rfl,rfl⟩)
  go_wp2_with fail;refine a.out _ _ (iy.a3 c) (λd=>?_);clear a K;refine rH 7 λK a=>?_;go_simp;refine a.out _ _ (iy.a1 d) (λf=>?_);clear a K;refine tk 8 ?_;refine rH 9 λK a=>?_;go_simp;refine a.out _ _ (iy.a1 f) (λj=>?_);clear a K;refine tk 10 ?_;refine dc ?_
  (go_wp2_with fail;go_ret;exact Q5 w sz cl qu mx qn rt bu wk ou no wt)
 refine .cons rfl (λK a=>?_) .nil;go_simp;refine a.out _ _ (iy.a1 c) (λg=>?_);clear a K;refine rH 4 λK a=>?_;go_simp
 (refine(Rz sz cl qu mx qn rt bu wk ou 0 _).mono ?_;rintro e i ⟨rfl,rfl⟩)
 go_wp2_with fail;refine a.out _ _ (iy.a3 g) (λh=>?_);clear a K;refine tk 8 ?_;refine rH 9 λK a=>?_;go_simp;refine a.out _ _ (iy.a1 h) (λk=>?_);clear a K;refine tk 10 ?_;refine dc ?_
 (go_wp2_with fail;go_ret;exact Q6 w sz cl qu mx qn rt bu wk ou no wt)
end
section
attribute [local go_sem ↓] Go.wp_at_zero Go.wp_at_succ
open Go.Conc Go.RowKit
open Go.ConcN (sumTo)
open Go.Proofs.Tryz
section
variable [aP] {Q:Exit->Act->az->Prop} {a:Act} {u:az} {ops:aK kU} {i d k:Nat} {rest:aB Nat} {o:kU} {Lf:bN->aB Nat} {f0:bN} {dn:Nat} {x:Int}
def AX(ops:aK kU)(a:Act)(o:kU):Prop:=dw o (yielded ops a.tmps)=aq
def FO.see{ad:fS}{t x g:Nat}{m:Obj}{vs:aK aE}(D:aP.sH g=aa m)(p:∀w,(isAgg t).run prog w=.ok aq w)(r:∀w,(sizeOf t).run prog w=.ok x w)(E:∀w n,(isAgg t).events prog w n=n)(B:ops[i]? =aa o)(A:AX ops a o)(z:o.dst=aa d)(q:o.op=.load t (.tmp k))(hv:a.eval (.tmp k)=.pointer (aa ad))(y:ad.block=g)(J:vs.size=x)(hc:∀w:az,w.heap[g]? =aa m->∀j,(h:j<vs.size)->w.cell? (ad.add j)=aa vs[j])(hr:∀w:az,w.heap[g]? =aa m->(loadCells ad x).run prog w=.ok vs w)(C:∀F,VR F (.agg vs) (.agg vs))(c:FO Lf f0 dn prog ops Q rest (a.put (aa d) (.agg vs)) u):FO Lf f0 dn prog ops Q (i::rest) a u:=by
 refine FO.RV D B A z (λw l=>?_) (λw l e f=>?_) C c
 ·unfold execOp;rw[q];dsimp only;rw[hv];simp[GP,GS,loadVar,p,r,hr w l]
 ·unfold execOp at f;rw[q]at f;dsimp only at f;rw[hv]at f;simp[GP,GS,loadVar,p,r,E,hr w l]at f;rcases events_loadCellsFrom_at ad (λb=>b=g) y x 0 #[] w #[] (λj I=>by rw[fU,hc w l j ak];rfl) e f with h|⟨G,s,H,v⟩
  ·simp at h
  ·exact⟨_,s,v⟩
end
structure iZ(a a':Act)(d:Nat)(v:aE):Prop where
 size:a'.tmps.size=a.tmps.size
 defers:a'.defers=a.defers
 same:∀k,k≠d->a'.eval (.tmp k)=a.eval (.tmp k)
 new:d<a.tmps.size->a'.eval (.tmp d)=v
def xC(a d v):iZ a (a.put (aa d) v) d v:=⟨Se _ _ _,put_defers _ _ _,λ_ h=>OV v h,λh=>OW v h⟩
section
variable [aP] {P:aZ} {Q:Exit->Act->az->Prop} {a:Act} {u u1:az} {ops:aK kU} {i k:Nat} {o:kU} {Lf:bN->aB Nat} {f0:bN} {dn:Nat} {v:aE} {x:Int}
def eZ(Lf:bN->aB Nat)(f0:bN)(dn:Nat)(P:aZ)(b:Region.Mode)(ops:aK kU)(Q:Exit->Act->az->Prop):Nat->aK Bool->Act->az->Prop
 |0,listed,a,u=>eB b ops listed=[]/\FO Lf f0 dn P ops Q [] a u
 |n+1,listed,a,u=>(eB b ops listed=[]->FO Lf f0 dn P ops Q [] a u)/\
  ∀i∈eB b ops listed,∀is,(∀c d,eZ Lf f0 dn P b ops Q n (listed.setIfInBounds i aq) c d->FO Lf f0 dn P ops Q is c d)->FO Lf f0 dn P ops Q (i::is) a u
def eZ.sound{md}:∀(fuel t:Nat) (listed:aK Bool) (a:Act) (u:az),eZ Lf f0 dn P md ops Q fuel listed a u->FO Lf f0 dn P ops Q (Region.linearise.go md ops fuel t listed []) a u:=by
 intro fuel;induction fuel with
 |zero=>intro t listed a u h;simpa[Region.linearise.go]using h.2
 |succ fuel m=>
  intro t listed a u h;obtain⟨j,l⟩:=h;simp only[Region.linearise.go]
  change FO Lf f0 dn P ops Q (match(eB md ops listed)[t %(eB md ops listed).length]? with
   |some i=>Region.linearise.go md ops fuel (t / (eB md ops listed).length) (listed.setIfInBounds i aq) [i]
   |none=>[].reverse) a u
  cases b:(eB md ops listed)[t %(eB md ops listed).length]? with
  |none=>
   have g:eB md ops listed=[]:=by
    cases hr:eB md ops listed with
    |nil=>rfl
    |cons x c=>
     rw[hr]at b;have f:t %(x::c).length<(x::c).length:=yy _ aC;simp at b;simp at f;omega
   simpa using j g
  |some i=>
   simp only[];rw[linearise_go_acc,List.reverse_singleton,List.singleton_append];exact l i (gS b) _ λd n e=>m _ _ d n e
def FX.aav{id}(h:∀x,FO Lf f0 dn P ops Q (Vu (P.follows .mixedOrders) ops x) a {u with drawn:=u.drawn+1}):FX Lf f0 dn P (.region id ops aq) Q a u:=λb k cs d e f g=>by
 haveI:bw:=bS []
 exact .one λl S j gs w t q c _=>⟨_,cs,{u with drawn:=u.drawn+1},j,{w with drawn:=w.drawn+1},#[],stepG_region_draw,⟨⟨Ren.le_refl _,bC _,λ_ _ _=>rfl,λ_ _ h=>aF h,rfl,rfl,rfl⟩,⟨c.world.one,c.world.lt,c.world.obj,c.world.low,c.world.base,c.world.calm,c.world.os⟩,c.whole,c.same,c.size,aC,⟨c.top.tmps,c.top.kind,c.top.known⟩,c.low,c.full⟩,h _ b k cs d e f g⟩
def FX.aau{id}(hm:P.follows .mixedOrders=aq)(h:eZ Lf f0 dn P .any ops Q ops.size (sI ops.size av) a {u with drawn:=u.drawn+1}):FX Lf f0 dn P (.region id ops aq) Q a u:=
 FX.aav λt=>by simp only[Vu,hm,Bool.true_or,cS];exact eZ.sound ops.size t _ a _ h
def mA(ops:aK kU)(i:Nat):aB Nat:=match ops[i]? with
 |none=>[]
 |some o=>(o.after.filter λe=>tA .any e).toList.map (·.on)
def OD(ops:aK kU)(k:Nat):Bool:=(eF k).all λi=>(eF (k+1)).any λj=>decide (i<j)&&(mA ops j).contains i
def gA(ops:aK kU)(i:Nat):Nat:=((ops[i]?).bind (·.dst)).getD 0
def tQ(n k:Nat):aK Bool:=(Array.range n).map λi=>decide (i<k)
def aap{listed}(h:i∈eB .any ops listed):i<ops.size/\listed.getD i aq=av/\∀j∈mA ops i,listed.getD j av=aq:=by unfold eB at h;obtain⟨n,b⟩:=wF.1 h;have g:=mL.1 n;simp only[cM,yc]at b;refine⟨g,b.1,λj d=>?_⟩;have l:=cL g;have c:=b.2;rw[l]at c;simp at c;unfold mA at d;rw[l]at d;obtain⟨e,p,rfl⟩:=jH.1 d;have f:=Ut.1 (uk.1 p);obtain⟨m,hm,q⟩:=wo.1 f.1;have:=c m hm;rw[q,f.2]at this;simpa using this
def aaq{listed}(c:i<ops.size)(e:listed.getD i aq=av)(f:∀j∈mA ops i,listed.getD j av=aq):i∈eB .any ops listed:=by
 unfold eB;refine wF.2 ⟨mL.2 c,?_⟩;have d:=cL c;simp only[cM,yc];refine⟨e,?_⟩;rw[d];simp only[tr,mO,Array.all_eq_true];intro m hm
 by_cases b:tA .any ops[i].after[m]=aq
 ·have:=f ops[i].after[m].on (by
   unfold mA;rw[d];exact jH.2 ⟨_,uk.2 (Ut.2 ⟨Array.getElem_mem hm,b⟩),rfl⟩)
  simp[this]
 ·simp[Bool.not_eq_true _▸b]
def eZ.Z4{n b}(hn:ops.size=n)(JE:b<n)(af:OD ops b=aq)(aM:((eF n).all λi=>(mA ops i).all λj=>decide (j<i))=aq)(ah:∀i j,i<b->j<b->gA ops i=gA ops j->i=j)(Base:Act->Prop)(D:Nat->aE->Prop)
  (X:∀a p i v,i<b->iZ a p (gA ops i) v->Base a->Base p) (aJ:∀i,b<i->i<n->∃j,b<=j/\j<i/\j∈mA ops i)
  (aP:∀a i,i<b->Base a->gA ops i<a.tmps.size)
  (step:∀i,i<b->∀a is,Base a->(∀j∈mA ops i,j<b->D j (a.eval (.tmp (gA ops j))))->(∀p v,D i v->iZ a p (gA ops i) v->FO Lf f0 dn P ops Q is p u)->FO Lf f0 dn P ops Q (i::is) a u)
  (aT:∀a,Base a->(∀i,i<b->D i (a.eval (.tmp (gA ops i))))->eZ Lf f0 dn P .any ops Q (n-b) (tQ n b) a u) (z:Base a):eZ Lf f0 dn P .any ops Q n (sI n av) a u:=by
 suffices H:∀(c:Nat) (listed:aK Bool) (a:Act),listed.size=n->listed.toList.count av=c->(∀i,b<=i->i<n->listed[i]? =aa av)->(∀i,i<b->listed[i]? =aa aq->(∀j∈mA ops i,listed.getD j av=aq)/\D i (a.eval (.tmp (gA ops i))))->Base a->eZ Lf f0 dn P .any ops Q c listed a u by refine H n _ a aC aC (λi _ d=>by simp[d]) (λi d h=>?_) z;rw[Cm]at h;split at h<;>cases h
 intro c;induction c with
 |zero=>
  intro listed a T O E _ _
  have r:av∈listed.toList:=by have:=E b (bC _) JE;exact uk.2 (lV this)
  have:=List.count_pos_iff.2 r;omega
 |succ c ih=>
  intro listed a T O E M z
  by_cases J:∀i,i<b->listed[i]? =aa aq
  ·have e:listed=tQ n b:=by
    refine xX (by simp[tQ,T]) λi r w=>?_;have A:i<n:=ak;have t:listed[i]? =aa listed[i]:=cL r
    by_cases d:i<b
    ·have:=J i d;rw[t]at this;simp only[tQ,Ur,Us,d,decide_true];exact dM this
    ·have:=E i ak A;rw[t]at this;simp only[tQ,Ur,Us,d,decide_false];exact dM this
   have Z:n-b=c+1:=by
    rw[<-O,e]
    have hp:∀m,b<=m->((eF m).map λi=>decide (i<b)).count av=m-b:=by
     intro m;induction m with
     |zero=>intro _;simp
     |succ m U=>
      intro hm;rw[yq,CP,List.count_append]
      by_cases h:b<=m
      ·rw[U h];have:¬m<b:=ak;simp[this];omega
      ·have bf:m+1=b:=ak
       have:((eF m).map λi=>decide (i<b)).count av=0:=by refine List.count_eq_zero.2 λt=>?_;obtain⟨j,l,f⟩:=jH.1 t;have:=mL.1 l;simp at f;omega
       rw[this];have:m<b:=ak;simp[this];omega
    have:=hp n ak;simp only[tQ,Cq,Array.toList_range];omega
   rw[e,<-Z];exact aT a z λi d=>(M i d (J i d)).2
  ·have aL:∃i,i<b/\listed[i]? ≠aa aq:=by
    refine og λh=>J λi d=>og λw=>h ⟨i,d,w⟩
   have Y:(∀j∈mA ops b,listed.getD j av=aq)->False:=by
    intro hk;refine J λi d=>?_
    have an:∀m i,i<b->b-i<=m->listed[i]? =aa aq:=by
     intro m;induction m with
     |zero=>intro i d h;omega
     |succ m U=>
      intro i d h;have r:=nF.1 af i (mL.2 d);obtain⟨j,l,f⟩:=pF.1 r;simp only[cM,uD,Am]at f;have V:=mL.1 l
      have y:listed.getD i av=aq:=by
       rcases lZ j b with C|hge
       ·exact(M j C (U j C ak)).1 i f.2
       ·have:j=b:=ak;subst this;exact hk i f.2
      have F:i<listed.size:=ak;rw[cL F];simpa[wj,F]using y
    exact an (b-i) i d (bC _)
   refine⟨λh=>?_,λi d is W=>?_⟩
   ·
    exfalso
    have C5:∃i,i<b/\listed[i]? ≠aa aq/\∀j,j<i->listed[j]? =aa aq:=by
     obtain⟨i,r,w⟩:=aL;induction i using Nat.strongRecOn with
     |_ i aS=>
      by_cases y:∀j,j<i->listed[j]? =aa aq
      ·exact⟨i,r,w,y⟩
      ·have:∃j,j<i/\listed[j]? ≠aa aq:=og λg=>y λj l=>og λq=>g ⟨j,l,q⟩;obtain⟨j,l,f⟩:=this;exact aS j l ak f
    obtain⟨i,r,w,y⟩:=C5;have F:i<listed.size:=ak
    have R:listed[i]=av:=by
     rw[cL F]at w;cases t:listed[i]with
     |false=>rfl
     |true=>exact absurd (by rw[t]) w
    have A:i∈eB .any ops listed:=aaq ak (by simp[wj,F,R]) λj l=>by
     have C:j<i:=by have g:=nF.1 aM i (mL.2 ak);exact ot (nF.1 g j l)
     have q:=y j C;have s:j<listed.size:=ak;rw[cL s]at q;simp[wj,s,dM q]
    rw[h]at A;cases A
   ·obtain⟨aV,aG,K⟩:=aap d;have A:i<n:=ak
    have L:i<b:=by
     refine og λhge=>?_;rcases lZ b i with C|hle
     ·obtain⟨j,B,f,aH⟩:=aJ i C A;have g:=K j aH;have q:=E j B ak;have s:j<listed.size:=ak;rw[cL s]at q;simp[wj,s,dM q]at g
     ·have:i=b:=ak;subst this;exact Y K
    have aj:∀j∈mA ops i,j<b->D j (a.eval (.tmp (gA ops j))):=λj l V=>by have g:=K j l;have s:j<listed.size:=ak;refine(M j V ?_).2;rw[cL s];simpa[wj,s]using g
    have G:i<listed.size:=ak;have R:listed[i]=av:=by simpa[wj,G]using aG
    refine step i L a is z aj λp v hv N=>W p u (ih _ p (by simp[T]) ?_ (λj B f=>?_) (λj B f=>?_) (X a p i v L N z))
    ·have E5:(listed.setIfInBounds i aq).toList=listed.toList.set i aq:=aC;have t:listed.toList[i]'(by simpa using G)=av:=by simpa using R
     rw[E5,List.count_set (by simpa using G),t,O];simp
    ·rw[dP ak];exact E j B f
    ·by_cases S:i=j
     ·subst S;refine⟨λm hm=>?_,?_⟩
      ·have g:=K m hm
       by_cases I:m=i
       ·subst I;simp[wj,G]
       ·rw[uh,dP (dF I),<-uh];exact g
      ·rw[N.new (aP a i L z)];exact hv
     ·rw[dP S]at f;obtain⟨g,q⟩:=M j B f;refine⟨λm hm=>?_,?_⟩
      ·by_cases I:m=i
       ·subst I;simp[wj,G]
       ·rw[uh,dP (dF I),<-uh];exact g m hm
      ·rw[N.same _ λe=>S (ah i j L B e.symm)];exact q
def Fp(ops:aK kU)(n b c:Nat)(ks:aB Nat):Bool:=
 decide (ops.size=n)&&(decide (b<n)&&(OD ops b&&(((eF n).all λi=>(mA ops i).all λj=>decide (j<i))&&(((eF b).all λi=>decide (gA ops i<c)&&(!ks.contains (gA ops i)&&(eF b).all λj=>decide (i=j)||!decide (gA ops i=gA ops j)))&&(eF n).all λi=>decide (i<=b)||(eF i).any λj=>decide (b<=j)&&(mA ops i).contains j))))
def FX.aaw{id d}{ks:aB Nat}{vs:Nat->aE}(n c)(hm:P.follows .mixedOrders=aq)(s:Fp ops n c d ks=aq)(l:Nat->aE->Prop)
  (E:a.tmps.size=d) (C:a.defers=[]) (m:∀k,k∈ks->a.eval (.tmp k)=vs k)
  (step:∀u1:az,u1={u with drawn:=u.drawn+1}->∀i,i<c->∀a is,a.tmps.size=d->a.defers=[]->(∀k,k∈ks->a.eval (.tmp k)=vs k)->(∀j,(mA ops i).contains j=aq->j<c->l j (a.eval (.tmp (gA ops j))))->(∀p v,l i v->iZ a p (gA ops i) v->FO Lf f0 dn P ops Q is p u1)->FO Lf f0 dn P ops Q (i::is) a u1)
  (F:∀u1:az,u1={u with drawn:=u.drawn+1}->∀a,a.tmps.size=d->a.defers=[]->(∀k,k∈ks->a.eval (.tmp k)=vs k)->(∀i,i<c->l i (a.eval (.tmp (gA ops i))))->eZ Lf f0 dn P .any ops Q (n-c) (tQ n c) a u1):FX Lf f0 dn P (.region id ops aq) Q a u:=by
 simp only[Fp,cM,uD]at s;obtain⟨b1,t,w,y,G,z⟩:=s;refine FX.aau hm ?_;rw[b1];have q:∀i,i<c->gA ops i<d/\gA ops i∉ks/\∀j,j<c->i=j\/¬gA ops i=gA ops j:=λi b=>by grind
 refine eZ.Z4 b1 t w y (λi j b f e=>((q i b).2.2 j f).resolve_right λh=>h e) (λa=>a.tmps.size=d/\a.defers=[]/\∀k,k∈ks->a.eval (.tmp k)=vs k) l (λa p i v b N h=>⟨N.size.trans h.1,N.defers.trans h.2.1,λk m=>(N.same k λe=>(q i b).2.1 (e▸m)).trans (h.2.2 k m)⟩) (λi H A=>?_) (λa i b h=>by rw[h.1];exact(q i b).1) (λi b a is h f B=>step _ rfl i b a is h.1 h.2.1 h.2.2 (λj D g=>f j (Am.1 D) g) B) (λa h hv=>F _ rfl a h.1 h.2.1 h.2.2 hv) ⟨E,C,m⟩;have r:=nF.1 z i (mL.2 A);simp only[qx,uD]at r;obtain⟨j,f,g⟩:=pF.1 (r.resolve_left ak);simp only[cM,uD]at g;exact⟨j,g.1,mL.1 f,Am.1 g.2⟩
def eZ.one{fuel j listed}(h:eB .any ops listed=[j])(c:∀is,(∀b f,eZ Lf f0 dn P .any ops Q fuel (listed.setIfInBounds j aq) b f->FO Lf f0 dn P ops Q is b f)->FO Lf f0 dn P ops Q (j::is) a u):eZ Lf f0 dn P .any ops Q (fuel+1) listed a u:=
 ⟨λd=>(by rw[h]at d;cases d),λi e is g=>by rw[h]at e;obtain rfl:=lX.1 e;exact c is g⟩
def eZ.none{listed}(h:eB .any ops listed=[])(c:Q .normal a u):eZ Lf f0 dn P .any ops Q 0 listed a u:=⟨h,FO.nil c⟩
end
section
variable [aP] {Q:Exit->Act->az->Prop} {a:Act} {u:az} {ops:aK kU} {i d k:Nat} {rest:aB Nat} {o:kU} {Lf:bN->aB Nat} {f0:bN} {dn:Nat}
def FO.I5{t ad n c0}(m:∃e,prog.underlying t=aa (.slice e))(l:ops[i]? =aa o)(j:AX ops a o)(h:o.dst=aa d)(g:o.op=.call {callee:=.builtin .len,args:=#[.tmp k],argTypes:=#[t]}) (hv:a.eval (.tmp k)=.slice ad n c0) (c:FO Lf f0 dn prog ops Q rest (a.put (aa d) (an n)) u):FO Lf f0 dn prog ops Q (i::rest) a u:=by
 obtain⟨q,r⟩:=m
 exact FO.blind l j h (λw=>by
  have p:=ev hv;unfold execOp;rw[g];go_simp) (λw=>by
  have p:=ev hv;unfold execOp;rw[g];go_simp) (aD λs=>.int _ _) c
end
section
variable [aP] {P:aZ} {Q:Exit->Act->az->Prop} {a:Act} {u u1:az} {b fr:aU} {cs:aB aU} {ops:aK kU} {i:Nat} {rest:aB Nat} {o:kU} {Lf:bN->aB Nat} {f0:bN} {dn:Nat}
def qF.results{Shun S ρ gs w t q}(e:qF Lf P Shun S fr cs u ρ gs w t q){fn v x}(n:bM ρ x x)(h:(results fn x).run P u=.ok v u)(g:Nat->Question->Nat):(results fn x).run P (u.tp g)=.ok v (u.tp g):=by
 haveI:bw:=bS []
 have m:WR P ρ u (w.tp λj q=>u.tape (u.drawn+(j-w.drawn)) q):=⟨e.world.one,e.world.lt,e.world.obj,λi q=>by show u.tape (u.drawn+(w.drawn+i-w.drawn)) q=_;rw[uz],e.world.low,e.world.base,e.world.calm,e.world.os⟩
 obtain⟨_,l⟩:=(su (xO fn n) (iN u) m e.whole h).1;rw[<-Sem.runT_fst P _ (u.tp g) #[],l g (λi q a b=>by omega)]
def FO.Xn{d}(H:ops[i]? =aa o)(hw:dw o (yielded ops a.tmps)=aq){f fn body args ats}(I:o.op=.call {callee:=.value (.func f),args,argTypes:=ats}) (hd:o.dst=aa d) (r:P.funcs[f]? =aa fn) (G:(fn.name== "runtime.NumGoroutine")=av) (ah:fn.body=aa body) (aG:aP.known f) (J:∀x:aK aE,results fn x=results fn (nD (Lf f) x)) (hx:∀l (j:Nat) v,(Frame.enter P f (args.map a.eval) .normal).tmps[j]? =aa v->j∉Lf f->VR l v v) (c:jo Lf P (dn+1) f (args.map a.eval) u λe n=>∃v,e=aN v/\FO Lf f0 dn P ops Q rest (a.put (aa d) v) n):FO Lf f0 dn P ops Q (i::rest) a u:=λb k cs hb C hf JJ=>by
 haveI:bw:=bS []
 have B:fn.body.isNone=av:=by rw[ah];rfl
 have E:∀v,(b.at a (.inRegion ops (i::rest)::k)).finish v=b.at (a.put (aa d) v) (.inRegion ops rest::k):=by intro v;rw[yg,H];show b.at (a.put o.dst v) _=_;rw[hd]
 refine .one λT S l gs w t q h _=>?_
 have hk:b.kind≠.early:=by have:b.kind=.normal:=h.top.kind;rw[this];simp
 refine⟨Frame.enter P f (args.map a.eval) .normal,b.at a (.inRegion ops (i::rest)::k)::cs,u,l,w,_,stepG_enter H hw hk (run_call_body I r G B),⟨.refl l w,h.world,h.whole,h.same,h.size,λe p=>?_,⟨hx l,rfl,aG⟩,λg hg=>?_,h.full⟩,(c (b.at a (.inRegion ops (i::rest)::k)::cs) (by simp[C])).bind ?_⟩
 ·have D:=qB p;rw[Ni I r G B]at D;simp at D
 ·rcases kg.1 hg with rfl|hg
  ·exact⟨h.top,rfl⟩
  ·exact h.low g hg
 ·rintro fr aT n ⟨rfl,F,e,_,⟨v,rfl,aH⟩,l1,l2,l3,aV,M,O⟩;have N:=M;rw[F,r]at N;cases N;refine .one λT S l gs w t q h _=>?_;have L:bM l (nD (Lf f) fr.tmps) (nD (Lf f) fr.tmps):=Gq (a:=⟨fr.tmps,[]⟩) λi v hv hi=>h.top.tmps i v hv (by rw[F];exact hi);rw[J]at O;obtain⟨σ,v',w1,x,U,s,m,z,V,A,X,Y,Z⟩:=h.ok (u1:=n) (xO (P:=P) (K:=λ_=>False) fn L) (h.results L O);obtain rfl:=VR.eq A s;refine⟨_,cs,n,σ,w1,_,LD l1 l2 l3 M (by rw[J];exact U),⟨m,z,V,A,X,λe p=>?_,?_,λg hg=>⟨(h.low g (jG _ hg)).1.mono m.le,(h.low g (jG _ hg)).2⟩,Z⟩,?_⟩
  ·exact Et (h.clear.went m) (λy b tV=>(z.lt y b tV).2) (Y e (qB p))
  ·rw[E];exact zV ((h.low (b.at a (.inRegion ops (i::rest)::k)) (gG ..)).1.mono m.le) (λ_=>s)
  ·rw[E];exact aH b k cs hb C hf JJ
def FO.Xo{l:aB bN}{d:Nat}(hT:Fit P l)(ho:ops[i]? =aa o)(hw:dw o (yielded ops a.tmps)=aq){f:bN}{fn:iH}{body:jV}{args:aK me}{bh:aK aW}(aI:o.op=.call {callee:=.value (.func f),args,argTypes:=bh}) (hd:o.dst=aa d) (O:P.funcs[f]? =aa fn) (aG:(fn.name== "runtime.NumGoroutine")=av) (aj:fn.body=aa body) (bI:aP.known f) (bE:args.all (cQ l)=aq) (B4:args.map a.eval=args.map (sG (Lf f0) a).eval)
  (c:eY P f (args.map a.eval) u λe u'=>∃v,e=aN v/\FO Lf f0 dn P ops Q rest (a.put (aa d) v) u'):FO Lf f0 dn P ops Q (i::rest) a u:=λb k cs N Qp hf JJ Shun S A gs w sl t q j hV=>by
 haveI:bw:=bS []
 have Qo:fn.body.isNone=av:=by rw[aj];rfl
 have Jy:∀v,(b.at a (.inRegion ops (i::rest)::k)).finish v=b.at (a.put (aa d) v) (.inRegion ops rest::k):=by intro v;rw[yg,ho];show b.at (a.put o.dst v) _=_;rw[hd]
 have hk:b.kind≠.early:=by have:b.kind=.normal:=j.top.kind;rw[this];simp
 have QJ:mu A (Lf f0) (b.at a (.inRegion ops (i::rest)::k)):=N▸j.top;have bK:=Gq (a:=a) (L:=Lf f0) QJ.tmps
 obtain⟨N1,Z,Y,G,kJ,FQ,t1,q1,⟨rfl,rfl,d1,rfl⟩,r1,r2,r3,r4,r5⟩:=step0 (K:=λZ Y G=>Z=Frame.enter P f (args.map a.eval) .normal/\Y=b.at a (.inRegion ops (i::rest)::k)::cs/\∃d,G=w.at d) (Shun:=Shun) (sumTo gs.size q+1) gs w sl t q ak j.oM j.gq j.past j.fC λr=>⟨_,_,w.at r,_,stepG_enter ho hw hk (run_call_body aI O aG Qo),bC _,λe E=>by have an:=qB E;rw[Ni aI O aG Qo]at an;simp at an,rfl,rfl,r,rfl⟩
 have hN:dZ P Shun S (Frame.enter P f (args.map a.eval) .normal) (b.at a (.inRegion ops (i::rest)::k)::cs) u A kJ (w.at d1) t1 q1:=by
  refine⟨r2,Mc O aj bI (by rw[B4];exact Ua hT bK bE),⟨λg hg=>?_⟩,j.world.at d1,j.whole,r3,r4,j.clear,j.same,j.size,r5,j.full⟩;rcases kg.1 hg with rfl|hg
  ·rfl
  ·exact(j.low g hg).2
 obtain⟨N2,H,V,U,PF,OE,s,Qa,T,cy,t2,q2,k1,⟨rfl,cF,e,E,⟨v,rfl,bJ⟩,l1,l2,l3,bn,l4,l5⟩,p,F,k5⟩:=c (b.at a (.inRegion ops (i::rest)::k)::cs) Shun S A kJ (w.at d1) FQ t1 q1 hN (hV.at d1);have aC:A.le U:=F.le
 obtain⟨N3,af,cs,z,bt,cz,t3,q3,⟨rfl,rfl,d3,m,n,C,I,D,J,M,B⟩,m1,m2,m3,m4,m5⟩:=step0 (K:=λaf bk z=>af=b.at (a.put (aa d) v) (.inRegion ops rest::k)/\bk=cs/\∃d m,fB U m (T.at d) z/\fA P m s z/\Whole V m s/\(∀a b,m a b->a=b)/\s.heap.size=z.heap.size/\Full m s/\VR m v v) (Shun:=H) (sumTo Qa.size q2+1) Qa T cy t2 q2 ak p.oM p.gq p.past p.fC λr=>by have kd:=p.at r;obtain⟨m,v',G,x,h1,B,n,C,I,D,J,h8,M⟩:=kd.ok (u1:=s) (xO (P:=P) (K:=λ_=>False) bn p.top.tmps) (p.results l5);obtain rfl:=VR.eq D B;exact⟨_,_,G,_,LD l1 l2 l3 l4 h1,n.size,λe E=>Et (kd.clear.went n) (λy b tV=>(C.lt y b tV).2) (h8 e (qB E)),Jy v,rfl,r,m,n,C,I,D,J,M,B⟩
 obtain⟨N4,bg,S4,cE,bq,bl,u4,bu,w4,cA,t4,q4,n1,n2,n3,n4,n5⟩:=bJ b k cs N Qp hf JJ H V m bt z cz t3 q3
  ⟨m2,by show mu m (Lf b.fn) _;rw[N];exact zV ((QJ.mono aC).mono n.le) (λ_=>B),λg hg=>⟨((j.low g hg).1.mono aC).mono n.le,(j.low g hg).2⟩,C,I,m3,m4,(p.at d3).clear.went n,D,J,m5,M⟩ (((((hV.at d1).went F k5)).at d3).went n (.refl H _))
 refine⟨N1+(N2+(N3+N4)),bg,S4,cE,bq,bl,u4,bu,w4,cA,t4,q4,?_,n2,n3,(((fB.refl A w).at d1).trans F).trans ((((fB.refl U T).at d3).trans n).trans n4),λX h=>?_⟩
 ·rw[vO r1,vO k1,vO m1];exact n1
 ·rcases n5 X h with h|h
  ·exact k5 X h
  ·exact aD (dm F.size (dm n.size h))
def Bf{f fn}{body:jV}{args:aK aE}{L:aB Nat}(g:P.funcs[f]? =aa fn)(e:fn.body=aa body)(h:∀(j:Nat) v,args[j]? =aa v->j∉L->∀ρ,VR ρ v v)(ρ j v)(hv:(Frame.enter P f args .normal).tmps[j]? =aa v)(l:j∉L):VR ρ v v:=by
 haveI:bw:=bS []
 rw[uE args g e]at hv;change(args++sI (fn.ntmps-args.size) au)[j]? =aa v at hv;rw[Gv]at hv;split at hv
 ·exact h j v hv l ρ
 ·rw[Cm]at hv;split at hv
  ·cases hv;exact sF ρ
  ·cases hv
end
section
variable [aP] {P:aZ} {f:bN} {fn:iH} {c:jV} {args:aK aE} {W:az} {Lf:bN->aB Nat} {R:lW->az->Prop} {Post:aE->az->Prop}
def P0(r:P=aP.prog)(s:∀w (j:Nat) v,(Frame.enter P f args .normal).tmps[j]? =aa v->j∉Lf f->VR w v v)(hf:P.funcs[f]? =aa fn)(m:fn.body=aa c)(q:aP.known f)(n:P.globals.size<=W.heap.size):
  qF Lf P (λ_=>False) (λ_=>False) (Frame.enter P f args .normal) [] (mask (λ_=>False) W) (eA λb=>False\/False) #[G (Frame.enter P f args .normal) []] W #[] (λ_=>0):=by
 haveI:bw:=bS []
 have t:XF (eA λb=>False\/False) (Frame.enter P f #[] .normal):=Mc hf m q ⟨rfl,λi v x h=>by simp at h⟩
 have N:dZ P (λ_=>False) (λ_=>False) (Frame.enter P f #[] .normal) [] (mask (λ_=>False) W) (eA λb=>False\/False) #[G (Frame.enter P f #[] .normal) []] W #[] (λ_=>0):=
  Ru r rfl (leavers_one P _) (past_nil.mono (eo _)) (λi j h=>by simp[Trace.g?]at h) (λb m=>m.elim) (λb h=>h.elim) n t ⟨λg n=>by(cases n)⟩ λl h=>h.elim
 refine⟨rfl,⟨?_,?_,?_⟩,λg n=>by(cases n),N.world,N.whole,leavers_one P _,N.past,N.clear,N.same,N.size,λi j h=>by simp[Trace.g?]at h,N.full⟩
 ·intro i v hv p;have e:(Frame.enter P f args .normal).fn=f:=by rw[uE _ hf m];rfl
  rw[e]at p;exact s _ i v hv p
 ·rw[uE _ hf m];rfl
 ·rw[uE _ hf m];exact q
def abh(af:P=aP.prog)(w:∀ρ (j:Nat) v,(Frame.enter P f args .normal).tmps[j]? =aa v->j∉Lf f->VR ρ v v)(hf:P.funcs[f]? =aa fn)(q:fn.body=aa c){t0}(t:fn.results=#[.tmp t0])(V:P.inits.idxOf? f=ay)(X:aP.known f)(U:P.globals.size<=W.heap.size)(aj:∀b o,aP.sH b=aa o->W.heap[b]? =aa o)
  (h:jo Lf P 0 f args (mask (λ_=>False) W) R) (E4:∀e u,R e u->∃v,e=aN v) (ah:∀v m g,R (aN v) m->(∀b,b<W.heap.size->g.heap[b]? =W.heap[b]?)->W.heap.size<=g.heap.size->g.os=W.os->g.output=W.output->g.tape=W.tape->Post v g):
  ∃M last o g y,runNT P (M+1) (solo (G (Frame.enter P f args .normal) []) W) #[]=(.ended o g,y)/\runN P M (solo (G (Frame.enter P f args .normal) []) W)=.next last/\step P last=.ended o g/\Conc.Good P Post last o g y:=by
 rw[solo_eq_crowd];obtain⟨N,E,S',bg,l,aO,m,aS,g,aH,y,q',C,⟨rfl,s,e,he,hR,Y⟩,r,p,_⟩:=h [] rfl _ _ _ _ _ ay _ _ (P0 af w hf q X U) (λb o q=>⟨λx w=>w.2.elim id id,aj b o q,λ_ _ h=>h⟩);obtain⟨v,rfl⟩:=E4 e m hR;obtain⟨l1,l2,l3,aR,z,A⟩:=Y;rw[s,hf]at z;cases z
 have hv:v=l.tmps.getD t0 au:=by
  have:(results fn l.tmps).run P m=.ok (l.tmps.getD t0 au) m:=by simp[results,t]
  rw[this]at A;cases A;rfl
 have Z:∀d,Post v (g.at d):=λd=>ah v m (g.at d) hR (λb q=>p.cA b q λa T=>T.2.elim id id) p.size p.os p.output p.tape
 obtain⟨M,last,o,aJ,aI,K,L,O,S⟩:=beside_ends (P:=P) (Shun:=E) (B:=g.heap.size) (D:=λ_ _ _=>False) (Post:=Post) (λ_ _ _ h=>h.elim) (sl:=aH) (n:=0) r.oM r.gq r.past (by
  rintro bf ⟨d,rfl⟩;refine⟨rfl,v,#[],?_,aC,Z d⟩;have F:(results fn l.tmps).run P (g.at d)=.ok v (g.at d):=by simp[results,t,hv]
  have H:(results fn l.tmps).events P (g.at d) #[]=#[]:=events_results_tmp t _ _;have I:P.funcs[l.fn]? =aa fn:=by rw[s];exact hf
  have J:P.inits.idxOf? l.fn=ay:=by rw[s];exact V
  simp[G,stepG,unwind,doReturn,l1,l2,l3,I,F,H,J,seen,GStep.after])
 refine⟨N+M,last,o,aJ,aI,?_,?_,O,S⟩
 ·rw[show N+M+1=N+(M+1) by omega,vO C];exact K
 ·rw[runN_add,<-runNT_fst P _ _ #[],C];exact L
end
end
section
attribute [local go_sem ↓] Go.wp_at_zero Go.wp_at_succ
open Go.Conc Go.RowKit
open Go.Proofs.Tryz
def lk:aB (Nat×aE)->Nat->aY aE
 |[],_=>ay
 |p::l,k=>bif tg p.1 k then aa p.2 else lk l k
structure Fa(n:Nat)(a:Act)(L:aB (Nat×aE)):Prop where
 size:a.tmps.size=n
 defers:a.defers=[]
 at_:∀k v,lk L k=aa v->a.eval (.tmp k)=v
def DH(L:aB (Nat×aE)):aB (Nat×aE)->Prop
 |[]=>True
 |p::r=>lk L p.1=aa p.2/\DH L r
def Ri{L}:∀{M:aB (Nat×aE)},DH L M->∀k v,lk M k=aa v->lk L k=aa v
 |[],_,k,v,h=>by cases h
 |p::r,c,k,v,h=>by
  unfold lk at h;cases b:tg p.1 k with
  |true=>
   rw[b]at h;have e:p.1=k:=yw b;simp at h;rw[<-e,<-h];exact c.1
  |false=>
   rw[b]at h;exact Ri c.2 k v h
def Fa.sub{n a L M}(h:Fa n a L)(b:DH L M):Fa n a M:=⟨h.size,h.defers,λk v e=>h.at_ k v (Ri b k v e)⟩
def Fa.put{n d a L}(h:Fa n a L)(v)(f:d<n):Fa n (a.put (aa d) v) ((d,v)::L):=
 ⟨(Se _ _ _).trans h.size,(put_defers _ _ _).trans h.defers,λk x e=>by
  unfold lk at e;cases b:tg d k with
  |true=>
   rw[b]at e;have c:=yw b;simp at e;rw[<-c,<-e];exact OW v (by rw[h.size];exact f)
  |false=>
   rw[b]at e;have c:k≠d:=λx=>by rw[x,Nat.beq_refl]at b;cases b
   exact(OV v c).trans (h.at_ k x e)⟩
def kO(ops:aK kU)(L:aB (Nat×aE)):aY (Nat×Bool)->Bool
 |none=>aq
 |some (j,b)=>match(ops[j]?).bind (·.dst)with
  |none=>av
  |some p=>match lk L p with
   |some (.bool x)=>x==b
   |_=>av
def opF(L:aB (Nat×aE)):me->aY aE
 |.tmp k=>lk L k
 |.const v=>aa v
 |_=>ay
def rU(B:aB Nat)(n d:Nat)(xs:aB me):Bool:=decide (d<n)&&xs.all λx=>match x with
 |.tmp k=>!B.contains k
 |.const _=>aq
 |_=>av
section
variable [aP] {l:aB bN} {Q:Exit->Act->az->Prop} {a:Act} {u u1:az} {ops:aK kU} {i n d k:Nat} {o:kU} {Lf:bN->aB Nat} {f0:bN} {dn:Nat} {v vx:aE} {x:me} {L:aB (Nat×aE)}
def Fa.wants(E:Fa n a L)(c:kO ops L o.guard=aq)(y:∀j b p,o.guard=aa (j,b)->(ops[j]?).bind (·.dst)=aa p->p<n):AX ops a o:=by
 unfold AX dw;cases r:o.guard with
 |none=>rfl
 |some q=>
  obtain⟨j,b⟩:=q;rw[r]at c;unfold kO at c;simp only at c;cases f:ops[j]? with
  |none=>rw[f]at c;cases c
  |some z=>
   rw[f]at c;simp at c;cases e:z.dst with
   |none=>rw[e]at c;cases c
   |some p=>
    rw[e]at c;simp only at c;cases g:lk L p with
    |none=>rw[g]at c;cases c
    |some A=>
     rw[g]at c;cases A<;>simp at c;rename_i x;have t:x=b:=by simpa using c
     have w:p<a.tmps.size:=by rw[E.size];exact y j b p r (by rw[f];exact e)
     have s:a.tmps[p]? =aa (.bool b):=by have h:=cL w;rw[h];have m:=ev (E.at_ p _ g);rw[h]at m;rw[<-t];exact dX aa m
     simp[yielded,f,e,s]
def YH(E:Fa n a L)(h:opF L x=aa vx):a.eval x=vx:=by
 cases x with
 |tmp k=>exact E.at_ k vx h
 |const v=>cases h;rfl
 |_=>cases h
def Ed{B xs}(h:rU B n d xs=aq):d<n:=by unfold rU at h;exact ot ((cM _ _).mp h).1
def XB{B xs}(h:rU B n d xs=aq)(e:x∈xs):(sG B a).eval x=a.eval x:=by
 unfold rU at h;have b:=nF.1 ((cM _ _).mp h).2 x e;cases x with
 |tmp k=>
  refine zQ λc=>?_;simp only[yc]at b;rw[Am.2 c]at b;cases b
 |const v=>rfl
 |_=>cases b
def lq(ops:aK kU)(n:Nat):aY (Nat×Bool)->Bool
 |none=>aq
 |some (j,_)=>match(ops[j]?).bind (·.dst)with
  |none=>aq
  |some p=>decide (p<n)
def Fa.wt(E:Fa n a L)(g:(kO ops L o.guard&&lq ops n o.guard)=aq):AX ops a o:=by have h:=(cM _ _).mp g;refine E.wants h.1 λj b p e f=>?_;have c:=h.2;rw[e]at c;unfold lq at c;simp only at c;rw[f]at c;exact ot c
def uZ(L:aB (Nat×aE)):aB me->aY (aB aE)
 |[]=>aa []
 |x::r=>match opF L x,uZ L r with
  |some v,aa b=>aa (v::b)
  |_,_=>ay
def IE(E:Fa n a L):∀{xs:aB me} {vs:aB aE},uZ L xs=aa vs->xs.map a.eval=vs
 |[],vs,h=>by cases h;rfl
 |x::r,vs,h=>by
  unfold uZ at h;cases b:opF L x with
  |none=>rw[b]at h;cases h
  |some v=>
   cases c:uZ L r with
   |none=>rw[b,c]at h;cases h
   |some e=>
    rw[b,c]at h;cases h;rw[sU,YH E b,IE E c]
def Fa.add(h:Fa n a L)(e:a.eval (.tmp d)=v):Fa n a ((d,v)::L):=⟨h.size,h.defers,λk x b=>by
  unfold lk at b;cases c:tg d k with
  |true=>
   rw[c]at b;simp at b;rw[<-yw c,<-b];exact e
  |false=>
   rw[c]at b;exact h.at_ k x b⟩
def Rh:∀{L:aB (Nat×aE)} {k:Nat},k∈L.map Dc->∃v,lk L k=aa v
 |[],_,h=>by cases h
 |p::l,k,h=>by
  unfold lk;cases b:tg p.1 k with
  |true=>exact⟨_,rfl⟩
  |false=>
   refine Rh ((kg.1 h).resolve_left λe=>?_);have c:k=p.1:=e;rw[c,Nat.beq_refl]at b;cases b
def Ro:∀{L:aB (Nat×aE)} {k:Nat} {v:aE},lk L k=aa v->k∈L.map Dc
 |[],_,_,h=>by cases h
 |p::l,k,v,h=>by
  unfold lk at h;cases b:tg p.1 k with
  |true=>rw[<-yw b];exact gG ..
  |false=>
   rw[b]at h;exact jG _ (Ro h)
def FX.aax{P id c}(m b)(hm:P.follows .mixedOrders=aq)(s:Fp ops m b c (L.map Dc)=aq)(h:Nat->aE->Prop)(E:Fa c a L)(step:∀u1:az,u1={u with drawn:=u.drawn+1}->∀i,i<b->∀a is,Fa c a L->(∀j,(mA ops i).contains j=aq->j<b->h j (a.eval (.tmp (gA ops j))))->(∀q v,h i v->iZ a q (gA ops i) v->FO Lf f0 dn P ops Q is q u1)->FO Lf f0 dn P ops Q (i::is) a u1) (y:∀u1:az,u1={u with drawn:=u.drawn+1}->∀a,Fa c a L->(∀i,i<b->h i (a.eval (.tmp (gA ops i))))->eZ Lf f0 dn P .any ops Q (m-b) (tQ m b) a u1):FX Lf f0 dn P (.region id ops aq) Q a u:=by have r:∀{a:Act},a.tmps.size=c->a.defers=[]->(∀k,k∈L.map Dc->a.eval (.tmp k)=(lk L k).getD au)->Fa c a L:=λe f g=>⟨e,f,λk v hv=>by rw[g k (Ro hv),hv];rfl⟩;refine FX.aaw (ks:=L.map Dc) (vs:=λk=>(lk L k).getD au) m b hm s h E.size E.defers (λk w=>?_) (λu1 p i t a is e f g=>step u1 p i t a is (r e f g)) λu1 p a e f g=>y u1 p a (r e f g);obtain⟨v,hv⟩:=Rh w;rw[E.at_ k v hv,hv];rfl
end
end
section
attribute [local go_sem ↓] Go.wp_at_zero Go.wp_at_succ
attribute [local go_sem] bP bF
open Go.Proofs.Tryz
open Go.RowKit
def XM(xb:Nat)(wt:Int)(w:az)(h:w.cell? (aj xb 14)=aa (.bool aq)):
  fu 36 #[aR xb,an wt] w (.tuple #[an 0,an 4]):=by
 go_enter func36,ntmps36;go_wp2
 go_ret2
 exact⟨rfl,rfl⟩
abbrev FeS(xb sb N:Nat)(sz cl qu mx qn rt bu wk ou:Int)(W:az):Prop:=iy xb sz cl qu mx qn rt bu wk ou W/\W.cell? (aj xb 9)=aa (.slice (aa (aj sb 0)) N N)
section
variable {xb sb N:Nat} {sz cl qu mx qn rt bu wk ou:Int} {W W':az}
def FeS.later(h:FeS xb sb N sz cl qu mx qn rt bu wk ou W)(a:aL W W'):FeS xb sb N sz cl qu mx qn rt bu wk ou W':=⟨h.1.later a,bR a h.2⟩
end
def abL{W:az}{b T i:Nat}{x:aK aE}{v:aE}(h:W.heap[b]? =aa (aA x T (0,0)))(hv:x[i]? =aa v):W.setCell (aj b i) v=W:=by
 have f:(W.setCell (aj b i) v).heap=W.heap:=by
  apply xX
  ·simp
  ·intro j c d
   have e:(W.setCell (aj b i) v).heap[j]? =W.heap[j]? :=by
    by_cases a:j=b
    ·subst a;rw[cz h i v,h]
     congr 2
     apply xY;rw[Cr];exact xJ (by rw[lC];exact hv)
    ·exact bH a
   rw[cL c,cL d]at e;exact dM e
 show{W with heap:=(W.setCell (aj b i) v).heap}=W;rw[f]
abbrev jp(b:Nat):aE:=aR b
abbrev jC(n:Nat)(f:Nat->Nat):aB aE:=(eF n).map λx=>jp (f x)
structure fI(w:az)(a b:Nat)(v:aE)(n:Nat)(f:Nat->Nat):Prop where
 head:w.cell? (aj a b)=aa v
 row:w.ownsRow 0 130 1 v n (jC n f)
 cA:aa a≠v.ownBlock
def fI.form{w hb ho n v f}(h:fI w hb ho v n f):∃a b,v=.slice a n b/\n<=b/\b<=cY:=by
 rcases h.row.2 with⟨c,d⟩|⟨g,b,j,c,_,_,e,i,_⟩
 ·exact⟨ay,0,by rw[c,d],ak,by unfold cY;omega⟩
 ·exact⟨_,b,c,e,i⟩
def Fo{n f x}(h:x<n):(jC n f)[x]? =aa (jp (f x)):=by simp[jC,h]
def fI.full{w hb ho n v f}(h:fI w hb ho v n f)(h0:0<n):∃g a b,v=.slice (aa (aj g 0)) n a/\w.heap[g]? =aa (aA b 130 (0,0))/\n<=a/\a<=cY/\b.size=a/\hb≠g/\∀x,x<n->b[x]? =aa (jp (f x)):=by
 rcases h.row.2 with⟨c,d⟩|⟨g,a,b,c,_,d,i,j,m,k⟩
 ·omega
 ·refine⟨g,a,b,c,d,i,j,ak,λe=>h.cA (by rw[c,e];rfl),λx l=>?_⟩;have:=Fo (f:=f) l;rw[<-k,mK,aX ak,lC]at this;exact this
def Qx(hb ho n v f w)(h:fI w hb ho v n f):
  fu 77 #[.pointer (aa (aj hb ho))] w (an n):=by
 obtain⟨a,c,rfl,_⟩:=h.form;have b:=h.head;go_enter func77,ntmps77;go_wp2;go_ret;exact⟨rfl,rfl⟩
def QK(hb ho n v f w)(h:fI w hb ho v n f)(h0:0<n):
  fu 103 #[.pointer (aa (aj hb ho))] w (.tuple #[jp (f 0),.bool aq]):=by
 obtain⟨g,e,i,rfl,a,_,_,_,_,b⟩:=h.full h0;have c:=h.head;have d:=aG a (b 0 h0);have j:((n:Int)==0)=av:=bY;have k:(0:Int)<(n:Int):=ak;go_enter func103,ntmps103;go_wp2
 go_ret2
 exact⟨rfl,rfl⟩
def RS(i:Nat)(h0:0<i)(a:i<=1048576)(w:az):
  fu 270 #[an i] w (an (par i:Nat)):=by
 go_enter func270,ntmps270;go_wp2;go_ret;refine⟨?_,rfl⟩;have e:((i:Int)-1) / 2=((par i:Nat):Int):=by grind
 rw[<-e];rfl
structure lJ(w:az)(j:Nat)(k:Key):Prop where
 due:w.cell? (aj j 5)=aa (an k.1)
 order:w.cell? (aj j 6)=aa (an k.2)
def WG(i j)(a b:Key)(w)(h:lJ w i a)(k:lJ w j b):
  Calls prog 304 #[jp i,jp j] w λe q=>e=aN (.bool (dU a b))/\∃d,q=w.drewN d:=by
 obtain⟨n,o⟩:=h;obtain⟨d5,d6⟩:=k;obtain⟨a1,c⟩:=a;obtain⟨b1,f⟩:=b;dsimp only at n o d5 d6
 by_cases l:a1<b1
 ·have e:dU (a1,c) (b1,f)=aq:=by simp[dU,l]
  rw[e];go_enter func304,ntmps304
  go_upto_region 1 with fail
  go_quiet (fail)
  go_wp2;go_ret;exact⟨rfl,_,rfl⟩
 ·by_cases g:a1=b1
  ·subst g;have p:¬a1<a1:=Int.lt_irrefl _
   by_cases m:c<f
   ·have e:dU (a1,c) (a1,f)=aq:=by simp[dU,m]
    rw[e];go_enter func304,ntmps304
    go_upto_region 1 with fail
    go_quiet (fail)
    go_wp2;go_ret;exact⟨rfl,_,rfl⟩
   ·have e:dU (a1,c) (a1,f)=av:=by simp[dU,m]
    rw[e];go_enter func304,ntmps304
    go_upto_region 1 with fail
    go_quiet (fail)
    go_wp2;go_ret;exact⟨rfl,_,rfl⟩
  ·have e:dU (a1,c) (b1,f)=av:=by simp[dU,l,g]
   have p:(a1==b1)=av:=by simp[g]
   rw[e];go_enter func304,ntmps304
   go_upto_region 1 with fail
   go_quiet (fail)
   go_wp2;go_ret;exact⟨rfl,_,rfl⟩
def K9{d}(a w)(b:d=prog.types.size+Made.depth):(method d 130 (.pointer (aa a)) "Before").run prog w=.ok (304,.pointer (aa a)) w:=by
 subst b
 kernel_rfl
def Xp(x y w):(callFunc 304 #[x,y]).run prog w=.ok (.enter 304 #[x,y]) w:=by have a:(f304.name== "runtime.NumGoroutine")=av:=aS;have b:f304.body.isNone=av:=aS;unfold callFunc;simp only[Df,run_program,Hs,func304,a,b,eR,dQ,MY]
def QW(p r n i k:Nat)(v:aE)(f:Nat->Nat)(a:Nat->Key)(w:az)(h:fI w p r v n f)(j:i<n)(l:k<n)(B:n<=1048576)(b:∀x,x<n->lJ w (f x) (a (f x))):
  Calls prog 195 #[.pointer (aa (aj p r)),an i,an k] w λe c=>e=aN (.bool (dU (a (f i)) (a (f k))))/\∃d,c=w.drewN d:=by
 obtain⟨g,z,A,rfl,q,_,_,_,_,s⟩:=h.full ak;have t:=h.head;have u:=aG q (s i j);have y:=aG q (s k l)
 have o:Hid (∀c,(∃d,c=w.drewN d)->lJ c (f i) (a (f i))/\lJ c (f k) (a (f k))):=by rintro c ⟨d,rfl⟩;exact⟨⟨(b i j).due,(b i j).order⟩,⟨(b k l).due,(b k l).order⟩⟩
 go_enter func195,ntmps195
 go_upto_region 1 with fail
 refine wp_region_quiet_lit aS aS ?_
 iterate 15 (quiet_step (fail))
 refine wpQuiet_step (λK b=>?_);go_simp;refine⟨.bool (dU (a (f i)) (a (f k))),λm=>?_,b _ ?_⟩
 ·rw[K9 _ _ aS,Hs,Xp];refine⟨rfl,Calls.quiet_of (WG (f i) (f k) (a (f i)) (a (f k)) (w.drewN m) (o.out _ ⟨m,rfl⟩).1 (o.out _ ⟨m,rfl⟩).2)⟩
 quiet_step (fail)
 refine wpQuiet_nil ?_;rintro _ ⟨m,rfl⟩;go_wp2;go_ret;exact⟨rfl,_,rfl⟩
def gy{W:az}{a b o x:Nat}{u v:aE}(h:W.cell? (aj a o)=aa v)(c:a≠b):(W.setCell (aj b x) u).cell? (aj a o)=aa v:=by rw[fX (bH c)];exact h
def Z3{n i k f}{b:aK aE}{cap:Nat}(g:i<n)(j:k<n)(l:n<=cap)(hc:b.size=cap)(e:∀x,x<n->b[x]? =aa (jp (f x))):
  ((b.setIfInBounds i (jp (f k))).setIfInBounds k (jp (f i))).toList.take (n*1)=jC n (gF f i k):=by
 refine wB λx=>?_;rw[mK];split
 ·rename_i h;have d:x<n:=ak;rw[Fo d,lC];unfold gF
  by_cases c:x=k
  ·subst c;rw[Gx,aX bY]
   by_cases a:x=i
   ·subst a;rw[aX rfl]
   ·rw[aQ a,aX rfl]
  ·rw[dP ak,aQ c]
   by_cases a:x=i
   ·subst a;rw[Gx,aX ak,aX rfl]
   ·rw[dP ak,aQ a];exact e x d
 ·exact(yp bY).symm
def fI.swap{w:az}{a m n i k g cap:Nat}{f:Nat->Nat}{e:aK aE}(h:fI w a m (.slice (aa (aj g 0)) n cap) n f)(q:i<n)(r:k<n)(p:w.heap[g]? =aa (aA e 130 (0,0)))(j:n<=cap)(hm:cap<=cY)(hc:e.size=cap)(l:a≠g)(c:∀x,x<n->e[x]? =aa (jp (f x)))(d):
  fI (((w.drewN d).setCell (aj g i) (jp (f k))).setCell (aj g k) (jp (f i))) a m (.slice (aa (aj g 0)) n cap) n (gF f i k)/\aV (·=g) w (((w.drewN d).setCell (aj g i) (jp (f k))).setCell (aj g k) (jp (f i))):=by
 have o:=cz p i (jp (f k));refine⟨⟨gy (gy h.head l) l,⟨by simp[jC],aD ⟨g,cap,_,rfl,eo _,(cz o k (jp (f i))),j,hm,bY,Z3 q r j hc c⟩⟩,h.cA⟩,rfl,aC,λb a c=>?_⟩;exact(bH c).trans (bH c)
def TF(j ho n i k v f w)(h:fI w j ho v n f)(s:i<n)(t:k<n)(O:i≠k):
  Calls prog 196 #[.pointer (aa (aj j ho)),an i,an k] w λe p=>e=aN (.tuple #[])/\fI p j ho v n (gF f i k)/\aV (λb=>aa b=v.ownBlock) w p:=by
 obtain⟨g,u,y,rfl,o,z,A,B,m,l⟩:=h.full ak;have c:=h.head;have G:=aG o (l i s);have H:=aG o (l k t);have I:∀x,w.frozen? (aj g x)=av:=λx=>bz o x;have r:=cz (show(w.drewN 1).heap[g]? =aa (aA y 130 (0,0)) from o) i (jp (f k));have J:∀x,((w.drewN 1).setCell (aj g i) (jp (f k))).frozen? (aj g x)=av:=λx=>bz r x;have q:=h.swap s t o z A B m l 1;have d:=aT q;have M:(i:Int)<(n:Int):=ak;have N:(k:Int)<(n:Int):=ak;clear h l o q r;go_enter func196,ntmps196
 go_upto_region 0 with fail
 refine eD (S:=λp=>p.cell? (aj j ho)=aa (.slice (aa (aj g 0)) n u)) c λL=>?_;refine tk 0 ?_;refine tk 1 ?_;refine tk 2 ?_;refine tk 3 ?_;refine tk 4 ?_;refine tk 5 ?_;refine tk 6 ?_;refine tk 7 ?_;refine tk 8 ?_;refine tk 9 ?_;refine tk 10 ?_;refine tk 11 ?_;refine tk 12 ?_;refine tk 13 ?_;refine tk 14 ?_;refine tk 15 ?_;refine tk 17 ?_;refine tk 18 ?_;refine tk 19 ?_;refine tk 20 ?_;refine tk 21 ?_;refine tk 22 ?_;refine aH [16,23] (.cons rfl (λK a=>?_) ?_)
 ·go_simp;refine a.out _ _ c (λC=>?_);clear a K;refine rH 23 λK a=>?_;go_simp;refine a.out _ _ c (λD=>?_);clear a K;refine tk 24 ?_;refine rH 25 λK a=>?_;go_simp;refine a.out _ _ (gy c m) (λE=>?_);clear a K;refine tk 26 ?_;refine rH 27 λK a=>?_;go_simp;refine a.out _ _ (gy (gy c m) m) (λF=>?_);clear a K;refine dc ?_
  (go_wp2;refine eO rfl rfl ⟨rfl,d.out.1,d.out.2.os,d.out.2.size,λb j l=>d.out.2.block b j λe=>l (by rw[e];rfl)⟩)
 refine .cons rfl (λK a=>?_) .nil;go_simp;refine a.out _ _ c (λC=>?_);clear a K;refine rH 16 λK a=>?_;go_simp;refine a.out _ _ c (λD=>?_);clear a K;refine tk 24 ?_;refine rH 25 λK a=>?_;go_simp;refine a.out _ _ (gy c m) (λE=>?_);clear a K;refine tk 26 ?_;refine rH 27 λK a=>?_;go_simp;refine a.out _ _ (gy (gy c m) m) (λF=>?_);clear a K;refine dc ?_
 (go_wp2;refine eO rfl rfl ⟨rfl,d.out.1,d.out.2.os,d.out.2.size,λb j l=>d.out.2.block b j λe=>l (by rw[e];rfl)⟩)
structure lK(n:Nat)(f f':Nat->Nat):Prop where
 bg:∀x,x<n->∃y,y<n/\f' x=f y
 all:∀y,y<n->∃x,x<n/\f' x=f y
 one:(∀x y,x<n->y<n->f x=f y->x=y)->∀x y,x<n->y<n->f' x=f' y->x=y
def lK.refl(n f):lK n f f:=⟨λx h=>⟨x,h,rfl⟩,λx h=>⟨x,h,rfl⟩,λh=>h⟩
def lK.trans{n f g h}(a:lK n f g)(b:lK n g h):lK n f h:=
 ⟨λx d=>by obtain⟨y,i,e⟩:=b.bg x d;obtain⟨z,j,c⟩:=a.bg y i;exact⟨z,j,e.trans c⟩,
  λz j=>by obtain⟨y,i,e⟩:=a.all z j;obtain⟨x,d,c⟩:=b.all y i;exact⟨x,d,c.trans e⟩,λo=>b.one (a.one o)⟩
def lK.gF{n i k}(f)(d:i<n)(g:k<n):lK n f (gF f i k):=by
 refine⟨λx h=>?_,λy j=>?_,λo x y h j e=>?_⟩
 ·by_cases a:x=i
  ·exact⟨k,g,by simp[Proofs.YtpobhljcainmdaaGreat.gF,a]⟩
  ·by_cases b:x=k
   ·exact⟨i,d,by subst b;simp[Proofs.YtpobhljcainmdaaGreat.gF,a]⟩
   ·exact⟨x,h,by simp[Proofs.YtpobhljcainmdaaGreat.gF,a,b]⟩
 ·by_cases a:y=k
  ·exact⟨i,d,by simp[Proofs.YtpobhljcainmdaaGreat.gF,a]⟩
  ·by_cases b:y=i
   ·refine⟨k,g,?_⟩;subst b;unfold Proofs.YtpobhljcainmdaaGreat.gF;rw[aQ (λe=>a e.symm),aX rfl]
   ·exact⟨y,j,by simp[Proofs.YtpobhljcainmdaaGreat.gF,a,b]⟩
 ·simp only[Proofs.YtpobhljcainmdaaGreat.gF]at e
  by_cases a:x=i
  ·by_cases b:y=i
   ·omega
   ·rw[aX a,aQ b]at e
    by_cases c:y=k
    ·rw[aX c]at e;have:=o _ _ g d e;omega
    ·rw[aQ c]at e;have:=o _ _ g j e;omega
  ·rw[aQ a]at e
   by_cases l:x=k
   ·rw[aX l]at e
    by_cases b:y=i
    ·rw[aX b]at e;have:=o _ _ d g e;omega
    ·rw[aQ b]at e
     by_cases c:y=k
     ·omega
     ·rw[aQ c]at e;have:=o _ _ d j e;omega
   ·rw[aQ l]at e
    by_cases b:y=i
    ·rw[aX b]at e;have:=o _ _ h g e;omega
    ·rw[aQ b]at e
     by_cases c:y=k
     ·rw[aX c]at e;have:=o _ _ h d e;omega
     ·rw[aQ c]at e;exact o _ _ h j e
def QX(K:Nat->Key)(f:Nat->Nat)(i k:Nat):(λx=>K (gF f i k x))=gF (λx=>K (f x)) i k:=by
 funext x
 simp only[gF];split
 ·rfl
 ·split<;>rfl
def lJ.cD{w w' j k X}(h:lJ w j k)(c:aV X w w')(b:¬X j):lJ w' j k:=by have a:=c.block j (gH h.due) b;exact⟨(fX a).trans h.due,(fX a).trans h.order⟩
def Keyed(w:az)(v:aE)(n:Nat)(f:Nat->Nat)(K:Nat->Key):Prop:=∀x,x<n->lJ w (f x) (K (f x))/\aa (f x)≠v.ownBlock
def Keyed.mix{w w' v n f f' K}(h:Keyed w v n f K)(m:lK n f f')(c:aV (λb=>aa b=v.ownBlock) w w'):Keyed w' v n f' K:=λx d=>by obtain⟨y,a,e⟩:=m.bg x d;rw[e];exact⟨(h y a).1.cD c (h y a).2,(h y a).2⟩
def Keyed.drewN{w v n f K}(h:Keyed w v n f K)(d):Keyed (w.drewN d) v n f K:=λx a=>⟨⟨(h x a).1.due,(h x a).1.order⟩,(h x a).2⟩
def fI.drewN{w hb ho n v f}(h:fI w hb ho v n f)(d):fI (w.drewN d) hb ho v n f:=⟨h.head,h.row,h.cA⟩
structure yS(w W:az)(a c:Nat)(v:aE)(n:Nat)(f:Nat->Nat)(K:Nat->Key)(q:Nat)(f':Nat->Nat):Prop where
 heap:fI W a c v n f'
 keys:Keyed W v n f' K
 mix:lK n f f'
 up:uP n (λx=>K (f' x)) q
 cD:aV (λb=>aa b=v.ownBlock) w W
def yS.drewN{w W hb ho n q v f f' K}(h:yS w W hb ho v n f K q f')(d):yS w (W.drewN d) hb ho v n f K q f':=
 ⟨h.heap.drewN d,h.keys.drewN d,h.mix,h.up,⟨h.cD.os,h.cD.size,h.cD.block⟩⟩
def aaW(j k n i:Nat)(v:aE)(f:Nat->Nat)(g:Nat->Key)(w:az)(h:fI w j k v n f)(F:i<n)(G:n<=1048576)(E:Keyed w v n f g)(D:uP n (λx=>g (f x)) i):
  Calls prog 245 #[.pointer (aa (aj j k)),an i] w λe l=>e=aN (.tuple #[])/\∃c,fI l j k v n c/\lK n f c/\Hp n (λx=>g (c x))/\aV (λb=>aa b=v.ownBlock) w l:=by
 have y:Hid (yS w w j k v n f g i f):=⟨h,E,lK.refl _ _,D,aV.refl _ _⟩;go_enter func245,ntmps245;go_wp2
 go_loopw [1] (λu wr=>∃q c,u=an (q:Nat)/\q<n/\Hid (yS w wr j k v n f g q c)) (λu _=>(gU u).toNat)
 case atStart=>exact⟨i,f,rfl,F,y⟩
 case round=>
  obtain⟨q,c,rfl,p,hR⟩:=hrel
  by_cases h0:q=0
  ·subst h0;go_wp2;have R:=hR.out;exact eO rfl rfl ⟨rfl,c,R.heap,R.mix,R.up.done (aF rfl),R.cD⟩
  ·have I:(0:Int)<(q:Int):=ak;have o:par q<n:=by simp only[par];omega
   have r:Hid (∀d,Calls prog 195 #[.pointer (aa (aj j k)),an q,an (par q:Nat)] (wr.drewN d) λe l=>e=aN (.bool (dU (g (c q)) (g (c (par q)))))/\∃C,l=wr.drewN (d+C)):=λd=>by refine(QW j k n q (par q) v c g (wr.drewN d) (hR.out.heap.drewN d) p o G (λx H=>((hR.out.keys.drewN d) x H).1)).mono ?_;rintro e l ⟨rfl,m,rfl⟩;exact⟨rfl,m,VF ..⟩
   cases s:dU (g (c q)) (g (c (par q)))with
   |false=>
    rw[s]at r
    go_wp2_with (first
     |(go_at_call 270;refine(RS q ak ak _).mono ?_;rintro e t ⟨rfl,rfl⟩)
     |(go_at_call 195;refine(r.out 0).mono ?_;rintro e t ⟨rfl,d,rfl⟩))
    have R:=hR.out.drewN d;exact eO rfl rfl ⟨rfl,c,R.heap,R.mix,R.up.done (aD s),R.cD⟩
   |true=>
    rw[s]at r
    have B:Hid (∀d,Calls prog 196 #[.pointer (aa (aj j k)),an q,an (par q:Nat)] (wr.drewN d) λe l=>e=aN (.tuple #[])/\yS w l j k v n f g (par q) (gF c q (par q))):=λd=>by have R:=hR.out.drewN d;refine(TF j k n q (par q) v c (wr.drewN d) R.heap p o (by simp only[par];omega)).mono ?_;rintro e l ⟨rfl,a,b⟩;refine⟨rfl,a,R.keys.mix (.gF c p o) b,R.mix.trans (.gF c p o),?_,R.cD.trans b⟩;rw[QX];exact R.up.step ak p s
    go_wp2_with (first
     |(go_at_call 270;refine(RS q ak ak _).mono ?_;rintro e t ⟨rfl,rfl⟩)
     |(go_at_call 195;refine(r.out 0).mono ?_;rintro e t ⟨rfl,d,rfl⟩)
     |(go_at_call 196;refine(B.out _).mono ?_;rintro e t ⟨rfl,A⟩;have z:=aT A))
    refine⟨⟨par q,_,?_,o,z⟩,?_⟩
    ·have e:(((q-1:Nat):Int) / 2)=((par q:Nat):Int):=by simp only[par];omega
     rw[e]
    ·simp[gU];omega
def Z2(n f j):jC n f++[jp j]=jC (n+1) (λx=>if x=n then j else f x):=by
 unfold jC;rw[yq,CP]
 congr 1
 ·refine List.map_congr_left λx a=>?_;have b:=mL.1 a;show jp (f x)=jp (if x=n then j else f x);rw[aQ ak]
 ·simp
def F3:(prog.info? 130).map (λi=>(i.zero,i.size,i.bytes))=aa (aa (.pointer ay),1,8):=aS
abbrev more(f:Nat->Nat)(n j:Nat):Nat->Nat:=λx=>if x=n then j else f x
def D9{n}{f:Nat->Nat}{K:Nat->Key}(j)(h:Hp n λx=>K (f x)):uP (n+1) (λx=>K (more f n j x)) n:=by
 refine⟨λx h0 i a=>?_,λh0 c e g b=>?_⟩
 ·have d:par x<n:=by simp only[par];omega
  have:=h x h0 ak;simp only[more];rw[aQ ak,aQ a];exact this
 ·simp only[par]at b;omega
def Z6{w W hb ho n j g cap v f K jg x}{m:aW}(q:w.heap[hb]? =aa (aA jg m (0,0)))(u:jg[ho]? =aa v)(M:m≠130)(S:w.ownsRow 0 130 1 v n (jC n f))(L:Keyed w v n f K)(O:∀x,x<n->f x≠hb)(y:lJ w j (K j))(z:aa j≠v.ownBlock)(Q:j≠hb)(N:W.ownsRow 0 130 1 (.slice (aa (aj g 0)) (n+1) cap) (n+1) (jC n f++[jp j]))(r:(w.alloc (aA x 130)).grownBy W v.ownBlock)(t:v.ownBlock=aa g\/g=w.heap.size+1):
  W.cell? (aj hb ho)=aa v/\W.frozen? (aj hb ho)=av/\(W.setCell (aj hb ho) (.slice (aa (aj g 0)) (n+1) cap)).heap[hb]? =aa (aA (jg.setIfInBounds ho (.slice (aa (aj g 0)) (n+1) cap)) m (0,0))/\
  fI (W.setCell (aj hb ho) (.slice (aa (aj g 0)) (n+1) cap)) hb ho (.slice (aa (aj g 0)) (n+1) cap) (n+1) (more f n j)/\Keyed (W.setCell (aj hb ho) (.slice (aa (aj g 0)) (n+1) cap)) (.slice (aa (aj g 0)) (n+1) cap) (n+1) (more f n j) K/\
  aV (λb=>b=hb\/aa b=v.ownBlock) w (W.setCell (aj hb ho) (.slice (aa (aj g 0)) (n+1) cap)):=by
 have R:hb<w.heap.size:=(bp.1 q).1
 have A:aa hb≠v.ownBlock:=λe=>by
  rcases S.2 with⟨c,_⟩|⟨E,C,s,c,_,d,_⟩
  ·rw[c]at e;cases e
  ·rw[c]at e;cases e;rw[q]at d;cases d;exact M rfl
 have B:hb≠g:=λe=>by
  rcases t with h|h
  ·exact A (by rw[h,e])
  ·omega
 have old:∀b,b<w.heap.size->aa b≠v.ownBlock->W.heap[b]? =w.heap[b]? :=λb p l=>(r.block b bY l).trans (Below.heap_alloc w _ b p);have o:W.heap[hb]? =aa (aA jg m (0,0)):=(old hb R A).trans q;have d:=cz o ho (.slice (aa (aj g 0)) (n+1) cap);have T:=r.size;simp at T
 have cD:aV (λb=>b=hb\/aa b=v.ownBlock) w (W.setCell (aj hb ho) (.slice (aa (aj g 0)) (n+1) cap)):=
  ⟨by show W.os=w.os;rw[r.os];rfl,bY,λb p l=>(bH (λe=>l (aF e))).trans (old b p λe=>l (aD e))⟩
 have P:ho<jg.size:=(bp.1 u).1;have key:∀i k,lJ w i k->aa i≠v.ownBlock->i≠hb->lJ (W.setCell (aj hb ho) (.slice (aa (aj g 0)) (n+1) cap)) i k:=λi k h c d=>h.cD cD (λe=>e.elim d c)
 have cA:∀i k,lJ w i k->aa i≠v.ownBlock->aa i≠(ff (aa (aj g 0)) (n+1) cap).ownBlock:=λi k h c e=>by
  have D:i=g:=by simpa[pN]using e
  rcases t with h'|h'
  ·exact c (by rw[h',D])
  ·have:=gH h.due;simp only at this;omega
 refine⟨aG o u,bz o _,d,⟨aG d (by simp[P]),⟨by simp[jC],?_⟩,λe=>B (by simpa[pN]using e)⟩,λx l=>?_,cD⟩
 ·rcases N.2 with⟨h,_⟩|⟨E,C,s,c,d,F,G,H,I,J⟩
  ·cases h
  ·cases c;exact aD ⟨g,cap,s,rfl,d,(bH (λe=>B e.symm)).trans F,G,H,I,by rw[J,Z2]⟩
 ·simp only[more]
  by_cases e:x=n
  ·rw[aX e];exact⟨key j _ y z Q,cA j _ y z⟩
  ·rw[aQ e];obtain⟨a,b⟩:=L x ak;exact⟨key _ _ a b (O x ak),cA _ _ a b⟩
def Z5(a ho n j v f K0 jg Th w)(p:w.heap[a]? =aa (aA jg Th (0,0)))(u:jg[ho]? =aa v)(G:Th≠130)(y:w.ownsRow 0 130 1 v n (jC n f))(hn:n<1048576)(F:Keyed w v n f K0)(H:∀x,x<n->f x≠a)(K:lJ w j (K0 j))(M:aa j≠v.ownBlock)(L:j≠a)(E:Hp n λx=>K0 (f x)):
  Calls prog 212 #[.pointer (aa (aj a ho)),jp j] w λe q=>e=aN (.tuple #[])/\∃l d,q.heap[a]? =aa (aA (jg.setIfInBounds ho l) Th (0,0))/\q.ownsRow 0 130 1 l (n+1) (jC (n+1) d)/\lK (n+1) (more f n j) d/\Hp (n+1) (λx=>K0 (d x))/\aV (λb=>b=a\/aa b=v.ownBlock) w q/\(l.ownBlock=v.ownBlock\/∀g,l.ownBlock=aa g->w.heap.size<=g):=by
 obtain⟨R,J,O,P,Q⟩:=aly F3;have ah:=(bp.1 p).1;have Z:=aG p u;have C:Hid ((w.alloc (aA #[jp j] 130)).ownsRow 0 130 1 v n (jC n f)):=y.alloc _;have HM:Hid (w.heap[a]? =aa (aA jg Th (0,0))/\w.ownsRow 0 130 1 v n (jC n f)/\Keyed w v n f K0/\lJ w j (K0 j)):=⟨p,y,F,K⟩;have aI:a≠w.heap.size:=ak;have X:True:=trivial;go_enter func212,ntmps212
 go_wp2_with (first
  |(at_builtin;have _t:=X;refine wpList_append_lies _ (by rfl) _ _ 107 (by rfl) 0 130 R _ 1 8 underlying107 J O P Q (by rfl) ak v n (jC n f) (by rfl) C.out ⟨w.heap.size,0,ay⟩ 1 1 [jp j] (by rfl) (by rfl) (Dg (cw w _)) (by simp[Value.oneCell']) ak (by unfold cY;omega) ak aC (w.heap.size+1) aC ?_;intro g c m N I t an;obtain⟨m1,m2,S,A,T,U⟩:=Z6 HM.out.1 u G HM.out.2.1 HM.out.2.2.1 H HM.out.2.2.2 M L N I t;have o:Hid ((m.setCell (aj a ho) (.slice (aa (aj g 0)) (n+1) c)).heap[a]? =aa (aA (jg.setIfInBounds ho (.slice (aa (aj g 0)) (n+1) c)) Th (0,0))/\
  fI (m.setCell (aj a ho) (.slice (aa (aj g 0)) (n+1) c)) a ho (.slice (aa (aj g 0)) (n+1) c) (n+1) (more f n j)/\Keyed (m.setCell (aj a ho) (.slice (aa (aj g 0)) (n+1) c)) (.slice (aa (aj g 0)) (n+1) c) (n+1) (more f n j) K0/\
  aV (λb=>b=a\/aa b=v.ownBlock) w (m.setCell (aj a ho) (.slice (aa (aj g 0)) (n+1) c))/\(v.ownBlock=aa g\/g=w.heap.size+1)):=⟨S,A,T,U,t⟩;have c4:=A.head)
  |(go_at_call 245;refine(aaW a ho (n+1) n _ (more f n j) K0 _ o.out.2.1 ak ak o.out.2.2.1 (D9 j E)).mono ?_;rintro e w5 ⟨rfl,d,B,V,W,k⟩))
 obtain⟨a1,Y,a3,i,r⟩:=o.out;refine eO rfl rfl ⟨rfl,_,d,(k.block a (bp.1 a1).1 B.cA).trans a1,B.row,V,W,⟨k.os.trans i.os,dm i.size k.size,λb a z=>(k.block b (dy a i.size) (λe=>?_)).trans (i.block b a z)⟩,?_⟩
 ·have s:b=g:=by simpa[pN]using e
  rcases r with h|h
  ·exact z (aD (by rw[h,s]))
  ·omega
 ·rcases r with h|h
  ·exact aF (by rw[h];rfl)
  ·refine aD λD e=>?_;have s:g=D:=by simpa[pN]using e
   omega
structure yT(w W:az)(a c:Nat)(v:aE)(n:Nat)(f:Nat->Nat)(K:Nat->Key)(q:Nat)(f':Nat->Nat):Prop where
 heap:fI W a c v n f'
 keys:Keyed W v n f' K
 mix:lK n f f'
 dn:uO n (λx=>K (f' x)) q
 cD:aV (λb=>aa b=v.ownBlock) w W
def yT.drewN{w W hb ho n q v f f' K}(h:yT w W hb ho v n f K q f')(d):yT w (W.drewN d) hb ho v n f K q f':=
 ⟨h.heap.drewN d,h.keys.drewN d,h.mix,h.dn,⟨h.cD.os,h.cD.size,h.cD.block⟩⟩
def pZ(n:Nat)(f:Nat->Key)(q:Nat):Nat->Nat
 |0=>q
 |k+1=>jy n f q (2*q+1+k) (pZ n f q k)
def Py(n f q):∀k,pZ n f q k<=2*q+k
 |0=>by simp only[pZ];omega
 |k+1=>by have:=Py n f q k;simp only[pZ,jy];split<;>omega
def TY{P fn R a w}(hr:fn.results=#[])(b:a.defers=[])(h:R (aN (.tuple #[])) w):Hw P fn R alE a w:=
 ⟨b,.tuple #[],by simp[results,hr],h⟩
def abY(hb ho n i v f j w)(h:fI w hb ho v n f)(Q:i<=n)(U:n<=1048576)(N:Keyed w v n f j)(M:uO n (λx=>j (f x)) i):
  Calls prog 160 #[.pointer (aa (aj hb ho)),an i] w λe l=>e=aN (.tuple #[])/\∃g,fI l hb ho v n g/\lK n f g/\Hp n (λx=>j (g x))/\aV (λb=>aa b=v.ownBlock) w l:=by
 have G:Hid (yT w w hb ho v n f j i f):=⟨h,N,lK.refl _ _,M,aV.refl _ _⟩;go_enter func160,ntmps160;go_wp2
 go_loopw [1,4,5] (λC _ _ wr=>∃q g,C=an (q:Nat)/\q<=n/\Hid (yT w wr hb ho v n f j q g)) (λC _ _ _=>n-(gU C).toNat)
 case atStart=>exact⟨i,f,rfl,Q,G⟩
 case round=>
  obtain⟨q,g,rfl,hq,hR⟩:=hrel;obtain⟨W,L,hv,O,T⟩:=hR.out.heap.form;have K:∀d,(wr.drewN d).cell? (aj hb ho)=aa (.slice W n L):=λd=>hv▸hR.out.heap.head;clear hv O T
  have I:Hid (∀d x y,x<n->y<n->Calls prog 195 #[.pointer (aa (aj hb ho)),an (x:Nat),an (y:Nat)] (wr.drewN d) λe l=>e=aN (.bool (dU (j (g x)) (j (g y))))/\∃t,l=wr.drewN (d+t)):=λd x y B V=>by refine(QW hb ho n x y v g j (wr.drewN d) (hR.out.heap.drewN d) B V U (λx B=>((hR.out.keys.drewN d) x B).1)).mono ?_;rintro e l ⟨rfl,m,rfl⟩;exact⟨rfl,m,VF ..⟩
  go_wp2
  go_loopw [4,5] (λm c X=>∃k:Nat,k<=2/\c=an ((2*q+1+k:Nat):Int)/\m=an (pZ n (λx=>j (g x)) q k:Nat)/\∃d,X=wr.drewN d) (λ_ c _=>2*q+3-(gU c).toNat)
  case atStart=>exact⟨0,ak,by go_num,rfl,0,rfl⟩
  case round=>
   obtain⟨k,hk,rfl,rfl,d,rfl⟩:=hrel;have Z:=Py n (λx=>j (g x)) q k;generalize hm:pZ n (λx=>j (g x)) q k=m at*;have Y:=K d
   by_cases ah:k<2
   ·have S:((2*q+1+k:Nat):Int)<=2*(q:Int)+2:=ak;generalize u:2*q+1+k=c at*
    by_cases z:c<n
    ·have P:(c:Int)<(n:Int):=ak;have p:=I.out d c m z ak;cases r:dU (j (g c)) (j (g m))with
     |true=>
      have o:pZ n (λx=>j (g x)) q (k+1)=c:=by simp only[pZ,jy,hm,u];exact aX ⟨z,r⟩
      rw[r]at p;go_wp2_with (go_at_call 195;refine p.mono ?_;rintro e F ⟨rfl,t,rfl⟩);refine⟨⟨k+1,ak,by go_num,by rw[o],_,rfl⟩,?_⟩;simp[gU];omega
     |false=>
      have o:pZ n (λx=>j (g x)) q (k+1)=m:=by simp only[pZ,jy,hm,u];exact aQ (λh=>by rw[r]at h;cases h.2)
      rw[r]at p;go_wp2_with (go_at_call 195;refine p.mono ?_;rintro e F ⟨rfl,t,rfl⟩);refine⟨⟨k+1,ak,by go_num,by rw[o],_,rfl⟩,?_⟩;simp[gU];omega
    ·have P:¬(c:Int)<(n:Int):=ak;have o:pZ n (λx=>j (g x)) q (k+1)=m:=by simp only[pZ,jy,hm,u];exact aQ (λh=>z h.1)
     go_wp2;refine⟨⟨k+1,ak,by go_num,by rw[o],_,rfl⟩,?_⟩;simp[gU];omega
   ·obtain rfl:k=2:=ak;have S:¬((2*q+1+2:Nat):Int)<=2*(q:Int)+2:=ak;have A:jy n (λx=>j (g x)) q (2*q+2) (jy n (λx=>j (g x)) q (2*q+1) q)=m:=hm
    by_cases s:m=q
    ·subst s;go_wp2;have R:=hR.out.drewN d;exact TY rfl rfl ⟨rfl,g,R.heap,R.mix,R.dn.done A,R.cD⟩
    ·have aC:((m:Int)==(q:Int))=av:=bY;obtain⟨l1,D,l3,l4⟩:=PE A s
     have J:Hid (Calls prog 196 #[.pointer (aa (aj hb ho)),an q,an m] (wr.drewN d) λe l=>e=aN (.tuple #[])/\yT w l hb ho v n f j m (gF g q m)):=by have R:=hR.out.drewN d;refine(TF hb ho n q m v g (wr.drewN d) R.heap ak D (λe=>s e.symm)).mono ?_;rintro e l ⟨rfl,a,b⟩;refine⟨rfl,a,R.keys.mix (.gF g ak D) b,R.mix.trans (.gF g ak D),?_,R.cD.trans b⟩;rw[QX];exact R.dn.step A s
     go_wp2_with (go_at_call 196;refine J.out.mono ?_;rintro e F ⟨rfl,E⟩;have H:=aT E;clear E);refine⟨⟨m,_,rfl,ak,H⟩,?_⟩;simp[gU];omega
def xH{P o a w w' K Q y sl x}{t u:aW}{v v' z}(d:dw o y=aq)(b:o.op=.call {callee:=.builtin .append,args:=#[sl,x],argTypes:=#[t,u]}) (c:a.eval sl=v) (e:a.eval x=z) (hr:(nY #[t,u] o.type #[v,z]).run P w=.ok v' w') (h:K (a.put o.dst v') w'):
  if dw o y=aq then Ho P o a w K Q else K (a.put o.dst au) w:=by
 rw[aX d];unfold Ho execOp;simp only[b,resolve,invoke,builtin,Df,MY,Hs,rG,sU,wE,c,e,hr];exact h
def rq{T g}:∀(xs:aB aE) (o:Nat) (W:az) (a:aK aE),W.heap[g]? =aa (aA a T (0,0))->
  ∃b,(W.setCells g o xs).heap[g]? =aa (aA b T (0,0))/\b.size=a.size/\(∀i,i<o\/o+xs.length<=i->b[i]? =a[i]?)/\(∀i u,xs[i]? =aa u->o+i<a.size->b[o+i]? =aa u)/\(∀k,k≠g->(W.setCells g o xs).heap[k]? =W.heap[k]?)/\(W.setCells g o xs).heap.size=W.heap.size/\(W.setCells g o xs).os=W.os:=by
 intro xs;induction xs with
 |nil=>exact λo W a h=>⟨a,h,rfl,λ_ _=>rfl,λi u c=>by simp at c,λ_ _=>rfl,rfl,rfl⟩
 |cons x xs s=>
  intro o W a h;obtain⟨j,l,m,d,n,p,q,r⟩:=s (o+1) (W.setCell (aj g o) x) _ (cz h o x);refine⟨j,l,by rw[m];simp,λi t=>?_,λi u c f=>?_,λk e=>(p k e).trans (bH e),q.trans aC,r.trans rfl⟩
  ·rw[d i (by grind)];exact dP (by grind)
  ·cases i with
   |zero=>
    simp at c;subst c;rw[d (o+0) (aF ak)];rw[CZ]at f⊢;simp[zW,f]
   |succ i=>
    have:=n i u (by grind) bY;rw[show o+(i+1)=o+1+i by omega];exact this
def Yc(s a L cap)(b:s=.slice a L cap)(hc:L<=cap)(hm:cap<=cY)(w):
  fu 113 #[s,an 0,an 0] w s:=by
 subst b;unfold cY at hm;go_enter func113,ntmps113;go_wp2
 all_goals (go_ret;exact⟨rfl,rfl⟩)
abbrev OH(w:az)(g L n:Nat)(news:aB aE):az:=(w.drew.setCells g 0 news).setCells g (L-n) (List.replicate n (.int .u8 0))
def Yd(g L cap n news cur w)(h0:0<n)(H:n<=L)(hc:L<=cap)(hm:cap<=cY)(y:news.length=L-n)(k:∀u∈news,u.oneCell'=aq)(a:w.heap[g]? =aa (aA cur 5 (0,0)))(I:cur.size=cap)(c:∀j u,news[j]? =aa u->cur[n+j]? =aa u):
  Calls prog 113 #[.slice (aa (aj g 0)) L cap,an 0,an n] w λe B=>e=aN (.slice (aa (aj g 0)) (L-n) cap)/\B=OH w g L n news:=by
 have c:∀j u,news[j]? =aa u->w.cell? (aj g (n+j))=aa u:=λj u b=>aG a (c j u b);have o:∀j,j<L->(w.cell? (aj g j)).isSome=aq:=λj d=>by rw[aG a (cL ak)];rfl
 have m:∀j,w.frozen? (aj g j)=av:=λj=>bz a j;obtain⟨q,x,J,z,M⟩:=aly infoByte
 obtain⟨A,C,p⟩:∃A:fS,(if cap=n then aa (⟨g,0,ay⟩:fS)else aa ⟨g,n,ay⟩)=aa A/\(∀t u,news[t]? =aa u->w.drew.cell? (A.add t)=aa u):=by
  by_cases h:cap=n
  ·refine⟨⟨g,0,ay⟩,by simp[h],λt u b=>?_⟩;have e:news.length=0:=ak;rw[wD.1 e]at b;simp at b
  ·exact⟨⟨g,n,ay⟩,by simp[h],λt u b=>by rw[Me];exact c t u b⟩
 have r:Hid ((nY #[158,158] 158 #[.slice (aa (aj g 0)) 0 cap,.slice (aa A) (L-n) (cap-n)]).run prog w.drew=.ok (.slice (aa (aj g 0)) (0+(L-n)) cap) (w.drew.setCells g (0+0*q.size) news)):=
  Ij (P:=prog) w.drew 158 158 5 q underlying158 x g 0 0 cap A (L-n) (cap-n) news (by rw[z,y];omega) p k ak (λj d=>by rw[rN,fU];exact(o j ak)) (λj d=>by rw[rN,fU];exact m j)
 have hv:∀w,(zeroValue 5).run prog w=.ok (.int .u8 0) w:=zeroValue5
 have G:∀i,(uo #[158] i #[.slice (aa (aj g (L-n))) (L-(L-n)) (cap-(L-n))]).run prog (w.drew.setCells g 0 news)=.ok (.tuple #[]) (OH w g L n news):=λi=>by
  have:=Lib.run_clear_slice (P:=prog) (w.drew.setCells g 0 news) 158 5 i (.int .u8 0) underlying158 hv rfl rfl g (L-n) (L-(L-n)) (cap-(L-n)) ak ?_ ?_
  ·rw[this,show L-(L-n)=n by omega]
  ·intro j d;obtain⟨s,f,v,_⟩:=rq news 0 w.drew cur a;rw[aG f (cL ak)];rfl
  ·intro j d;obtain⟨s,f,v,_⟩:=rq news 0 w.drew cur a;exact bz f _
 unfold cY at hm;have F:((0:Int)==(n:Int))=av:=bY;clear p c o m k hv a;go_enter func113,ntmps113
 go_upto_region 5 with fail
 refine eD (S:=λ_=>True) trivial λE=>?_;refine tk 0 ?_;refine tk 1 ?_;refine tk 2 ?_;refine tk 3 ?_;refine tk 4 ?_;refine tk 5 ?_;refine rH 6 λK l=>?_
 (refine xH rfl rfl rfl rfl r.out ?_;simp)
 refine l.out _ _ (trivial) (λD=>?_);clear l K;refine tk 7 ?_;refine dc ?_
 (go_wp2;go_ret;exact⟨rfl,rfl⟩)
def FG{P}(w t e ty z)(f:P.underlying t=aa (.slice e))(hv:∀w,(zeroValue e).run P w=.ok z w)(b o n c)(h:0<n)(zs)(g:(mH z.cells n).toList=zs)(d:∀u∈zs,u.oneCell'=aq)(hc:∀j,j<zs.length->(w.cell? (aj b (o+j))).isSome=aq)(hf:∀j,j<zs.length->w.frozen? (aj b (o+j))=av):
  (uo #[t] ty #[.slice (aa (aj b o)) n c]).run P w=.ok (.tuple #[]) (w.setCells b o zs):=by
 have a:=alz (P:=P) b o zs 0 w ak ak d;simp at a;obtain⟨m,rfl⟩:∃m,n=m+1:=⟨n-1,ak⟩;simp[uo,Ik f,hv,g,a]
def OI{w T k g cap n cur news zs}(r:w.heap[g]? =aa (aA cur T (0,0)))(x:cur.size=cap*k)(q:n+1<=cap)(hm:cap<=cY)(p:news.length=n*k)(y:zs.length=k):
  ((w.drew.setCells g 0 news).setCells g (n*k) zs).ownsRow 0 T k (.slice (aa (aj g 0)) n cap) n news/\aV (·=g) w ((w.drew.setCells g 0 news).setCells g (n*k) zs):=by
 obtain⟨d,f,s,t,h,j,l,m⟩:=rq news 0 w.drew cur r;obtain⟨e,f1,f2,f3,f4,f5,f6,f7⟩:=rq zs (n*k) _ d f;have v:n*k+k<=cap*k:=by rw[<-Nat.succ_mul];exact yz k q
 refine⟨⟨p,aD ⟨g,cap,e,rfl,eo _,f1,ak,hm,ak,?_⟩⟩,f7.trans m,Nat.le_of_eq (f6.trans l).symm,λb u c=>(f5 b c).trans (j b c)⟩;refine wB λi=>?_;rw[mK];split
 ·rename_i o;rw[lC,f3 i (aF o)];have a:i<news.length:=ak;have:=h i news[i] (ef a) ak;rw[fU]at this;rw[this,ef a]
 ·exact(yp ak).symm
def take_at{b:aK aE}{x rest:aB aE}{m k:Nat}(h:b.toList.take m=x++rest)(d:x.length=k):∀j u,rest[j]? =aa u->b[k+j]? =aa u:=λj u c=>by
 have a:(x++rest)[k+j]? =aa u:=by rw[qz ak,d,uz];exact c
 rw[<-h,mK]at a;split at a
 ·rw[lC]at a;exact a
 ·cases a
def Fe{zs:aB aE}(h:zs.all (·.oneCell')=aq):∀u∈zs,u.oneCell'=aq:=λu a=>nF.1 h u a
abbrev zsQ:aB aE:=[an 0,.string ⟨#[]⟩,an 0,an 0,an 0,an 0,an 0,.string ⟨#[]⟩,an 0,an 0]
abbrev OG(w:az)(g L:Nat)(news:aB aE):az:=(w.drew.setCells g 0 news).setCells g ((L-1) *10) zsQ
def Ya(g L cap news cur w)(F:0<L)(hc:L<=cap)(hm:cap<=cY)(r:news.length=(L-1) *10)(n:∀u∈news,u.oneCell'=aq)(c:w.heap[g]? =aa (aA cur 134 (0,0)))(J:cur.size=cap*10)(d:∀j u,news[j]? =aa u->cur[10+j]? =aa u):
  Calls prog 269 #[.slice (aa (aj g 0)) L cap,an 0,an 1] w λe y=>e=aN (.slice (aa (aj g 0)) (L-1) cap)/\y=OG w g L news:=by
 have d:∀j u,news[j]? =aa u->w.cell? (aj g (10+j))=aa u:=λj u a=>aG c (d j u a);have s:∀j,j<cap*10->(w.cell? (aj g j)).isSome=aq:=λj b=>by rw[aG c (cL ak)];rfl
 have o:∀j,w.frozen? (aj g j)=av:=λj=>bz c j;have q:(prog.info? 134).map (·.size)=aa 10:=aS;obtain⟨l,p,x⟩:=eI.1 q
 obtain⟨A,C,v⟩:∃A:fS,(if cap=1 then aa (⟨g,0,ay⟩:fS)else aa ⟨g,10,ay⟩)=aa A/\(∀t u,news[t]? =aa u->w.drew.cell? (A.add t)=aa u):=by
  by_cases h:cap=1
  ·refine⟨⟨g,0,ay⟩,by simp[h],λt u a=>?_⟩;have e:news.length=0:=ak;rw[wD.1 e]at a;simp at a
  ·exact⟨⟨g,10,ay⟩,by simp[h],λt u a=>by rw[Me];exact d t u a⟩
 have m:Hid ((nY #[165,165] 165 #[.slice (aa (aj g 0)) 0 cap,.slice (aa A) (L-1) (cap-1)]).run prog w.drew=.ok (.slice (aa (aj g 0)) (0+(L-1)) cap) (w.drew.setCells g (0+0*l.size) news)):=
  Ij w.drew 165 165 134 l underlying165 p g 0 0 cap A (L-1) (cap-1) news (by rw[x,r]) v n ak (λj b=>by rw[rN,fU];exact(s _ ak)) (λj b=>by rw[rN,fU];exact o _)
 have I:∀f,(uo #[165] f #[.slice (aa (aj g ((L-1) *10))) (L-(L-1)) (cap-(L-1))]).run prog (w.drew.setCells g 0 news)=.ok (.tuple #[]) (OG w g L news):=λf=>by
  obtain⟨z,i,B,_⟩:=rq news 0 w.drew cur c;refine FG (w.drew.setCells g 0 news) 165 134 f _ underlying165 zeroValue134 g ((L-1) *10) (L-(L-1)) (cap-(L-1)) ak _ (by rw[show L-(L-1)=1 by omega];kernel_rfl) (Fe (by rfl)) ?_ ?_
  ·intro j b;have:j<10:=b;rw[aG i (cL ak)];rfl
  ·exact λj _=>bz i _
 unfold cY at hm;have G:(1:Int)<=(L:Int):=ak;have H:((cap:Int)==1)=decide (cap=1):=by by_cases h:cap=1<;>simp[h];omega
 go_enter func269,ntmps269
 go_upto_region 5 with fail
 refine eD (S:=λ_=>True) trivial λE=>?_;refine tk 0 ?_;refine tk 1 ?_;refine tk 2 ?_;refine tk 3 ?_;refine tk 4 ?_;refine tk 5 ?_;refine rH 6 λK k=>?_
 (refine xH rfl rfl rfl rfl m.out ?_;simp)
 refine k.out _ _ (trivial) (λD=>?_);clear k K;refine tk 7 ?_;refine dc ?_
 (go_wp2;go_ret;exact⟨rfl,rfl⟩)
abbrev zsF:aB aE:=[an 0,.bool av,an 0]
abbrev OF(w:az)(g L:Nat)(news:aB aE):az:=(w.drew.setCells g 0 news).setCells g ((L-1) *3) zsF
def XW(g L cap news cur w)(F:0<L)(hc:L<=cap)(hm:cap<=cY)(r:news.length=(L-1) *3)(n:∀u∈news,u.oneCell'=aq)(c:w.heap[g]? =aa (aA cur 188 (0,0)))(J:cur.size=cap*3)(d:∀j u,news[j]? =aa u->cur[3+j]? =aa u):
  Calls prog 244 #[.slice (aa (aj g 0)) L cap,an 0,an 1] w λe y=>e=aN (.slice (aa (aj g 0)) (L-1) cap)/\y=OF w g L news:=by
 have d:∀j u,news[j]? =aa u->w.cell? (aj g (3+j))=aa u:=λj u a=>aG c (d j u a);have s:∀j,j<cap*3->(w.cell? (aj g j)).isSome=aq:=λj b=>by rw[aG c (cL ak)];rfl
 have o:∀j,w.frozen? (aj g j)=av:=λj=>bz c j;have q:(prog.info? 188).map (·.size)=aa 3:=aS;obtain⟨l,p,x⟩:=eI.1 q
 obtain⟨A,C,v⟩:∃A:fS,(if cap=1 then aa (⟨g,0,ay⟩:fS)else aa ⟨g,3,ay⟩)=aa A/\(∀t u,news[t]? =aa u->w.drew.cell? (A.add t)=aa u):=by
  by_cases h:cap=1
  ·refine⟨⟨g,0,ay⟩,by simp[h],λt u a=>?_⟩;have e:news.length=0:=ak;rw[wD.1 e]at a;simp at a
  ·exact⟨⟨g,3,ay⟩,by simp[h],λt u a=>by rw[Me];exact d t u a⟩
 have m:Hid ((nY #[106,106] 106 #[.slice (aa (aj g 0)) 0 cap,.slice (aa A) (L-1) (cap-1)]).run prog w.drew=.ok (.slice (aa (aj g 0)) (0+(L-1)) cap) (w.drew.setCells g (0+0*l.size) news)):=
  Ij w.drew 106 106 188 l underlying106 p g 0 0 cap A (L-1) (cap-1) news (by rw[x,r]) v n ak (λj b=>by rw[rN,fU];exact(s _ ak)) (λj b=>by rw[rN,fU];exact o _)
 have I:∀f,(uo #[106] f #[.slice (aa (aj g ((L-1) *3))) (L-(L-1)) (cap-(L-1))]).run prog (w.drew.setCells g 0 news)=.ok (.tuple #[]) (OF w g L news):=λf=>by
  obtain⟨z,i,B,_⟩:=rq news 0 w.drew cur c;refine FG (w.drew.setCells g 0 news) 106 188 f _ underlying106 zeroValue188 g ((L-1) *3) (L-(L-1)) (cap-(L-1)) ak _ (by rw[show L-(L-1)=1 by omega];kernel_rfl) (Fe (by rfl)) ?_ ?_
  ·intro j b;have:j<3:=b;rw[aG i (cL ak)];rfl
  ·exact λj _=>bz i _
 unfold cY at hm;have G:(1:Int)<=(L:Int):=ak;have H:((cap:Int)==1)=decide (cap=1):=by by_cases h:cap=1<;>simp[h];omega
 go_enter func244,ntmps244
 go_upto_region 5 with fail
 refine eD (S:=λ_=>True) trivial λE=>?_;refine tk 0 ?_;refine tk 1 ?_;refine tk 2 ?_;refine tk 3 ?_;refine tk 4 ?_;refine tk 5 ?_;refine rH 6 λK k=>?_
 (refine xH rfl rfl rfl rfl m.out ?_;simp)
 refine k.out _ _ (trivial) (λD=>?_);clear k K;refine tk 7 ?_;refine dc ?_
 (go_wp2;go_ret;exact⟨rfl,rfl⟩)
def XX{v:aE}{n:Nat}{x rest:aB aE}(w)(h:w.ownsRow 0 188 3 v (n+1) (x++rest))(c:x.length=3)(r:∀u∈rest,u.oneCell'=aq):
  Calls prog 244 #[v,an 0,an 1] w λe f=>∃d,e=aN d/\f.ownsRow 0 188 3 d n rest/\aV (λb=>aa b=v.ownBlock) w f/\d.ownBlock=v.ownBlock:=by
 have m:rest.length=n*3:=by have:=h.1;simp[c]at this;omega
 rcases h.2 with⟨_,h0⟩|⟨g,p,q,rfl,y,l,o,i,j,t⟩
 ·omega
 ·refine(XW g (n+1) p rest q w ak o i m r l j (take_at t c)).mono ?_;rintro e f ⟨rfl,rfl⟩;obtain⟨a,b⟩:=OI (zs:=zsF) l j o i m rfl;exact⟨_,rfl,a,⟨b.os,b.size,λk s c=>b.block k s λe=>c (by rw[e];rfl)⟩,rfl⟩
def XY(g n cap cur w)(h0:0<n)(hc:n<=cap)(hm:cap<=cY)(f:w.heap[g]? =aa (aA cur 130 (0,0)))(C:cur.size=cap):
  Calls prog 159 #[.slice (aa (aj g 0)) n cap,an ((n-1:Nat):Int),an n] w λe q=>e=aN (.slice (aa (aj g 0)) (n-1) cap)/\q=w.drew.setCells g (n-1) [.pointer ay]:=by
 have o:∀j,j<cap->(w.cell? (aj g j)).isSome=aq:=λj a=>by rw[aG f (cL ak)];rfl
 have k:∀j,w.frozen? (aj g j)=av:=λj=>bz f j;have m:(prog.info? 130).map (·.size)=aa 1:=aS;obtain⟨p,l,D⟩:=eI.1 m
 obtain⟨A,x⟩:∃A:fS,(if cap=n then aa (⟨g,0,ay⟩:fS)else aa ⟨g,n,ay⟩)=aa A:=by
  by_cases h:cap=n
  ·exact⟨_,aX h⟩
  ·exact⟨_,aQ h⟩
 have i:Hid ((nY #[107,107] 107 #[.slice (aa (aj g 0)) (n-1) cap,.slice (aa A) 0 (cap-n)]).run prog w.drew=.ok (.slice (aa (aj g 0)) (n-1) cap) w.drew):=
  Ij w.drew 107 107 130 p underlying107 l g 0 (n-1) cap A 0 (cap-n) [] aC (λj u b=>by simp at b) (λu b=>by cases b) ak (λj a=>by simp at a) (λj a=>by simp at a)
 have B:∀c,(uo #[107] c #[.slice (aa (aj g (n-1))) (n-(n-1)) (cap-(n-1))]).run prog w.drew=.ok (.tuple #[]) (w.drew.setCells g (n-1) [.pointer ay]):=λc=>by
  refine FG w.drew 107 130 c _ underlying107 zeroValue130 g (n-1) (n-(n-1)) (cap-(n-1)) ak _ (by rw[show n-(n-1)=1 by omega];kernel_rfl) (Fe (by rfl)) ?_ ?_
  ·intro j a;have:j<1:=a;exact o _ ak
  ·exact λj _=>k _
 unfold cY at hm;have r:(((n-1:Nat):Int)==(n:Int))=av:=bY;have s:((n-1:Nat):Int)<=(n:Int):=ak;have t:n-1<=cap:=ak;have v:n-1<=n:=ak;go_enter func159,ntmps159
 go_upto_region 5 with fail
 refine eD (S:=λ_=>True) trivial λz=>?_;refine tk 0 ?_;refine tk 1 ?_;refine tk 2 ?_;refine tk 3 ?_;refine tk 4 ?_;refine tk 5 ?_;refine rH 6 λK d=>?_
 (refine xH rfl rfl rfl rfl i.out ?_;simp)
 refine d.out _ _ (trivial) (λy=>?_);clear d K;refine tk 7 ?_;refine dc ?_
 (go_wp2;go_ret;exact⟨rfl,rfl⟩)
abbrev down(f:Nat->Nat)(m:Nat):Nat->Nat:=λx=>if x=0 then f m else f x
def D7{m}{f:Nat->Nat}{K:Nat->Key}(h:Hp (m+1) λx=>K (f x)):uO m (λx=>K (down f m x)) 0:=by refine⟨λx h0 b a=>?_,λh0=>by omega⟩;have:=h x h0 ak;simp only[down];rw[aQ a,aQ ak];exact this
def Y8{w hb ho m g cap d d' f K jg cur}{c:aW}(B:w.heap[hb]? =aa (aA jg c (0,0)))(E:ho<jg.size)(D:w.heap[g]? =aa (aA cur 130 (0,0)))(I:m+1<=cap)(hm:cap<=cY)(hc:cur.size=cap)(i:hb≠g)(F:∀x,x<m+1->cur[x]? =aa (jp (f x)))(A:Keyed w (.slice (aa (aj g 0)) (m+1) cap) (m+1) f K)(C:∀x,x<m+1->f x≠hb):
  ∃W,((((w.drewN d).setCell (aj g 0) (jp (f m))).drewN d').setCells g m [.pointer ay]).setCell (aj hb ho) (.slice (aa (aj g 0)) m cap)=W/\W.heap[hb]? =aa (aA (jg.setIfInBounds ho (.slice (aa (aj g 0)) m cap)) c (0,0))/\
   fI W hb ho (.slice (aa (aj g 0)) m cap) m (down f m)/\Keyed W (.slice (aa (aj g 0)) m cap) m (down f m) K/\aV (λb=>b=hb\/b=g) w W/\((((w.drewN d).setCell (aj g 0) (jp (f m))).drewN d').setCells g m [.pointer ay]).heap[hb]? =aa (aA jg c (0,0)):=by
 have g0:(w.drewN d).heap[g]? =aa (aA cur 130 (0,0)):=D;have z:(((w.drewN d).setCell (aj g 0) (jp (f m))).drewN d').heap[g]? =_:=(cz g0 0 (jp (f m)));obtain⟨q,r,s,t,G,n,u,v⟩:=rq [.pointer ay] m _ _ z;have b1:((((w.drewN d).setCell (aj g 0) (jp (f m))).drewN d').setCells g m [.pointer ay]).heap[hb]? =aa (aA jg c (0,0)):=(n hb i).trans ((bH i).trans B);have l:=cz b1 ho (.slice (aa (aj g 0)) m cap)
 have cD:aV (λb=>b=hb\/b=g) w (((((w.drewN d).setCell (aj g 0) (jp (f m))).drewN d').setCells g m [.pointer ay]).setCell (aj hb ho) (.slice (aa (aj g 0)) m cap)):=
  ⟨v,by simp;rw[u];simp,λb H j=>(bH (λe=>j (aF e))).trans ((n b λe=>j (aD e)).trans (bH λe=>j (aD e)))⟩
 refine⟨_,rfl,l,⟨aG l (by simp[E]),⟨by simp[jC],aD ⟨g,cap,q,rfl,eo _,(bH (λe=>i e.symm)).trans r,ak,hm,by simp at s;omega,?_⟩⟩,λe=>i (by simpa[pN]using e)⟩,λx J=>?_,cD,b1⟩
 ·refine wB λx=>?_;rw[mK];split
  ·rename_i h;have o:x<m:=ak;rw[Fo o,lC,t x (aF o)];simp only[down]
   by_cases e:x=0
   ·subst e;rw[aX rfl,Gx,aX ak]
   ·rw[aQ e,dP ak];exact F x ak
  ·exact(yp bY).symm
 ·have key:∀y,y<m+1->lJ (((((w.drewN d).setCell (aj g 0) (jp (f m))).drewN d').setCells g m [.pointer ay]).setCell (aj hb ho) (.slice (aa (aj g 0)) m cap)) (f y) (K (f y))/\aa (f y)≠aa g:=λy p=>by
   obtain⟨a,b⟩:=A y p;have k:f y≠g:=λe=>b (by rw[e];rfl);exact⟨a.cD cD (λe=>e.elim (C y p) k),λe=>k (by simpa using e)⟩
  simp only[down]
  by_cases e:x=0
  ·rw[aX e];exact key m ak
  ·rw[aQ e];exact key x ak
def Y7(hb ho m v f K0 jg Th w)(o:w.heap[hb]? =aa (aA jg Th (0,0)))(t:jg[ho]? =aa v)(V:Th≠130)(u:w.ownsRow 0 130 1 v (m+1) (jC (m+1) f))(hn:m<1048576)(h:Keyed w v (m+1) f K0)(W:∀x,x<m+1->f x≠hb)(U:Hp (m+1) λx=>K0 (f x)):
  Calls prog 105 #[.pointer (aa (aj hb ho))] w λe c=>e=aN (.tuple #[jp (f 0),.bool aq])/\∃z k,c.heap[hb]? =aa (aA (jg.setIfInBounds ho z) Th (0,0))/\c.ownsRow 0 130 1 z m (jC m k)/\lK m (down f m) k/\Hp m (λx=>K0 (k x))/\aV (λb=>b=hb\/aa b=v.ownBlock) w c/\z.ownBlock=v.ownBlock:=by
 have X:aa hb≠v.ownBlock:=λe=>by
  rcases u.2 with⟨s,_⟩|⟨g',aJ,aL,s,_,A,_⟩
  ·rw[s]at e;cases e
  ·rw[s]at e;cases e;rw[o]at A;cases A;exact V rfl
 have l:fI w hb ho v (m+1) f:=⟨aG o t,u,X⟩;obtain⟨g,a,R,rfl,j,E,F,Y,G,i⟩:=l.full ak;have r:=l.head;have c1:=aG j (i m ak);have fz:=bz j 0;have c2:w.cell? (aj g 0)=aa (jp (f 0)):=aG j (i 0 ak);have O:Hid (∀d,Calls prog 103 #[.pointer (aa (aj hb ho))] (w.drewN d) λe c=>e=aN (.tuple #[jp (f 0),.bool aq])/\c=w.drewN d):=λd=>QK hb ho (m+1) _ f (w.drewN d) (l.drewN d) ak;have HM:Hid (∀d d',_):=λd d'=>Y8 (d:=d) (d':=d') o ((bp.1 t).1) j E F Y G i h W;obtain⟨P,C,H,I,J,L,y⟩:=HM.out 1 1
 have N:Hid (Calls prog 159 #[.slice (aa (aj g 0)) (m+1) a,an m,an ((m:Int)+1)] ((w.drewN 1).setCell (aj g 0) (jp (f m))) λe c=>e=aN (.slice (aa (aj g 0)) m a)/\c.cell? (aj hb ho)=aa (.slice (aa (aj g 0)) (m+1) a)/\c.frozen? (aj hb ho)=av/\
   (c.setCell (aj hb ho) (.slice (aa (aj g 0)) m a)).heap[hb]? =aa (aA (jg.setIfInBounds ho (.slice (aa (aj g 0)) m a)) Th (0,0))/\fI (c.setCell (aj hb ho) (.slice (aa (aj g 0)) m a)) hb ho (.slice (aa (aj g 0)) m a) m (down f m)/\Keyed (c.setCell (aj hb ho) (.slice (aa (aj g 0)) m a)) (.slice (aa (aj g 0)) m a) m (down f m) K0/\aV (λb=>b=hb\/b=g) w (c.setCell (aj hb ho) (.slice (aa (aj g 0)) m a))):=by
  have g0:(w.drewN 1).heap[g]? =aa (aA R 130 (0,0)):=j;have key:Calls prog 159 #[.slice (aa (aj g 0)) (m+1) a,an m,an ((m:Int)+1)] ((w.drewN 1).setCell (aj g 0) (jp (f m))) λe c=>e=aN (.slice (aa (aj g 0)) m a)/\c=(((w.drewN 1).setCell (aj g 0) (jp (f m))).drewN 1).setCells g m [.pointer ay]:=XY g (m+1) a _ _ ak E F (cz g0 0 (jp (f m))) bY;refine key.mono ?_;rintro e c ⟨rfl,rfl⟩;refine⟨rfl,aG y t,bz y ho,?_⟩;have T:((((w.drewN 1).setCell (aj g 0) (jp (f m))).drewN 1).setCells g m [.pointer ay]).setCell (aj hb ho) (.slice (aa (aj g 0)) m a)=P:=C;change(gm ((((w.drewN 1).setCell (aj g 0) (jp (f m))).drewN 1).setCells g m [.pointer ay]) ⟨hb,ho,ay⟩ (.slice (aa (aj g 0)) m a)).heap[hb]? =_/\fI (gm ((((w.drewN 1).setCell (aj g 0) (jp (f m))).drewN 1).setCells g m [.pointer ay]) ⟨hb,ho,ay⟩ (.slice (aa (aj g 0)) m a)) _ _ _ _ _/\Keyed (gm ((((w.drewN 1).setCell (aj g 0) (jp (f m))).drewN 1).setCells g m [.pointer ay]) ⟨hb,ho,ay⟩ (.slice (aa (aj g 0)) m a)) _ _ _ _/\aV _ _ (gm ((((w.drewN 1).setCell (aj g 0) (jp (f m))).drewN 1).setCells g m [.pointer ay]) ⟨hb,ho,ay⟩ (.slice (aa (aj g 0)) m a));rw[T];exact⟨H,I,J,L⟩
 have Q:((w.drewN 1).setCell (aj g 0) (jp (f m))).cell? (aj hb ho)=aa (.slice (aa (aj g 0)) (m+1) a):=gy r G;have bg:(m:Int)<(m:Int)+1:=ak;have bf:(0:Int)<(m:Int)+1:=ak;clear HM H I J L y i h u l j o C;go_enter func105,ntmps105
 go_upto_region 4 with(go_at_call 103;refine(O.out 0).mono ?_;rintro e w1 ⟨rfl,rfl⟩)
 refine eD (S:=λc=>c.cell? (aj hb ho)=aa (.slice (aa (aj g 0)) (m+1) a)) r λaS=>?_;refine tk 0 ?_;refine tk 1 ?_;refine tk 2 ?_;refine tk 3 ?_;refine tk 4 ?_;refine tk 5 ?_;refine tk 6 ?_;refine tk 7 ?_;refine tk 8 ?_;refine tk 9 ?_;refine rH 10 λK h=>?_;go_simp;refine h.out _ _ r (λhA=>?_);clear h K;refine tk 11 ?_;refine rH 12 λK h=>?_;go_simp;refine h.out _ _ Q (λhB=>?_);clear h K;refine dc ?_
 go_wp2_with (first
  |(go_at_call 159;refine N.out.mono ?_;rintro e w5 ⟨rfl,c5,f5,B⟩;have q:=aT B;clear B)
  |(go_at_call 160;refine(abY hb ho m 0 _ (down f m) K0 _ q.out.2.1 ak ak q.out.2.2.1 (D7 U)).mono ?_;rintro e w7 ⟨rfl,k,M,Z,r3,p⟩))
 go_ret2
 obtain⟨a1,a2,a3,n⟩:=q.out;exact⟨rfl,_,k,(p.block hb (bp.1 a1).1 M.cA).trans a1,M.row,Z,r3,⟨p.os.trans n.os,dm n.size p.size,λb D i=>(p.block b (dy D n.size) (λe=>i (aD e))).trans (n.block b D (λe=>i (e.elim aF λe=>aD (by rw[e];rfl))))⟩,rfl⟩
abbrev bW(x:UInt8):aE:=.int .u8 (x.toNat:Int)
def eH:aK UInt8->Nat->aB UInt8->aK UInt8
 |B,_,[]=>B
 |B,o,x::a=>eH (B.setIfInBounds o x) (o+1) a
def zq:∀(xs:aB UInt8) (B:aK UInt8) (o:Nat),(eH B o xs).size=B.size
 |[],_,_=>rfl
 |x::xs,B,o=>by rw[eH,zq xs];simp
abbrev oH(W:az)(b:Nat)(B:aK UInt8):Prop:=W.heap[b]? =aa (aA (B.map bW) 5 (0,0))
def zy{g}:∀(xs:aB UInt8) (o:Nat) (W:az) (B:aK UInt8),oH W g B->
  oH (W.setCells g o (xs.map bW)) g (eH B o xs)/\(∀k,k≠g->(W.setCells g o (xs.map bW)).heap[k]? =W.heap[k]?)/\(W.setCells g o (xs.map bW)).heap.size=W.heap.size/\(W.setCells g o (xs.map bW)).os=W.os
 |[],o,W,B,h=>⟨h,λ_ _=>rfl,rfl,rfl⟩
 |x::xs,o,W,B,h=>by
  have f:oH (W.setCell (aj g o) (bW x)) g (B.setIfInBounds o x):=by
   have:=cz h o (bW x);unfold oH;rw[this]
   congr 2
   exact(Array.map_setIfInBounds ..).symm
  obtain⟨a,b,c,d⟩:=zy xs (o+1) _ _ f;exact⟨a,λk e=>(b k e).trans (bH e),c.trans aC,d.trans rfl⟩
def KM{W b B}(h:oH W b B){i}(a:i<B.size):W.cell? (aj b i)=aa (bW B[i]):=aG h (by simp[a])
abbrev dW(c:Nat×aB UInt8):aB aE:=an (c.1:Int)::c.2.map bW
structure dz(W:az)(d bb db:Nat)(cv:aE)(n:Nat)(B D:aK UInt8)(C:aB (Nat×aB UInt8)):Prop where
 box:W.heap[d]? =aa (aA #[.slice (aa (aj bb 0)) n n,.slice (aa (aj db 0)) n n,cv] 161 (0,0))
 bytes:oH W bb B
 fM:oH W db D
 cache:W.ownsRow 0 274 5 cv C.length (C.flatMap dW)
 sizes:B.size=n/\D.size=n
 fits:∀c∈C,c.1+4<=n/\c.2.length=4
 apart:bb≠db
 small:n<=65536
def Yo(d a db n off len cv B D)(C:aB (Nat×aB UInt8))(w)(h:dz w d a db cv n B D C)(q:off+len<=n):
  fu 54 #[jp d,an off,an len] w (.string ⟨B.extract off (off+len)⟩):=by
 have i:=aO w d 0 (.slice (aa (aj a 0)) n n) h.box
 obtain⟨A,c⟩:∃A:fS,(if n=off then aa (⟨a,0,ay⟩:fS)else aa ⟨a,off,ay⟩)=aa A:=by
  by_cases e:n=off
  ·exact⟨_,aX e⟩
  ·exact⟨_,aQ e⟩
 have r:=h.small;have s:=h.sizes.1
 have m:∀b,(convert 158 9 (.slice (aa A) len b)).run prog w=.ok (.string ⟨B.extract off (off+len)⟩) w:=λb=>by
  have f:(B.extract off (off+len)).toList.length=len:=bY
  have:=VK w 158 9 5 A b (B.extract off (off+len)).toList underlying158 underlying5 underlying9 (λj o=>by have p:j<len:=ak;have g:¬n=off:=ak;rw[aQ g]at c;cases c;rw[Me,KM h.bytes ak];simp)
  rw[f]at this;exact this
 have k:((off:Int)+(len:Int))<=(n:Int):=ak;have l:(off:Int)<=(off:Int)+(len:Int):=ak
 trace_state
 go_enter func54,ntmps54;go_wp2;go_ret;exact⟨rfl,rfl⟩
def RN(l:aB UInt8):∀u∈l.map bW,u.oneCell'=aq:=λu a=>by obtain⟨x,_,rfl⟩:=jH.1 a;rfl
def KX{P}(w:az)(c n p d:aW)(b o a f:Nat)(t:ByteArray)(l:aB UInt8)(k:P.underlying c=aa (.slice d))(m:∀w,(GO d).run P w=.ok 1 w)(g:t.data.toList.take a=l)
  (hc:∀j,j<l.length->(w.cell? (aj b (o+j))).isSome=aq) (hf:∀j,j<l.length->w.frozen? (aj b (o+j))=av):
  ∃r,(sM #[c,n] p #[.slice (aa (aj b o)) a f,.string t]).run P w=.ok r (w.setCells b o (l.map bW)):=by
 have e:=alz (P:=P) b o (l.map bW) 0 w (by simpa using hc) (by simpa using hf) (RN l);simp at e;have q:t.data.toList.length=t.size:=rfl
 have i:List.take (Nat.min t.size a) (t.data.toList.map bW)=l.map bW:=by
  rw[<-List.map_take,<-g]
  congr 1
  by_cases h:t.size<=a
  ·rw[show Nat.min t.size a=t.size from pL h,sY ak,sY ak]
  ·rw[show Nat.min t.size a=a from Nat.min_eq_right ak]
 refine⟨goInt (Nat.min t.size a),?_⟩;simp[sM,Ik k,UA,Builtin.firstCells,m];rw[show List.take (t.size.min a) (List.map (λb=>alD IntKind.u8 ↑b.toNat) t.data.toList)=l.map bW from i,e];rfl
def FP(w):(GO 5).run prog w=.ok 1 w:=by obtain⟨e,a,c,b,d⟩:=aly infoByte;simp[GO,typeInfo,a,b]
def secs(off:Nat)(s:aB UInt8)(q:Nat):aB (Nat×aB UInt8):=(eF q).map λi=>(off+4*i,(s.drop (4*i)).take 4)
def abu(off s q):secs off s (q+1)=secs off s q++[(off+4*q,(s.drop (4*q)).take 4)]:=by simp[secs,yq]
def DI(w W:az)(d c f n off:Nat)(B D:aK UInt8)(C:aB (Nat×aB UInt8))(e:aE)(s:aB UInt8)(q:Nat):Prop:=
 ∃a,dz W d c f a n B D (C++secs off s q)/\aV (λb=>b=d\/b=c\/aa b=e.ownBlock) w W/\(a.ownBlock=e.ownBlock\/∀g,a.ownBlock=aa g->w.heap.size<=g)
def F6:(prog.info? 274).map (λi=>(i.zero,i.size,i.bytes))=aa (aa (.agg #[an 0,.int .u8 0,.int .u8 0,.int .u8 0,.int .u8 0]),5,16):=aS
def Fv{P o a w w' K Q y sl x}{t u:aW}{v v' z}(d:dw o y=aq)(b:o.op=.call {callee:=.builtin .copy,args:=#[sl,x],argTypes:=#[t,u]}) (c:a.eval sl=v) (e:a.eval x=z) (hr:(sM #[t,u] o.type #[v,z]).run P w=.ok v' w') (h:K (a.put o.dst v') w'):
  if dw o y=aq then Ho P o a w K Q else K (a.put o.dst au) w:=by
 rw[aX d];unfold Ho execOp;simp only[b,resolve,invoke,builtin,Df,MY,Hs,rG,sU,wE,c,e,hr];exact h
abbrev eE(o:Int)(a b1 b c:UInt8):aK aE:=#[an o,bW a,bW b1,bW b,bW c]
def abq{wr}(o)(b b1 c d:UInt8)(k):
  ∃a,((wr.alloc (aA (eE o 0 0 0 0) 274)).drewN k).setCells wr.heap.size 1 ([b,b1,c,d].map bW)=a/\a.heap[wr.heap.size]? =aa (aA (eE o b b1 c d) 274 (0,0))/\aL wr a/\a.heap.size=wr.heap.size+1:=by
 have h0:((wr.alloc (aA (eE o 0 0 0 0) 274)).drewN k).heap[wr.heap.size]? =aa (aA (eE o 0 0 0 0) 274 (0,0)):=cw wr _;have g:aL wr ((wr.alloc (aA (eE o 0 0 0 0) 274)).drewN k):=iX (bf) _;have e:=cz (cz h0 1 (bW b)) 2 (bW b1);have f:=cz (cz e 3 (bW c)) 4 (bW d);refine⟨_,rfl,f,?_,by simp[World.setCells]⟩;exact(((g.setCell (bC _) _).setCell (bC _) _).setCell (bC _) _).setCell (bC _) _
def dz.below{w w' d bb db n cv B D C}(h:dz w d bb db cv n B D C)(a:aL w w'):dz w' d bb db cv n B D C:=by
 refine⟨bV a h.box,bV a h.bytes,bV a h.fM,⟨h.cache.1,?_⟩,h.sizes,h.fits,h.apart,h.small⟩;rcases h.cache.2 with b|⟨g,c,e,b,f,i,j⟩
 ·exact aF b
 ·exact aD ⟨g,c,e,b,f,bV a i,j⟩
def dz.cA{w d bb db n cv B D C}(h:dz w d bb db cv n B D C){k x}{T:aW}(f:w.heap[k]? =aa (aA x T (0,0)))(c:T≠274):aa k≠cv.ownBlock:=λe=>by
 rcases h.cache.2 with⟨a,_⟩|⟨j,g,i,a,_,b,_⟩
 ·rw[a]at e;cases e
 ·rw[a]at e;cases e;rw[f]at b;cases b;exact c rfl
def Lb{a p i:az}{d k l n g cap:Nat}{j:aE}{B D:aK UInt8}{f:aB (Nat×aB UInt8)}{x:Obj}{news:aB aE}{c:Nat×aB UInt8}(R:dz a d k l j n B D f)(u:i.ownsRow 0 274 5 (.slice (aa (aj g 0)) (f.length+1) cap) (f.length+1) (f.flatMap dW++news))(s:p.grownBy i j.ownBlock)(t:p.heap=(a.alloc x).heap)(G:p.os=a.os)(z:j.ownBlock=aa g\/g=a.heap.size+1)(hc:news=dW c)(E:c.1+4<=n/\c.2.length=4):
  i.cell? (aj d 2)=aa j/\i.frozen? (aj d 2)=av/\dz (i.setCell (aj d 2) (.slice (aa (aj g 0)) (f.length+1) cap)) d k l (.slice (aa (aj g 0)) (f.length+1) cap) n B D (f++[c])/\aV (λb=>b=d\/aa b=j.ownBlock) a (i.setCell (aj d 2) (.slice (aa (aj g 0)) (f.length+1) cap)):=by
 have old:∀b,b<a.heap.size->aa b≠j.ownBlock->i.heap[b]? =a.heap[b]? :=λb r m=>(s.block b (by rw[t];simp;omega) m).trans (by rw[t];exact Below.heap_alloc a _ b r);have lt:∀{b:Nat} {o:Obj},a.heap[b]? =aa o->b<a.heap.size:=λh=>(bp.1 h).1;have q:i.heap[d]? =_:=(old d (lt R.box) (R.cA R.box bJ)).trans R.box;have A:k≠d:=fL R.bytes R.box aC;have C:l≠d:=fL R.fM R.box aC
 have F:g≠d:=λe=>by
  rcases z with h|h
  ·exact R.cA R.box bJ (by rw[h,e])
  ·have:=lt R.box;omega
 have v:=s.size;rw[t]at v;simp at v;refine⟨aG q rfl,bz q _,⟨(cz q 2 (.slice (aa (aj g 0)) (f.length+1) cap)),(bH A).trans ((old k (lt R.bytes) (R.cA R.bytes bJ)).trans R.bytes),(bH C).trans ((old l (lt R.fM) (R.cA R.fM bJ)).trans R.fM),?_,R.sizes,?_,R.apart,R.small⟩,⟨s.os.trans G,bY,λb r m=>(bH (λe=>m (aF e))).trans (old b r λe=>m (aD e))⟩⟩
 ·rw[gR,rC];have e:[c].flatMap dW=news:=by simp[hc]
  rw[e];refine⟨u.1,?_⟩;rcases u.2 with⟨h,_⟩|⟨N,M,w,I,J,K,L⟩
  ·cases h
  ·cases I;exact aD ⟨g,cap,w,rfl,J,(bH F).trans K,L⟩
 ·intro y H;rcases jZ.1 H with h|h
  ·exact R.fits y h
  ·have:y=c:=by simpa using h
   rw[this];exact E
def Ys(d k db n off m cv B D)(C:aB (Nat×aB UInt8))(s w)(h:dz w d k db cv n B D C)(cy:off<n)(hl:off+s.size<=n)(hm:s.size=4*m)(hC:C.length+m<=1099511627776):
  Calls prog 200 #[jp d,an off,.string s] w λe w'=>e=aN (.tuple #[])/\DI w w' d k db n off (eH B off s.data.toList) D C cv s.data.toList m:=by
 have hn:=h.small;have hz:=h.sizes.1;have c0:=aO w d 0 (.slice (aa (aj k 0)) n n) h.box;have e0:(off:Int)<=(n:Int):=ak;have cx:¬n=off:=ak
 obtain⟨r,Qq⟩:∃r,(sM #[158,9] 3 #[.slice (aa (aj k off)) (n-off) (n-off),.string s]).run prog w=.ok r (w.setCells k off (s.data.toList.map bW)):=by have cm:s.data.toList.length=s.size:=rfl;exact KX w 158 9 3 5 k off (n-off) (n-off) s s.data.toList underlying158 FP (sY ak) (λj W=>by rw[KM h.bytes ak];rfl) (λj W=>bz h.bytes _)
 have H1:Hid (DI w (w.setCells k off (s.data.toList.map bW)) d k db n off (eH B off s.data.toList) D C cv s.data.toList 0):=by
  obtain⟨a1,U,a3,a4⟩:=zy s.data.toList off w B h.bytes;have bL:d≠k:=fL h.box h.bytes aC
  have bK:aa k≠cv.ownBlock:=λe=>by
   rcases h.cache.2 with⟨F,_⟩|⟨H,bk,bl,F,_,M,_⟩
   ·rw[F]at e;cases e
   ·rw[F]at e;cases e;exact fL h.bytes M aC rfl
  refine⟨cv,⟨(U d bL).trans h.box,a1,(U db (λe=>h.apart e.symm)).trans h.fM,?_,⟨by rw[zq];exact hz,h.sizes.2⟩,by simpa[secs]using h.fits,h.apart,hn⟩,⟨a4,ak,λb _ V=>U b λe=>V (aD (aF e))⟩,aF rfl⟩;have:C++secs off s.data.toList 0=C:=by simp[secs]
  rw[this];refine⟨h.cache.1,?_⟩;rcases h.cache.2 with F|⟨H,bk,bl,F,M,h3,h4⟩
  ·exact aF F
  ·refine aD ⟨H,bk,bl,F,M,(U H λe=>bK (by rw[F,<-e];rfl)).trans h3,h4⟩
 generalize w.setCells k off (s.data.toList.map bW)=W1 at*;have HM:=aT hm;clear h hm;go_enter func200,ntmps200;go_wp2
 go_loopw [6] (λiv wr=>∃t q:Nat,iv=an (t:Int)/\Hid (t=4*q/\q<=m/\DI w wr d k db n off (eH B off s.data.toList) D C cv s.data.toList q)) (λiv _=>4*m-(gU iv).toNat)
 case atStart=>exact⟨0,0,rfl,rfl,eo _,H1.out⟩
 case round=>
  obtain⟨t,q,rfl,hR⟩:=hrel
  by_cases cr:t<s.size
  ·have h4:(t:Int)<(s.size:Int):=ak;have cA:t+4<=s.size:=by have:=hR.out.1;have:=HM.out;omega
   obtain⟨p,R,T,O⟩:=hR.out.2.2;have c2:=aO wr d 2 p R.box;have HR:Hid (dz wr d k db p n (eH B off s.data.toList) D (C++secs off s.data.toList q)/\aV (λb=>b=d\/b=k\/aa b=cv.ownBlock) w wr/\(p.ownBlock=cv.ownBlock\/∀g,p.ownBlock=aa g->w.heap.size<=g)):=⟨R,T,O⟩;have hd:d<wr.heap.size:=(bp.1 R.box).1;have cu:t<=s.size:=ak
   obtain⟨v,b1,y,z,bA⟩:∃v b1 y z:UInt8,(s.data.toList.drop t).take 4=[v,b1,y,z]:=by
    have bM:((s.data.toList.drop t).take 4).length=4:=by have:s.data.toList.length=s.size:=rfl;simp;omega
    match(s.data.toList.drop t).take 4,bM with
    |[v,b1,y,z],_=>exact⟨v,b1,y,z,rfl⟩
   obtain⟨f,bw,J,bh,bE⟩:=abq (wr:=wr) ((off:Int)+(t:Int)) v b1 y z 1
   obtain⟨r2,Bq⟩:∃r2,(sM #[158,9] 3 #[.slice (aa (aj wr.heap.size 1)) 4 4,.string (s.extract t s.size)]).run prog (wr.alloc (aA (eE ((off:Int)+(t:Int)) 0 0 0 0) 274)).drew=.ok r2 f:=by
    have h0:(wr.alloc (aA (eE ((off:Int)+(t:Int)) 0 0 0 0) 274)).drew.heap[wr.heap.size]? =aa (aA (eE ((off:Int)+(t:Int)) 0 0 0 0) 274 (0,0)):=cw wr _;rw[<-bw];refine KX _ 158 9 3 5 wr.heap.size 1 4 4 (s.extract t s.size) [v,b1,y,z] underlying158 FP ?_ (λj W=>?_) (λj W=>bz h0 _)
    ·rw[<-bA];simp;rw[List.take_take,pL ak]
    ·match j,W with
     |0,_|1,_|2,_|3,_=>rw[aG h0 (i:=_) rfl];rfl
   have bG:=aT Bq;clear R T O Bq bw
   go_upto_region 5 with fail
   refine eD (S:=λ_=>True) trivial λb9=>?_;refine tk 0 ?_;refine tk 1 ?_;refine tk 2 ?_;refine tk 3 ?_;refine tk 4 ?_;refine rH 5 λK a=>?_
   (refine Fv rfl rfl rfl rfl bG.out ?_;simp)
   refine a.out _ _ (trivial) (λb8=>?_);clear a K;refine dc ?_;obtain⟨c,N⟩:∃c,C++secs off s.data.toList q=c:=⟨_,rfl⟩;have E:Hid (dz f d k db p n (eH B off s.data.toList) D c/\aV (λb=>b=d\/b=k\/aa b=cv.ownBlock) w f/\(p.ownBlock=cv.ownBlock\/∀g,p.ownBlock=aa g->w.heap.size<=g)):=⟨N▸HR.out.1.below bh,HR.out.2.1.trans (.below bh),HR.out.2.2⟩;have ah:Hid (∀x,(f.alloc x).ownsRow 0 274 5 p c.length (c.flatMap dW)):=λx=>E.out.1.cache.alloc x;have Z:Hid (∀u∈dW (off+t,[v,b1,y,z]),u.oneCell'=aq):=Fe rfl
   have cz:c.length+1<=1099511627776:=by have F:=hR.out.1;have M:=HM.out;rw[<-N];simp[secs];omega
   have Y:Hid ((off+t,[v,b1,y,z]).1+4<=n/\(off+t,[v,b1,y,z]).2.length=4):=⟨by show off+t+4<=n;omega,rfl⟩;obtain⟨iS,aL,aM,aP,gh⟩:=aly F6;have bZ:=aO f d 2 p E.out.1.box;have k0:=aO f wr.heap.size 0 (an ((off:Int)+(t:Int))) J;have k1:=aO f wr.heap.size 1 (bW v) J;have k2:=aO f wr.heap.size 2 (bW b1) J;have k3:=aO f wr.heap.size 3 (bW y) J;have k4:=aO f wr.heap.size 4 (bW z) J;have cj:d<f.heap.size:=ak;have bT:=aT N;have HW:=aT bE
   have X:Hid (∀(g l:Nat) (A:az),(dz (A.setCell (aj d 2) (.slice (aa (aj g 0)) (c.length+1) l)) d k db (.slice (aa (aj g 0)) (c.length+1) l) n (eH B off s.data.toList) D (c++[(off+t,[v,b1,y,z])])/\aV (λb=>b=d\/aa b=p.ownBlock) f (A.setCell (aj d 2) (.slice (aa (aj g 0)) (c.length+1) l))/\(p.ownBlock=aa g\/g=f.heap.size+1))->
     (∃t1 q1:Nat,alD eP ((t:Int)+4)=an (t1:Int)/\Hid (t1=4*q1/\q1<=m/\DI w (A.setCell (aj d 2) (.slice (aa (aj g 0)) (c.length+1) l)) d k db n off (eH B off s.data.toList) D C cv s.data.toList q1))/\4*m-(gU (an ((t:Int)+4))).toNat<4*m-(gU (an (t:Int))).toNat):=λg l A P=>by
    have F:=hR.out.1;have M:=HM.out;refine⟨⟨t+4,q+1,by go_num,ak,ak,.slice (aa (aj g 0)) (c.length+1) l,?_,?_,?_⟩,by simp[gU];omega⟩
    ·rw[abu,<-CI,N,<-F,bA];exact P.1
    ·refine⟨P.2.1.os.trans E.out.2.1.os,dm E.out.2.1.size P.2.1.size,λb V hx=>(P.2.1.block b (dy V E.out.2.1.size) (λe=>?_)).trans (E.out.2.1.block b V hx)⟩;rcases e with e|e
     ·exact hx (aF e)
     ·rcases E.out.2.2 with o|o
      ·exact hx (aD (aD (e.trans o)))
      ·have:=o b e.symm;omega
    ·rcases P.2.2 with o|o
     ·rcases E.out.2.2 with o2|o2
      ·exact aF (by rw[<-o2,o];rfl)
      ·refine aD λH e=>?_;have e':g=H:=by simpa[pN]using e
       exact o2 H (by rw[o,e'])
     ·refine aD λH e=>?_;have e':g=H:=by simpa[pN]using e
      have:=E.out.2.1.size;omega
   clear J bh bE N
   go_upto_region 6 with fail
   refine eD (S:=λ_=>True) trivial λA7=>?_;refine tk 0 ?_;refine tk 1 ?_;refine tk 2 ?_;refine tk 3 ?_;refine aH [4,5] (.cons rfl (λK a=>?_) ?_)
   ·go_simp;refine a.out _ _ (trivial) (λhA=>?_);clear a K;refine rH 5 λK a=>?_;go_simp;refine a.out _ _ (trivial) (λhB=>?_);clear a K;refine rH 6 λK a=>?_;go_simp;refine a.out _ _ (trivial) (λhC=>?_);clear a K;refine rH 7 λK a=>?_
    (refine Np _ (by rfl) _ _ 159 (by rfl) 0 274 iS _ 5 16 underlying159 aL aM aP gh (by rfl) ak p c.length (c.flatMap dW) (by rfl) (ah.out _) ⟨f.heap.size,0,ay⟩ 1 1 (dW (off+t,[v,b1,y,z])) (by rfl) (by rfl) (Dg (cw f _)) (Z.out) ak (by unfold cY;omega) ak aC (f.heap.size+1) aC ?_;intro g l A I Q G bB;obtain⟨f1,f2,f3,f4⟩:=Lb E.out.1 I Q rfl rfl G rfl Y.out;have L:Hid (dz (A.setCell (aj d 2) (.slice (aa (aj g 0)) (c.length+1) l)) d k db (.slice (aa (aj g 0)) (c.length+1) l) n (eH B off s.data.toList) D (c++[(off+t,[v,b1,y,z])])/\aV (λb=>b=d\/aa b=p.ownBlock) f (A.setCell (aj d 2) (.slice (aa (aj g 0)) (c.length+1) l))/\(p.ownBlock=aa g\/g=f.heap.size+1)):=⟨f3,f4,G⟩;clear f3 f4 I G)
    refine a.out _ _ (trivial) (λhG=>?_);clear a K;refine tk 8 ?_;refine tk 9 ?_;refine rH 10 λK a=>?_;go_simp;refine a.out _ _ (trivial) (λhH=>?_);clear a K;refine dc ?_;go_wp2;exact X.out g l A L.out
   refine .cons rfl (λK a=>?_) .nil;go_simp;refine a.out _ _ (trivial) (λhA=>?_);clear a K;refine aH [4,6] (.cons rfl (λK a=>?_) ?_)
   ·go_simp;refine a.out _ _ (trivial) (λhB=>?_);clear a K;refine rH 6 λK a=>?_;go_simp;refine a.out _ _ (trivial) (λhC=>?_);clear a K;refine rH 7 λK a=>?_
    (refine Np _ (by rfl) _ _ 159 (by rfl) 0 274 iS _ 5 16 underlying159 aL aM aP gh (by rfl) ak p c.length (c.flatMap dW) (by rfl) (ah.out _) ⟨f.heap.size,0,ay⟩ 1 1 (dW (off+t,[v,b1,y,z])) (by rfl) (by rfl) (Dg (cw f _)) (Z.out) ak (by unfold cY;omega) ak aC (f.heap.size+1) aC ?_;intro g l A I Q G bB;obtain⟨f1,f2,f3,f4⟩:=Lb E.out.1 I Q rfl rfl G rfl Y.out;have L:Hid (dz (A.setCell (aj d 2) (.slice (aa (aj g 0)) (c.length+1) l)) d k db (.slice (aa (aj g 0)) (c.length+1) l) n (eH B off s.data.toList) D (c++[(off+t,[v,b1,y,z])])/\aV (λb=>b=d\/aa b=p.ownBlock) f (A.setCell (aj d 2) (.slice (aa (aj g 0)) (c.length+1) l))/\(p.ownBlock=aa g\/g=f.heap.size+1)):=⟨f3,f4,G⟩;clear f3 f4 I G)
    refine a.out _ _ (trivial) (λhG=>?_);clear a K;refine tk 8 ?_;refine tk 9 ?_;refine rH 10 λK a=>?_;go_simp;refine a.out _ _ (trivial) (λhH=>?_);clear a K;refine dc ?_;go_wp2;exact X.out g l A L.out
   refine .cons rfl (λK a=>?_) .nil;go_simp;refine a.out _ _ (trivial) (λhB=>?_);clear a K;refine rH 4 λK a=>?_;go_simp;refine a.out _ _ (trivial) (λhC=>?_);clear a K;refine rH 7 λK a=>?_
   (refine Np _ (by rfl) _ _ 159 (by rfl) 0 274 iS _ 5 16 underlying159 aL aM aP gh (by rfl) ak p c.length (c.flatMap dW) (by rfl) (ah.out _) ⟨f.heap.size,0,ay⟩ 1 1 (dW (off+t,[v,b1,y,z])) (by rfl) (by rfl) (Dg (cw f _)) (Z.out) ak (by unfold cY;omega) ak aC (f.heap.size+1) aC ?_;intro g l A I Q G bB;obtain⟨f1,f2,f3,f4⟩:=Lb E.out.1 I Q rfl rfl G rfl Y.out;have L:Hid (dz (A.setCell (aj d 2) (.slice (aa (aj g 0)) (c.length+1) l)) d k db (.slice (aa (aj g 0)) (c.length+1) l) n (eH B off s.data.toList) D (c++[(off+t,[v,b1,y,z])])/\aV (λb=>b=d\/aa b=p.ownBlock) f (A.setCell (aj d 2) (.slice (aa (aj g 0)) (c.length+1) l))/\(p.ownBlock=aa g\/g=f.heap.size+1)):=⟨f3,f4,G⟩;clear f3 f4 I G)
   refine a.out _ _ (trivial) (λhG=>?_);clear a K;refine tk 8 ?_;refine tk 9 ?_;refine rH 10 λK a=>?_;go_simp;refine a.out _ _ (trivial) (λhH=>?_);clear a K;refine dc ?_;go_wp2;exact X.out g l A L.out
  ·have h4:¬(t:Int)<(s.size:Int):=ak;go_wp2;have bP:q=m:=by have:=hR.out;have:=HM.out;omega
   exact eO rfl rfl ⟨rfl,bP▸hR.out.2.2⟩
def H7(db n o)(c b1 d f:UInt8)(D w)(h:oH w db D)(J:D.size=n)(H:o+4<=n)(F:n<=65536):
  Calls prog 224 #[.agg (eE o c b1 d f),.slice (aa (aj db 0)) n n] w λe k=>e=aN (.tuple #[])/\oH k db (eH D o [c,b1,d,f])/\aV (·=db) w k:=by
 have z:db<w.heap.size:=(bp.1 h).1;have m:(w.alloc (aA (eE o c b1 d f) 274)).heap[w.heap.size]? =aa (aA (eE o c b1 d f) 274 (0,0)):=cw w _;have g:(w.alloc (aA (eE o c b1 d f) 274)).drew.heap[db]? =aa (aA (D.map bW) 5 (0,0)):=(Below.heap_alloc w _ db z).trans h;have s:=aO (w.alloc (aA (eE o c b1 d f) 274)) w.heap.size 0 (an (o:Int)) m;have G:¬n=o:=ak;have I:(o:Int)<=(n:Int):=ak
 have u:Hid ((sM #[158,158] 3 #[.slice (aa (aj db o)) (n-o) (n-o),.slice (aa (aj w.heap.size 1)) 4 4]).run prog (w.alloc (aA (eE o c b1 d f) 274)).drew=.ok (goInt 4) ((w.alloc (aA (eE o c b1 d f) 274)).drew.setCells db o ([c,b1,d,f].map bW))):=by
  refine run_copy_cells (P:=prog) _ 158 158 3 5 db o (n-o) (n-o) ⟨w.heap.size,1,ay⟩ 4 4 ([c,b1,d,f].map bW) underlying158 aS ?_ ?_ ?_ ?_ (RN _)
  ·show 4=Nat.min 4 (n-o);exact(pL ak).symm
  ·intro j v i;rw[Me]
   match j with
   |0|1|2|3=>exact(aG m rfl).trans i
   |j+4=>simp at i
  ·intro j i;have E:j<4:=i;rw[aG g (cL bY)];rfl
  ·exact λj i=>bz g _
 have p:Hid (oH ((w.alloc (aA (eE o c b1 d f) 274)).drew.setCells db o ([c,b1,d,f].map bW)) db (eH D o [c,b1,d,f])/\aV (·=db) w ((w.alloc (aA (eE o c b1 d f) 274)).drew.setCells db o ([c,b1,d,f].map bW))):=by obtain⟨a1,l,a3,q⟩:=zy [c,b1,d,f] o (w.alloc (aA (eE o c b1 d f) 274)).drew D g;exact⟨a1,q,by rw[a3];simp,λb y A=>(l b A).trans (Below.heap_alloc w _ b y)⟩
 have t:((w.alloc (aA (eE o c b1 d f) 274)).drew.setCells db o ([c,b1,d,f].map bW)).cell? (aj w.heap.size 0)=aa (an (o:Int)):=by obtain⟨a1,l,a3,q⟩:=zy [c,b1,d,f] o (w.alloc (aA (eE o c b1 d f) 274)).drew D g;exact(fX (a:=aj w.heap.size 0) (l w.heap.size ak)).trans s
 have x:=aT t;clear h m g t;go_enter func224,ntmps224
 go_upto_region 1 with fail
 refine eD (S:=λk=>k.cell? (aj w.heap.size 0)=aa (an (o:Int))) s λC=>?_;refine tk 0 ?_;refine tk 1 ?_;refine tk 2 ?_;refine tk 3 ?_;refine tk 4 ?_;refine tk 5 ?_;refine rH 6 λK r=>?_
 (refine Fv rfl rfl rfl rfl u.out ?_;simp)
 refine r.out _ _ x.out (λB=>?_);clear r K;refine dc ?_;go_wp2;exact eO rfl rfl ⟨rfl,p.out.1,p.out.2⟩
def oX(D:aK UInt8)(C:aB (Nat×aB UInt8)):aK UInt8:=C.foldl (λD c=>eH D c.1 c.2) D
def Ra(D):∀(C:aB (Nat×aB UInt8)),(oX D C).size=D.size:=by
 intro C;induction C generalizing D with
 |nil=>rfl
 |cons c C a=>exact(a (eH D c.1 c.2)).trans (zq _ _ _)
def G7(D)(C:aB (Nat×aB UInt8))(c:Nat×aB UInt8):oX D (C++[c])=eH (oX D C) c.1 c.2:=by simp[oX]
def SJ{w:az}{g:Nat}{k:aK aE}{C:aB (Nat×aB UInt8)}(f:w.heap[g]? =aa (aA k 274 (0,0)))(p:k.toList.take (C.length*5)=C.flatMap dW){i:Nat}{o:Nat}{a b1 b d:UInt8}(m:C[i]? =aa (o,[a,b1,b,d]))(hf:∀c∈C,c.2.length=4):
  w.cell? (aj g (i*5))=aa (an (o:Int))/\w.cell? (aj g (i*5+1))=aa (bW a)/\w.cell? (aj g (i*5+2))=aa (bW b1)/\w.cell? (aj g (i*5+3))=aa (bW b)/\w.cell? (aj g (i*5+4))=aa (bW d):=by
 have key:∀(C:aB (Nat×aB UInt8)) (i:Nat),(∀c∈C,c.2.length=4)->C[i]? =aa (o,[a,b1,b,d])->∀j,j<5->(C.flatMap dW)[i*5+j]? =(dW (o,[a,b1,b,d]))[j]? :=by
  intro C;induction C with
  |nil=>intro i _ h;simp at h
  |cons c C q=>
   intro i hf h j l;have n:(dW c).length=5:=by simp[dW,hf c (gG ..)]
   rw[wC];cases i with
   |zero=>
    have e:c=(o,[a,b1,b,d]):=by simpa using h
    rw[ym ak,rN,fU,e]
   |succ i=>
    rw[qz ak,n,show(i+1) *5+j-5=i*5+j by omega];exact q i (λc h=>hf c (jG _ h)) (by simpa using h) j l
 have r:i<C.length:=(eL.1 m).1
 have cell:∀j,j<5->k[i*5+j]? =(dW (o,[a,b1,b,d]))[j]? :=λj l=>by rw[<-key C i hf m j l,<-p,mK,aX ak,lC]
 exact⟨aG f (cell 0 ak),aG f (cell 1 ak),aG f (cell 2 ak),aG f (cell 3 ak),aG f (cell 4 ak)⟩
def Dv(w W:az)(d b a:Nat)(cv:aE)(n:Nat)(B D:aK UInt8)(C:aB (Nat×aB UInt8))(i:Nat):Prop:=
 dz W d b a cv n B (oX D (C.take i)) C/\aV (·=a) w W
def Zk(d bb db n cv B D)(C:aB (Nat×aB UInt8))(w)(h:dz w d bb db cv n B D C)(hC:C.length<=1099511627776):
  Calls prog 197 #[jp d] w λe p=>e=aN (.tuple #[])/\dz p d bb db (.slice ay 0 0) n B (oX D C) []/\aV (λb=>b=d\/b=db) w p:=by
 have X:Hid (Dv w w d bb db cv n B D C 0):=⟨h,aV.refl _ _⟩;obtain⟨A,u,rfl⟩:=jS h.cache;have c2:=aO w d 2 (.slice A C.length u) h.box;have hd:d<w.heap.size:=(bp.1 h.box).1;clear h;go_enter func197,ntmps197;go_wp2
 go_loopw [9] (λH wr=>∃i:Nat,i<=C.length/\H=an (i:Int)/\Hid (Dv w wr d bb db (.slice A C.length u) n B D C i)) (λH _=>C.length-(gU H).toNat)
 case atStart=>exact⟨0,eo _,rfl,X⟩
 case round=>
  obtain⟨i,hi,rfl,hR⟩:=hrel
  by_cases bh:i<C.length
  ·have F:(i:Int)<(C.length:Int):=ak;obtain⟨c,z⟩:∃c,C[i]? =aa c:=⟨C[i],ef bh⟩;obtain⟨aI,f4⟩:=hR.out.1.fits c (gS z);obtain⟨o,J⟩:=c
   obtain⟨f,b1,j,l,rfl⟩:∃f b1 j l:UInt8,J=[f,b1,j,l]:=by
    match J,f4 with
    |[f,b1,j,l],_=>exact⟨f,b1,j,l,rfl⟩
   obtain⟨g,v,rfl,Q,U⟩:∃g v,A=aa ⟨g,0,ay⟩/\wr.heap[g]? =aa (aA v 274 (0,0))/\v.toList.take (C.length*5)=C.flatMap dW:=by
    rcases hR.out.1.cache.2 with⟨q,m⟩|⟨g,L,v,q,_,m,_,_,_,r⟩
    ·omega
    ·cases q;exact⟨g,v,rfl,m,r⟩
   obtain⟨k0,k1,k2,k3,k4⟩:=SJ Q U z (λc h=>(hR.out.1.fits c h).2);have c1:=aO wr d 1 (.slice (aa (aj db 0)) n n) hR.out.1.box;have aS:d<wr.heap.size:=(bp.1 hR.out.1.box).1;have P:d≠db:=fL hR.out.1.box hR.out.1.fM aC;have bD:db<wr.heap.size:=(bp.1 hR.out.1.fM).1;have M:(wr.alloc (aA (eE o f b1 j l) 274)).heap[wr.heap.size]? =aa (aA (eE o f b1 j l) 274 (0,0)):=cw wr _;have t:aL wr (wr.alloc (aA (eE o f b1 j l) 274)):=bf
   have I:Hid (∀W,aV (·=db) (wr.alloc (aA (eE o f b1 j l) 274)) W->W.cell? (aj d 1)=aa (.slice (aa (aj db 0)) n n)/\W.cell? (aj wr.heap.size 0)=aa (an (o:Int))/\W.cell? (aj wr.heap.size 1)=aa (bW f)/\W.cell? (aj wr.heap.size 2)=aa (bW b1)/\W.cell? (aj wr.heap.size 3)=aa (bW j)/\W.cell? (aj wr.heap.size 4)=aa (bW l)):=λW O=>by have e1:W.heap[d]? =wr.heap[d]? :=(O.block d bY P).trans (Below.heap_alloc wr _ d aS);have y:W.heap[wr.heap.size]? =aa (aA (eE o f b1 j l) 274 (0,0)):=(O.block wr.heap.size aC ak).trans M;exact⟨(fX (a:=aj d 1) e1).trans c1,aG y rfl,aG y rfl,aG y rfl,aG y rfl,aG y rfl⟩
   have Z:Hid (∀k,Calls prog 224 #[.agg (eE o f b1 j l),.slice (aa (aj db 0)) n n] ((wr.alloc (aA (eE o f b1 j l) 274)).drewN k) λe p=>e=aN (.tuple #[])/\aV (·=db) (wr.alloc (aA (eE o f b1 j l) 274)) p/\Dv w p d bb db (.slice (aa (aj g 0)) C.length u) n B D C (i+1)):=λk=>by
    have R:=hR.out.1.below t;refine(H7 db n o f b1 j l (oX D (C.take i)) _ (show oH ((wr.alloc (aA (eE o f b1 j l) 274)).drewN k) db _ from R.fM) R.sizes.2 aI R.small).mono ?_;rintro e p ⟨rfl,q,m⟩;have E:aV (·=db) (wr.alloc (aA (eE o f b1 j l) 274)) p:=⟨m.os,m.size,m.block⟩;have old:∀{b:Nat} {x:Obj},(wr.alloc (aA (eE o f b1 j l) 274)).heap[b]? =aa x->b≠db->p.heap[b]? =aa x:=λs bk=>(E.block _ (bp.1 s).1 bk).trans s;refine⟨rfl,E,⟨old R.box P,old R.bytes R.apart,?_,⟨R.cache.1,?_⟩,⟨R.sizes.1,by rw[Ra];have:=R.sizes.2;rw[Ra]at this;exact this⟩,R.fits,R.apart,R.small⟩,(hR.out.2.trans ⟨t.os,t.size,λb s _=>t.block b s⟩).trans E⟩
    ·rw[Vg,z];show oH p db (oX D (C.take i++[(o,[f,b1,j,l])]));rw[G7];exact q
    ·rcases R.cache.2 with r|⟨g',L,ah,r,F,h5,h6⟩
     ·exact aF r
     ·exact aD ⟨g',L,ah,r,F,old h5 (λe=>R.cA R.fM bJ (by rw[r,<-e];rfl)),h6⟩
   have s0:=I.out _ (aV.refl _ _);clear Q U M t
   go_upto_region 3 with fail
   refine eD (S:=λW=>W.cell? (aj d 1)=aa (.slice (aa (aj db 0)) n n)/\W.cell? (aj wr.heap.size 0)=aa (an (o:Int))/\W.cell? (aj wr.heap.size 1)=aa (bW f)/\W.cell? (aj wr.heap.size 2)=aa (bW b1)/\W.cell? (aj wr.heap.size 3)=aa (bW j)/\W.cell? (aj wr.heap.size 4)=aa (bW l)) s0 λbA=>?_;refine tk 0 ?_;refine tk 1 ?_;refine tk 2 ?_;refine tk 3 ?_;refine tk 4 ?_;refine rH 5 λK N=>?_;go_simp;go_at_call 224;refine(Z.out 1).mono ?_;rintro e w5 ⟨rfl,q,m⟩;have Y:=aT m;refine N.out _ _ (I.out _ q) (λhH=>?_);clear N K m;refine dc ?_;go_wp2;refine⟨⟨i+1,ak,by go_num,Y⟩,?_⟩;simp[gU];omega
  ·have F:¬(i:Int)<(C.length:Int):=ak;have bg:i=C.length:=ak
   have G:Hid (dz wr d bb db (.slice A C.length u) n B (oX D C) C/\aV (·=db) w wr):=by have:=hR.out;rw[bg]at this;unfold Dv at this;rw[uy]at this;exact this
   have bq:=aO wr d 2 (.slice A C.length u) G.out.1.box;have bt:wr.frozen? (aj d 2)=av:=bz G.out.1.box _;go_wp2;obtain⟨R,T⟩:=G.out;have m:=cz R.box 2 (.slice ay 0 0);have xq:bb≠d:=fL R.bytes R.box aC;have aR:db≠d:=fL R.fM R.box aC;exact eO rfl rfl ⟨rfl,⟨m,(bH xq).trans R.bytes,(bH aR).trans R.fM,tD _ _ _ _,R.sizes,λc z=>(by cases z),R.apart,R.small⟩,⟨T.os,by simpa using T.size,λb s V=>(bH (λe=>V (aF e))).trans (T.block b s λe=>V (aD e))⟩⟩
def jA(off a:Nat)(c:Nat×aB UInt8):Bool:=decide (off<=c.1)&&decide (c.1<a)
structure tI(w:az)(c a off b:Nat):Prop where
 from_:w.cell? (aj c 0)=aa (an (off:Int))
 till:w.cell? (aj a 0)=aa (an (b:Int))
def tI.below{w w' ob eb off en}(h:tI w ob eb off en)(a:aL w w'):tI w' ob eb off en:=
 ⟨(fX (a.block ob (gH h.from_))).trans h.from_,(fX (a.block eb (gH h.till))).trans h.till⟩
def Qv(c b off a o:Nat)(d b1 e f:UInt8)(w:az)(h:tI w c b off a):
  bO 235 #[.agg (eE o d b1 e f),jp c,jp b] w (.bool (jA off a (o,[d,b1,e,f]))):=by
 have k:=gH h.from_;have l:=gH h.till;obtain⟨p,q⟩:=h;have r:c≠w.heap.size:=by have:c<w.heap.size:=k;omega
 have s:b≠w.heap.size:=by have:b<w.heap.size:=l;omega
 have key:∀x:Bool,jA off a (o,[d,b1,e,f])=x->bO 235 #[.agg (eE o d b1 e f),jp c,jp b] w (.bool x):=by
  intro x g
  by_cases i:off<=o
  ·have m:(off:Int)<=(o:Int):=ak
   by_cases j:o<a
   ·have n:(o:Int)<(a:Int):=ak;have:x=aq:=by rw[<-g];simp[jA,i,j]
    subst this;go_enter func235,ntmps235;go_wp2;go_ret;exact⟨rfl,bf⟩
   ·have n:¬(o:Int)<(a:Int):=ak;have:x=av:=by rw[<-g];simp[jA,i,j]
    subst this;go_enter func235,ntmps235;go_wp2;go_ret;exact⟨rfl,bf⟩
  ·have m:¬(off:Int)<=(o:Int):=ak;have:x=av:=by rw[<-g];simp[jA,i]
   subst this;go_enter func235,ntmps235;go_wp2;go_ret;exact⟨rfl,bf⟩
 exact key _ rfl
abbrev JC(b a:Nat):aE:=.func (.func 235) #[] #[jp b,jp a]
def abr{w:az}{g cap n:Nat}{C:aB (Nat×aB UInt8)}(h:w.ownsRow 0 274 5 (.slice (aa (aj g 0)) C.length cap) C.length (C.flatMap dW))(hf:∀c∈C,c.1+4<=n/\c.2.length=4){i:Nat}(m:i<C.length):
  ∃o a b1 b d,C[i]? =aa (o,[a,b1,b,d])/\w.cell? (aj g (i*5))=aa (an ((o:Nat):Int))/\w.cell? (aj g (i*5+1))=aa (bW a)/\w.cell? (aj g (i*5+2))=aa (bW b1)/\w.cell? (aj g (i*5+3))=aa (bW b)/\w.cell? (aj g (i*5+4))=aa (bW d):=by
 obtain⟨c,f⟩:∃c,C[i]? =aa c:=⟨C[i],ef m⟩;obtain⟨r,f4⟩:=hf c (gS f);obtain⟨o,j⟩:=c
 obtain⟨a,b1,b,d,rfl⟩:∃a b1 b d:UInt8,j=[a,b1,b,d]:=by
  match j,f4 with
  |[a,b1,b,d],_=>exact⟨a,b1,b,d,rfl⟩
 rcases h.2 with⟨e,k⟩|⟨s,p,q,e,_,k,_,_,_,l⟩
 ·cases e
 ·cases e;exact⟨o,a,b1,b,d,f,SJ k l f (λc h=>(hf c h).2)⟩
def E8(q cap ob eb off en n)(C:aB (Nat×aB UInt8))(w)(h:w.ownsRow 0 274 5 (.slice q C.length cap) C.length (C.flatMap dW))(hf:∀c∈C,c.1+4<=n/\c.2.length=4)(B:tI w ob eb off en)(K:C.length<=1099511627776):
  Calls prog 262 #[.slice q C.length cap,JC ob eb] w λe r=>aL w r/\((e=aN (an (-1))/\∀c∈C,jA off en c=av)\/∃i,e=aN (an ((i:Nat):Int))/\i<C.length/\(∀j c,j<i->C[j]? =aa c->jA off en c=av)/\∃c,C[i]? =aa c/\jA off en c=aq):=by
 have s:Hid (w.ownsRow 0 274 5 (.slice q C.length cap) C.length (C.flatMap dW)/\tI w ob eb off en):=⟨h,B⟩;go_enter func262,ntmps262;go_wp2
 go_loopw [8] (λv wr=>∃i:Nat,i<=C.length/\v=an (i:Int)/\Hid (aL w wr/\∀j c,j<i->C[j]? =aa c->jA off en c=av)) (λv _=>C.length-(gU v).toNat)
 case atStart=>exact⟨0,eo _,rfl,Below.refl _ _,λj c p=>by omega⟩
 case round=>
  obtain⟨i,L,rfl,hR⟩:=hrel
  by_cases z:i<C.length
  ·have A:(i:Int)<(C.length:Int):=ak
   obtain⟨g,rfl⟩:∃g,q=aa ⟨g,0,ay⟩:=by
    rcases s.out.1.2 with⟨x,J⟩|⟨g,H,I,x,_⟩
    ·omega
    ·cases x;exact⟨g,rfl⟩
   obtain⟨o,f,b1,k,l,y,N,O,P,Q,R⟩:=abr (vN s.out.1 hR.out.1) hf z
   have d:Hid (Calls prog 235 #[.agg (eE o f b1 k l),jp ob,jp eb] wr λe r=>e=aN (.bool (jA off en (o,[f,b1,k,l])))/\aL w r):=by refine(Qv ob eb off en o f b1 k l wr (s.out.2.below hR.out.1)).mono ?_;rintro e r ⟨rfl,E⟩;exact⟨rfl,hR.out.1.trans (E.mono hR.out.1.size)⟩
   cases m:jA off en (o,[f,b1,k,l])with
   |true=>
    rw[m]at d;go_wp2_with (go_at_call 235;refine d.out.mono ?_;rintro e G ⟨rfl,t⟩);go_ret;exact⟨t,aD ⟨i,rfl,z,hR.out.2,_,y,m⟩⟩
   |false=>
    rw[m]at d;go_wp2_with (go_at_call 235;refine d.out.mono ?_;rintro e G ⟨rfl,t⟩);refine⟨⟨i+1,ak,by go_num,t,λj c p u=>?_⟩,?_⟩
    ·by_cases e:j=i
     ·subst e;rw[y]at u;cases u;exact m
     ·exact hR.out.2 j c ak u
    ·simp[gU];omega
  ·have A:¬(i:Int)<(C.length:Int):=ak
   have F:∀a b,(a,b)∈C->jA off en (a,b)=av:=λa b D=>by obtain⟨j,p⟩:=oq.1 D;have M:=(eL.1 p).1;exact hR.out.2 j _ ak p
   go_wp2;go_ret;exact⟨hR.out.1,aF ⟨rfl,F⟩⟩
abbrev stay(off a:Nat)(C:aB (Nat×aB UInt8)):aB (Nat×aB UInt8):=C.filter λc=>!jA off a c
structure lG(w W:az)(g cap off b:Nat)(C:aB (Nat×aB UInt8))(i j:Nat):Prop where
 row:∃a,W.heap[g]? =aa (aA a 274 (0,0))/\a.size=cap*5/\(∀x,x<i*5->a[x]? =((stay off b (C.take j)).flatMap dW)[x]?)/\∀x,j*5<=x->x<C.length*5->a[x]? =(C.flatMap dW)[x]?
 many:i=(stay off b (C.take j)).length
 lt:i<j
 le:j<=C.length
 cD:aV (·=g) w W
def LC(off en)(C:aB (Nat×aB UInt8)){j c}(h:C[j]? =aa c):stay off en (C.take (j+1))=stay off en (C.take j)++(if jA off en c=aq then[]else[c]):=by
 unfold stay;rw[Vg,h,Option.toList_some,List.filter_append]
 congr 1
 cases a:jA off en c<;>simp[a]
def zg{C:aB (Nat×aB UInt8)}(hf:∀c∈C,c.2.length=4):(C.flatMap dW).length=C.length*5:=by
 induction C with
 |nil=>rfl
 |cons c C b=>
  have a:=b λc h=>hf c (jG _ h);rw[wC,gR,a];simp[dW,(hf c (gG ..))];omega
def lG.pass{w W W' g cap off en i j C c}(h:lG w W g cap off en C i j)(hc:C[j]? =aa c)(o:jA off en c=aq)(a:aL W W'):lG w W' g cap off en C i (j+1):=by
 obtain⟨d,f,k,l,m⟩:=h.row;have e:stay off en (C.take (j+1))=stay off en (C.take j):=by rw[LC off en C hc,aX o,yl]
 exact⟨⟨d,bV a f,k,by rw[e];exact l,λx q p=>m x ak p⟩,by rw[e];exact h.many,Da h.lt,(eL.1 hc).1,h.cD.trans ⟨a.os,a.size,λb n _=>a.block b n⟩⟩
def lG.keep{w W W' g cap off en i j o}{a b1 d f:UInt8}{C:aB (Nat×aB UInt8)}(h:lG w W g cap off en C i j)(J:C.length<=cap)(hf:∀c∈C,c.2.length=4)(hc:C[j]? =aa (o,[a,b1,d,f]))(D:jA off en (o,[a,b1,d,f])=av)(k:aL W W'):
  lG w (W'.setCells g (i*5) (dW (o,[a,b1,d,f]))) g cap off en C (i+1) (j+1):=by
 obtain⟨r,y,I,z,A⟩:=h.row;have K:j<C.length:=(eL.1 hc).1;have e:stay off en (C.take (j+1))=stay off en (C.take j)++[(o,[a,b1,d,f])]:=by rw[LC off en C hc,aQ (by rw[D];simp)]
 have N:=h.lt;have M:(j+1) *5<=cap*5:=yz 5 ak;obtain⟨q,s,G,m,t,u,H,v⟩:=rq (dW (o,[a,b1,d,f])) (i*5) W' r (bV k y);have L:(dW (o,[a,b1,d,f])).length=5:=rfl
 have E:((stay off en (C.take j)).flatMap dW).length=i*5:=by rw[zg (λc hc=>hf c (pH (wF.1 hc).1)),h.many]
 refine⟨⟨q,s,ak,λx l=>?_,λx l F=>?_⟩,by rw[e,gR,<-h.many];rfl,ak,ak,h.cD.trans ⟨v.trans k.os,by have:=k.size;omega,λb B l=>(u b l).trans (k.block b B)⟩⟩
 ·rw[e,rC]
  by_cases p:x<i*5
  ·rw[m x (aF p),ym ak];exact z x p
  ·rw[qz ak,E];have:([(o,[a,b1,d,f])].flatMap dW)=dW (o,[a,b1,d,f]):=aC;rw[this];have n:x-i*5<(dW (o,[a,b1,d,f])).length:=ak;have:=t (x-i*5) _ (ef n) ak;rw[show i*5+(x-i*5)=x by omega]at this;rw[this,ef n]
 ·rw[m x (aD ak)];exact A x ak F
def lG.cells{w W}{g cap off q i j n:Nat}{C:aB (Nat×aB UInt8)}(h:lG w W g cap off q C i j)(z:C.length<=cap)(hf:∀c∈C,c.1+4<=n/\c.2.length=4)(m:j<C.length):
  ∃o a b1 b d,C[j]? =aa (o,[a,b1,b,d])/\W.cell? (aj g (j*5))=aa (an ((o:Nat):Int))/\W.cell? (aj g (j*5+1))=aa (bW a)/\W.cell? (aj g (j*5+2))=aa (bW b1)/\W.cell? (aj g (j*5+3))=aa (bW b)/\W.cell? (aj g (j*5+4))=aa (bW d):=by
 obtain⟨p,e,x,y,r⟩:=h.row;obtain⟨c,f⟩:∃c,C[j]? =aa c:=⟨C[j],ef m⟩;obtain⟨v,f4⟩:=hf c (gS f);obtain⟨o,l⟩:=c
 obtain⟨a,b1,b,d,rfl⟩:∃a b1 b d:UInt8,l=[a,b1,b,d]:=by
  match l,f4 with
  |[a,b1,b,d],_=>exact⟨a,b1,b,d,rfl⟩
 have A:=zg (C:=C) (λc h=>(hf c h).2)
 have key:∀k,k<5->p[j*5+k]? =(dW (o,[a,b1,b,d]))[k]? :=λk t=>by
  rw[r (j*5+k) ak ak]
  have s:C=C.take j++(o,[a,b1,b,d])::C.drop (j+1):=by have:=pK j C;rw[An m]at this;rw[(eL.1 f).2]at this;exact this.symm
  have u:((C.take j).flatMap dW).length=j*5:=by rw[zg (λc h=>(hf c (pH h)).2),rF,pL ak]
  rw[s,rC,wC,qz ak,u,uz,ym (by show k<5;exact t)]
 exact⟨o,a,b1,b,d,f,aG e (key 0 ak),aG e (key 1 ak),aG e (key 2 ak),aG e (key 3 ak),aG e (key 4 ak)⟩
def lG.room{w W g cap off en i j C}(h:lG w W g cap off en C i j)(f:C.length<=cap):∃a,W.heap[g]? =aa (aA a 274 (0,0))/\a.size=cap*5/\i*5+5<=a.size:=by obtain⟨a,b,c,_⟩:=h.row;have d:=h.lt;have e:=h.le;have:(i+1) *5<=cap*5:=yz 5 ak;exact⟨a,b,c,ak⟩
def lG.first {w W g cap off en i n}{C:aB (Nat×aB UInt8)}(h:w.ownsRow 0 274 5 (.slice (aa (aj g 0)) C.length cap) C.length (C.flatMap dW))(hf:∀c∈C,c.1+4<=n/\c.2.length=4)(d:aL w W)(E:i<C.length)(v:∀j c,j<i->C[j]? =aa c->jA off en c=av){c:Nat×aB UInt8}(hc:C[i]? =aa c)(t:jA off en c=aq):lG w W g cap off en C i (i+1):=by
 have e:stay off en (C.take i)=C.take i:=by
  refine GY.2 λx a=>?_;obtain⟨j,f⟩:=oq.1 a;rw[mK]at f;split at f
  ·rename_i u;rw[v j x u f];rfl
  ·cases f
 have m:stay off en (C.take (i+1))=C.take i:=by rw[LC off en C hc,aX t,yl,e]
 rcases h.2 with⟨k,o⟩|⟨z,y,l,k,_,o,A,B,p,q⟩
 ·cases k
 ·cases k;have D:=zg (C:=C) (λc h=>(hf c h).2)
  have cell:∀x,x<C.length*5->l[x]? =(C.flatMap dW)[x]? :=λx a=>by rw[<-q,mK,aX a,lC]
  refine⟨⟨l,bV d o,p,λx a=>?_,λx _ a=>cell x a⟩,by rw[m,rF,pL ak],ak,ak,⟨d.os,d.size,λb r _=>d.block b r⟩⟩;rw[m,cell x ak];have s:C.flatMap dW=(C.take i).flatMap dW++(C.drop i).flatMap dW:=by rw[<-rC,pK]
  have F:((C.take i).flatMap dW).length=i*5:=by rw[zg (λc h=>(hf c (pH h)).2),rF,pL ak]
  rw[s,ym ak]
abbrev vQ:aE:=.agg #[an 0,.int .u8 0,.int .u8 0,.int .u8 0,.int .u8 0]
def SI:vQ.cells=#[an 0,.int .u8 0,.int .u8 0,.int .u8 0,.int .u8 0]:=aS
def abp(m):∀u∈(mH vQ.cells m).toList,u.oneCell'=aq:=λu a=>by
 rw[SI]at a;simp only[mH,Cq,jH]at a;obtain⟨k,_,rfl⟩:=a;have b:k %5<5:=yy _ ak;generalize k %5=q at b
 match q,b with
 |0,_|1,_|2,_|3,_|4,_=>rfl
def abo(m):(mH vQ.cells m).toList.length=m*5:=by rw[wm,size_zeroCells,SI];rfl
def lG.over{w W g cap off en i n C}(h:lG w W g cap off en C i C.length)(z:C.length<=cap)(q:cap<=cY)(hf:∀c∈C,c.1+4<=n/\c.2.length=4)(zs):
  (W.setCells g (i*5) zs).ownsRow 0 274 5 (.slice (aa (aj g 0)) i cap) (stay off en C).length ((stay off en C).flatMap dW)/\aV (·=g) w (W.setCells g (i*5) zs):=by
 obtain⟨f,o,v,d,y⟩:=h.row;have hm:=h.many;rw[uy]at hm d;obtain⟨e,j,s,k,t,l,u,m⟩:=rq zs (i*5) W f o;have B:=h.lt
 have r:((stay off en C).flatMap dW).length=i*5:=by rw[zg (λc p=>(hf c (wF.1 p).1).2),hm]
 have A:=yz 5 ak;refine⟨⟨by rw[r,<-hm],aD ⟨g,cap,e,by rw[<-hm],eo _,j,ak,q,ak,?_⟩⟩,h.cD.trans ⟨m,ak,λb _ a=>l b a⟩⟩;rw[<-hm];refine wB λx=>?_;rw[mK];split
 ·rename_i a;rw[lC,k x (aF a),d x a]
 ·exact(yp ak).symm
def Yb(r cap ob eb off en n)(C:aB (Nat×aB UInt8))(w)(h:w.ownsRow 0 274 5 (.slice r C.length cap) C.length (C.flatMap dW))(hf:∀c∈C,c.1+4<=n/\c.2.length=4)(I:tI w ob eb off en)(hC:C.length<=1099511627776)(aR:∀g,r=aa ⟨g,0,ay⟩->ob≠g/\eb≠g):
  Calls prog 234 #[.slice r C.length cap,JC ob eb] w λe S=>∃M,e=aN M/\S.ownsRow 0 274 5 M (stay off en C).length ((stay off en C).flatMap dW)/\aV (λb=>aa b=(ff r C.length cap).ownBlock) w S/\M.ownBlock=(ff r C.length cap).ownBlock:=by
 have q:Hid (w.ownsRow 0 274 5 (.slice r C.length cap) C.length (C.flatMap dW)/\tI w ob eb off en):=⟨h,I⟩;have N:=E8 r cap ob eb off en n C w h hf I hC;have V:=aT N;have aH:=jS h;clear h I N;go_enter func234,ntmps234;go_wp2_with (go_at_call 262;refine V.out.mono ?_;rintro e w1 ⟨y,ah⟩;rcases ah with⟨rfl,E⟩|⟨i,rfl,hi,E,c,t,u⟩)
 ·have e:stay off en C=C:=GY.2 λc t=>by rw[E c t];rfl
  go_ret;exact⟨_,rfl,by rw[e];exact vN q.out.1 y,⟨y.os,y.size,λb J _=>y.block b J⟩,rfl⟩
 ·obtain⟨g,D,rfl⟩:∃g,C.length<=cap/\r=aa ⟨g,0,ay⟩:=by
   rcases q.out.1.2 with⟨f,F⟩|⟨g,Y,z,f,_,_,G,_⟩
   ·omega
   ·cases f;exact⟨g,G,rfl⟩
  have C7:cap<=cY:=by
   rcases q.out.1.2 with⟨f,F⟩|⟨g,Y,z,f,_,_,G,H,_⟩
   ·cases f
   ·cases f;exact H
  have T:=aT (lG.first q.out.1 hf y hi E t u);obtain⟨aS,bg⟩:=aR g rfl;have U:Hid (∀W,aV (·=g) w W->tI W ob eb off en):=λW Q=>⟨(fX (a:=aj ob 0) (Q.block ob (gH q.out.2.from_) aS)).trans q.out.2.from_,(fX (a:=aj eb 0) (Q.block eb (gH q.out.2.till) bg)).trans q.out.2.till⟩;have aP:((i:Int)==-1)=av:=aC;clear y E t u aH;rw[aP]
  go_loopw [5,6] (λiv K wr=>∃i j:Nat,iv=an (i:Int)/\K=an (j:Int)/\Hid (lG w wr g cap off en C i j)) (λ_ K _=>C.length-(gU K).toNat)
  case atStart=>exact⟨i,i+1,rfl,by go_num,T⟩
  case round=>
   obtain⟨i,j,rfl,rfl,hR⟩:=hrel;have bB:=hR.out.le;have bA:=hR.out.lt
   by_cases aM:j<C.length
   ·have H:(j:Int)<(C.length:Int):=ak;obtain⟨o,l,b1,m,p,t,k0,k1,k2,k3,k4⟩:=hR.out.cells D hf aM;have bt:g<wr.heap.size:=by obtain⟨z,f,_⟩:=hR.out.row;exact(bp.1 f).1
    have v:aL wr (wr.alloc (aA (eE o l b1 m p) 274)):=bf;have Z:(wr.alloc (aA (eE o l b1 m p) 274)).heap[wr.heap.size]? =aa (aA (eE o l b1 m p) 274 (0,0)):=cw wr _
    have B:Hid (bO 235 #[.agg (eE o l b1 m p),jp ob,jp eb] (wr.alloc (aA (eE o l b1 m p) 274)) (.bool (jA off en (o,[l,b1,m,p])))):=
     Qv ob eb off en o l b1 m p _ ((U.out _ hR.out.cD).below v)
    have X:Hid (∀d,aL (wr.alloc (aA (eE o l b1 m p) 274)) d->(∀k,k<5->∃x,d.cell? (aj g (i*5+k))=aa x)/\∀k,d.frozen? (aj g k)=av):=λd s=>by obtain⟨z,f,F,G⟩:=hR.out.room D;have O:d.heap[g]? =aa (aA z 274 (0,0)):=bV s (bV v f);exact⟨λk R=>⟨_,aG O (cL ak)⟩,λk=>bz O k⟩
    cases u:jA off en (o,[l,b1,m,p])with
    |true=>
     rw[u]at B;go_wp2_with (go_at_call 235;refine B.out.mono ?_;rintro e d ⟨rfl,s⟩);refine⟨⟨i,j+1,rfl,by go_num,hR.out.pass t u (v.trans (s.mono v.size))⟩,?_⟩;simp[gU];omega
    |false=>
     rw[u]at B;go_wp2_with (go_at_call 235;refine B.out.mono ?_;rintro e d ⟨rfl,s⟩;have hv:d.heap[wr.heap.size]? =aa (aA (eE o l b1 m p) 274 (0,0)):=bV s Z;have m0:=aO d wr.heap.size 0 (an (o:Int)) hv;have m1:=aO d wr.heap.size 1 (bW l) hv;have m2:=aO d wr.heap.size 2 (bW b1) hv;have m3:=aO d wr.heap.size 3 (bW m) hv;have m4:=aO d wr.heap.size 4 (bW p) hv;obtain⟨hr,fr⟩:=X.out d s;obtain⟨x0,r0⟩:=hr 0 ak;obtain⟨x1,r1⟩:=hr 1 ak;obtain⟨x2,r2⟩:=hr 2 ak;obtain⟨x3,r3⟩:=hr 3 ak;obtain⟨x4,r4⟩:=hr 4 ak;rw[CZ]at r0;clear hr hv);refine⟨⟨i+1,j+1,by go_num,by go_num,hR.out.keep D (λc h=>(hf c h).2) t u (v.trans (s.mono v.size))⟩,?_⟩;simp[gU];omega
   ·have H:¬(j:Int)<(C.length:Int):=ak;have aJ:j=C.length:=ak;have hv:∀w,(zeroValue 274).run prog w=.ok vQ w:=zeroValue274
    have Qp:∀L,(uo #[159] L #[.slice (aa (aj g (i*5))) (C.length-i) (cap-i)]).run prog wr=.ok (.tuple #[]) (wr.setCells g (i*5) (mH vQ.cells (C.length-i)).toList):=λL=>by
     obtain⟨z,f,F,_⟩:=hR.out.row
     have EF:i*5+(C.length-i) *5<=cap*5:=by rw[<-gK];exact yz 5 ak
     refine FG (P:=prog) wr 159 274 L _ underlying159 hv g (i*5) (C.length-i) (cap-i) ak _ rfl (abp _) ?_ (λk _=>bz f _);intro k R;rw[abo]at R;rw[aG f (cL ak)];rfl
    have A:Hid ((wr.setCells g (i*5) (mH vQ.cells (C.length-i)).toList).ownsRow 0 274 5 (.slice (aa (aj g 0)) i cap) (stay off en C).length ((stay off en C).flatMap dW)/\aV (·=g) w (wr.setCells g (i*5) (mH vQ.cells (C.length-i)).toList)):=(aJ▸hR.out:lG w wr g cap off en C i C.length).over D C7 hf _;generalize wr.setCells g (i*5) (mH vQ.cells (C.length-i)).toList=W9 at*;have bu:(i:Int)<=(cap:Int):=ak;have bw:(i:Int)<=(C.length:Int):=ak;clear hv;go_wp2;go_ret;exact⟨_,rfl,A.out.1,⟨A.out.2.os,A.out.2.size,λb J hx=>A.out.2.block b J λe=>hx (by rw[e];rfl)⟩,rfl⟩
def OB{P b off n B s}(w)(c:P.underlying 158=aa (.slice 5))(d:∀w,(GO 5).run P w=.ok 1 w)(h:oH w b B)(e:B.size=n)(f:off+s.size<=n):
  ∃r,(sM #[158,9] 3 #[.slice (aa (aj b off)) (n-off) (n-off),.string s]).run P w=.ok r (w.setCells b off (s.data.toList.map bW)):=by
 have g:s.data.toList.length=s.size:=rfl;exact KX w 158 9 3 5 b off (n-off) (n-off) s s.data.toList c d (sY ak) (λj a=>by rw[KM h ak];rfl) (λj a=>bz h _)
def dz.lay{w d bb db n off cv B D C}(h:dz w d bb db cv n B D C)(s):dz (w.setCells bb off (s.map bW)) d bb db cv n (eH B off s) D C/\aV (·=bb) w (w.setCells bb off (s.map bW)):=by
 obtain⟨a1,a,a3,g⟩:=zy s off w B h.bytes;have p:d≠bb:=fL h.box h.bytes aC;refine⟨⟨(a d p).trans h.box,a1,(a db (λe=>h.apart e.symm)).trans h.fM,⟨h.cache.1,?_⟩,⟨by rw[zq];exact h.sizes.1,h.sizes.2⟩,h.fits,h.apart,h.small⟩,⟨g,ak,λb _ o=>a b o⟩⟩;rcases h.cache.2 with c|⟨f,i,j,c,k,l,m⟩
 ·exact aF c
 ·exact aD ⟨f,i,j,c,k,(a f λe=>h.cA h.bytes bJ (by rw[c,<-e];rfl)).trans l,m⟩
def dz.G9{w d bb db n off cv B D C}(h:dz w d bb db cv n B D C)(s):dz (w.setCells db off (s.map bW)) d bb db cv n B (eH D off s) C/\aV (·=db) w (w.setCells db off (s.map bW)):=by
 obtain⟨a1,a,a3,g⟩:=zy s off w D h.fM;refine⟨⟨(a d (fL h.box h.fM aC)).trans h.box,(a bb h.apart).trans h.bytes,a1,⟨h.cache.1,?_⟩,⟨h.sizes.1,by rw[zq];exact h.sizes.2⟩,h.fits,h.apart,h.small⟩,⟨g,ak,λb _ o=>a b o⟩⟩;rcases h.cache.2 with c|⟨f,i,j,c,k,l,m⟩
 ·exact aF c
 ·exact aD ⟨f,i,j,c,k,(a f λe=>h.cA h.fM bJ (by rw[c,<-e];rfl)).trans l,m⟩
def aez(d f i n off cv B D)(C:aB (Nat×aB UInt8))(s w)(h:dz w d f i cv n B D C)(b9:off<n)(hl:off+s.size<=n)(hC:C.length<=1099511627776):
  Calls prog 198 #[jp d,an off,.string s] w λe u=>e=aN (.tuple #[])/\∃Z,dz u d f i Z n (eH B off s.data.toList) (eH D off s.data.toList) (stay off (off+s.size) C)/\aV (λb=>b=d\/b=f\/b=i\/aa b=cv.ownBlock) w u/\Z.ownBlock=cv.ownBlock:=by
 have hn:=h.small;obtain⟨l,k,rfl⟩:=jS h.cache;have H:aL w (w.alloc (aA #[an (off:Int)] 3)):=bf;have V:(w.alloc (aA #[an (off:Int)] 3)).heap[w.heap.size]? =aa (aA #[an (off:Int)] 3 (0,0)):=cw w _;have M:∀{W:az} {b:Nat} {o:Obj},W.heap[b]? =aa o->b<W.heap.size:=λh=>(bp.1 h).1
 have G:dz (w.alloc (aA #[an (off:Int)] 3)).drew d f i (.slice l C.length k) n B D C:=by have:=h.below H;exact⟨this.box,this.bytes,this.fM,this.cache,this.sizes,this.fits,this.apart,this.small⟩
 obtain⟨r1,aH⟩:=OB (P:=prog) (off:=off) (s:=s) (w.alloc (aA #[an (off:Int)] 3)).drew underlying158 FP G.bytes G.sizes.1 hl;obtain⟨m,A⟩:=G.lay (off:=off) s.data.toList;have X:((w.alloc (aA #[an (off:Int)] 3)).drew.setCells f off (s.data.toList.map bW)).heap[w.heap.size]? =aa (aA #[an (off:Int)] 3 (0,0)):=(A.block w.heap.size aC (by have:=M h.bytes;omega)).trans V;have EJ:w.heap.size+1<=((w.alloc (aA #[an (off:Int)] 3)).drew.setCells f off (s.data.toList.map bW)).heap.size:=by have:=A.size;simpa using this
 have Y:aV (λb=>b=d\/b=f\/b=i\/aa b=(ff l C.length k).ownBlock) w ((w.alloc (aA #[an (off:Int)] 3)).drew.setCells f off (s.data.toList.map bW)):=⟨A.os.trans H.os,by have:=A.size;have:=H.size;simp at*;omega,λb r v=>(A.block b bY (λe=>v (aD (aF e)))).trans (H.block b r)⟩;have aS:=aT aH;clear aH A;generalize (w.alloc (aA #[an (off:Int)] 3)).drew.setCells f off (s.data.toList.map bW)=p at*;have Q:dz p.drew d f i (.slice l C.length k) n (eH B off s.data.toList) D C:=⟨m.box,m.bytes,m.fM,m.cache,m.sizes,m.fits,m.apart,m.small⟩;obtain⟨r2,Bq⟩:=OB (P:=prog) (off:=off) (s:=s) p.drew underlying158 FP Q.fM Q.sizes.2 hl;obtain⟨y,E⟩:=Q.G9 (off:=off) s.data.toList;have R:(p.drew.setCells i off (s.data.toList.map bW)).heap[w.heap.size]? =aa (aA #[an (off:Int)] 3 (0,0)):=(E.block w.heap.size (by show w.heap.size<p.heap.size;omega) (by have:=M h.fM;omega)).trans X;have bK:w.heap.size+1<=(p.drew.setCells i off (s.data.toList.map bW)).heap.size:=dm EJ E.size;have z:aV (λb=>b=d\/b=f\/b=i\/aa b=(ff l C.length k).ownBlock) w (p.drew.setCells i off (s.data.toList.map bW)):=Y.trans ⟨E.os,E.size,λb r v=>E.block b r λe=>v (aD (aD (aF e)))⟩;have bg:=aT Bq;clear Bq E Y Q;generalize p.drew.setCells i off (s.data.toList.map bW)=a at*;have c0:=aO (w.alloc (aA #[an (off:Int)] 3)) d 0 (.slice (aa (aj f 0)) n n) G.box;have k0:=aO (w.alloc (aA #[an (off:Int)] 3)) w.heap.size 0 (an (off:Int)) V;have c1:=aO p d 0 (.slice (aa (aj f 0)) n n) m.box;have bq:=aO p d 1 (.slice (aa (aj i 0)) n n) m.box;have k1:=aO p w.heap.size 0 (an (off:Int)) X;have c2:=aO a d 1 (.slice (aa (aj i 0)) n n) y.box;have bU:=aO a d 2 (.slice l C.length k) y.box;have k2:=aO a w.heap.size 0 (an (off:Int)) R;have b8:¬n=off:=ak;have vw:(off:Int)<=(n:Int):=ak;have bZ:d<a.heap.size:=M y.box;have H2:Hid (dz a d f i (.slice l C.length k) n (eH B off s.data.toList) (eH D off s.data.toList) C/\aV (λb=>b=d\/b=f\/b=i\/aa b=(ff l C.length k).ownBlock) w a/\a.heap[w.heap.size]? =aa (aA #[an (off:Int)] 3 (0,0))):=⟨y,z,R⟩;have nR:w.heap.size<a.heap.size:=ak
 have bh:Hid (Calls prog 234 #[.slice l C.length k,JC w.heap.size a.heap.size] (a.alloc (aA #[an ((off:Int)+(s.size:Int))] 3)) λe u=>∃t U L F,t=.slice U L F/\e=aN t/\u.cell? (aj d 2)=aa (.slice l C.length k)/\u.frozen? (aj d 2)=av/\dz (u.setCell (aj d 2) t) d f i t n (eH B off s.data.toList) (eH D off s.data.toList) (stay off (off+s.size) C)/\aV (λb=>b=d\/b=f\/b=i\/aa b=(ff l C.length k).ownBlock) w (u.setCell (aj d 2) t)/\t.ownBlock=(ff l C.length k).ownBlock):=by
  have I:aL a (a.alloc (aA #[an ((off:Int)+(s.size:Int))] 3)):=bf;have j:=y.below I;have af:(a.alloc (aA #[an ((off:Int)+(s.size:Int))] 3)).heap[a.heap.size]? =aa (aA #[an ((off:Int)+(s.size:Int))] 3 (0,0)):=cw a _;have ah:(a.alloc (aA #[an ((off:Int)+(s.size:Int))] 3)).heap[w.heap.size]? =aa (aA #[an (off:Int)] 3 (0,0)):=bV I R;refine(Yb l k w.heap.size a.heap.size off (off+s.size) n C _ j.cache j.fits ⟨aG ah rfl,by rw[Int.natCast_add];exact aG af rfl⟩ hC ?_).mono ?_
  ·intro g hg;have e1:=j.cA ah bJ;have e2:=j.cA af bJ;exact⟨λe=>e1 (by rw[hg,e];rfl),λe=>e2 (by rw[hg,e];rfl)⟩
  ·rintro e u ⟨t,rfl,p1,N,O⟩;have old:∀{b:Nat} {x:aK aE} {T:aW},(a.alloc (aA #[an ((off:Int)+(s.size:Int))] 3)).heap[b]? =aa (aA x T (0,0))->T≠274->u.heap[b]? =aa (aA x T (0,0)):=λr hT=>(N.block _ (M r) (j.cA r hT)).trans r;have b1:=old j.box bJ;have b2:=cz b1 2 t;have xq:f≠d:=fL j.bytes j.box aC;have bI:i≠d:=fL j.fM j.box aC;obtain⟨U,F,bL⟩:=jS p1;refine⟨t,U,_,F,bL,rfl,aG b1 rfl,bz b1 _,⟨b2,(bH xq).trans (old j.bytes bJ),(bH bI).trans (old j.fM bJ),⟨p1.1,?_⟩,j.sizes,λc hc=>j.fits c (wF.1 hc).1,j.apart,j.small⟩,⟨by show u.os=w.os;exact N.os.trans (I.os.trans z.os),by have:=N.size;have:=I.size;have:=z.size;simp at*;omega,λb r v=>?_⟩,O⟩
   ·rcases p1.2 with q|⟨g,F,bu,q1,q2,q3,q4⟩
    ·exact aF q
    ·refine aD ⟨g,F,bu,q1,q2,(bH λe=>?_).trans q3,q4⟩;exact j.cA j.box bJ (by rw[<-O,q1,<-e];rfl)
   ·have bF:b<a.heap.size:=dy r z.size;exact(bH (λe=>v (aF e))).trans ((N.block b bY (λe=>v (aD (aD (aD e))))).trans ((I.block b bF).trans (z.block b r v)))
 clear h H V G m y z X R EJ bK M;go_enter func198,ntmps198
 go_upto_region 1 with fail
 refine eD (S:=λW=>W.cell? (aj d 0)=aa (.slice (aa (aj f 0)) n n)/\W.cell? (aj w.heap.size 0)=aa (an (off:Int))) ⟨c0,k0⟩ λbX=>?_;refine tk 0 ?_;refine tk 1 ?_;refine tk 2 ?_;refine tk 3 ?_;refine tk 4 ?_;refine tk 5 ?_;refine tk 6 ?_;refine rH 7 λK J=>?_
 (refine Fv rfl rfl rfl rfl aS.out ?_;simp)
 refine J.out _ _ ⟨c1,k1⟩ (λhH=>?_);clear J K;refine dc ?_
 go_upto_region 2 with fail
 refine eD (S:=λW=>W.cell? (aj d 1)=aa (.slice (aa (aj i 0)) n n)/\W.cell? (aj w.heap.size 0)=aa (an (off:Int))) ⟨bq,k1⟩ λA7=>?_;refine tk 0 ?_;refine tk 1 ?_;refine tk 2 ?_;refine tk 3 ?_;refine tk 4 ?_;refine tk 5 ?_;refine tk 6 ?_;refine rH 7 λK J=>?_
 (refine Fv rfl rfl rfl rfl bg.out ?_;simp)
 refine J.out _ _ ⟨c2,k2⟩ (λhH=>?_);clear J K;refine dc ?_;go_wp2_with (go_at_call 234;refine bh.out.mono ?_;rintro e w5 ⟨t,U,L,F,rfl,rfl,p1,N,O⟩;have H5:=aT O;clear O);exact eO rfl rfl ⟨rfl,_,H5.out⟩
structure Rq where
 m:bh
 no:Int
abbrev aM(r:Rq):aK aE:=#[an r.m.wh,.string r.m.nm,an r.m.kd,an r.m.fl,an r.m.ck,an r.m.of,an r.m.ln,.string r.m.dt,an r.m.er,an r.no]
structure Rq.Ok(r:Rq):Prop where
 of0:0<=r.m.of
 of1:r.m.of<=65535
 mE:0<=r.m.ln
 qb:r.m.ln<=65535
def Rq.touch(a b:Rq):Bool:=!(decide (a.m.kd=0)&&decide (b.m.kd=0))&&(decide (a.m.of<b.m.of+b.m.ln)&&decide (b.m.of<a.m.of+a.m.ln))
def FB(m w)(h0:0<=m.ln)(h:m.ln<=65535):
  bO 201 #[.agg (fN m)] w (an (sizeOf' m)):=by
 obtain⟨j,i,b,g,c,of,ln,d,f⟩:=m;dsimp only at h0 h⊢
 by_cases a:b=0
 ·subst a;go_enter func201,ntmps201;go_wp2;go_ret;exact⟨rfl,bf⟩
 ·have k:(b==0)=av:=by simp[a]
  have e:sizeOf' ⟨j,i,b,g,c,of,ln,d,f⟩=4:=by simp[sizeOf',a]
  rw[e];go_enter func201,ntmps201;go_wp2;go_ret;exact⟨rfl,bf⟩
def Si(r w):
  bO 206 #[.agg (aM r)] w (an (cW r.m)):=by
 obtain⟨⟨i,h,b,g,c,of,ln,d,f⟩,no⟩:=r
 by_cases a:b=2
 ·subst a;go_enter func206,ntmps206;go_wp2;go_ret;exact⟨rfl,bf⟩
 ·have j:(b==2)=av:=by simp[a]
  have e:cW ⟨i,h,b,g,c,of,ln,d,f⟩=ln:=by simp[cW,a]
  rw[e];go_enter func206,ntmps206;go_wp2;go_ret;exact⟨rfl,bf⟩
def rj(r w)(h:r.Ok):
  bO 268 #[.agg (aM r)] w (an (r.m.of+r.m.ln)):=by
 obtain⟨h0,a,b,c⟩:=h;obtain⟨⟨k,j,i,g,d,of,ln,e,f⟩,no⟩:=r;dsimp only at h0 a b c⊢;go_enter func268,ntmps268;go_wp2;go_ret;exact⟨rfl,bf⟩
def bL{P ops Q b S oi fuel listed a a' w}(i)(h:wpAnyH P b ops Q S fuel (listed.setIfInBounds i aq) a' w)(hS:S w:=by assumption) (f:ops[i]? =aa oi:=by rfl) (g:Region.noSelect ops=aq:=by kernel_rfl) (hf:Region.free b ops listed i=aq:=by kernel_rfl) (hr:(eB b ops listed).contains i=aq:=by kernel_rfl) (d:∀c a w,Q (.panic c) (a.put oi.dst au) w->Q (.panic c) a w:=by exact λ_ _ _ h=>h) (j:dw oi (yielded ops a.tmps)=av:=by rfl) (e:a.put oi.dst au=a':=by(first|(simp only[Act.put,uw,rE,sS,rI,rK,rJ];rfl)|rfl)):wpAnyH P b ops Q S (fuel+1) listed a w:=
 wpAnyH_take f g hf hr d (aD ⟨j,rfl⟩) hS (e▸h)
abbrev cu(W:az)(b:Nat)(r:Rq):Prop:=
 W.cell? (aj b 0)=aa (an r.m.wh)/\W.cell? (aj b 1)=aa (.string r.m.nm)/\W.cell? (aj b 2)=aa (an r.m.kd)/\W.cell? (aj b 3)=aa (an r.m.fl)/\W.cell? (aj b 4)=aa (an r.m.ck)/\W.cell? (aj b 5)=aa (an r.m.of)/\W.cell? (aj b 6)=aa (an r.m.ln)/\W.cell? (aj b 7)=aa (.string r.m.dt)/\W.cell? (aj b 8)=aa (an r.m.er)/\W.cell? (aj b 9)=aa (an r.no)
def cu.of{W b r}(h:W.heap[b]? =aa (aA (aM r) 134 (0,0))):cu W b r:=
 ⟨aG h rfl,aG h rfl,aG h rfl,aG h rfl,aG h rfl,aG h rfl,aG h rfl,aG h rfl,aG h rfl,aG h rfl⟩
def TO(a b w)(R:a.Ok)(T:b.Ok):
  bO 241 #[.agg (aM a),.agg (aM b)] w (.bool (a.touch b)):=by
 have N:aL w ((w.alloc (aA (aM a) 134)).alloc (aA (aM b) 134)):=bf.alloc aC _;have O:((w.alloc (aA (aM a) 134)).alloc (aA (aM b) 134)).heap[w.heap.size]? =aa (aA (aM a) 134 (0,0)):=(Below.heap_alloc _ _ _ aC).trans (cw w _)
 have P:((w.alloc (aA (aM a) 134)).alloc (aA (aM b) 134)).heap[w.heap.size+1]? =aa (aA (aM b) 134 (0,0)):=by have:=cw (w.alloc (aA (aM a) 134)) (aA (aM b) 134);simpa using this
 have B:Hid (∀W,Below ((w.alloc (aA (aM a) 134)).alloc (aA (aM b) 134)).heap.size ((w.alloc (aA (aM a) 134)).alloc (aA (aM b) 134)) W->cu W w.heap.size a/\cu W (w.heap.size+1) b):=λW Q=>⟨cu.of (bV Q O),cu.of (bV Q P)⟩;have F:=B.out _ (Below.refl _ _);have x:Hid (a.Ok/\b.Ok/\aL w ((w.alloc (aA (aM a) 134)).alloc (aA (aM b) 134))):=⟨R,T,N⟩;clear O P R T N;obtain⟨⟨v,u,z,t,q,of,ln,r,s⟩,no⟩:=a;obtain⟨⟨p,n,i,m,j,d,f,k,l⟩,o⟩:=b
 by_cases U:z=0/\i=0
 ·obtain⟨rfl,rfl⟩:=U;have e:Rq.touch ⟨⟨v,u,0,t,q,of,ln,r,s⟩,no⟩ ⟨⟨p,n,0,m,j,d,f,k,l⟩,o⟩=av:=by simp[Rq.touch]
  rw[e];go_enter func241,ntmps241;go_wp2;go_ret;exact⟨rfl,x.out.2.2⟩
 ·by_cases L:z=0
  ·subst L;have V:¬i=0:=λh=>U ⟨rfl,h⟩;have X:(i==0)=av:=by simp[V]
   have e:Rq.touch ⟨⟨v,u,0,t,q,of,ln,r,s⟩,no⟩ ⟨⟨p,n,i,m,j,d,f,k,l⟩,o⟩=(decide (of<d+f)&&decide (d<of+ln)):=by simp[Rq.touch,V]
   rw[e]
   by_cases E:of<d+f
   ·by_cases G:d<of+ln
    ·rw[jI E,jI G];go_enter func241,ntmps241
     go_upto_region 3 with fail
     refine eD (S:=λW=>cu W w.heap.size ⟨⟨v,u,0,t,q,of,ln,r,s⟩,no⟩/\cu W (w.heap.size+1) ⟨⟨p,n,i,m,j,d,f,k,l⟩,o⟩) F λI=>?_;refine tk 0 ?_;refine tk 1 ?_;refine tk 2 ?_;refine tk 3 ?_;refine rH 4 λK g=>?_;go_simp;go_at_call 268;refine(rj ⟨⟨p,n,i,m,j,d,f,k,l⟩,o⟩ _ x.out.2.1).mono ?_;rintro e D ⟨rfl,c⟩;have y:Hid (Below ((w.alloc (aA (aM ⟨⟨v,u,0,t,q,of,ln,r,s⟩,no⟩) 134)).alloc (aA (aM ⟨⟨p,n,i,m,j,d,f,k,l⟩,o⟩) 134)).heap.size ((w.alloc (aA (aM ⟨⟨v,u,0,t,q,of,ln,r,s⟩,no⟩) 134)).alloc (aA (aM ⟨⟨p,n,i,m,j,d,f,k,l⟩,o⟩) 134)) D):=⟨c.os,c.tape,c.output,c.size,c.block⟩;refine g.out _ _ (B.out _ y.out) (λH=>?_);clear g K c;refine tk 5 ?_;refine tk 6 ?_;refine tk 7 ?_;refine tk 8 ?_;refine tk 9 ?_;refine tk 10 ?_;refine rH 11 λK g=>?_;go_simp;go_at_call 268;refine(rj ⟨⟨v,u,0,t,q,of,ln,r,s⟩,no⟩ _ x.out.1).mono ?_;rintro e M ⟨rfl,C⟩;have A:=aT (y.out.trans (C.mono y.out.size));refine g.out _ _ (B.out _ A.out) (λJ=>?_);clear g K C;refine tk 12 ?_;refine tk 13 ?_;refine tk 14 ?_;refine dc ?_;go_wp2;go_ret;exact⟨rfl,x.out.2.2.trans (A.out.mono x.out.2.2.size)⟩
    ·rw[jI E,iY G];go_enter func241,ntmps241
     go_upto_region 3 with fail
     refine eD (S:=λW=>cu W w.heap.size ⟨⟨v,u,0,t,q,of,ln,r,s⟩,no⟩/\cu W (w.heap.size+1) ⟨⟨p,n,i,m,j,d,f,k,l⟩,o⟩) F λI=>?_;refine tk 0 ?_;refine tk 1 ?_;refine tk 2 ?_;refine tk 3 ?_;refine rH 4 λK g=>?_;go_simp;go_at_call 268;refine(rj ⟨⟨p,n,i,m,j,d,f,k,l⟩,o⟩ _ x.out.2.1).mono ?_;rintro e D ⟨rfl,c⟩;have y:Hid (Below ((w.alloc (aA (aM ⟨⟨v,u,0,t,q,of,ln,r,s⟩,no⟩) 134)).alloc (aA (aM ⟨⟨p,n,i,m,j,d,f,k,l⟩,o⟩) 134)).heap.size ((w.alloc (aA (aM ⟨⟨v,u,0,t,q,of,ln,r,s⟩,no⟩) 134)).alloc (aA (aM ⟨⟨p,n,i,m,j,d,f,k,l⟩,o⟩) 134)) D):=⟨c.os,c.tape,c.output,c.size,c.block⟩;refine g.out _ _ (B.out _ y.out) (λH=>?_);clear g K c;refine tk 5 ?_;refine tk 6 ?_;refine tk 7 ?_;refine tk 8 ?_;refine tk 9 ?_;refine tk 10 ?_;refine rH 11 λK g=>?_;go_simp;go_at_call 268;refine(rj ⟨⟨v,u,0,t,q,of,ln,r,s⟩,no⟩ _ x.out.1).mono ?_;rintro e M ⟨rfl,C⟩;have A:=aT (y.out.trans (C.mono y.out.size));refine g.out _ _ (B.out _ A.out) (λJ=>?_);clear g K C;refine tk 12 ?_;refine tk 13 ?_;refine tk 14 ?_;refine dc ?_;go_wp2;go_ret;exact⟨rfl,x.out.2.2.trans (A.out.mono x.out.2.2.size)⟩
   ·rw[iY E];go_enter func241,ntmps241
    go_upto_region 3 with fail
    refine eD (S:=λW=>cu W w.heap.size ⟨⟨v,u,0,t,q,of,ln,r,s⟩,no⟩/\cu W (w.heap.size+1) ⟨⟨p,n,i,m,j,d,f,k,l⟩,o⟩) F λI=>?_;refine tk 0 ?_;refine tk 1 ?_;refine tk 2 ?_;refine tk 3 ?_;refine rH 4 λK g=>?_;go_simp;go_at_call 268;refine(rj ⟨⟨p,n,i,m,j,d,f,k,l⟩,o⟩ _ x.out.2.1).mono ?_;rintro e D ⟨rfl,c⟩;have y:Hid (Below ((w.alloc (aA (aM ⟨⟨v,u,0,t,q,of,ln,r,s⟩,no⟩) 134)).alloc (aA (aM ⟨⟨p,n,i,m,j,d,f,k,l⟩,o⟩) 134)).heap.size ((w.alloc (aA (aM ⟨⟨v,u,0,t,q,of,ln,r,s⟩,no⟩) 134)).alloc (aA (aM ⟨⟨p,n,i,m,j,d,f,k,l⟩,o⟩) 134)) D):=⟨c.os,c.tape,c.output,c.size,c.block⟩;refine g.out _ _ (B.out _ y.out) (λH=>?_);clear g K c;refine tk 5 ?_;refine tk 6 ?_;refine bL 7 ?_;refine bL 8 ?_;refine bL 9 ?_;refine bL 10 ?_;refine bL 11 ?_;refine bL 12 ?_;refine tk 13 ?_;refine tk 14 ?_;refine dc ?_;go_wp2;go_ret;exact⟨rfl,x.out.2.2.trans (y.out.mono x.out.2.2.size)⟩
  ·have X:(z==0)=av:=by simp[L]
   have e:Rq.touch ⟨⟨v,u,z,t,q,of,ln,r,s⟩,no⟩ ⟨⟨p,n,i,m,j,d,f,k,l⟩,o⟩=(decide (of<d+f)&&decide (d<of+ln)):=by simp[Rq.touch,L]
   rw[e]
   by_cases E:of<d+f
   ·by_cases G:d<of+ln
    ·rw[jI E,jI G];go_enter func241,ntmps241
     go_upto_region 3 with fail
     refine eD (S:=λW=>cu W w.heap.size ⟨⟨v,u,z,t,q,of,ln,r,s⟩,no⟩/\cu W (w.heap.size+1) ⟨⟨p,n,i,m,j,d,f,k,l⟩,o⟩) F λI=>?_;refine tk 0 ?_;refine tk 1 ?_;refine tk 2 ?_;refine tk 3 ?_;refine rH 4 λK g=>?_;go_simp;go_at_call 268;refine(rj ⟨⟨p,n,i,m,j,d,f,k,l⟩,o⟩ _ x.out.2.1).mono ?_;rintro e D ⟨rfl,c⟩;have y:Hid (Below ((w.alloc (aA (aM ⟨⟨v,u,z,t,q,of,ln,r,s⟩,no⟩) 134)).alloc (aA (aM ⟨⟨p,n,i,m,j,d,f,k,l⟩,o⟩) 134)).heap.size ((w.alloc (aA (aM ⟨⟨v,u,z,t,q,of,ln,r,s⟩,no⟩) 134)).alloc (aA (aM ⟨⟨p,n,i,m,j,d,f,k,l⟩,o⟩) 134)) D):=⟨c.os,c.tape,c.output,c.size,c.block⟩;refine g.out _ _ (B.out _ y.out) (λH=>?_);clear g K c;refine tk 5 ?_;refine tk 6 ?_;refine tk 7 ?_;refine tk 8 ?_;refine tk 9 ?_;refine tk 10 ?_;refine rH 11 λK g=>?_;go_simp;go_at_call 268;refine(rj ⟨⟨v,u,z,t,q,of,ln,r,s⟩,no⟩ _ x.out.1).mono ?_;rintro e M ⟨rfl,C⟩;have A:=aT (y.out.trans (C.mono y.out.size));refine g.out _ _ (B.out _ A.out) (λJ=>?_);clear g K C;refine tk 12 ?_;refine tk 13 ?_;refine tk 14 ?_;refine dc ?_;go_wp2;go_ret;exact⟨rfl,x.out.2.2.trans (A.out.mono x.out.2.2.size)⟩
    ·rw[jI E,iY G];go_enter func241,ntmps241
     go_upto_region 3 with fail
     refine eD (S:=λW=>cu W w.heap.size ⟨⟨v,u,z,t,q,of,ln,r,s⟩,no⟩/\cu W (w.heap.size+1) ⟨⟨p,n,i,m,j,d,f,k,l⟩,o⟩) F λI=>?_;refine tk 0 ?_;refine tk 1 ?_;refine tk 2 ?_;refine tk 3 ?_;refine rH 4 λK g=>?_;go_simp;go_at_call 268;refine(rj ⟨⟨p,n,i,m,j,d,f,k,l⟩,o⟩ _ x.out.2.1).mono ?_;rintro e D ⟨rfl,c⟩;have y:Hid (Below ((w.alloc (aA (aM ⟨⟨v,u,z,t,q,of,ln,r,s⟩,no⟩) 134)).alloc (aA (aM ⟨⟨p,n,i,m,j,d,f,k,l⟩,o⟩) 134)).heap.size ((w.alloc (aA (aM ⟨⟨v,u,z,t,q,of,ln,r,s⟩,no⟩) 134)).alloc (aA (aM ⟨⟨p,n,i,m,j,d,f,k,l⟩,o⟩) 134)) D):=⟨c.os,c.tape,c.output,c.size,c.block⟩;refine g.out _ _ (B.out _ y.out) (λH=>?_);clear g K c;refine tk 5 ?_;refine tk 6 ?_;refine tk 7 ?_;refine tk 8 ?_;refine tk 9 ?_;refine tk 10 ?_;refine rH 11 λK g=>?_;go_simp;go_at_call 268;refine(rj ⟨⟨v,u,z,t,q,of,ln,r,s⟩,no⟩ _ x.out.1).mono ?_;rintro e M ⟨rfl,C⟩;have A:=aT (y.out.trans (C.mono y.out.size));refine g.out _ _ (B.out _ A.out) (λJ=>?_);clear g K C;refine tk 12 ?_;refine tk 13 ?_;refine tk 14 ?_;refine dc ?_;go_wp2;go_ret;exact⟨rfl,x.out.2.2.trans (A.out.mono x.out.2.2.size)⟩
   ·rw[iY E];go_enter func241,ntmps241
    go_upto_region 3 with fail
    refine eD (S:=λW=>cu W w.heap.size ⟨⟨v,u,z,t,q,of,ln,r,s⟩,no⟩/\cu W (w.heap.size+1) ⟨⟨p,n,i,m,j,d,f,k,l⟩,o⟩) F λI=>?_;refine tk 0 ?_;refine tk 1 ?_;refine tk 2 ?_;refine tk 3 ?_;refine rH 4 λK g=>?_;go_simp;go_at_call 268;refine(rj ⟨⟨p,n,i,m,j,d,f,k,l⟩,o⟩ _ x.out.2.1).mono ?_;rintro e D ⟨rfl,c⟩;have y:Hid (Below ((w.alloc (aA (aM ⟨⟨v,u,z,t,q,of,ln,r,s⟩,no⟩) 134)).alloc (aA (aM ⟨⟨p,n,i,m,j,d,f,k,l⟩,o⟩) 134)).heap.size ((w.alloc (aA (aM ⟨⟨v,u,z,t,q,of,ln,r,s⟩,no⟩) 134)).alloc (aA (aM ⟨⟨p,n,i,m,j,d,f,k,l⟩,o⟩) 134)) D):=⟨c.os,c.tape,c.output,c.size,c.block⟩;refine g.out _ _ (B.out _ y.out) (λH=>?_);clear g K c;refine tk 5 ?_;refine tk 6 ?_;refine bL 7 ?_;refine bL 8 ?_;refine bL 9 ?_;refine bL 10 ?_;refine bL 11 ?_;refine bL 12 ?_;refine tk 13 ?_;refine tk 14 ?_;refine dc ?_;go_wp2;go_ret;exact⟨rfl,x.out.2.2.trans (y.out.mono x.out.2.2.size)⟩
def Zd{α:Type}(F:α->aB aE)(k)(hF:∀x,(F x).length=k):∀(l:aB α) (i:Nat) (x:α),l[i]? =aa x->∀j,j<k->(l.flatMap F)[i*k+j]? =(F x)[j]? :=by
 intro l;induction l with
 |nil=>intro i x h;simp at h
 |cons c l d=>
  intro i x h j b;rw[wC];cases i with
  |zero=>
   have e:c=x:=by simpa using h
   rw[ym (by grind),rN,fU,e]
  |succ i=>
   have a:(i+1) *k+j=k+(i*k+j):=by grind
   rw[a,qz (by grind),hF,uz];exact d i x (by simpa using h) j b
abbrev iL(w:az)(v:aE)(q:aB Rq):Prop:=w.ownsRow 0 134 10 v q.length (q.flatMap λr=>(aM r).toList)
def iL.form{w v q}(h:iL w v q):∃a b,v=.slice a q.length b/\q.length<=b/\b<=cY:=by
 rcases h.2 with⟨c,d⟩|⟨g,b,i,c,_,_,e,f,_⟩
 ·exact⟨ay,0,by rw[c,d],ak,by unfold cY;omega⟩
 ·exact⟨_,b,c,e,f⟩
def iL.at {w a n cap q}(h:iL w (.slice a n cap) q){i r}(d:q[i]? =aa r):∃g,a=aa ⟨g,0,ay⟩/\
  (w.cell? (aj g (i*10))=aa (an r.m.wh)/\w.cell? (aj g (i*10+1))=aa (.string r.m.nm)/\w.cell? (aj g (i*10+2))=aa (an r.m.kd)/\w.cell? (aj g (i*10+3))=aa (an r.m.fl)/\w.cell? (aj g (i*10+4))=aa (an r.m.ck)/\w.cell? (aj g (i*10+5))=aa (an r.m.of)/\w.cell? (aj g (i*10+6))=aa (an r.m.ln)/\w.cell? (aj g (i*10+7))=aa (.string r.m.dt)/\w.cell? (aj g (i*10+8))=aa (an r.m.er)/\w.cell? (aj g (i*10+9))=aa (an r.no)):=by
 have p:i<q.length:=(eL.1 d).1;rcases h.2 with⟨c,b⟩|⟨g,l,e,c,_,b,_,_,o,f⟩
 ·omega
 ·cases c
  have cell:∀j,j<10->e[i*10+j]? =(aM r).toList[j]? :=λj k=>by rw[<-Zd (λr=>(aM r).toList) 10 (λ_=>rfl) q i r d j k,<-f,mK,aX ak,lC]
  exact⟨g,rfl,aG b (cell 0 ak),aG b (cell 1 ak),aG b (cell 2 ak),aG b (cell 3 ak),aG b (cell 4 ak),aG b (cell 5 ak),aG b (cell 6 ak),aG b (cell 7 ak),aG b (cell 8 ak),aG b (cell 9 ak)⟩
abbrev LM(r:Rq):aE:=.func (.func 241) #[.agg (aM r)] #[]
def E9(v q r w)(h:iL w v q)(hr:r.Ok)(y:∀x∈q,x.Ok)(J:q.length<=1048576):
  Calls prog 282 #[v,LM r] w λe l=>aL w l/\∃i:Int,e=aN (an i)/\decide (0<=i)=q.any (r.touch ·):=by
 obtain⟨a,u,rfl,G,hm⟩:=h.form;generalize C:q.any (r.touch ·)=B;have t:=aT C;have m:Hid (iL w (.slice a q.length u) q/\r.Ok/\∀x∈q,x.Ok):=⟨h,hr,y⟩;clear h hr y;go_enter func282,ntmps282;go_wp2
 go_loopw [8] (λs wr=>∃i:Nat,i<=q.length/\s=an (i:Int)/\Hid (aL w wr/\∀j x,j<i->q[j]? =aa x->r.touch x=av)) (λs _=>q.length-(gU s).toNat)
 case atStart=>exact⟨0,eo _,rfl,Below.refl _ _,λj c k=>by omega⟩
 case round=>
  obtain⟨i,H,rfl,hR⟩:=hrel
  by_cases E:i<q.length
  ·have A:(i:Int)<(q.length:Int):=ak;obtain⟨x,b⟩:∃x,q[i]? =aa x:=⟨q[i],ef E⟩;have z:iL wr (.slice a q.length u) q:=vN m.out.1 hR.out.1;obtain⟨g,rfl,K,L,M,N,O,P,Q,R,S,T⟩:=z.at b
   have d:Hid (Calls prog 241 #[.agg (aM r),.agg (aM x)] wr λe l=>e=aN (.bool (r.touch x))/\aL w l):=by refine(TO r x wr m.out.2.1 (m.out.2.2 x (gS b))).mono ?_;rintro e l ⟨rfl,D⟩;exact⟨rfl,hR.out.1.trans (D.mono hR.out.1.size)⟩
   clear z;cases f:r.touch x with
   |true=>
    have n:q.any (r.touch ·)=aq:=pF.2 ⟨x,gS b,f⟩;rw[f]at d;go_wp2_with (go_at_call 241;refine d.out.mono ?_;rintro e F ⟨rfl,o⟩);go_ret;exact⟨o,(i:Int),rfl,by rw[<-t.out,n];simp⟩
   |false=>
    rw[f]at d;go_wp2_with (go_at_call 241;refine d.out.mono ?_;rintro e F ⟨rfl,o⟩);refine⟨⟨i+1,ak,by go_num,o,λj c k p=>?_⟩,?_⟩
    ·by_cases e:j=i
     ·subst e;rw[b]at p;cases p;exact f
     ·exact hR.out.2 j c ak p
    ·simp[gU];omega
  ·have A:¬(i:Int)<(q.length:Int):=ak
   have n:q.any (r.touch ·)=av:=by rw[GW];intro x b;obtain⟨j,k⟩:=oq.1 b;have I:j<q.length:=(eL.1 k).1;rw[hR.out.2 j x ak k];simp
   go_wp2;go_ret;exact⟨hR.out.1,-1,rfl,by rw[<-t.out,n];rfl⟩
def XN(v q r w)(h:iL w v q)(hr:r.Ok)(f:∀x∈q,x.Ok)(d:q.length<=1048576):
  bO 267 #[v,LM r] w (.bool (q.any (r.touch ·))):=by
 generalize a:q.any (r.touch ·)=B;go_enter func267,ntmps267;go_wp2_with (go_at_call 282;refine(aT (a▸E9 v q r w h hr f d)).out.mono ?_;rintro e g ⟨b,i,rfl,c⟩);go_ret;exact⟨by rw[<-c];rfl,b⟩
structure Ft where
 delay:Int
 dH:Bool
 part:Int
abbrev Bw(c:Nat)(rv:aE)(f:Ft)(due a:Int):aK aE:=#[jp c,rv,an f.delay,.bool f.dH,an f.part,an due,an a]
structure eG(W:az)(j c:Nat)(rv:aE)(q:aB Rq)(f:Ft)(due order:Int):Prop where
 box:W.heap[j]? =aa (aA (Bw c rv f due order) 217 (0,0))
 row:iL W rv q
def eG.key{W j c rv q f due order}(h:eG W j c rv q f due order):lJ W j (due,order):=⟨aG h.box rfl,aG h.box rfl⟩
def eG.below{w w' j c rv q f due order}(h:eG w j c rv q f due order)(a:aL w w'):eG w' j c rv q f due order:=⟨bV a h.box,vN h.row a⟩
def eG.drewN{w j c rv q f due order}(h:eG w j c rv q f due order)(d):eG (w.drewN d) j c rv q f due order:=⟨h.box,h.row⟩
def F8(j c rv q)(f:Ft)(due order now w)(h:eG w j c rv q f due order):
  fu 104 #[jp j,an now] w (.bool (decide (due<=now))):=by
 have a:=aO w j 5 (an due) h.box;go_enter func104,ntmps104;go_wp2;go_ret;exact⟨rfl,rfl⟩
def G2(j c rv q)(f:Ft)(due order r w)(h:eG w j c rv q f due order)(hr:r.Ok)(p:∀x∈q,x.Ok)(u:q.length<=1048576):
  bO 240 #[jp j,.agg (aM r)] w (.bool (q.any (r.touch ·))):=by
 have b:aL w (w.alloc (aA (aM r) 134)):=bf;have i:(w.alloc (aA (aM r) 134)).heap[w.heap.size]? =aa (aA (aM r) 134 (0,0)):=cw w _;have g:Hid (∀W,aL (w.alloc (aA (aM r) 134)) W->W.cell? (aj j 1)=aa rv/\cu W w.heap.size r):=λW n=>⟨aG (bV n (bV b h.box)) rfl,cu.of (bV n i)⟩;have z:=g.out _ (Below.refl _ _);generalize l:q.any (r.touch ·)=B
 have t:Hid (∀k,Calls prog 267 #[rv,LM r] ((w.alloc (aA (aM r) 134)).drewN k) λe s=>e=aN (.bool B)/\aL (w.alloc (aA (aM r) 134)) s):=λk=>by rw[<-l];refine(XN rv q r _ ((h.below b).drewN k).row hr p u).mono ?_;rintro e s ⟨rfl,a⟩;exact⟨rfl,a.os,a.tape,a.output,a.size,a.block⟩
 have d:=aT b;obtain⟨v,y,rfl,_⟩:=h.row.form;clear h hr p i b l;go_enter func240,ntmps240
 go_upto_region 1 with fail
 refine eD (S:=λW=>W.cell? (aj j 1)=aa (.slice v q.length y)/\cu W w.heap.size r) z λC=>?_;refine tk 0 ?_;refine tk 1 ?_;refine tk 2 ?_;refine tk 3 ?_;refine tk 4 ?_;refine tk 5 ?_;refine rH 6 λK m=>?_;go_simp;go_at_call 267;refine(t.out 1).mono ?_;rintro e D ⟨rfl,o⟩;refine m.out _ _ (g.out _ o) (λA=>?_);clear m K;refine tk 7 ?_;refine dc ?_;go_wp2;go_ret;exact⟨rfl,d.out.trans (o.mono d.out.size)⟩
def jM{W:az}{a b o x:Nat}{u v:aE}(h:W.drew.cell? (aj a o)=aa v)(c:a≠b):(W.setCell (aj b x) u).drew.cell? (aj a o)=aa v:=by exact gy h c
def eG.drew{w j c rv q f due order}(h:eG w j c rv q f due order):eG w.drew j c rv q f due order:=⟨h.box,h.row⟩
def aV.drew{X w W}(h:aV X w W):aV X w W.drew:=⟨h.os,h.size,h.block⟩
abbrev dL(f:Ft):aK aE:=#[an f.delay,.bool f.dH,an f.part]
def aed(j c rv q)(f0 f:Ft)(OP RP l order w)(h:eG w j c rv q f0 OP RP)(h0:0<=l)(L:l<=281474976710656)(y:0<=f.delay)(z:f.delay<=65535):
  Calls prog 210 #[jp j,an l,an order,.agg (dL f)] w λe A=>e=aN (.tuple #[])/\eG A j c rv q f (l+f.delay) order/\aV (·=j) w A:=by
 obtain⟨a,d,part⟩:=f;dsimp only at y z;have r:aL w (w.alloc (aA (dL ⟨a,d,part⟩) 188)):=bf;have n:(w.alloc (aA (dL ⟨a,d,part⟩) 188)).heap[w.heap.size]? =aa (aA (dL ⟨a,d,part⟩) 188 (0,0)):=cw w _;have hj:j<w.heap.size:=(bp.1 h.box).1;have m:=bV r h.box;have s:(w.alloc (aA (dL ⟨a,d,part⟩) 188)).cell? (aj w.heap.size 0)=aa (an a)/\(w.alloc (aA (dL ⟨a,d,part⟩) 188)).cell? (aj w.heap.size 1)=aa (.bool d)/\(w.alloc (aA (dL ⟨a,d,part⟩) 188)).cell? (aj w.heap.size 2)=aa (an part):=⟨aG n rfl,aG n rfl,aG n rfl⟩;have i:w.heap.size≠j:=ak;have Q:=aO (w.alloc (aA (dL ⟨a,d,part⟩) 188)) j 2 (an f0.delay) m;have R:=aO (w.alloc (aA (dL ⟨a,d,part⟩) 188)) j 3 (.bool f0.dH) m;have T:=aO (w.alloc (aA (dL ⟨a,d,part⟩) 188)) j 4 (an f0.part) m;have U:=aO (w.alloc (aA (dL ⟨a,d,part⟩) 188)) j 5 (an OP) m;have V:=aO (w.alloc (aA (dL ⟨a,d,part⟩) 188)) j 6 (an RP) m;have X:∀k,(w.alloc (aA (dL ⟨a,d,part⟩) 188)).frozen? (aj j k)=av:=λk=>bz m k
 have x:Hid (eG ((((((w.alloc (aA (dL ⟨a,d,part⟩) 188)).setCell (aj j 2) (an a)).setCell (aj j 3) (.bool d)).setCell (aj j 4) (an part)).setCell (aj j 5) (an (eP.wrap (l+a)))).setCell (aj j 6) (an order)) j c rv q ⟨a,d,part⟩ (eP.wrap (l+a)) order/\aV (·=j) w ((((((w.alloc (aA (dL ⟨a,d,part⟩) 188)).setCell (aj j 2) (an a)).setCell (aj j 3) (.bool d)).setCell (aj j 4) (an part)).setCell (aj j 5) (an (eP.wrap (l+a)))).setCell (aj j 6) (an order))):=by
  have F:=cz m 2 (an a);have G:=cz F 3 (.bool d);have H:=cz G 4 (an part);have I:=cz H 5 (an (eP.wrap (l+a)));have J:=cz I 6 (an order);have off:∀b,b≠j->((((((w.alloc (aA (dL ⟨a,d,part⟩) 188)).setCell (aj j 2) (an a)).setCell (aj j 3) (.bool d)).setCell (aj j 4) (an part)).setCell (aj j 5) (an (eP.wrap (l+a)))).setCell (aj j 6) (an order)).heap[b]? =(w.alloc (aA (dL ⟨a,d,part⟩) 188)).heap[b]? :=λb p=>(bH p).trans ((bH p).trans ((bH p).trans ((bH p).trans (bH p))));refine⟨⟨J,(h.below r).row.1,?_⟩,⟨r.os,aC,λb p M=>(off b M).trans (r.block b p)⟩⟩;rcases(h.below r).row.2 with u|⟨g,C,E,u,N,v,O⟩
  ·exact aF u
  ·refine aD ⟨g,C,E,u,N,(off g λe=>?_).trans v,O⟩;rw[e,m]at v;cases v
 have B:Hid (eP.wrap (l+a)=l+a):=(by rw[GV];omega:eP.wrap (l+a)=l+a);clear h r n m h0 L y z;go_enter func210,ntmps210
 go_upto_region 1 with fail
 generalize w.alloc (aA (dL ⟨a,d,part⟩) 188)=P at*;refine eD (S:=λW=>W.cell? (aj w.heap.size 0)=aa (an a)/\W.cell? (aj w.heap.size 1)=aa (.bool d)/\W.cell? (aj w.heap.size 2)=aa (an part)) s λZ=>?_;refine tk 0 ?_;refine tk 1 ?_;refine tk 2 ?_;refine tk 3 ?_;refine tk 4 ?_;refine tk 5 ?_;refine tk 6 ?_;refine tk 7 ?_;generalize eP.wrap (l+a)=D at*;refine tk 8 ?_;refine tk 9 ?_;refine tk 10 ?_;refine rH 11 λK o=>?_;go_simp;refine o.out _ _ ⟨jM (jM (jM s.1 i) i) i,jM (jM (jM s.2.1 i) i) i,jM (jM (jM s.2.2 i) i) i⟩ (λn=>?_);clear o K;refine tk 12 ?_;refine tk 13 ?_;refine rH 14 λK o=>?_;go_simp;refine o.out _ _ ⟨jM n.1 i,jM n.2.1 i,jM n.2.2 i⟩ (λt=>?_);clear o K;refine tk 15 ?_;refine tk 16 ?_;refine rH 17 λK o=>?_;go_simp;refine o.out _ _ ⟨jM t.1 i,jM t.2.1 i,jM t.2.2 i⟩ (λY=>?_);clear o K;refine dc ?_;go_wp2;have e:=B.out;subst e;exact eO rfl rfl ⟨rfl,x.out.1.drew,x.out.2.drew⟩
abbrev clG(no wt sz cl e b d rt a f c:Int)(rb:Nat)(s:ByteArray)(q:aE)(bK prom:Int)(out:aE)(tok de sv:Int)(ch:Nat):aK aE:=
 #[an no,an wt,an sz,an cl,an e,an b,an d,an rt,an a,an f,an c,aR rb,.string s,q,an bK,an prom,out,an tok,an de,an sv,.chan (aa ch)]
def Je(c cap a w)(h:w.cell? (aj c 13)=aa (.slice a 0 cap)):
  bO 78 #[jp c] w (.tuple #[aaA,.bool av]):=by
 have b:=gH h;go_enter func78,ntmps78;go_wp2;refine gO (by simp[results,results78,go_sem]) rfl ⟨rfl,?_⟩
 repeat (refine Below.setCell ?_ (bC _) _)
 exact bf
def Eu(c v r q w)(h:w.cell? (aj c 13)=aa v)(b:iL w v (r::q)):
  bO 78 #[jp c] w (.tuple #[.agg (aM r),.bool aq]):=by
 have C:=gH h;obtain⟨a,B,rfl,_⟩:=b.form;obtain⟨g,rfl,d,l,m,n,o,p,s,t,u,x⟩:=b.at (i:=0) rfl;simp at d l m n o p s t u x;have D:g<w.heap.size:=gH d;have E:(((r::q).length:Int)==0)=av:=by simp only[eT,tE,ne_eq];omega
 have F:(0:Int)<((r::q).length:Int):=by simp only[eT];omega
 generalize (r::q).length=L at*;obtain⟨⟨A,z,y,k,e,of,ln,f,j⟩,no⟩:=r;clear b;go_enter func78,ntmps78;go_wp2;refine gO (v:=.tuple #[.agg (aM ⟨⟨A,z,y,k,e,of,ln,f,j⟩,no⟩),.bool aq]) (by simp[results,results78,go_sem]) rfl ⟨rfl,?_⟩
 repeat (refine Below.setCell ?_ (bC _) _)
 exact bf
def Jv(c:Nat)(w:az)(b:aY fS)(n cap:Nat)(k prom a:Int)(j:n<=4194304)(i:0<=k/\k<=131072)(l:0<=prom/\prom<=4194304)(h:w.cell? (aj c 16)=aa (.slice b n cap))(f:w.cell? (aj c 15)=aa (an prom))(g:w.cell? (aj c 10)=aa (an a)):
  Calls prog 225 #[jp c,an k] w λe d=>e=aN (.bool (decide ((n:Int)+prom+k<=a)))/\∃m,d=w.drewN m:=by
 go_enter func225,ntmps225;go_wp2
 go_quiet (fail)
 go_wp2;go_ret;exact⟨rfl,_,rfl⟩
def Ot(c r de w)(h:w.cell? (aj c 18)=aa (an de)):
  bO 168 #[jp c,.agg (aM r)] w (.bool (decide (cW r.m<=de))):=by
 have q:c<w.heap.size:=gH h;have d:aL w (w.alloc (aA (aM r) 134)):=bf;have i:(w.alloc (aA (aM r) 134)).heap[w.heap.size]? =aa (aA (aM r) 134 (0,0)):=cw w _
 have g:Hid (∀W,aL (w.alloc (aA (aM r) 134)) W->W.cell? (aj c 18)=aa (an de)/\cu W w.heap.size r):=λW l=>
  ⟨(fX (a:=aj c 18) ((l.block c bY).trans (d.block c q))).trans h,cu.of (bV l i)⟩
 have s:=g.out _ (Below.refl _ _);have f:=aT d
 have p:Hid (∀k,Calls prog 206 #[.agg (aM r)] ((w.alloc (aA (aM r) 134)).drewN k) λe o=>e=aN (an (cW r.m))/\aL (w.alloc (aA (aM r) 134)) o):=λk=>by refine(Si r _).mono ?_;rintro e o ⟨rfl,b⟩;exact⟨rfl,b.os,b.tape,b.output,b.size,b.block⟩
 clear d i;generalize cW r.m=t at*;go_enter func168,ntmps168
 go_upto_region 1 with fail
 refine eD (S:=λW=>W.cell? (aj c 18)=aa (an de)/\cu W w.heap.size r) s λv=>?_;refine tk 0 ?_;refine tk 2 ?_;refine tk 3 ?_;refine tk 4 ?_;refine tk 5 ?_;refine rH 1 λK j=>?_;go_simp;go_at_call 206;refine(p.out 1).mono ?_;rintro e x ⟨rfl,n⟩;refine j.out _ _ (g.out _ n) (λu=>?_);clear j K;refine tk 6 ?_;refine tk 7 ?_;refine dc ?_;go_wp2;go_ret;exact⟨rfl,f.out.trans (n.mono f.out.size)⟩
end
end Go.Proofs.YtpobhljcainmdaaGreat
