/- Parts of the proof. -/
import Derived.ArgAppend
import Derived.BigQuiet
import Derived.Conc.EventLaws
import Derived.Conc.SmallLaws
import Derived.Deep.AppendLies
import Derived.Deep.DrawnRows
import Derived.Deep.Draws
import Derived.Deep.QuietTactic
import Derived.Defers
import Derived.Laws.IdiomCopy
import Derived.Laws.MakeOwn
import Derived.Lib.AppendStr
import Derived.Lib.BufferWrite
import Derived.Lib.LazyBuf
import Derived.Lib.SliceRun
import Derived.Lib.Strings
import Derived.Lib.UnsafeStr
import Derived.Lib.Walk
import Derived.LoopIn
import Derived.LoopNIn
import Derived.Maps.OwnSet
import Derived.RangeFuncBound
import Derived.RangeFuncCalls
import Derived.Recover
import Derived.Shelf.Abstract
import Derived.Shelf.RegionOpen
import Derived.Stop.RegionWithIn
import Derived.Tactics2
import Derived.TacticsInMore
import Derived.Test.YtpobhljcainmdaaGreatS02
set_option maxRecDepth 100000
set_option maxHeartbeats 8000000
set_option linter.all false
namespace Go.Proofs.YtpobhljcainmdaaGreat
open Go renaming World->az,heap_alloc_new->cG,Value->aD,maxLen->cC,bodyPost_ret->gn,callsIn_wide->gy,below_drewN->iU,run_underlying->xg,run_convert_bytes_back->Bt,run_append_room_cells->IZ,Ending->iz,wp_region_noPanic->iD,Frame->aV,run_takeDeferred->qP,callsIn_of_wp_marks->Ol,Goroutine->bM,info_parts->qO,Addr->bZ,FuncId->bC,run_append_nil_string->Xb,growslice_fits->Ot,run_storeCells_cells->Xc,TypeId->aQ,wpS_region->Jf,bodyPost->Ec,results_none->Bs,setRow_heap->Ox,leaves_cons->Ou,grownBy_putObj'->Ee,Func->kZ,sizeOf->No
open Go.World renaming cell?_of_block->jE,grownBy_alloc->oK,putObj_heap_other->fS,cell?->fC,setCell->fY,cell?_setCell_same'->IP,frozen?->oJ,size_alloc->wV,cell?_setCell_far->Of,frozen?_setCell->Og,cell?_setCell_other->WU,ownsRow_nil->qM,cell?_setCells_out->WV,news_of_block->Bi,drewN_drewN->WW
open _root_.ByteArray renaming empty->oH
open Go.IntKind renaming i64->dJ,wrap_i64->AL,signed->Ik,bits->Ij
open Go.Builtin renaming append_->oG,clear_->uL,zeroCells->tF,lenOf->Dp,copy_->Dn
open Go.Lib renaming strCells->jh,size_eq->AN,run_append_room_string->Wi,run_append_grow_string->Wh,run_firstCells_string->Wj,byteCells->lP
open Go.Conc renaming stepG_region_end->cJ,stepG_seq->cg,aside_setCell->zc,calls_of_loneTo->Vp
open Go.Instr renaming makeFunc->rQ,typeAssert->DC,lookup->Dx
open Go.ConcR renaming wgBlock->AD,Payload->pX
open Go.CallsIn renaming inRound->mR
open _root_.Nat renaming reduceAdd->lR,reduceSub->DW,exists_eq_add_of_le->WB,mul_le_mul_right->WC
open Go.Region renaming wanted->dg
open Go.Ending renaming returned->yF
open Go.RowKit renaming intOf->eY
open Go.Result renaming andThen_ok->IM
open Go.Value renaming ownBlock->sE,slice->gF,cells->Bg,oneCell'->za
open Go.Fence renaming wide->iS
open Go.Sem renaming run_bind->wU,run_pure->Oc
open _root_.List renaming range->dH
open Go.NoPanic renaming normal->gE
open Go.Addr renaming add_lit->Hh
open Go.Frame renaming finish_at->wN
open _root_.UInt8 renaming ofNat->tR
open Go.Conc.LoneTo renaming goes->Iy,step->Ww
open Go.Exit renaming thenS->Hw,normal->Nj,ret->Nk
open Go.Maps renaming keyOf_int_mk->IB,int_keyed->AX,setOf->yQ
open _root_.List.range renaming loop->pW
open _root_.Array renaming replicate->oF,getD->pQ
open Go.Oper renaming wp->II
open Go renaming undef->au
open Go.Ending renaming returned->aM
open Go.Obj renaming cells->aA
open _root_.Bool renaming false->av,true->aq
open _root_.Option renaming none->ay,some->aa
open _root_.Or renaming inl->aF,inr->aE
section
open Go.Conc Go.Conc.Lib Go.ConcN.Gen Go.ConcR.Gen Go.RowKit
open Go.ConcN (ShN WgLive Has)
open Go.Proofs.Tryz
section
variable [aP] [bw] {O:Nat->Prop} {w:az} {xb sb B1 Wg n B2 D L B i c:Nat} {cl:aB (aZ Nat)} {cs0:aB aV} {v:Nat->aD}
def Re(fn:kZ):aJ Oper:=match goCode fn with|.region _ x _=>x|_=>#[]
def goT(xb B1 Wg B2 B c:Nat):aJ aD:=#[pt xb,pt B1,pt Wg,pt B,au,pt xb,.func (.func 96) #[] #[pt B2],pt c,.tuple #[],.func (.func 98) #[] #[pt Wg,pt B],au,au,au,au,au,au,au,au,au,au,au,au,au]
def goF(a:kZ)(xb B1 Wg B2 L B c:Nat)(is:aB Nat):aV:=rf L eu ⟨goT xb B1 Wg B2 B c,[]⟩ (.inRegion (Re a) is::.inBlock 1::[])
def Xq(fG):(rnF fG xb B1 Wg B2 L B c [0] au).finish (.tuple #[])=rf L eu ((⟨rnT xb B1 Wg B2 B c au,[]⟩:Act).put (((EC fG)[0]?).bind (·.dst)) (.tuple #[])) (.inRegion (EC fG) []::.code (goCode fG)::.inBlock 1::[]):=Gt ..
def acL:CJ prog aq link.tWg Wg (λa b d=>a=O/\b=G (goF f61 xb B1 Wg B2 L B c [1]) (itF f96 xb sb B2 L n i c v::wj f61 xb B1 Wg B2 D L::cs0)/\Rel link.tWg Wg O w d) O (G ((rnF f61 xb B1 Wg B2 L B c [0] au).finish (.tuple #[])) (itF f96 xb sb B2 L n i c v::wj f61 xb B1 Wg B2 D L::cs0)) w:=by
 rw[Xq];generalize hS:(λ(a:Nat->Prop) (b:bM) (d:az)=>a=O/\b=G (goF f61 xb B1 Wg B2 L B c [1]) _/\Rel link.tWg Wg O w d)=e;generalize f:itF _ _ _ _ _ _ _ _ _=f1 at hS⊢;generalize g:wj _ _ _ _ _ _ _=f2 at hS⊢;simp only[EC,goCode,lV,f61,rnT]
 walk_nrm
 refine .LR (.LQ ?_);simp;refine .rop (.func (.func 98) #[] #[pt Wg,pt B]) rfl rfl aC (by simp[eu]) iL iM ?_
 walk_nrm
 subst hS;exact .stop λh r=>⟨rfl,rfl,r⟩
def Mx(f1 f2 w):stepG prog aq (G (goF f61 xb B1 Wg B2 L B c [1]) (f1::f2::cs0)) w=.spawn (G (goF f61 xb B1 Wg B2 L B c []) (f1::f2::cs0)) (born prog (vN Wg B)) w #[]:=by
 have hr:∀(a:Act) (o:Oper),o.op=.go {callee:=.value (.tmp 9),args:=#[],argTypes:=#[]}->a.eval (.tmp 9)=.func (.func 98) #[] #[pt Wg,pt B]->(execOp a.eval o).run prog w=.ok (.spawn (vN Wg B)) w/\(execOp a.eval o).events prog w #[]=#[]:=λa o g j=>by
  have e:execOp a.eval o=pure (.spawn (vN Wg B)):=by unfold execOp;simp[g,resolve,Deferred.ofValue,j,vN,bind,Sem.bind,pure]
  rw[e];exact⟨rfl,rfl⟩
 unfold goF;rw[(acg (P:=prog) (main:=aq) (w:=w) (b:=eu) (a:=⟨goT xb B1 Wg B2 B c,[]⟩) (k:=[.inBlock 1]) (cs:=f1::f2::cs0) (l:=L) (ops:=Re f61) (i:=1) (rest:=[]) (d:=vN Wg B) rfl rfl (λc (h:Op.go {callee:=.value (.tmp 9),args:=#[],argTypes:=#[]}=Op.defer c)=>by cases h) (by simp[eu]) (hr _ _ rfl rfl).1 rfl)]
 have m:∀(f:bC) (a:Act) (o:Oper),(execOp a.eval o).events prog w #[]=#[]->listed prog f a o w=#[]:=λf a o h=>by unfold listed;rw[h,seen_none]
 rw[m _ _ _ (hr _ _ rfl rfl).2];rfl
def acK(d:fF f61 xb sb B1 Wg B2 D L n cl .busy O w)(A:i<n)(C:n<4294967296):
  CJ prog aq link.tWg Wg (λj m a=>j=O/\(∃v,m=pF f61 f96 xb sb B1 Wg B2 D L n (i+1) v cs0)/\fF f61 xb sb B1 Wg B2 D L n cl .ready O a/\(∀b,O b->b≠L->a.heap[b]? =w.heap[b]?)/\w.heap.size<=a.heap.size/\a.os=w.os) O
   (G (goF f61 xb B1 Wg B2 L B c []) (itF f96 xb sb B2 L n i c v::wj f61 xb B1 Wg B2 D L::cs0)) w:=by
 have H:(i:Int)<(n:Int):=ak;have F:(0:Int)<=(i:Int):=ak;have u:=Vr A C;generalize hS:(λ(j:Nat->Prop) (m:bM) (a:az)=>j=O/\(∃v,m=pF _ _ xb sb B1 Wg B2 D L n (i+1) v cs0)/\fF _ xb sb B1 Wg B2 D L n cl .ready O a/\(∀b,O b->b≠L->a.heap[b]? =w.heap[b]?)/\w.heap.size<=a.heap.size/\a.os=w.os)=E;refine .LR (.ach (.gl (l:=L) (r:=mm eu ⟨kT xb B1 Wg B2,[]⟩ #[7] (nV f61) (lV f61) D .ready) rfl d.oL (bq.1 d.lp).1 (λp r=>abW rfl aT (d.rel r).lp) λh g=>?_));have s:=(d.rel g).gl .ready;have q:∀b,O b->b≠L->(gl h L (mm eu ⟨kT xb B1 Wg B2,[]⟩ #[7] (nV f61) (lV f61) D .ready)).heap[b]? =w.heap[b]? :=λb f o=>(qB o).trans (g.own b f);have y:w.heap.size<=(gl h L (mm eu ⟨kT xb B1 Wg B2,[]⟩ #[7] (nV f61) (lV f61) D .ready)).heap.size:=by rw[xZ];exact g.size
 have x:(gl h L (mm eu ⟨kT xb B1 Wg B2,[]⟩ #[7] (nV f61) (lV f61) D .ready)).os=w.os:=g.os;generalize gl h L _=I at s q y x⊢;generalize z:wj _ _ _ _ _ _ _=f2;unfold itF;rw[wN];simp only[PE,PO,RV,sZ,f96,itT]
 walk_nrm
 refine .op (.bool av) rfl rfl (by simp[base]) iL iM ?_
 walk_nrm
 refine .op (.bool av) rfl rfl (by simp[base]) iL iM ?_
 walk_nrm
 refine .regionEnd (.cond (v:=av) rfl ?_);simp;refine .skip (.inBlock ?_);refine .region ?_;simp;refine .op (an ((i+1:Nat):Int)) rfl rfl (by simp[base]) (λp r=>by unfold execOp;simp[go_sem,Act.put,Act.eval,u]) (λp r e t=>by unfold execOp at t;simp[go_sem,Act.put,Act.eval,u]at t) ?_
 walk_nrm
 refine .op (an ((i+1:Nat):Int)) rfl rfl (by simp[base]) iL iM ?_
 walk_nrm
 refine .regionEnd (.inLoop ?_);subst hS z;exact .stop λp r=>⟨rfl,⟨(λk=>(#[au,au,au,au,pt c,au,au,au,au,au,au,.bool aq,.pointer (aa (aj sb i)),pt c,pt c,.bool aq,.bool aq,.func (.yield L) #[] #[],pt c,.bool aq,.bool av,.bool av,an ((i+1:Nat):Int)]:aJ aD).getD k au),rfl⟩,s.rel r,λb f o=>(r.own b f).trans (q b f o),dM y r.size,r.os.trans x⟩
def abo(fG x):(wj fG xb B1 Wg B2 D L).finish x=eu.at ⟨kT xb B1 Wg B2,[{target:=.collected D,args:=#[]}]⟩ (.endRangeFunc L::.inBlock 0::.code (An fG)::[]):=rfl
def agC(fn:kZ):aJ Oper:=match An fn with|.seq (.region _ x _) _=>x|_=>#[]
def wE(fn:kZ):Code:=match An fn with|.seq _ x=>x|_=>.skip
def wtF(a:kZ)(xb B1 Wg B2 D:Nat)(is:aB Nat)(t10:aD):aV:=eu.at ⟨(kT xb B1 Wg B2).setIfInBounds 10 t10,[{target:=.collected D,args:=#[]}]⟩ (.inRegion (agC a) is::.code (wE a)::[])
def acN(d:fF f61 xb sb B1 Wg B2 D L n cl .ready O w):
  CJ prog aq link.tWg Wg (λh j a=>h=O/\j=G (Frame.enter prog 101 #[pt Wg] .normal) (wtF f61 xb B1 Wg B2 D [0] au::cs0)/\fF f61 xb sb B1 Wg B2 D L n cl .exhausted O a/\(∀b,O b->b≠L->a.heap[b]? =w.heap[b]?)/\w.heap.size<=a.heap.size/\a.os=w.os) O
   (pF f61 f96 xb sb B1 Wg B2 D L n n v cs0) w:=by
 generalize hS:(λ(h:Nat->Prop) (j:bM) (a:az)=>h=O/\j=G (Frame.enter prog 101 #[pt Wg] .normal) _/\fF _ xb sb B1 Wg B2 D L n cl .exhausted O a/\(∀b,O b->b≠L->a.heap[b]? =w.heap[b]?)/\w.heap.size<=a.heap.size/\a.os=w.os)=t;simp only[pF,sZ,f96,hdT];refine .seq ?_;refine .region ?_;simp only[jB,eM,gX,lR,fX,dH,pW];refine .op (.bool av) rfl rfl (by simp[base]) iL iM ?_
 walk_nrm
 refine .regionEnd (.seq (.cond (v:=av) rfl ?_));simp only[cV,eX,dQ];refine .exit rfl (.end_ (.leave rfl rfl rfl func96 rfl ?_));rw[abo];refine .gl (l:=L) (r:=mm eu ⟨kT xb B1 Wg B2,[]⟩ #[7] (nV f61) (lV f61) D .exhausted) rfl d.oL (bq.1 d.lp).1 (λs r=>afn aT (d.rel r).lp rfl rfl) λg f=>?_;have o:=(d.rel f).gl .exhausted;have m:∀b,O b->b≠L->(gl g L (mm eu ⟨kT xb B1 Wg B2,[]⟩ #[7] (nV f61) (lV f61) D .exhausted)).heap[b]? =w.heap[b]? :=λb e k=>(qB k).trans (f.own b e);have q:w.heap.size<=(gl g L (mm eu ⟨kT xb B1 Wg B2,[]⟩ #[7] (nV f61) (lV f61) D .exhausted)).heap.size:=by rw[xZ];exact f.size
 have p:(gl g L (mm eu ⟨kT xb B1 Wg B2,[]⟩ #[7] (nV f61) (lV f61) D .exhausted)).os=w.os:=f.os;generalize gl g L _=u at o m q p⊢;simp only[An,f61];refine .inBlock (.seq ?_);refine .region ?_;simp only[jB,eM,gX,lR,fX,dH,pW];refine .call rfl rfl (by simp[eu]) rfl func101 aT rfl ?_
 walk_nrm
 subst hS;exact .stop λs r=>⟨rfl,rfl,o.rel r,λb e k=>(r.own b e).trans (m b e k),dM q r.size,r.os.trans p⟩
end
end
section
open Classical
open Go.Conc Go.Conc.Lib Go.ConcN.Gen Go.ConcR.Gen Go.RowKit
open Go.ConcN (ShN WgLive Has)
open Go.ConcR (Payload stA smA WgAt)
open Go.Proofs.Tryz
section
variable [aP] [bw]
def WS.mono{P}{a:aQ}{Wg Q Q' p O g w}(h:WS P a Wg Q p O g w)(d:∀O w,Q O w->Q' O w):WS P a Wg Q' p O g w:=by
 induction h with
 |quit h k=>exact .quit h λj r=>d _ _ (k j r)
 |step c b q h f _ e=>exact .step c b q h f e
structure Setup(l:aB bC)(C:Nat->Nat->Prop)(R:Nat->iz->az->Prop)(K:Nat->Prop)(w0:az)(cl:aB (aZ Nat))(xb sb B1 Wg n:Nat):Prop where
 fit:Fit prog l
 okR:aP.ok 100
 F9:prog.globals.size<=w0.heap.size
 len:cl.length=n
 small:n<2147483647
 closed:∀(j:Nat) c,cl[j]? =aa (aa c)->Closed (C c) w0/\C c c
 JH:∀(j f:Nat) c d,cl[j]? =aa (aa c)->cl[f]? =aa (aa d)->j≠f->∀b,C c b->¬C d b
 cO:∀(j:Nat) c,cl[j]? =aa (aa c)->∀b,C c b->¬K b/\b≠Wg/\b<w0.heap.size
 kx:K xb/\K sb/\K B1
 klt:∀b,K b->b<w0.heap.size
 LU:∀c e u a,R c e u->R c e (az.tp u a)
 LS:∀c e u,R c e u->∃v,e=aM v
 calls:∀(j:Nat) c,cl[j]? =aa (aa c)->∀w,(∀b,C c b->w.heap[b]? =w0.heap[b]?)->w0.heap.size<=w.heap.size->w.os=w0.os->∀a,Calls prog 100 #[pt c] ((mask (C c) w).tp a) (R c)
structure jG(C:Nat->Nat->Prop)(K:Nat->Prop)(w0:az)(cl:aB (aZ Nat))(i:Nat)(O:Nat->Prop)(w:az):Prop where
 size:w0.heap.size<=w.heap.size
 os:w.os=w0.os
 lt:∀b,O b->b<w.heap.size
 rest:∀(j:Nat) c,i<=j->cl[j]? =aa (aa c)->∀b,C c b->O b/\w.heap[b]? =w0.heap[b]?
 kept:∀b,K b->O b/\w.heap[b]? =w0.heap[b]?
variable {C:Nat->Nat->Prop} {R:Nat->iz->az->Prop} {K:Nat->Prop} {w0:az} {cl:aB (aZ Nat)} {xb sb B1 Wg n B2 D L:Nat} {O:Nat->Prop} {w:az} {i:Nat}
def jG.rel{w₁}(h:jG C K w0 cl i O w)(r:Rel link.tWg Wg O w w₁):jG C K w0 cl i O w₁:=
 ⟨dM h.size r.size,r.os.trans h.os,λb a=>dI (h.lt b a) r.size,λj c e d b a=>⟨(h.rest j c e d b a).1,(r.own b (h.rest j c e d b a).1).trans (h.rest j c e d b a).2⟩,λb a=>⟨(h.kept b a).1,(r.own b (h.kept b a).1).trans (h.kept b a).2⟩⟩
def jG.next(h:jG C K w0 cl i O w){i'}(b:i<=i'):jG C K w0 cl i' O w:=⟨h.size,h.os,h.lt,λj c d a=>h.rest j c ak a,h.kept⟩
def Mf{fG st ad v}(a:ad.block=Wg)(h:fF fG xb sb B1 Wg B2 D L n cl st O w)(d:WgLive link.tWg Wg (w.setCell ad v)):fF fG xb sb B1 Wg B2 D L n cl st O (w.setCell ad v):=
 h.kept (λ_ x=>x) h.nW (λb c=>(zc w ad v).block b λe=>h.nW (a▸e▸c)) d
def Me{ad v}(k:ad.block=Wg)(g:¬O Wg)(h:jG C K w0 cl i O w):jG C K w0 cl i O (w.setCell ad v):=
 ⟨by simpa using h.size,(by simp[fY]:(w.setCell ad v).os=w.os).trans h.os,λb a=>by simpa using h.lt b a,λj c f d b a=>⟨(h.rest j c f d b a).1,((zc w ad v).block b λe=>g (k▸e▸(h.rest j c f d b a).1)).trans (h.rest j c f d b a).2⟩,λb a=>⟨(h.kept b a).1,((zc w ad v).block b λe=>g (k▸e▸(h.kept b a).1)).trans (h.kept b a).2⟩⟩
def sat(cl:aB (aZ Nat)):aB Nat:=cl.filterMap id
def Qs(C:Nat->Nat->Prop)(R:Nat->iz->az->Prop)(cl:aB (aZ Nat))(m:Nat)(O:Nat->Prop)(w:az):Prop:=∃c,(sat cl)[m]? =aa c/\Qr (C c) (R c) O w
def Ev(a:kZ)(C:Nat->Nat->Prop)(K:Nat->Prop)(w0:az)(cl:aB (aZ Nat))(xb sb B1 Wg n:Nat)(cs0:aB aV)(m:Nat)(O:Nat->Prop)(g:bM)(w:az):Prop:=
 m=(sat cl).length/\∃B2 D L,g=G (wtF a xb B1 Wg B2 D [] (.tuple #[])) cs0/\fF a xb sb B1 Wg B2 D L n cl .exhausted O w/\jG C K w0 cl n O w/\w0.heap.size<=B2/\w0.heap.size<=D
def acC{c}(h:cl[i]? =aa (aa c)):(sat cl)[(sat (cl.take i)).length]? =aa c/\(sat (cl.take (i+1))).length=(sat (cl.take i)).length+1:=by
 have e:sat cl=sat (cl.take i)++(c::sat (cl.drop (i+1))):=by
  have a:=dS.1 h
  have b:cl=cl.take i++(aa c::cl.drop (i+1)):=by rw[<-a.2,<-DK ((dS.1 h).1),rZ]
  rw[(dZ sat b)];simp[sat]
 constructor
 ·rw[e,uR (bD _)];simp
 ·rw[tN,h];simp[sat]
def acB(h:cl[i]? =aa ay):(sat (cl.take (i+1))).length=(sat (cl.take i)).length:=by rw[tN,h];simp[sat]
def acA:∀cl:aB (aZ Nat),(sat cl).length<=cl.length:=λcl=>List.length_filterMap_le _ _
end
end
section
open Go.Conc Go.Conc.Lib Go.ConcN.Gen Go.ConcR.Gen Go.RowKit
open Go.ConcN (ShN WgLive Has)
open Go.ConcR (Payload stA smA WgAt)
open Go.Proofs.Tryz
section
variable [aP] [bw] {l:aB bC} {C:Nat->Nat->Prop} {R:Nat->iz->az->Prop} {K:Nat->Prop} {w0:az} {cl:aB (aZ Nat)} {xb sb B1 Wg n L:Nat} {O:Nat->Prop} {w:az} {i:Nat}
def jG.Cy(S:Setup l C R K w0 cl xb sb B1 Wg n)(h:jG C K w0 cl i O w)(q:w0.heap.size<=L){O' w'}(f:∀b,O b->O' b)(m:∀b,O' b->b<w'.heap.size)(he:∀b,O b->b≠L->w'.heap[b]? =w.heap[b]?)(p:w.heap.size<=w'.heap.size)(o:w'.os=w.os):jG C K w0 cl i O' w':=by
 refine⟨dM h.size p,o.trans h.os,m,λj c k g b d=>?_,λb d=>?_⟩
 ·obtain⟨a,e⟩:=h.rest j c k g b d;have:=(S.cO j c g b d).2.2;exact⟨f b a,(he b a ak).trans e⟩
 ·obtain⟨a,e⟩:=h.kept b d;have:=S.klt b d;exact⟨f b a,(he b a ak).trans e⟩
def Xs(Wg):Frame.enter prog 97 #[pt Wg,an 1] .normal=(base link.add).at ⟨#[pt Wg,an 1,au,au,au,au,au,au,au,au,au,au,au,au,au,au,au,au,au,au,au,au,au,au,au,au,au,au,au,au,au,au,au,au,au,au,au,au,au,au,au,au,au,au,au,au,au,au,au,au,au,au,au,au,au,au,au,au,au,au,au,au,au,au,au,au,au,au,au,au,au,au,au,au,au,au,au,au,au,au,au,au,au,au,au,au,au,au,au,au,au,au,au,au,au,au,au,au,au,au,au,au,au,au,au,au,au,au,au,au,au,au,au,au,au,au,au],[]⟩ [.code (body_add link)]:=by
 rw[enter_at _ yy.f_add rfl]
 walk_nrmf addFn
 rfl
def agE(Wg):Frame.enter prog 101 #[pt Wg] .normal=(base link.wait).at ⟨#[pt Wg,au,au,au,au,au,au,au,au,au,au,au,au,au,au,au,au,au,au,au,au,au,au,au,au,au,au,au,au,au,au,au,au,au,au,au,au,au,au,au,au,au,au,au,au,au,au,au,au,au,au,au,au,au,au,au,au,au,au,au,au,au,au,au,au,au,au,au,au,au,au,au,au,au,au,au,au,au,au,au,au,au,au,au],[]⟩ [.code (body_wait link)]:=by
 rw[enter_at _ yy.f_wait rfl]
 walk_nrmf waitFn
 rfl
end
section
variable [aP] [bw] {l:aB bC} {C:Nat->Nat->Prop} {R:Nat->iz->az->Prop} {K:Nat->Prop} {w0:az} {cl:aB (aZ Nat)} {xb sb B1 Wg n B2 D L:Nat} {O:Nat->Prop} {w:az} {cs0:aB aV}
def X4{M m}(S:Setup l C R K w0 cl xb sb B1 Wg n)(hm:m=(sat cl).length)(f:w0.heap.size<=B2)(i:w0.heap.size<=D)(c:fF f61 xb sb B1 Wg B2 D L n cl .exhausted O w)(hF:jG C K w0 cl n O w):
  MS prog link.tWg Wg (Ev f61 C K w0 cl xb sb B1 Wg n cs0) (Qs C R cl) M m .opn O (G (Frame.enter prog 101 #[pt Wg] .normal) (wtF f61 xb B1 Wg B2 D [0] au::cs0)) w:=by
 rw[agE]
 refine X8 (J:=λw=>fF f61 xb sb B1 Wg B2 D L n cl .exhausted O w/\jG C K w0 cl n O w) (λw j r h=>⟨h.1.rel r,h.2.rel r⟩) (λw v a h=>⟨Mf rfl h.1 a,Me rfl h.1.nW h.2⟩) (λw v a h=>⟨Mf rfl h.1 a,Me rfl h.1.nW h.2⟩) (b:=2147483646) (bD _)
  (Fin:=λg w=>g=G (wtF f61 xb B1 Wg B2 D [] (.tuple #[])) cs0) (λg w d h=>?_) (agF yy (λw _=>rfl)) ⟨c,hF⟩ (agD yy w c.lv)
 have e:=h w (.refl ..);subst e;exact .done λj r=>⟨hm,B2,D,L,rfl,d.1.rel r,d.2.rel r,f,i⟩
def X3{Post Q M m B c f1 f2 fG}(J:az->Prop)(d:∀w b,Rel link.tWg Wg O w b->J w->J b)(f:∀w v,WgLive link.tWg Wg (w.setCell (stA Wg) v)->J w->J (w.setCell (stA Wg) v))(hF:∀w,J w->MS prog link.tWg Wg Post Q M m .ready O (G ((rnF fG xb B1 Wg B2 L B c [0] au).finish (.tuple #[])) (f1::f2::cs0)) w)(a:J w)(i:WgLive link.tWg Wg w):
  MS prog link.tWg Wg Post Q M m .opn O (G (Frame.enter prog 97 #[pt Wg,an 1] .normal) (rnF fG xb B1 Wg B2 L B c [0] au::f1::f2::cs0)) w:=by
 rw[Xs];refine X0 (J:=J) d f (Fin:=λg w=>g=G ((rnF fG xb B1 Wg B2 L B c [0] au).finish (.tuple #[])) (f1::f2::cs0)) (λg w a h=>?_) a (Xr yy (λw _=>rfl) w i);have e:=h w (.refl ..);subst e;exact hF w a
end
section
variable [aP] [bw] {l:aB bC} {C:Nat->Nat->Prop} {R:Nat->iz->az->Prop} {K:Nat->Prop} {w0:az} {cl:aB (aZ Nat)} {xb sb B1 Wg n B2 D L:Nat} {cs0:aB aV}
def fF.split{fG st}{O A:Nat->Prop}{w:az}(h:fF fG xb sb B1 Wg B2 D L n cl st O w)(g:¬A xb)(f:¬A sb)(a:¬A B1)(c:¬A B2)(d:¬A D)(e:¬A L):fF fG xb sb B1 Wg B2 D L n cl st (λb=>O b/\¬A b) w:=
 ⟨⟨h.ox,g⟩,⟨h.os,f⟩,⟨h.o1,a⟩,⟨h.o2,c⟩,⟨h.oD,d⟩,⟨h.oL,e⟩,λk=>h.nW k.1,h.lv,h.b1,h.b2,h.sl,h.at_,h.len,h.df,h.lp,h.bx⟩
def La[pX](S:Setup l C R K w0 cl xb sb B1 Wg n)(F:w0.heap.size<=B2)(G:w0.heap.size<=D)(u:w0.heap.size<=L):∀(k i:Nat) (v:Nat->aD) (O:Nat->Prop) (w:az),i+k=n->fF f61 xb sb B1 Wg B2 D L n cl .ready O w->jG C K w0 cl i O w->
  MS prog link.tWg Wg (Ev f61 C K w0 cl xb sb B1 Wg n cs0) (Qs C R cl) n (sat (cl.take i)).length .opn O (pF f61 f96 xb sb B1 Wg B2 D L n i v cs0) w
 |0,i,v,O,w,hk,f,hF=>by obtain rfl:i=n:=ak;refine xU (aF rfl) (acN f) λz N s h=>?_;obtain⟨rfl,rfl,bf,he,g,X⟩:=h s (.refl ..);refine X4 S ?_ F G bf (hF.Cy S u (λ_ x=>x) (λb a=>dI (hF.lt b a) g) he g X);rw[uX (Nat.le_of_eq S.len)]
 |k+1,i,v,O,w,hk,f,hF=>by
  have I:i<n:=ak;have W:n<4294967296:=by have:=S.small;omega
  have aG:i<cl.length:=by rw[S.len];exact I
  cases hx:cl[i]with
  |none=>
   have d:cl[i]? =aa ay:=by rw[eI aG,hx]
   refine xU (aF rfl) (Stop:=λz N s=>z=O/\(∃v,N=pF f61 f96 xb sb B1 Wg B2 D L n (i+1) v cs0)/\Rel link.tWg Wg O w s) (acM f I W d λv=>.stop λbK r=>⟨rfl,⟨v,rfl⟩,r⟩) λz N s h=>?_;obtain⟨rfl,⟨v',rfl⟩,r⟩:=h s (.refl ..);have:=La S F G u k (i+1) v' z s ak (f.rel r) ((hF.rel r).next (kB i));rw[acB d]at this;exact this
  |some c=>
   have d:cl[i]? =aa (aa c):=by rw[eI aG,hx]
   obtain⟨aH,bG⟩:=acC d;refine xU (aF rfl) (acJ f hF.lt I W d) λE g1 Z h=>?_;obtain⟨B,v1,rfl,Ki,m,Rp,zK,bk,ah,bt,aI,bB⟩:=h Z (.refl ..);have bA:∀b,E b->b<Z.heap.size:=λb a=>(ah b a).elim (λh=>dI (hF.lt b h) aI) λh=>h.2;have aU:jG C K w0 cl i E Z:=hF.Cy S u bk bA bt aI bB;have bQ:w.heap.size<=B:=(ah B m).elim (λh=>absurd h Rp) λh=>h.1
   refine X3 (λw=>fF f61 xb sb B1 Wg B2 D L n cl .busy E w/\jG C K w0 cl i E w/\w.cell? (aj B 0)=aa (pt c)) (λw bK r h=>⟨h.1.rel r,h.2.1.rel r,(r.cell (ad:=aj B 0) m).trans h.2.2⟩)
    (λw v hl h=>⟨Mf rfl h.1 hl,Me rfl h.1.nW h.2.1,(cell_of (ad:=aj B 0) ((zc w (stA Wg) v).block B λe=>h.1.nW ((show B=Wg from e)▸m))).trans h.2.2⟩) (λw2 hJ=>?_) ⟨Ki,aU,zK⟩ Ki.lv
   obtain⟨I1,aX,bl⟩:=hJ;refine xU (aE rfl) acL λJ g3 w3 h=>?_;obtain⟨rfl,rfl,Y⟩:=h w3 (.refl ..);have T:=I1.rel Y;have Q:=aX.rel Y
   have aT:∀b,C c b->b≠B:=λb a e=>by have:=(S.cO i c d b a).2.2;have:=hF.size;omega
   have hA:∀b,(C c b\/b=B)->J b:=λb a=>a.elim (λh=>(Q.rest i c (bD _) d b h).1) λh=>h▸m;have an:∀b,O b->¬C c b->¬(C c b\/b=B):=λb a hc h=>h.elim hc λe=>Rp (e▸a);have H:∀b,K b->¬(C c b\/b=B):=λb a=>an b (hF.kept b a).1 λh=>(S.cO i c d b h).1 a
   have U:∀b,O b->w0.heap.size<=b->¬(C c b\/b=B):=λb a bR=>an b a λh=>by have:=(S.cO i c d b h).2.2;omega
   refine .spawn (A:=λb=>C c b\/b=B) (R:=λb=>J b/\¬(C c b\/b=B)) ?_ rfl hA (λb a=>a.1) (λb a h=>h.2 a) (λb a=>(Classical.em (C c b\/b=B)).imp id λh=>⟨a,h⟩) (λy q=>⟨_,_,Mx _ _ y,rfl⟩) (λy g4 ch q g=>?_) λy g4 ch q g=>?_
   ·have P:=acA cl;have h2:=(dS.1 aH).1;rw[S.len]at P;omega
   ·rw[Mx]at g;cases g;have p:=Q.rel q;have aC:∀b,C c b->y.heap[b]? =w0.heap[b]? :=λb a=>(p.rest i c (bD _) d b a).2;refine(agZ S.fit S.okR (dM S.F9 p.size) (λb a=>?_) (S.closed i c d).2 (λh=>aT B h rfl) (λh=>(S.cO i c d Wg h).2.1 rfl) (λe=>T.nW (e▸m)) (q.live T.lv) ((q.cell (ad:=aj B 0) m).trans ((Y.cell (ad:=aj B 0) m).trans bl)) (S.LU c) (S.LS c) (S.calls i c d y aC p.size p.os)).mono λz s hq=>⟨c,aH,hq⟩;obtain⟨o,X,Ce⟩:=(S.closed i c d).1 b a;exact⟨o,(aC b a).trans X,Ce⟩
   ·rw[Mx]at g;cases g
    have p:jG C K w0 cl (i+1) (λb=>J b/\¬(C c b\/b=B)) y:=by have t:=Q.rel q;refine⟨t.size,t.os,λb a=>t.lt b a.1,λj M hj V b a=>?_,λb a=>⟨⟨(t.kept b a).1,H b a⟩,(t.kept b a).2⟩⟩;obtain⟨P,h2⟩:=t.rest j M ak V b a;refine⟨⟨P,λh=>h.elim (S.JH j i M c V d ak b a) λe=>?_⟩,h2⟩;have:=(S.cO j M V b a).2.2;have:=hF.size;omega
    refine xU (aF rfl) (acK ((T.rel q).split (A:=λb=>C c b\/b=B) (H _ S.kx.1) (H _ S.kx.2.1) (H _ S.kx.2.2) (U _ f.o2 F) (U _ f.oD G) (U _ f.oL u)) I W) λO5 g5 w5 h=>?_;obtain⟨rfl,⟨v5,rfl⟩,bg,bu,aL,bE⟩:=h w5 (.refl ..);have:=La S F G u k (i+1) v5 _ w5 ak bg (p.Cy S u (λ_ x=>x) (λb a=>dI (p.lt b a) aL) bu aL bE);rw[bG]at this;exact this
end
end
section
open Classical
open Go.Conc Go.Conc.Lib Go.ConcN.Gen Go.ConcR.Gen Go.RowKit
open Go.ConcN (ShN WgLive Has)
open Go.ConcR (Payload stA smA WgAt)
open Go.Proofs.Tryz
section
variable [aP]
structure Enters(l:aB bC)(C:Nat->Nat->Prop)(R:Nat->iz->az->Prop)(u:az)(cl:aB (aZ Nat))(xb sb n:Nat):Prop where
 fit:Fit prog l
 okR:aP.ok 100
 okS:aP.ok 96
 kn:aP.known 61
 len:cl.length=n
 small:n<2147483647
 sl:u.cell? (aj xb 9)=aa (.slice (aa (aj sb 0)) n n)
 at_:∀(j:Nat) v,cl[j]? =aa v->u.cell? (aj sb j)=aa (vp v)
 dX:∃o,u.heap[sb]? =aa o/\o≠cm
 closed:∀(j:Nat) c,cl[j]? =aa (aa c)->Closed (C c) u/\C c c
 JH:∀(j f:Nat) c d,cl[j]? =aa (aa c)->cl[f]? =aa (aa d)->j≠f->∀b,C c b->¬C d b
 cO:∀(j:Nat) c,cl[j]? =aa (aa c)->¬C c xb/\¬C c sb
 LU:∀c e u a,R c e u->R c e (az.tp u a)
 LS:∀c e u,R c e u->∃v,e=aM v
 calls:∀(j:Nat) c,cl[j]? =aa (aa c)->∀w,(∀b,C c b->w.heap[b]? =u.heap[b]?)->u.heap.size<=w.heap.size->w.os=u.os->∀a,Calls prog 100 #[pt c] ((mask (C c) w).tp a) (R c)
structure After(C:Nat->Nat->Prop)(R:Nat->iz->az->Prop)(cl:aB (aZ Nat))(u d:az)(xb g m h D:Nat):Prop where
 size:u.heap.size<=d.heap.size
 os:d.os=u.os
 news:u.heap.size<=g/\u.heap.size<=m/\u.heap.size<=h/\u.heap.size<=D
 kept:∀b,b<u.heap.size->(∀(j:Nat) c,cl[j]? =aa (aa c)->¬C c b)->d.heap[b]? =u.heap[b]?
 b1:d.heap[g]? =aa (aA #[pt xb] 36)
 b2:d.heap[h]? =aa (aA #[pt xb] 36)
 df:d.heap[D]? =aa (.deferred (aa []))
 reads:∃e:Nat->Nat->Prop,(∀c i b,c∈sat cl->i∈sat cl->c≠i->e c b->¬e i b)/\(∀c b,c∈sat cl->e c b->b≠g/\b≠h/\b≠D/\(b<u.heap.size->C c b))/\
  ∀c,c∈sat cl->∃k f v,R c (aM v) k/\(eF (C c)).le f/\fy prog f k d/\Whole (λ_=>False) f k/\∀a b,f a b->e c b
def FV{cl c}:c∈sat cl↔∃j:Nat,cl[j]? =aa (aa c):=by
 unfold sat;rw[Iu];constructor
 ·rintro⟨x,b,e⟩;obtain rfl:x=aa c:=e;exact tM.1 b
 ·rintro⟨j,a⟩;exact⟨aa c,tM.2 ⟨j,a⟩,rfl⟩
def Db{X b}(h:X b):VR (eF X) (pt b) (pt b):=.ptr ⟨⟨rfl,h⟩,rfl,rfl⟩
def aay{X b}(t)(h:X b):OR (eF X) (aA #[pt b] t) (aA #[pt b] t):=.cells _ _ ⟨rfl,λi v d a c=>by
 rw[a]at c;cases c
 match i,a with
 |0,a=>cases a;exact Db h
 |i+1,a=>simp at a⟩
variable [bw] {l:aB bC} {C:Nat->Nat->Prop} {R:Nat->iz->az->Prop} {cl:aB (aZ Nat)} {xb sb n:Nat} {u u1 w w1:az} {cs:aB aV} {fr:aV} {gs:aJ bM} {t:Trace} {q:Nat->Nat} {Shun:Loc->Prop} {S:Nat->Prop} {ρ:Ren} {x:Obj}
def Kb(C:Nat->Nat->Prop)(cl:aB (aZ Nat))(S:Nat->Prop)(ρ:Ren)(b:Nat):Prop:=(ρ b b/\¬S b)/\∀(j:Nat) c,cl[j]? =aa (aa c)->¬C c b
def Enters.own(E:Enters l C R u cl xb sb n)(p:∀b,b<u.heap.size->u1.heap[b]? =u.heap[b]?)(i:fu prog Shun S fr cs u1 ρ gs w t q){j c:Nat}(m:cl[j]? =aa (aa c)){b:Nat}(k:C c b):b<u.heap.size/\ρ b b/\¬S b/\w.heap[b]? =u.heap[b]? /\∃o,w.heap[b]? =aa o/\OR (eF (C c)) o o:=by obtain⟨o,a,f⟩:=(E.closed j c m).1 b k;have e:=(bq.1 a).1;obtain⟨g,h,d,_⟩:=i.heap ((p b e).trans a) (gq f);exact⟨e,g,h,d.trans a.symm,o,d,f⟩
def Enters.setup(E:Enters l C R u cl xb sb n)(m:∀b,b<u.heap.size->u1.heap[b]? =u.heap[b]?)(N:u1.heap.size=u.heap.size+1)(D:u1.cell? (aj u.heap.size 0)=aa (pt xb))(H:u1.os=u.os)(f:fu prog Shun S fr cs u1 ρ gs w t q)(v:w1.heap=w.heap.push x)(I:w1.os=w.os):
  Setup l C R (Kb C cl S ρ) w1 cl xb sb u.heap.size w.heap.size n:=by
 have M:u1.heap.size=w.heap.size:=f.size;have L:w1.heap.size=w.heap.size+1:=by rw[v];simp
 have s:∀b,b<w.heap.size->w1.heap[b]? =w.heap[b]? :=λb d=>by rw[v,fJ,aK ak]
 have k:=λ{j c:Nat} (a:cl[j]? =aa (aa c)) {b:Nat} (d:C c b)=>E.own m f a d
 have p:∀b,(∃o,u1.heap[b]? =aa o/\o≠cm)->(∀(j:Nat) c,cl[j]? =aa (aa c)->¬C c b)->Kb C cl S ρ b:=λb ⟨o,e,i⟩ F=>by obtain⟨g,r,_,_⟩:=f.heap e i;exact⟨⟨g,r⟩,F⟩
 refine⟨E.fit,E.okR,?_,E.len,E.small,λj c a=>⟨λb d=>?_,(E.closed j c a).2⟩,E.JH,λj c a b d=>?_,⟨p _ ?_ λj c a=>(E.cO j c a).1,p _ ?_ λj c a=>(E.cO j c a).2,p _ (rD D) λj c a h=>?_⟩,λb d=>?_,E.LU,E.LS,λj c a J g r z=>?_⟩
 ·have:=f.world.base;omega
 ·obtain⟨g,_,_,_,o,A,B⟩:=k a d;exact⟨o,(s b ak).trans A,B⟩
 ·obtain⟨g,_⟩:=k a d;exact⟨λG=>G.2 j c a d,ak,ak⟩
 ·obtain⟨o,e,i⟩:=rD E.sl;exact⟨o,(m _ (bq.1 e).1).trans e,i⟩
 ·obtain⟨o,e,i⟩:=E.dX;exact⟨o,(m _ (bq.1 e).1).trans e,i⟩
 ·have:=(k a h).1;exact sr _ this
 ·have:=(f.world.lt b b d.1.1).2;omega
 ·refine E.calls j c a J (λb d=>?_) ak ?_
  ·obtain⟨K,_,_,y,_⟩:=k a d;exact(g b d).trans ((s b ak).trans y)
  ·rw[z,I,f.world.os.1,H]
end
section
variable [aP] [bw] {l:aB bC} {C:Nat->Nat->Prop} {R:Nat->iz->az->Prop} {cl:aB (aZ Nat)} {xb sb n:Nat} {u u1 w w1 w':az} {cs:aB aV} {fr:aV} {gs:aJ bM} {t:Trace} {q:Nat->Nat} {Shun:Loc->Prop} {S:Nat->Prop} {ρ:Ren} {x:Obj} {Oq:Nat->Nat->Prop} {O':Nat->Prop} {m B2 D L:Nat}
def OT(C:Nat->Nat->Prop)(R:Nat->iz->az->Prop)(cl:aB (aZ Nat))(m:Nat)(Oq:Nat->Nat->Prop)(w':az)(i c:Nat)(e:az)(d:Ren)(v:aD):Prop:=
 i<m/\(sat cl)[i]? =aa c/\R c (aM v) e/\(eF (C c)).le d/\fy prog d e w'/\Whole (λ_=>False) d e/\∀a b,d a b->Oq i b
def Ob(C:Nat->Nat->Prop)(R:Nat->iz->az->Prop)(cl:aB (aZ Nat))(S:Nat->Prop)(ρ:Ren)(m:Nat)(Oq:Nat->Nat->Prop)(w':az)(B2 D:Nat)(b:Nat):Prop:=
 Kb C cl S ρ b\/b=B2\/b=D\/∃i c e d v,OT C R cl m Oq w' i c e d v/\∃a,d a b
def Enters.over(E:Enters l C R u cl xb sb n)(P:∀b,b<u.heap.size->u1.heap[b]? =u.heap[b]?)(bE:u1.heap.size=u.heap.size+1)(xM:u1.heap[u.heap.size]? =aa (aA #[pt xb] 36))(N7:u1.os=u.os)(G:fu prog Shun S fr cs u1 ρ gs w t q)(aH:w1.heap=w.heap.push x)(bl:w1.os=w.os)
  (hm:m=(sat cl).length) (K:fF f61 xb sb u.heap.size w.heap.size B2 D L n cl .exhausted O' w') (hF:jG C (Kb C cl S ρ) w1 cl n O' w') (Ro:w1.heap.size<=B2) (hD:w1.heap.size<=D)
  (hQ:∀i,i<m->Qs C R cl i (Oq i) w') (Q:∀b,O' b->∀i,i<m->¬Oq i b) (an:∀b i j,i<m->j<m->Oq i b->Oq j b->i=j) (pG:∀b,O' b\/(∃i,i<m/\Oq i b)->b≠w.heap.size/\b<w'.heap.size/\¬S b/\((ρ b b/\¬S b)\/w.heap.size<b)) (aG:ir w1 w'):
  (∀b,ρ b b->Ob C R cl S ρ m Oq w' B2 D b\/S b\/b=w.heap.size)/\
  (∀b,Ob C R cl S ρ m Oq w' B2 D b->b≠w.heap.size/\(b<w.heap.size->ρ b b/\¬S b)/\∃o,w'.heap[b]? =aa o/\OR (eF λb=>Ob C R cl S ρ m Oq w' B2 D b\/S b\/b=w.heap.size) o o)/\
  After C R cl u (mask (Ob C R cl S ρ m Oq w' B2 D) w') xb u.heap.size w.heap.size B2 D:=by
 have bB:=G.size;have bA:w1.heap.size=w.heap.size+1:=by rw[aH];simp
 have bz:=aG.size;have bk:∀b,b<w.heap.size->w1.heap[b]? =w.heap[b]? :=λb d=>by rw[aH,fJ,aK ak]
 have RS:∀b,ρ b b->b<w.heap.size:=λb d=>(G.world.lt b b d).2
 have X:∀c,c∈sat cl->∃i z A v,OT C R cl m Oq w' i c z A v:=λc F=>by
  obtain⟨i,O⟩:=tM.1 F;have M:i<m:=by rw[hm];exact(dS.1 O).1
  obtain⟨k,g,z,A,v,r,f,B,h5,h6⟩:=hQ i M;rw[O]at g;cases g;exact⟨i,z,A,v,M,O,r,f,B,h5,h6⟩
 have bt:∀i c,i<m->(sat cl)[i]? =aa c->∀b,Oq i b->b<w.heap.size->C c b:=λi c M O b d T=>by
  have bh:=(pG b (aE ⟨i,M,d⟩)).2.2.2.resolve_right ak;refine pS λaf=>?_
  by_cases y:Kb C cl S ρ b
  ·exact Q b (hF.kept b y).1 i M d
  ·obtain⟨j,s⟩:∃j k,cl[j]? =aa (aa k)/\C k b:=pS λh=>y ⟨bh,λj k s F=>h ⟨j,k,s,F⟩⟩;obtain⟨k,s,N⟩:=s;obtain⟨i',z,A,v,U,g2,_,V,_,_,W⟩:=X k (FV.2 ⟨j,s⟩);have:=an b i i' M U d (W b b (V b b ⟨rfl,N⟩));subst this;rw[O]at g2;cases g2;exact af N
 have aI:∀b,ρ b b->Ob C R cl S ρ m Oq w' B2 D b\/S b\/b=w.heap.size:=λb d=>by
  by_cases hS:S b
  ·exact aE (aF hS)
  by_cases y:Kb C cl S ρ b
  ·exact aF (aF y)
  ·obtain⟨j,k,s,N⟩:∃j k,cl[j]? =aa (aa k)/\C k b:=pS λh=>y ⟨⟨d,hS⟩,λj k s F=>h ⟨j,k,s,F⟩⟩;obtain⟨i,z,A,v,p⟩:=X k (FV.2 ⟨j,s⟩);exact aF (aE (aE (aE ⟨i,k,z,A,v,p,b,p.2.2.2.1 b b ⟨rfl,N⟩⟩)))
 have aT:Kb C cl S ρ xb:=by obtain⟨o,I,J⟩:=rD E.sl;obtain⟨g,r,_,_⟩:=G.heap ((P _ (bq.1 I).1).trans I) J;exact⟨⟨g,r⟩,λj c s=>(E.cO j c s).1⟩
 have aj:Kb C cl S ρ u.heap.size:=by obtain⟨g,r,_,_⟩:=G.heap xM (by intro e;cases e);exact⟨⟨g,r⟩,λj c s h=>sr _ (E.own P G s h).1⟩
 have Z:∀b,Kb C cl S ρ b->∃o,u1.heap[b]? =aa o/\o≠cm/\w'.heap[b]? =aa o/\OR (eF λb=>ρ b b) o o:=λb y=>by obtain⟨o,I,J⟩:=G.FU y.1.1 y.1.2;obtain⟨_,_,f,B⟩:=G.heap I J;exact⟨o,I,J,(hF.kept b y).2.trans ((bk b (RS b y.1.1)).trans f),B⟩
 have aC:∀b,Ob C R cl S ρ m Oq w' B2 D b->(b<w.heap.size->(ρ b b/\¬S b)):=λb d T=>by
  rcases d with d|rfl|rfl|⟨i,c,z,A,v,p,a,H⟩
  ·exact d.1
  ·omega
  ·omega
  ·exact(pG b (aE ⟨i,p.1,p.2.2.2.2.2.2 a b H⟩)).2.2.2.resolve_right ak
 refine⟨aI,λb d=>⟨?_,aC b d,?_⟩,?_⟩
 ·rcases d with d|rfl|rfl|⟨i,c,z,A,v,p,a,H⟩
  ·have:=RS b d.1.1;omega
  ·omega
  ·omega
  ·exact(pG b (aE ⟨i,p.1,p.2.2.2.2.2.2 a b H⟩)).1
 ·rcases d with d|rfl|rfl|⟨i,c,z,A,v,p,a,H⟩
  ·obtain⟨o,_,_,f,B⟩:=Z b d;exact⟨o,f,B.mono (RU aI)⟩
  ·exact⟨_,K.bx,aay _ (aF (aF aT))⟩
  ·exact⟨_,K.df,.sV⟩
  ·obtain⟨o,I,Ce⟩:=fy.closed p.2.2.2.2.1 p.2.2.2.2.2.1 b ⟨a,H⟩;exact⟨o,I,Ce.mono (RU λb' aX=>aF (aE (aE (aE ⟨i,c,z,A,v,p,aX⟩))))⟩
 ·refine⟨by rw[vY];omega,?_,⟨bD _,ak,ak,ak⟩,λb d F=>?_,?_,?_,?_,λc b=>∃i,i<m/\(sat cl)[i]? =aa c/\Oq i b,?_,?_,?_⟩
  ·show w'.os=u.os;rw[aG.os,bl,G.world.os.1,N7]
  ·have T:b<w.heap.size:=ak;have Y:u.heap[b]? =aa u.heap[b]:=cX d
   by_cases J:u.heap[b]=cm
   ·have af:¬Ob C R cl S ρ m Oq w' B2 D b:=λI=>by
     obtain⟨g,r⟩:=aC b I T;obtain⟨o,f,B⟩:=G.FU g r;rw[P b d,Y]at f;exact B ((dP f).symm.trans J)
    rw[FT af ak,Y,J]
   ·obtain⟨g,r,_,_⟩:=G.heap ((P b d).trans Y) J;have y:Kb C cl S ρ b:=⟨⟨g,r⟩,F⟩;obtain⟨o,f,_,B,_⟩:=Z b y;rw[pI (aF y),B,<-f,P b d]
  ·obtain⟨o,f,_,B,_⟩:=Z _ aj;rw[pI (aF aj),B,<-f,xM]
  ·rw[pI (aE (aF rfl)),K.bx]
  ·rw[pI (aE (aE (aF rfl))),K.df]
  ·rintro c k b F N bg ⟨i,g,r,f⟩ ⟨i',k1,k2,k3⟩;have:=an b i i' g k1 f k3;subst this;rw[r]at k2;cases k2;exact bg rfl
  ·rintro c b F ⟨i,g,r,f⟩;exact⟨λe=>Q _ K.o1 i g (e▸f),λe=>Q _ K.o2 i g (e▸f),λe=>Q _ K.oD i g (e▸f),λT=>bt i c g r b f ak⟩
  ·intro c F;obtain⟨i,z,A,v,p⟩:=X c F;have bf:=p;obtain⟨U,g2,g3,V,g5,g6,W⟩:=p;exact⟨z,A,v,g3,V,g5.FU λa b H=>aE (aE (aE ⟨i,c,z,A,v,bf,a,H⟩)),g6,λa b H=>⟨i,U,g2,W a b H⟩⟩
end
end
section
open Go.Conc Go.Conc.Lib Go.ConcN.Gen Go.ConcR.Gen Go.RowKit
open Go.ConcN (ShN WgLive Has)
open Go.ConcR (Payload stA smA WgAt)
open Go.Proofs.Tryz
section
variable [aP] {l:aB bC} {C:Nat->Nat->Prop} {R:Nat->iz->az->Prop} {cl:aB (aZ Nat)} {xb sb n:Nat} {u u1 w w1:az} {cs:aB aV} {fr:aV} {gs kO:aJ bM} {t:Trace} {q:Nat->Nat} {Shun:Loc->Prop} {S:Nat->Prop} {ρ:Ren} {x:Obj} {sl:aZ (Nat×Nat)}
def OP(e:kZ)(C:Nat->Nat->Prop)(R:Nat->iz->az->Prop)(cl:aB (aZ Nat))(u:az)(xb:Nat)(cs:aB aV)(f:aV)(d:aB aV)(g:az):Prop:=
 d=cs/\∃a c b D,f=wtF e xb a c b D [] (.tuple #[])/\After C R cl u g xb a c b D
def ahc{X fG c d a D}(hS:aP.ok 96)(r:aP.known 61)(s:X xb)(g:X c)(m:X d)(j:X a)(k:X D):XF (eF X) (wtF fG xb c d a D [] (.tuple #[])):=by
 haveI:bw:=bU []
 have f:VR (eF X) au au:=uH _;have y:VR (eF X) (.tuple #[]) (.tuple #[]):=f
 have p:VR (eF X) (.func (.func 96) #[] #[pt a]) (.func (.func 96) #[] #[pt a]):=.func (.func _ hS) rfl (λi v e hv=>by simp at hv) rfl λi v e h b=>by
  rw[h]at b;cases b
  match i,h with
  |0,h=>cases h;exact Db j
  |i+1,h=>simp at h
 refine⟨⟨rfl,λi v e h b=>?_⟩,.cons ⟨.collected ⟨rfl,k⟩,rfl,λi v e h=>by simp at h⟩ .nil,rfl,r,.run⟩;rw[h]at b;cases b;change((kT xb c d a).setIfInBounds 10 (.tuple #[]))[i]? =aa v at h
 have o:∀v∈(kT xb c d a).setIfInBounds 10 (.tuple #[]),VR (eF X) v v:=by
  intro v hv;simp only[kT,rW,rX,rY,Ws,jR,DS,or_false]at hv;rcases hv with rfl|rfl|rfl|rfl|rfl|rfl|rfl|rfl|rfl|rfl|rfl|rfl|rfl|rfl|rfl|rfl|rfl|rfl|rfl|rfl|rfl|rfl|rfl
  all_goals first|exact f|exact Db s|exact Db g|exact Db m|exact p
 exact o v (mw h)
def atA(c:kZ)(xb a b:Nat):aV:=eu.at ⟨#[pt xb,pt a,pt b,au,au,au,au,au,au,au,au,au,au,au,au,au,au,au,au,au,au,au,au],[]⟩ [.code (zU c)]
def Enters.ms[bw][pX](E:Enters l C R u cl xb sb n)(s:∀b,b<u.heap.size->u1.heap[b]? =u.heap[b]?)(X:u1.heap.size=u.heap.size+1)(U:u1.heap[u.heap.size]? =aa (aA #[pt xb] 36))(Y:u1.os=u.os)(o:fu prog Shun S fr cs u1 ρ gs w t q)(I:w1.heap=w.heap.push x)(af:w1.os=w.os)(Z:WgAt link.tWg w.heap.size w1 0 0):
  MS prog link.tWg w.heap.size (Ev f61 C (Kb C cl S ρ) w1 cl xb sb u.heap.size w.heap.size n cs) (Qs C R cl) n 0 .opn (λb=>ρ b b/\¬S b) (G (atA f61 xb u.heap.size w.heap.size) cs) w1:=by
 have aC:w1.heap.size=w.heap.size+1:=by rw[I];simp
 have V:∀b,b<w.heap.size->w1.heap[b]? =w.heap[b]? :=λb d=>by rw[I,fJ,aK ak]
 have J:∀b,ρ b b->b<w.heap.size:=λb d=>(o.world.lt b b d).2
 have k:∀{a:bZ} {v:aD},u1.cell? a=aa v->(ρ a.block a.block/\¬S a.block)/\w1.cell? a=aa v:=λ{a v} h=>by obtain⟨m,K,p⟩:=o.cell h;exact⟨⟨m,K⟩,(cell_of (V _ (J _ m))).trans p⟩
 have y:∀{a:bZ} {v:aD},u.cell? a=aa v->u1.cell? a=aa v:=λ{a v} h=>(cell_of (s _ (zD h))).trans h;have F:u1.cell? (aj u.heap.size 0)=aa (pt xb):=by simp[fC,U]
 obtain⟨aG,M,W⟩:=E.dX;obtain⟨s1,s2,_,_⟩:=o.heap ((s _ (bq.1 M).1).trans M) W
 refine xU (aF rfl) (Stop:=λi g e=>∃f D L v,g=pF f61 f96 xb sb u.heap.size w.heap.size f D L n 0 v cs/\fF f61 xb sb u.heap.size w.heap.size f D L n cl .ready i e/\jG C (Kb C cl S ρ) w1 cl 0 i e/\w1.heap.size<=f/\w1.heap.size<=D/\w1.heap.size<=L)
  (acI (cl:=cl) (n:=n) (k F).1 (k (y E.sl)).1 ⟨s1,s2⟩ (λh=>sr _ (J _ h.1)) (λb d=>by have:=J b d.1;omega) ⟨_,_,Z⟩ (k F).2 (k (y E.sl)).2 (λj v H=>(k (y (E.at_ j v H))).2) E.len λf D L i e v m K p P Q T z g2 A B=>.stop λaH r=>⟨f,D,L,v,rfl,B.rel r,?_,z,g2,A⟩) λi g e h=>?_
 ·refine jG.rel (w:=e) ?_ r;refine⟨Q,T,P,λj c _ H b d=>?_,λb d=>⟨m b d.1,p b d.1⟩⟩;obtain⟨_,N,O,_⟩:=E.own s o H d;exact⟨m b ⟨N,O⟩,p b ⟨N,O⟩⟩
 ·obtain⟨f,D,L,v,rfl,B,hF,z,g2,A⟩:=h e (.refl ..);have:=La (cs0:=cs) (E.setup s X F Y o I af) z g2 A n 0 v i e ak B hF;simpa[sat]using this
def Enters.vR[bw][pX](E:Enters l C R u cl xb sb n)(r:∀b,b<u.heap.size->u1.heap[b]? =u.heap[b]?)(T:u1.heap.size=u.heap.size+1)(p:u1.heap[u.heap.size]? =aa (aA #[pt xb] 36))(U:u1.os=u.os)(c:fu prog Shun S fr cs u1 ρ gs w t q)(s:w1.heap=w.heap.push x)(v:ir w w1)(V:WgAt link.tWg w.heap.size w1 0 0)
  {a} (H:kO[0]? =aa a) (Q:kO.size=gs.size) (F:Leavers prog t kO q)
  (M:MS prog link.tWg w.heap.size (Ev f61 C (Kb C cl S ρ) w1 cl xb sb u.heap.size w.heap.size n cs) (Qs C R cl) n 0 .opn (λb=>ρ b b/\¬S b) a w1):
  Er prog (OP f61 C R cl u xb cs) ρ Shun w kO w1 sl t:=by
 refine F8 c s v V H Q F E.small M λm W X j g O G I J N Y P=>?_;obtain⟨hm,d,D,L,rfl,B,hF,y,g2⟩:=O;obtain⟨h,z,A⟩:=E.over r T p U c s v.os hm B hF y g2 G I J N P
 have K:ρ.le (eF λb=>Ob C R cl S ρ m g j d D b\/S b\/b=w.heap.size):=λa b k=>by obtain rfl:=c.same _ _ k;exact⟨rfl,h a k⟩
 have own:∀{b:Nat} {o:Obj},u1.heap[b]? =aa o->o≠cm->Ob C R cl S ρ m g j d D b\/S b\/b=w.heap.size:=λf i=>h _ (c.heap f i).1;refine⟨_,cs,Ob C R cl S ρ m g j d D,rfl,⟨rfl,_,_,d,D,rfl,A⟩,z,ahc E.okS E.kn ?_ (own p (by intro e;cases e)) (aE (aE rfl)) (aF (aE (aF rfl))) (aF (aE (aE (aF rfl)))),h,c.below.mono K⟩;obtain⟨o,f,i⟩:=rD E.sl;exact own ((r _ (bq.1 f).1).trans f) i
end
def qz(fn:kZ):aJ Oper:=match fn.body with|some (.seq (.region _ x _) _)=>x|_=>#[]
def pJ(fn:kZ):aJ Oper:=match fn.body with|some (.seq _ (.seq (.region _ x _) _))=>x|_=>#[]
section
variable [aP] {l:aB bC} {C:Nat->Nat->Prop} {R:Nat->iz->az->Prop} {cl:aB (aZ Nat)} {xb sb n:Nat} {u:az} {cs:aB aV}
def aad{Q k}(h:∀id a u,¬Q (.exit id) a u):qV Q k:=λid ⟨a,u,b⟩=>absurd b (h id a u)
def kS(xb:Nat)(x y:aD):Act:=⟨#[pt xb,x,y,au,au,au,au,au,au,au,au,au,au,au,au,au,au,au,au,au,au,au,au],[]⟩
def ZB(xb):Frame.enter prog 61 #[pt xb] .normal=eu.at (kS xb au au) [.code (.seq (.region 0 (qz f61) av) (.seq (.region 1 (pJ f61) av) (zU f61)))]:=by
 rw[enter_at (c:=.seq (.region 0 (qz f61) av) (.seq (.region 1 (pJ f61) av) (zU f61))) _ func61 rfl];generalize (Code.seq _ _)=c;have a:f61.ntmps=23:=rfl;rw[a]
 walk_nrm
 rfl
def Yb(w):(execOp (kS xb au au).eval ((qz f61).getD 0 default)).run prog w=.ok (.value (pt w.heap.size)) {w with heap:=w.heap.push (aA #[pt xb] 36)}:=by simp only[qz,f61];unfold execOp;simp[go_sem,kS,Act.eval]
def U6(x w):(execOp (kS xb x au).eval ((pJ f61).getD 0 default)).run prog w=.ok (.value (pt w.heap.size)) {w with heap:=w.heap.push (AD link.tWg 0 0)}:=by simp;unfold execOp;simp[go_sem,kS,Act.eval];rfl
def U5(x w):listed prog eu.fn (kS xb x au) ((pJ f61).getD 0 default) w=#[]:=by
 have:(execOp (kS xb x au).eval ((pJ f61).getD 0 default)).events prog w #[]=#[]:=by simp only[pJ,f61];unfold execOp;simp[go_sem,kS,Act.eval]
 unfold listed;rw[this];exact seen_none _ _
def abw[pX](E:Enters l C R u cl xb sb n):Reach prog (OP f61 C R cl u xb cs) (Frame.enter prog 61 #[pt xb] .normal) cs u:=by
 haveI:bw:=bU []
 have a1:(qz f61)[0]? =aa ((qz f61).getD 0 default):=rfl;have z:dg ((qz f61).getD 0 default) (yielded (qz f61) (kS xb au au).tmps)=aq:=rfl;have a3:okB prog l ((qz f61).getD 0 default).op=aq:=rfl;have A:dH (qz f61).size=[0]:=rfl;have B:∀v,(kS xb au au).put ((qz f61).getD 0 default).dst v=kS xb v au:=λv=>rfl;have b1:(pJ f61)[0]? =aa ((pJ f61).getD 0 default):=rfl;have D:∀v,dg ((pJ f61).getD 0 default) (yielded (pJ f61) (kS xb v au).tmps)=aq:=λv=>rfl;have F:dH (pJ f61).size=[0]:=rfl;have H:∀v c,(kS xb v au).put ((pJ f61).getD 0 default).dst c=kS xb v c:=λv c=>rfl;have K:=λw=>Yb (xb:=xb) w;have M:=λx w=>U6 (xb:=xb) x w;have L:=λx w=>U5 (xb:=xb) x w;have I:∀(y:Nat),eu.at (kS xb (pt u.heap.size) (pt y)) [.code (zU f61)]=atA f61 xb u.heap.size y:=λy=>rfl;rw[ZB];generalize qz f61=Z at*;generalize pJ f61=p at*;generalize Y:zU f61=rest at*;refine .at_ (λ_=>cg) (.at_ (λ_=>stepG_region) ?_);rw[A];refine Reach.bind ((OX.value (Q:=λe i P=>e=.normal/\i=kS xb (pt u.heap.size) au/\P={u with heap:=u.heap.push (aA #[pt xb] 36)}) (u1:={u with heap:=u.heap.push (aA #[pt xb] 36)}) (v:=pt u.heap.size) E.fit a1 z a3 (λT=>K (u.tp T)) (OX.nil ⟨rfl,B _,rfl⟩)) eu _ cs trivial (aad λ_ _ _ h=>by cases h.1)) ?_;rintro V a u1 ⟨e,i,⟨rfl,rfl,rfl⟩,rfl,rfl⟩;refine .at_ (λ_=>cg) (.at_ (λ_=>stepG_region) ?_);rw[F];refine Reach.aas λU S s gs w t q j _=>?_
 have N:stepG prog aq (G (eu.at (kS xb (pt u.heap.size) au) [.inRegion p [0],.code rest]) a) w=.go (G (eu.at (kS xb (pt u.heap.size) (pt w.heap.size)) [.inRegion p [],.code rest]) a) {w with heap:=w.heap.push (AD link.tWg 0 0)}:=by rw[stepG_value (v:=pt w.heap.size) b1 (D _) (by simp[eu]) (M _ w),L,H]
 refine⟨_,_,_,N,λW sl h0 O J=>?_⟩;have m:∀b,b<u.heap.size->(u.heap.push (aA #[pt xb] 36))[b]? =u.heap[b]? :=λb X=>by rw[fJ,aK ak]
 have o:WgAt link.tWg w.heap.size {w with heap:=w.heap.push (AD link.tWg 0 0)} 0 0:=by show(w.heap.push _)[w.heap.size]? =_;simp
 have k:=E.ms (u1:={u with heap:=u.heap.push (aA #[pt xb] 36)}) (w1:={w with heap:=w.heap.push (AD link.tWg 0 0)}) m aC aC rfl j rfl rfl o;refine E.vR (u1:={u with heap:=u.heap.push (aA #[pt xb] 36)}) (w1:={w with heap:=w.heap.push (AD link.tWg 0 0)}) m aC aC rfl j rfl ⟨rfl,rfl,rfl,aC⟩ o h0 O J ?_;rw[<-I]at k;refine xU (aF rfl) (Stop:=λf g d=>f=(λb=>s b b/\¬S b)/\g=G (eu.at (kS xb (pt u.heap.size) (pt w.heap.size)) [.code rest]) a/\Rel link.tWg w.heap.size (λb=>s b b/\¬S b) {w with heap:=w.heap.push (AD link.tWg 0 0)} d) (.regionEnd (.stop λah r=>⟨rfl,rfl,r⟩)) λf g d h=>?_;obtain⟨rfl,rfl,r⟩:=h d (.refl ..);exact k.rely r
end
end
section
open Go.Conc Go.Conc.Lib Go.ConcN.Gen Go.ConcR.Gen Go.RowKit
open Go.ConcR (Payload)
open Go.Proofs.Tryz
section
variable [aP] {l:aB bC} {C:Nat->Nat->Prop} {R:Nat->iz->az->Prop} {cl:aB (aZ Nat)} {xb sb n:Nat} {u:az} {cs:aB aV}
def tlF(d:kZ)(xb a c b D:Nat):aV:=eu.at ⟨(kT xb a c b).setIfInBounds 10 (.tuple #[]),[{target:=.collected D,args:=#[]}]⟩ [.code (wE d)]
def Yj[pX](E:Enters l C R u cl xb sb n){R'}(k:eK prog l av (wE f61)=aq)(hR:∀e u i,R' e u->R' e (az.tp u i))(m:∀e u,R' e u->∃v,e=aM v)
  (h:∀d a c b D,After C R cl u d xb a c b D->∀i,∃e g f,R' e g/\Comes prog (lone (tlF f61 xb a c b D) [bot prog] (d.tp i)) (lone f [bot prog] g) e/\f.fn=61/\f.leaving prog g e):
  fc prog 61 #[pt xb] u R':=λcs=>by
 letI:bw:=bU []
 refine(abw (cs:=cs) E).bind ?_;rintro p o d ⟨rfl,a,c,b,D,rfl,j⟩;refine .at_ (k':=[.code (wE f61)]) (λ_=>cJ) ?_;exact Reach.left (l:=l) E.fit (λq=>.cons (.code k) .nil) rfl hR m (h d a c b D j)
end
end
section
open Go.RowKit
def bV(w:az)(n:Nat)(o:Obj):(w.drewN n).alloc o=(w.alloc o).drewN n:=rfl
def bQ(w:az)(n:Nat)(a:bZ)(v:aD):(w.drewN n).setCell a v=(w.setCell a v).drewN n:=rfl
def Ty{k a b}(h:a=b):yF (.int k a)=aM (.int k b):=by rw[h]
abbrev fN(sz cl qu a b rt bu wk ou:Int):aJ aD:=#[an sz,an cl,an qu,an a,an b,an rt,an bu,an wk,an ou]
abbrev jX(d:Int)(c:ByteArray)(b fl a of ln:Int)(dt:ByteArray)(er:Int):aJ aD:=#[an d,.string c,an b,an fl,an a,an of,an ln,.string dt,an er]
abbrev fP(m:bg):aJ aD:=jX m.wh m.nm m.kd m.fl m.ck m.of m.ln m.dt m.er
abbrev gM:aJ aD:=jX 0 ⟨#[]⟩ 0 0 0 0 0 ⟨#[]⟩ 0
abbrev rA(s:ByteArray):aJ aD:=jX 3 ⟨#[]⟩ (bt s 1) (bt s 2) (two s 3) (two s 5) (two s 7) ⟨#[]⟩ 0
end
section
open Go.Proofs.Tryz
open Go.RowKit
def Lp(b:UInt8)(w):
  bN 237 #[.int .u8 (b.toNat:Int)] w (.string ⟨#[b]⟩):=by
 have d:=Bt (w.alloc (aA #[.int .u8 (b.toNat:Int)] 5)) 158 9 5 ⟨w.heap.size,0,ay⟩ 1 [b] underlying158 underlying5 underlying9
 have a:∀(j:Nat) (c:j<[b].length),(w.alloc (aA #[.int .u8 (b.toNat:Int)] 5)).cell? ((⟨w.heap.size,0,ay⟩:bZ).add j)=aa (.int .u8 (([b]:aB UInt8)[j].toNat:Int)):=by
  intro j c
  match j,c with
  |0,_=>simp;simp[Addr.add,go_sem]
 have e:(convert 158 9 (.slice (aa (aj w.heap.size 0)) 1 1)).run prog (w.alloc (aA #[.int .u8 (b.toNat:Int)] 5))=.ok (.string ⟨#[b]⟩) (w.alloc (aA #[.int .u8 (b.toNat:Int)] 5)):=d a;clear d a;go_enter func237,ntmps237;go_wp2;go_ret;exact⟨rfl,bp⟩
def afQ(s w)(c:s.size<=cC)(a:1<s.size):
  Calls prog 273 #[.string s] w λe d=>e=aM (an (two s 0))/\∃n,d=w.drewN n:=by
 unfold cC at c;have b:0<s.size:=ak;have f:=vK s 0 b;have g:=vK s 1 a;have h:=pg s 0;have i:=pg s 1;go_enter func273,ntmps273;go_wp2
 go_quiet (fail)
 go_wp2;go_ret;refine⟨Ty ?_,_,rfl⟩;simp only[two]
 go_light
 rw[fX];omega
def Ca(m:bg):Bool:=if m.kd=1\/m.kd=3\/m.kd=4 then decide (m.fl<=1)else decide (m.fl=0)
def CC(m:bg):Bool:=if m.kd=2\/m.kd=5 then decide (m.of=0/\m.ln=0)else decide (m.ln≠0/\m.of %4=0/\m.ln %4=0)
def JV(m w):
  bN 274 #[.agg (fP m)] w (.bool (Ca m)):=by
 obtain⟨g,f,e,d,a,of,ln,b,c⟩:=m;go_enter func274,ntmps274;go_wp2
 all_goals (go_ret;refine⟨?_,bp⟩;go_light;simp_all[Ca];try rfl)
def Tj(m w)(h0:0<=m.of)(a:0<=m.ln):
  bN 275 #[.agg (fP m)] w (.bool (CC m)):=by
 obtain⟨h,g,f,e,b,of,ln,c,d⟩:=m;dsimp only at h0 a;go_enter func275,ntmps275;go_wp2
 all_goals (go_ret;refine⟨?_,bp⟩;go_light;simp_all[CC];try(first|omega|(rw[yE];simp_all)))
def infoByte:(prog.info? 5).map (λi=>(i.zero,i.size,i.bytes))=aa (aa (.int .u8 0),1,1):=aT
def S7(s w)(C:s.size<=281474976710656):
  bN 171 #[.string s] w (.string s):=by
 by_cases h0:s.size=0
 ·obtain rfl:s=⟨#[]⟩:=wK (Hi h0);go_enter func171,ntmps171;go_wp2;go_ret;exact⟨rfl,Below.refl _ _⟩
 ·obtain⟨i,c,v,d,y⟩:=qO infoByte;have r:(prog.info? 5).map (·.size)=aa 1:=by rw[c];simp[d]
  have o:prog.cellsOf 5=1:=by simp[Program.cellsOf,c,d]
  obtain⟨M,a⟩:∃M,M=madeCells (Value.int .u8 0).cells (((s.size:Nat):Int).toNat*i.size):=⟨_,rfl⟩;have z:M.size=s.size:=by rw[a,size_madeCells,d];simp
  have D:∀W:az,(Instr.makeSlice 158 (an (s.size:Int)) (an (s.size:Int))).run prog W=.ok (.slice (aa (aj W.heap.size 0)) s.size s.size) (W.alloc (aA M 5)):=λW=>by have h:=run_make (P:=prog) W 158 5 i (.int .u8 0) underlying158 c v .i64 .i64 (s.size:Int) (s.size:Int) ak ak (by rw[y];omega) ak;rw[<-a]at h;simpa using h
  clear a;have q:=Lib.run_copy_row_string (P:=prog) (w.alloc (aA M 5)) 158 9 3 5 w.heap.size 0 s.size s.size s M 5 underlying158 r (cG w _) (bD _) ak;obtain⟨Y,b⟩:∃Y,Y=(M.toList.take 0++lP s.data.toList++M.toList.drop (0+s.size)).toArray:=⟨_,rfl⟩;rw[<-b]at q
  have f:Y.toList=lP s.data.toList:=by rw[b,List.toList_toArray,List.take_zero,pV,List.drop_of_length_le (by rw[rO];omega),DJ]
  have A:Y.size=s.size:=by rw[<-rO,f,Lib.byteCells_length,<-AN]
  have g:((w.alloc (aA M 5)).setRow w.heap.size Y).heap[w.heap.size]? =aa (aA Y 5 (0,0)):=Ox _ _ M _ 5 (0,0) (cG w _);have t:s.data.toList≠[]:=λe=>h0 (by rw[AN,e];rfl)
  have l:=Lib.run_unsafeString_row (P:=prog) ((w.alloc (aA M 5)).setRow w.heap.size Y) 262 3 9 5 underlying262 o w.heap.size Y.size (by unfold World.shape?;rw[g]) s.data.toList t (by rw[<-AN];omega) (by rw[<-AN];omega)
   (λj x u=>Lib.cells_of_row g Y.size j _ (by rw[uX (by rw[rO];exact bD _),f];simp[lP,u]))
  rw[<-AN]at l;clear b;go_enter func171,ntmps171;go_wp2;go_ret;have m:aN w (w.alloc (aA M 5)):=bp;have n:Below w.heap.size (w.alloc (aA M 5)) ((w.alloc (aA M 5)).setRow w.heap.size Y):=⟨rfl,rfl,rfl,aC,λk B=>setRow_other _ _ _ _ ak⟩;exact⟨rfl,Lib.below_freeze (m.trans n) (p:=aj w.heap.size 0) (bD _) _⟩
def JD(s w)(b:s.size<=281474976710656):
  bN 117 #[.string s] w (.string s):=by
 go_enter func117,ntmps117;go_wp2_with (go_at_call 171;refine(S7 s _ b).mono ?_;rintro e c ⟨rfl,a⟩);go_ret;exact⟨rfl,a⟩
abbrev Qz:ByteArray:=⟨#[70,69,82,82,89]⟩
def J2(k)(h:k<Qz.size):(Qz[k].toNat:Int)=vS k:=by
 match k,h with
 |0,_=>rfl
 |1,_=>rfl
 |2,_=>rfl
 |3,_=>rfl
 |4,_=>rfl
def J3(k):0<=vS k/\vS k<=255:=by unfold vS;repeat' split;all_goals omega
def EK{B b w W}(h:Below B w W)(a:B<=b)(v0 v1 v2 v3 v4 v5 v6 v7 v8):
  Below B w (((((((((W.setCell (aj b 0) v0).setCell (aj b 1) v1).setCell (aj b 2) v2).setCell (aj b 3) v3).setCell (aj b 4) v4).setCell (aj b 5) v5).setCell (aj b 6) v6).setCell (aj b 7) v7).setCell (aj b 8) v8):=
 ((((((((h.setCell (p:=aj b 0) a v0).setCell (p:=aj b 1) a v1).setCell (p:=aj b 2) a v2).setCell (p:=aj b 3) a v3).setCell (p:=aj b 4) a v4).setCell (p:=aj b 5) a v5).setCell (p:=aj b 6) a v6).setCell (p:=aj b 7) a v7).setCell (p:=aj b 8) a v8
abbrev bg.val(m:bg):aD:=.agg (fP m)
def lI(m:bg)(sz:Int):Int:=
 if 5<m.kd\/Ca m=av\/CC m=av then 22 else if m.of+m.ln<=sz then 0 else if m.kd=1\/m.kd=4 then 28 else 22
def ZQ(m sz)(n:0<=m.kd)(hf:0<=m.fl)(s:0<=sz):lI m sz=verdict sz m.kd m.fl m.of m.ln:=by
 obtain⟨u,t,f,g,p,of,ln,q,r⟩:=m;dsimp only at n hf;unfold lI verdict Ca CC;dsimp only
 by_cases i:5<f
 ·simp[i]
 have k:f=0\/f=1\/f=2\/f=3\/f=4\/f=5:=ak
 by_cases l:1<g
 ·have f1:¬g<=1:=ak;have f0:¬g=0:=ak;simp[i,l,f1,f0]
 have j:g=0\/g=1:=ak
 by_cases e:of+ln<=sz
 ·have h:¬sz<of+ln:=ak;simp only[e,h,cV,dQ]
  by_cases a:of=0<;>by_cases b:ln=0<;>by_cases c:of %4=0<;>by_cases d:ln %4=0
  all_goals (rcases k with rfl|rfl|rfl|rfl|rfl|rfl<;>rcases j with rfl|rfl<;>simp[a,b,c,d])
 ·have h:sz<of+ln:=ak;simp only[e,h,cV,dQ];have o:¬(of=0/\ln=0):=ak
  by_cases a:of=0<;>by_cases b:ln=0<;>by_cases c:of %4=0<;>by_cases d:ln %4=0
  all_goals (try(exfalso;exact o ⟨a,b⟩))
  all_goals (rcases k with rfl|rfl|rfl|rfl|rfl|rfl<;>rcases j with rfl|rfl<;>simp[a,b,c,d])
def Qy(m sz w)(h0:0<=m.of)(u:m.of<=65535)(r:0<=m.ln)(v:m.ln<=65535):
  bN 261 #[m.val,an sz] w (an (lI m sz)):=by
 obtain⟨i,g,a,f,b,of,ln,c,d⟩:=m;dsimp only at h0 u r v
 by_cases s:5<a
 ·have hF:Hid (lI ⟨i,g,a,f,b,of,ln,c,d⟩ sz=22):=by unfold lI;rw[aW (aF s)];rfl
  have z:decide (5<a)=aq:=by simpa using s
  go_enter func261,ntmps261;go_wp2_with fail;go_ret;exact⟨dZ (λx=>yF (an x)) hF.out.symm,bp⟩
 ·have z:decide (5<a)=av:=by simpa using s
  cases l:Ca ⟨i,g,a,f,b,of,ln,c,d⟩with
  |false=>
   have hF:Hid (lI ⟨i,g,a,f,b,of,ln,c,d⟩ sz=22):=by unfold lI;rw[aW (aE (aF l))];rfl
   go_enter func261,ntmps261;go_wp2_with (go_at_call 274;refine(JV ⟨i,g,a,f,b,of,ln,c,d⟩ _).mono ?_;rw[l];rintro e k ⟨rfl,j⟩);go_ret;exact⟨dZ (λx=>yF (an x)) hF.out.symm,bp.trans (j.mono aC)⟩
  |true=>
   cases p:CC ⟨i,g,a,f,b,of,ln,c,d⟩with
   |false=>
    have hF:Hid (lI ⟨i,g,a,f,b,of,ln,c,d⟩ sz=22):=by unfold lI;rw[aW (aE (aE p))];rfl
    go_enter func261,ntmps261;go_wp2_with (first|(go_at_call 274;refine(JV ⟨i,g,a,f,b,of,ln,c,d⟩ _).mono ?_;rw[l];rintro e k ⟨rfl,j⟩;obtain⟨y,A⟩:=lE j;have q:=j.size)|(go_at_call 275;refine(Tj ⟨i,g,a,f,b,of,ln,c,d⟩ _ h0 r).mono ?_;rw[p];rintro e t ⟨rfl,n⟩));go_ret;exact⟨dZ (λx=>yF (an x)) hF.out.symm,(bp.trans (j.mono aC)).trans (n.mono (by simp at q;omega))⟩
   |true=>
    have hF:Hid (lI ⟨i,g,a,f,b,of,ln,c,d⟩ sz=(if of+ln<=sz then 0 else if a=1\/a=4 then 28 else 22)):=by unfold lI;rw[aK (by rw[l,p];simp;omega)];rfl
    have B:∀k:az,(w.alloc (aA (jX i g a f b of ln c d) 132)).heap.size<=k.heap.size->w.heap.size+1<=k.heap.size:=λk h=>by simpa using h
    go_enter func261,ntmps261;go_wp2_with (first|(go_at_call 274;refine(JV ⟨i,g,a,f,b,of,ln,c,d⟩ _).mono ?_;rw[l];rintro e k ⟨rfl,j⟩;obtain⟨y,A⟩:=lE j;have q:=j.size)|(go_at_call 275;refine(Tj ⟨i,g,a,f,b,of,ln,c,d⟩ _ h0 r).mono ?_;rw[p];rintro e t ⟨rfl,n⟩;have C:∀o,t.cell? (aj w.heap.size o)=k.cell? (aj w.heap.size o):=λo=>n.cell (B _ q)))
    all_goals (go_ret;refine⟨Eq.trans (Ty ?_) (dZ (λx=>yF (an x)) hF.out.symm),(bp.trans (j.mono aC)).trans (n.mono (by simp at q;omega))⟩;go_light;(repeat' split)<;>simp_all<;>omega)
abbrev oZ(n:Int):aD:=.iface 294 (.agg #[an n])
def Ends(r:bg×Int)(e:iz):Prop:=
 (r.1=.closing/\e=.panicked [{v:=oZ r.2,recovered:=av}])\/(r.1.wh≠4/\e=aM (.tuple #[r.1.val,an r.2]))
def Qv(s:ByteArray)(i:Nat)(h:i<s.size):s.extract i (i+1)=⟨#[s[i]]⟩:=by
 apply wK;apply Array.ext
 ·simp[uM];omega
 ·intro j a b;have:j=0:=by grind
  subst this;simp[uM];rfl
def SX(s:ByteArray)(w:az)(l:s.size<=cC):
  Calls prog 229 #[.string s] w λe m=>Ends (opt s) e/\aN w m:=by
 unfold cC at l
 by_cases h0:s.size=0
 ·obtain rfl:s=⟨#[]⟩:=wK (Hi h0);go_enter func229,ntmps229;go_wp2;exact gn (v:=.tuple #[bg.zero.val,an 0]) (by simp[results,results229,go_sem,bg.zero]) rfl ⟨aE ⟨by rw[show opt ⟨#[]⟩=(bg.zero,0) from rfl];decide,rfl⟩,bp⟩
 ·have o:s.toList.isEmpty=av:=by
   rw[Bool.eq_false_iff,ByteArray.toList_eq];intro e;have:=List.isEmpty_iff.1 e;exact h0 (by rw[AN,this];rfl)
  have g:0<s.size:=ak;have q:(0:Int)<s.size:=ak;have i:=vK s 0 g;have r:=pg s 0
  by_cases a:bt s 0<97\/122<bt s 0
  ·have b:Hid (opt s=(.closing,1)):=by unfold opt;rw[aK h0,aW a];rfl
   have c:=bf a;clear a
   by_cases k:bt s 0<97
   ·clear c;go_enter func229,ntmps229;go_wp2;exact⟨rfl,aF (by rw[b.out];exact⟨rfl,rfl⟩),bp⟩
   ·have j:122<bt s 0:=by have:=c.out;omega
    clear c;go_enter func229,ntmps229;go_wp2;exact⟨rfl,aF (by rw[b.out];exact⟨rfl,rfl⟩),bp⟩
  ·have b:Hid (opt s=(⟨2,s.extract 0 1,0,0,0,0,0,⟨#[]⟩,0⟩,1)):=by unfold opt;rw[aK h0,aK a];rfl
   have k:¬bt s 0<97:=ak;have j:¬122<bt s 0:=ak;clear a
   have f:∀W,bN 237 #[.int .u8 (bt s 0)] W (.string (s.extract 0 1)):=λW=>by have:=Lp s[0] W;rw[i]at this;rw[Qv s 0 g];exact this
   have h:=bf f;clear f;go_enter func229,ntmps229;go_wp2_with (go_at_call 237;refine(h.out _).mono ?_;rintro e t ⟨rfl,d⟩;obtain⟨n,p⟩:=lE d);exact gn (v:=.tuple #[bg.val ⟨2,s.extract 0 1,0,0,0,0,0,⟨#[]⟩,0⟩,an 1]) (by simp[results,results229,go_sem, *]) rfl ⟨aE (by rw[b.out];exact⟨show(2:Int)≠4 by decide,rfl⟩),EK (bp.trans (d.mono aC)) (bD _) _ _ _ _ _ _ _ _ _⟩
def Rk(s:ByteArray)(w:az)(u:s.size<=cC):
  Calls prog 228 #[.string s] w λe x=>Ends (nB s) e/\aN w x:=by
 unfold cC at u;obtain⟨N,q⟩:∃N:Nat,N=min s.size 5:=⟨_,rfl⟩
 have I:∀W,(Builtin.min_ #[3,3] 3 #[an (s.size:Int),an 5]).run prog W=.ok (an (N:Int)) W:=λW=>by
  rw[run_min_int2]
  congr 2
  split<;>omega
 have B:N<=5:=ak;have C:N<=s.size:=ak;have g:=bf q;go_enter func228,ntmps228;go_wp2
 go_loopw [8] (λi wr=>∃k:Nat,k<=N/\i=an k/\Hid (nB s=dz s (5-k) k)/\∃d,wr=(w.alloc (aA (gM) 132)).drewN d) (λi _=>N-(eY i).toNat)
 case atStart=>exact⟨0,eZ _,rfl,rfl,0,rfl⟩
 case round=>
  obtain⟨k,F,rfl,b,d,rfl⟩:=hrel
  by_cases H:k<N
  ·have f:k<5:=ak;have t:k<s.size:=ak;have y:=vK s k t;have z:=J2 k f;have L:=pg s k;have M:=J3 k;have J:(k:Int)<s.size:=ak
   by_cases c:bt s k=vS k
   ·have a:Hid (nB s=dz s (5-(k+1)) (k+1)):=by
     have:=b.out;rw[show 5-k=(5-(k+1))+1 by omega,dz,aK ak,aW c]at this;exact this
    have r:(bt s k !=vS k)=av:=by simpa using c
    go_wp2
    go_quiet (fail)
    go_wp2
    go_roundw
    case rel=>exact⟨k+1,ak,by go_num,a,_,rfl⟩
    case measure=>simp[eY];omega
   ·have a:Hid (nB s=(.closing,(k:Int)+1)):=by
     have:=b.out;rw[show 5-k=(5-(k+1))+1 by omega,dz,aK ak,aK c]at this;exact this
    have r:(bt s k !=vS k)=aq:=by simpa using c
    go_wp2
    go_quiet (fail)
    go_wp2;exact⟨rfl,aF (by rw[a.out];exact⟨rfl,rfl⟩),iU (bp) _⟩
  ·obtain rfl:k=N:=ak
   by_cases A:s.size<=5
   ·have a:Hid (nB s=(.zero,0)):=by
     have h:=b.out;have G:k=s.size:=by have:=g.out;omega
     by_cases p:k=5
     ·rw[p,show 5-5=0 from rfl,dz,aW ak]at h;exact h
     ·rw[show 5-k=(4-k)+1 by omega,dz,aW ak]at h;exact h
    go_wp2;exact gn (v:=.tuple #[bg.zero.val,an 0]) (by simp[results,results228,go_sem,bg.zero]) rfl ⟨aE (by rw[a.out];exact⟨bL,rfl⟩),EK (iU (bp) _) (bD _) _ _ _ _ _ _ _ _ _⟩
   ·have f:k=5:=by have:=g.out;omega
    have a:Hid (nB s=(⟨1,s.extract 5 6,0,0,0,0,0,⟨#[]⟩,0⟩,6)):=by have h:=b.out;rw[f,show 5-5=0 from rfl,dz,aK ak]at h;exact h
    have m:5<s.size:=ak;have K:(5:Int)<s.size:=ak;have o:=vK s 5 m;have O:=pg s 5
    have l:∀W,bN 237 #[.int .u8 (bt s 5)] W (.string (s.extract 5 6)):=λW=>by have:=Lp s[5] W;rw[o]at this;rw[Qv s 5 m];exact this
    have n:=bf l;clear l;go_wp2_with (go_at_call 237;refine(n.out _).mono ?_;rintro e P ⟨rfl,j⟩;obtain⟨D,E⟩:=lE j);exact gn (v:=.tuple #[bg.val ⟨1,s.extract 5 6,0,0,0,0,0,⟨#[]⟩,0⟩,an 6]) (by simp[results,results228,go_sem, *]) rfl ⟨aE (by rw[a.out];exact⟨show(1:Int)≠4 by decide,rfl⟩),EK ((iU (bp) _).trans (j.mono aC)) (bD _) _ _ _ _ _ _ _ _ _⟩
def sizeOf'(m:bg):Int:=if m.kd=0 then 4+m.ln else 4
def bY(m:bg):Int:=if m.kd=2 then 4 else m.ln
def BR(x)(h0:0<=x)(a:x<256):((tR x.toNat).toNat:Int)=x:=by simp[Eb];omega
end
section
attribute [local go_sem ↓] Go.wp_at_zero Go.wp_at_succ
attribute [local go_sem] bV bQ
open Go.Conc Go.RowKit
open Go.Proofs.Tryz
abbrev clL(no wt sz cl qu a b rt bu wk ou:Int)(rb:Nat)(s:ByteArray)(out:aD)(tok de:Int)(ch:Nat):aJ aD:=
 #[an no,an wt,an sz,an cl,an qu,an a,an b,an rt,an bu,an wk,an ou,aR rb,.string s,.slice ay 0 0,an 0,an 0,out,an tok,an de,an 0,.chan (aa ch)]
def zM(c ch w)(h:w.cell? (aj c 20)=aa (.chan (aa ch)))(hc:w.heap[ch]? =aa (.chan 0 #[] av 0 0 av)):
  fK 116 #[aR c] w (.bool av):=by
 refine Vp λcs=>?_
 have e:Frame.enter prog 116 #[aR c] .normal=(base 116).at ⟨#[aR c,au,au,au,au,au,au,au,au,au],[]⟩ [.code (f116.body.getD .skip)]:=by simp[Frame.enter,Frame.at,func116,base,f116]
 rw[e];refine Iy (n:=13) ?_;simp only[f116,mY]
 s_c cg
 s_reg
 s_op
 s_c cJ
 s_c cg
 s_reg
 s_op
 s_op
 s_op
 s_op
 s_c cJ
 s_c cg
 s_reg
 s_stop
 refine Ww (step_lone_select_default (c:=ch) (z:=.agg #[]) (cap:=0) (s:=0) (r:=0) (tm:=av) (stepG_comm (cases:=#[rcase ch (.agg #[])]) (blocking:=av) (shape:=.select) (w':=w) rfl rfl bL (by simp[go_sem,execOp,rcase,Act.eval])) hc) ?_;rw[wN]
 walk_nrm
 refine Iy (n:=11) ?_
 s_op
 s_op
 s_c cJ
 s_c stepG_block
 s_cond av
 s_c cg
 s_reg
 s_op
 s_c cJ
 s_c stepG_ret'
 s_stop
 exact LoneTo.done ⟨aM (.bool av),_,rfl,⟨rfl,rfl⟩,rfl,rfl,rfl,rfl,_,func116,by simp[results,f116,Frame.at]⟩
def FI(c ch w)(h:w.cell? (aj c 20)=aa (.chan (aa ch)))(hc:w.heap[ch]? =aa (.chan 0 #[] aq 0 0 av)):
  fK 116 #[aR c] w (.bool aq):=by
 refine Vp λcs=>?_
 have e:Frame.enter prog 116 #[aR c] .normal=(base 116).at ⟨#[aR c,au,au,au,au,au,au,au,au,au],[]⟩ [.code (f116.body.getD .skip)]:=by simp[Frame.enter,Frame.at,func116,base,f116]
 rw[e];refine Iy (n:=13) ?_;simp only[f116,mY]
 s_c cg
 s_reg
 s_op
 s_c cJ
 s_c cg
 s_reg
 s_op
 s_op
 s_op
 s_op
 s_c cJ
 s_c cg
 s_reg
 s_stop
 refine Ww (step_lone_select_recv_shut (c:=ch) (z:=.agg #[]) (cap:=0) (s:=0) (r:=0) (tm:=av) (stepG_comm (cases:=#[rcase ch (.agg #[])]) (blocking:=av) (shape:=.select) (w':=w) rfl rfl bL (by simp[go_sem,execOp,rcase,Act.eval])) hc) ?_;rw[wN]
 walk_nrm
 refine Iy (n:=11) ?_
 s_op
 s_op
 s_c cJ
 s_c stepG_block
 s_cond aq
 s_c cg
 s_reg
 s_op
 s_c cJ
 s_c stepG_ret'
 s_stop
 exact LoneTo.done ⟨aM (.bool aq),_,rfl,⟨rfl,rfl⟩,rfl,rfl,rfl,rfl,_,func116,by simp[results,f116,Frame.at]⟩
def lF{w:az}{a:bZ}{v:aD}(h:w.cell? a=aa v):a.block<w.heap.size:=by
 unfold fC at h;cases e:w.heap[a.block]? with
 |none=>rw[e]at h;cases h
 |some o=>exact(bq.1 e).1
def bO{w w':az}(b:aN w w'){a:bZ}{v:aD}(h:w.cell? a=aa v):w'.cell? a=aa v:=by rw[jE (b.block a.block (lF h))];exact h
abbrev abJ:aD:=.agg #[an 0,.string ⟨#[]⟩,an 0,an 0,an 0,an 0,an 0,.string ⟨#[]⟩,an 0,an 0]
def V0(c ch w)(h:w.cell? (aj c 20)=aa (.chan (aa ch)))(hc:w.heap[ch]? =aa (.chan 0 #[] aq 0 0 av)):
  bN 151 #[aR c] w (.bool av):=by
 go_enter func151,ntmps151;go_wp2
 go_quiet ((go_at_call 116;exact Calls.quiet_of_same (FI c ch _ h hc)))
 go_wp2;go_ret;exact⟨rfl,iU (Below.refl _ _) _⟩
end
section
attribute [local go_sem ↓] Go.wp_at_zero Go.wp_at_succ
attribute [local go_sem] bV bQ
open Go.Proofs.Tryz
open Go.RowKit
def byte_back(x)(h0:0<=x)(a:x<256):((tR x.toNat).toNat:Int)=x:=by simp[Eb];omega
def KU(n w)(h0:0<=n)(e:n<=65535):
  bN 238 #[an n] w (.string ⟨(eG n).toArray⟩):=by
 have a:=byte_back (n %256) ak ak;have b1:=byte_back (n / 256) ak ak;have d:=Bt (w.alloc (aA #[.int .u8 (n %256),.int .u8 (n / 256)] 5)) 158 9 5 ⟨w.heap.size,0,ay⟩ 2 (eG n) underlying158 underlying5 underlying9
 have b:∀(j:Nat) (c:j<(eG n).length),(w.alloc (aA #[.int .u8 (n %256),.int .u8 (n / 256)] 5)).cell? ((⟨w.heap.size,0,ay⟩:bZ).add j)=aa (.int .u8 ((eG n)[j].toNat:Int)):=by
  intro j c
  match j,c with
  |0,_=>simp only[eG,nP,a];simp[Addr.add,go_sem]
  |1,_=>simp only[eG,qL,nP,b1];simp[Addr.add,go_sem]
 have f:(convert 158 9 (.slice (aa (aj w.heap.size 0)) 2 2)).run prog (w.alloc (aA #[.int .u8 (n %256),.int .u8 (n / 256)] 5))=.ok (.string ⟨(eG n).toArray⟩) (w.alloc (aA #[.int .u8 (n %256),.int .u8 (n / 256)] 5)):=d b;clear d b a b1;go_enter func238,ntmps238;go_wp2;go_ret;exact⟨rfl,bp⟩
def XD(s w v)(hv:Hid (v=if(s.toList==[97])=aq then⟨#[89]⟩else⟨#[78]⟩)):
  fK 232 #[.string s] w (.string v):=by
 cases h:(s.toList==[97])with
 |true=>
  go_enter func232,ntmps232;go_wp2;go_ret;exact⟨by rw[hv.out,aW h];rfl,rfl⟩
 |false=>
  go_enter func232,ntmps232;go_wp2;go_ret;exact⟨by rw[hv.out,h];rfl,rfl⟩
def XE(sz cl qu mx qn rt bu wk ou s w v)(h0:0<=sz/\sz<=65535)(f:0<=mx/\mx<=65535)(n:s.size<=65535)(hv:Hid (v=if(s.toList==[105])=aq then⟨#[73]⟩++⟨(eG sz).toArray⟩++⟨(eG mx).toArray⟩else if(s.toList==[103])=aq then⟨#[71]⟩else⟨#[85]⟩++s)):
  bN 233 #[.agg (fN sz cl qu mx qn rt bu wk ou),.string s] w (.string v):=by
 have k:(eG sz).length=2:=rfl;have l:(eG mx).length=2:=rfl;cases h:(s.toList==[105])with
 |true=>
  go_enter func233,ntmps233
  go_upto_region 3 with fail
  have c:Hid (aN w (w.alloc (aA (fN sz cl qu mx qn rt bu wk ou) 35)).drew):=bp.drew;refine fq (S:=λW=>W.cell? (aj w.heap.size 0)=aa (an sz)/\W.cell? (aj w.heap.size 3)=aa (an mx)) ⟨by simp[go_sem],by simp[go_sem]⟩ λj=>?_;refine tk 0 ?_;refine tk 1 ?_;refine tk 4 ?_;refine tk 5 ?_;refine rH 2 λK a=>?_;go_simp
  (refine(KU sz _ h0.1 h0.2).mono ?_;rintro e o ⟨rfl,b⟩)
  go_wp2_with fail;refine a.out _ _ (⟨bO b j.1,bO b j.2⟩) (λi=>?_);clear a K;refine tk 3 ?_;refine rH 6 λK a=>?_;go_simp
  (refine(KU mx _ f.1 f.2).mono ?_;rintro e p ⟨rfl,d⟩)
  go_wp2_with fail;refine a.out _ _ (⟨bO d i.1,bO d i.2⟩) (λm=>?_);clear a K;refine tk 7 ?_;refine tk 8 ?_;refine dL ?_
  (go_wp2_with fail;go_ret;exact⟨by rw[hv.out,aW h];rfl,c.out.trans ((b.mono c.out.size).trans (d.mono (dM c.out.size b.size)))⟩)
 |false=>
  cases g:(s.toList==[103])with
  |true=>
   go_enter func233,ntmps233;go_wp2;go_ret;exact⟨by rw[hv.out,h,g];rfl,bp⟩
  |false=>
   go_enter func233,ntmps233;go_wp2;go_ret;exact⟨by rw[hv.out,h,g];rfl,bp⟩
def XG(sz cl qu a qn rt bu wk ou m w)(h0:0<=sz/\sz<=65535)(k:0<=a/\a<=65535)(j:m.nm.size<=65535)(hm:m.wh=1\/m.wh=2\/m.wh=4):
  bN 192 #[.agg (fN sz cl qu a qn rt bu wk ou),.agg (fP m)] w (.string (answer sz a m)):=by
 obtain⟨o,b,i,h,d,of,ln,f,g⟩:=m;dsimp only at hm j;rcases hm with rfl|rfl|rfl
 ·have hv:Hid (answer sz a ⟨1,b,i,h,d,of,ln,f,g⟩=if(b.toList==[97])=aq then⟨#[89]⟩else⟨#[78]⟩):=rfl;obtain⟨v,c⟩:∃v,v=answer sz a ⟨1,b,i,h,d,of,ln,f,g⟩:=⟨_,rfl⟩;rw[<-c]at hv⊢;clear c;go_enter func192,ntmps192;go_wp2_with (go_at_call 232;refine(XD b _ v hv).mono ?_;rintro e n ⟨rfl,rfl⟩);go_ret;exact⟨rfl,bp.alloc aC _⟩
 ·have hv:Hid (answer sz a ⟨2,b,i,h,d,of,ln,f,g⟩=if(b.toList==[105])=aq then⟨#[73]⟩++⟨(eG sz).toArray⟩++⟨(eG a).toArray⟩else if(b.toList==[103])=aq then⟨#[71]⟩else⟨#[85]⟩++b):=rfl;obtain⟨v,c⟩:∃v,v=answer sz a ⟨2,b,i,h,d,of,ln,f,g⟩:=⟨_,rfl⟩;rw[<-c]at hv⊢;clear c;go_enter func192,ntmps192;go_wp2_with (go_at_call 233;refine(XE sz cl qu a qn rt bu wk ou b _ v h0 k j hv).mono ?_;rintro e n ⟨rfl,l⟩);go_ret;exact⟨rfl,(bp.alloc aC _).trans (l.mono cq)⟩
 ·have hv:Hid (answer sz a ⟨4,b,i,h,d,of,ln,f,g⟩=⟨#[]⟩):=rfl;obtain⟨v,c⟩:∃v,v=answer sz a ⟨4,b,i,h,d,of,ln,f,g⟩:=⟨_,rfl⟩;rw[<-c]at hv⊢;clear c;go_enter func192,ntmps192;go_wp2;go_ret;exact⟨by rw[hv.out];rfl,bp.alloc aC _⟩
def XU(w o1 o2 o3 d):aN w ((((w.alloc o1).alloc o2).alloc o3).drewN d):=
 iU ((bp.alloc aC _).alloc cq _) d
def mH{w:az}{b o:Nat}{v:aD}(h:w.cell? (aj b o)=aa v):b<w.heap.size:=by
 by_cases a:b<w.heap.size
 ·exact a
 ·simp[fC,lN (ej a)]at h
def agc(us:aB Int)(b:Int):Maps.has (yQ (H:=Unit) (.agg []) (us.map (Lit.int .i64))) (.int .i64 b)=decide (b∈us):=by rw[Maps.has_setOf _ _ _ (by intro x c;simp at c;obtain⟨a,_,rfl⟩:=c;trivial)];rw[yE];simp[Lit.sameKey,rS]
abbrev Uses(w:az)(mb:Nat)(us:aB Int):Prop:=w.ownsMap prog 3 (unitElem (H:=Unit)) mb us.length (yQ (.agg []) (us.map (Lit.int .i64)))
def age{w mb us}(h:Uses w mb us)(a:Int)(c:0<=a/\a<=65535):
  (Dx 226 (.map (aa mb)) (an a) aq).run prog w=.ok (.tuple #[.agg #[],.bool (decide (a∈us))]) w:=by
 obtain⟨v,d,b,hv⟩:=h.look_ok (AX underlying3) underlying226 (zeroValue169 w) unitElem_mk (kl:=.int .i64 a) (IB underlying3 (by simp[Lit.wf,IntKind.min,IntKind.max,Ik,Ij];omega));obtain⟨rfl,_⟩:=unitElem_inv hv;rw[agc]at b;exact b
structure dU(w:az)(rb mb:Nat)(sz mx ph:Int)(us:aB Int):Prop where
 box:w.heap[rb]? =aa (aA #[an sz,an mx,an ph,.map (aa mb)] 228 (0,0))
 uses:Uses w mb us
def dU.lt{w rb mb sz mx ph us}(h:dU w rb mb sz mx ph us):rb<w.heap.size/\mb<w.heap.size:=
 ⟨(bq.1 h.box).1,h.uses.lt⟩
def dU.cell{w rb mb sz mx ph us}(h:dU w rb mb sz mx ph us):
  w.cell? (aj rb 0)=aa (an sz)/\w.cell? (aj rb 1)=aa (an mx)/\w.cell? (aj rb 2)=aa (an ph)/\w.cell? (aj rb 3)=aa (.map (aa mb)):=by
 simp[fC,h.box]
def dU.kept{w w' rb mb sz mx ph us}(h:dU w rb mb sz mx ph us){row}(a:w.grownBy w' row)(b:aa rb≠row)(c:aa mb≠row):dU w' rb mb sz mx ph us:=
 ⟨(a.block _ h.lt.1 b).trans h.box,h.uses.kept a c⟩
def Kg{w w'}(h:aN w w'):w.grownBy w' ay:=⟨h.os,h.tape,h.output,h.size,λk a _=>h.block k a⟩
def dU.later{w w' rb mb sz mx ph us}(h:dU w rb mb sz mx ph us)(a:aN w w'):dU w' rb mb sz mx ph us:=
 h.kept (Kg a) aC aC
def afR(s i)(h:i+1<s.size):two (s.extract i s.size) 0=two s i:=by
 have e:∀j,i+j<s.size->bt (s.extract i s.size) j=bt s (i+j):=λj a=>by
  unfold bt
  congr 1
  simp[uM,pQ,a];split
  ·rfl
  ·rename_i b;have:s.data.size=s.size:=rfl;omega
 unfold two;rw[e 0 ak,e (0+1) ak];rfl
def uG(s i s' w)(d:s.size<=cC)(a:i+1<s.size)(b:s'=s.extract i s.size):
  Calls prog 273 #[.string s'] w λe c=>e=aM (an (two s i))/\∃n,c=w.drewN n:=by
 subst b;have f:(s.extract i s.size).size=s.size-i:=by simp[mQ]
 have:=afQ (s.extract i s.size) w ak ak;rw[afR s i a]at this;exact this
abbrev tX(rb mb b:Nat)(a:Int)(us:aB Int)(W:az):Prop:=
 W.cell? (aj rb 3)=aa (.map (aa mb))/\W.cell? (aj b 4)=aa (an a)/\(Dx 226 (.map (aa mb)) (an a) aq).run prog W=.ok (.tuple #[.agg #[],.bool (decide (a∈us))]) W/\Uses W mb us/\(0<=a/\a<=65535)
def tX.mk'{rb mb b ck us W}(d:W.cell? (aj rb 3)=aa (.map (aa mb)))(e:W.cell? (aj b 4)=aa (an ck))(a:Uses W mb us)(c:0<=ck/\ck<=65535):tX rb mb b ck us W:=
 ⟨d,e,age a ck c,a,c⟩
def tX.keep{rb mb b ck us W o}(h:tX rb mb b ck us W):tX rb mb b ck us (W.alloc o):=
 have a:=(Below.refl W.heap.size W).alloc (bD _) o
 .mk' ((a.cell (mH h.1)).trans h.1) ((a.cell (mH h.2.1)).trans h.2.1) (h.2.2.2.1.alloc o) h.2.2.2.2
abbrev RD(s:ByteArray):bg:=⟨3,⟨#[]⟩,bt s 1,bt s 2,two s 3,two s 5,two s 7,⟨#[]⟩,0⟩
def Fw(rb mb sz mx ph us s w)(c:s.size<=cC)(J:9<=s.size)(hR:dU w rb mb sz mx ph us):
  Calls prog 260 #[aR rb,.string s] w λe b=>
   (if bt s 0≠81\/mx<two s 7\/two s 3∈us then e=.panicked [{v:=oZ 9,recovered:=av}]else e=aM (RD s).val)/\aN w b:=by
 have E:=c;unfold cC at E;have n0:0<s.size:=ak;have n1:1<s.size:=ak;have n2:2<s.size:=ak;have i0:(0:Int)<s.size:=ak;have i1:(1:Int)<s.size:=ak;have i2:(2:Int)<s.size:=ak;have i3:(3:Int)<=s.size:=ak;have i5:(5:Int)<=s.size:=ak;have i7:(7:Int)<=s.size:=ak;have G:=vK s 0 ak;have H:=vK s 1 ak;have I:=vK s 2 ak;have r0:=pg s 0;have r1:=pg s 1;have r2:=pg s 2;have k1:dJ.wrap (bt s 1)=bt s 1:=by rw[AL];omega
 have k2:dJ.wrap (bt s 2)=bt s 2:=by rw[AL];omega
 have F:=lM s 3;have r5:=lM s 5;have r7:=lM s 7;obtain⟨g0,y,g2,z⟩:=hR.cell;have o:=hR.lt;have r:=o.1;have x:=bf hR;clear hR o;go_enter func260,ntmps260
 go_upto_region 1 with fail
 go_cut [5] (λp b=>∃d,p=aR (w.heap.size+1)/\b=((w.alloc (aA (gM) 132)).alloc (aA (rA s) 132)).drewN d)
 case first=>
  refine fq (S:=λ_=>True) trivial λm=>?_;refine tk 0 ?_;refine tk 1 ?_;refine tk 2 ?_;refine tk 3 ?_;refine tk 4 ?_;refine tk 5 ?_;refine tk 6 ?_;refine tk 7 ?_;refine tk 9 ?_;refine tk 10 ?_;refine tk 12 ?_;refine tk 13 ?_;refine aH [8,16] (.cons rfl (λK a=>?_) ?_)
  ·go_simp
   (refine(uG s 3 _ _ c ak rfl).mono ?_;rintro e b ⟨rfl,d,rfl⟩)
   go_wp2_with fail;refine a.out _ _ (trivial) (λR=>?_);clear a K;refine aH [11,16] (.cons rfl (λK a=>?_) ?_)
   ·go_simp
    (refine(uG s 5 _ _ c ak rfl).mono ?_;rintro e b ⟨rfl,d,rfl⟩)
    go_wp2_with fail;refine a.out _ _ (trivial) (λT=>?_);clear a K;refine aH [14,16] (.cons rfl (λK a=>?_) ?_)
    ·go_simp
     (refine(uG s 7 _ _ c ak rfl).mono ?_;rintro e b ⟨rfl,d,rfl⟩)
     go_wp2_with fail;refine a.out _ _ (trivial) (λU=>?_);clear a K;refine tk 15 ?_;refine rH 16 λK a=>?_;go_simp;refine a.out _ _ (trivial) (λV=>?_);clear a K;refine rH 17 λK a=>?_;go_simp;refine a.out _ _ (trivial) (λW=>?_);clear a K;refine dL ?_
     (go_wp2_with fail;go_meet;case rel=>exact⟨_,rfl,rfl⟩)
    refine .cons rfl (λK a=>?_) .nil;go_simp;refine a.out _ _ (trivial) (λX=>?_);clear a K;refine rH 14 λK a=>?_;go_simp
    (refine(uG s 7 _ _ c ak rfl).mono ?_;rintro e b ⟨rfl,d,rfl⟩)
    go_wp2_with fail;refine a.out _ _ (trivial) (λY=>?_);clear a K;refine tk 15 ?_;refine rH 17 λK a=>?_;go_simp;refine a.out _ _ (trivial) (λZ=>?_);clear a K;refine dL ?_
    (go_wp2_with fail;go_meet;case rel=>exact⟨_,rfl,rfl⟩)
   refine .cons rfl (λK a=>?_) .nil;go_simp;refine a.out _ _ (trivial) (λaf=>?_);clear a K;refine rH 11 λK a=>?_;go_simp
   (refine(uG s 5 _ _ c ak rfl).mono ?_;rintro e b ⟨rfl,d,rfl⟩)
   go_wp2_with fail;refine a.out _ _ (trivial) (λah=>?_);clear a K;refine rH 14 λK a=>?_;go_simp
   (refine(uG s 7 _ _ c ak rfl).mono ?_;rintro e b ⟨rfl,d,rfl⟩)
   go_wp2_with fail;refine a.out _ _ (trivial) (λaG=>?_);clear a K;refine tk 15 ?_;refine rH 17 λK a=>?_;go_simp;refine a.out _ _ (trivial) (λaI=>?_);clear a K;refine dL ?_
   (go_wp2_with fail;go_meet;case rel=>exact⟨_,rfl,rfl⟩)
  refine .cons rfl (λK a=>?_) .nil;go_simp;refine a.out _ _ (trivial) (λM=>?_);clear a K;refine rH 8 λK a=>?_;go_simp
  (refine(uG s 3 _ _ c ak rfl).mono ?_;rintro e b ⟨rfl,d,rfl⟩)
  go_wp2_with fail;refine a.out _ _ (trivial) (λN=>?_);clear a K;refine rH 11 λK a=>?_;go_simp
  (refine(uG s 5 _ _ c ak rfl).mono ?_;rintro e b ⟨rfl,d,rfl⟩)
  go_wp2_with fail;refine a.out _ _ (trivial) (λO=>?_);clear a K;refine rH 14 λK a=>?_;go_simp
  (refine(uG s 7 _ _ c ak rfl).mono ?_;rintro e b ⟨rfl,d,rfl⟩)
  go_wp2_with fail;refine a.out _ _ (trivial) (λP=>?_);clear a K;refine tk 15 ?_;refine rH 17 λK a=>?_;go_simp;refine a.out _ _ (trivial) (λQ=>?_);clear a K;refine dL ?_
  (go_wp2_with fail;go_meet;case rel=>exact⟨_,rfl,rfl⟩)
 case rest=>
  obtain⟨d,rfl,rfl⟩:=hcut;have l:aN w ((w.alloc (aA (gM) 132)).alloc (aA (rA s) 132)):=bp.alloc aC _
  have n:tX rb mb (w.heap.size+1) (two s 3) us (((w.alloc (aA (gM) 132)).alloc (aA (rA s) 132)).drewN d).drew:=
   tX.mk' (by simp only[World.drew_drewN,World.cell?_drewN];exact(l.cell (p:=aj rb 3) r).trans z) (by simp[go_sem]) (x.out.later l).uses F
  go_upto_region 2 with fail
  go_cut [7] (λq b=>∃d,q=.bool (decide (two s 3∈us))/\b=(((w.alloc (aA (gM) 132)).alloc (aA (rA s) 132)).alloc (aA #[] 169)).drewN d)
  case first=>
   refine fq (S:=λb=>tX rb mb (w.heap.size+1) (two s 3) us b) n λm=>?_;refine tk 0 ?_;refine tk 1 ?_;refine tk 2 ?_;refine tk 3 ?_;refine tk 4 ?_;refine tk 5 ?_;refine tk 6 ?_;refine tk 7 ?_;refine tk 8 ?_;refine tk 9 ?_;refine rH 10 λK a=>?_;go_simp;refine a.out _ _ (tX.keep m) (λA=>?_);clear a K;refine rH 11 λK a=>?_;go_simp;refine a.out _ _ (A) (λL=>?_);clear a K;refine tk 12 ?_;refine dL ?_
   (go_wp2_with fail;go_meet;case rel=>exact⟨_,rfl,rfl⟩)
  case rest=>
   clear n;obtain⟨d2,rfl,rfl⟩:=hcut;have q0:¬rb=w.heap.size:=ak;have q1:¬rb=w.heap.size+1:=ak;have q2:¬rb=w.heap.size+1+1:=ak;have k:aN w (((w.alloc (aA (gM) 132)).alloc (aA (rA s) 132)).alloc (aA #[] 169)):=l.trans ((Below.refl _ _).alloc cq _);have m1:(((w.alloc (aA (gM) 132)).alloc (aA (rA s) 132)).alloc (aA #[] 169)).cell? (aj rb 1)=aa (an mx):=(k.cell (p:=aj rb 1) r).trans y
   by_cases g:bt s 0=81
   ·have B:(bt s 0 !=81)=av:=by simpa using g
    have t:=bf g;clear g
    by_cases i:mx<two s 7
    ·have f:Hid (bt s 0≠81\/mx<two s 7\/two s 3∈us):=aE (aF i);have C:decide (mx<two s 7)=aq:=by simpa using i
     clear i;go_wp2
     go_quiet (fail)
     go_wp2;exact⟨rfl,by first|rfl|(rw[aW f.out]),iU k _⟩
    ·have C:decide (mx<two s 7)=av:=by simpa using i
     have u:=bf i;clear i
     by_cases j:two s 3∈us
     ·have f:Hid (bt s 0≠81\/mx<two s 7\/two s 3∈us):=aE (aE j);have D:decide (two s 3∈us)=aq:=by simpa using j
      clear j;go_wp2
      go_quiet (fail)
      go_wp2;exact⟨rfl,by first|rfl|(rw[aW f.out]),iU k _⟩
     ·have f:Hid (¬(bt s 0≠81\/mx<two s 7\/two s 3∈us)):=by
       rintro(h|h|h)
       ·exact h t.out
       ·exact u.out h
       ·exact j h
      have D:decide (two s 3∈us)=av:=by simpa using j
      clear j;go_wp2
      go_quiet (fail)
      go_wp2;exact gn (v:=(RD s).val) (by simp[results,results260,go_sem]) rfl ⟨by first|rfl|(rw[aK f.out]),XU _ _ _ _ _⟩
   ·have f:Hid (bt s 0≠81\/mx<two s 7\/two s 3∈us):=aF g;have B:(bt s 0 !=81)=aq:=by simpa using g
    clear g;go_wp2
    go_quiet (fail)
    go_wp2;exact⟨rfl,by first|rfl|(rw[aW f.out]),iU k _⟩
end
section
open Go.Proofs.Tryz
open Go.RowKit
abbrev lA(c:Int):Prop:=-9223372036854775808<=c/\c<=9223372036854775807
def aaP(c n:Int)(w:az)(hc:lA c)(h0:0<n)(i:n<=9223372036854775807):
  Calls prog 21 #[an c,an n] w λe f=>∃r,e=aM (an r)/\(0<=r/\r<n)/\f=w:=by
 by_cases j:c<0
 ·have g:dJ.wrap (c+1)=c+1:=by rw[AL];omega
  have h:dJ.wrap (-(c+1))= -(c+1):=by rw[AL];omega
  have hr:0<=(-(c+1)).tmod n/\(-(c+1)).tmod n<n:=⟨AJ _ ak,DH _ h0⟩;have a:Hid (0<=(-(c+1)).tmod n/\(-(c+1)).tmod n<n):=hr;have d:¬n=0:=ak;clear hr;go_enter func21,ntmps21;go_wp2;go_ret;exact⟨_,rfl,by rw[<-Int.neg_tmod];exact a.out,rfl⟩
 ·have hr:0<=c.tmod n/\c.tmod n<n:=⟨AJ _ ak,DH _ h0⟩;have a:Hid (0<=c.tmod n/\c.tmod n<n):=hr;have b:Hid (c %n=c.tmod n):=(DG ak).symm;have d:¬n=0:=ak;clear hr;go_enter func21,ntmps21;go_wp2;go_ret;exact⟨_,rfl,by first|exact a.out|(rw[b.out];exact a.out),rfl⟩
end
section
open Go.Conc Go.RowKit
def Ti(a:Act)(d:aZ Tmp)(v:aD):(a.put d v).tmps.size=a.tmps.size:=by cases d<;>simp[Act.put]
def put_defers(a:Act)(d:aZ Tmp)(v:aD):(a.put d v).defers=a.defers:=by cases d<;>rfl
def Qq{a:Act}{d:Nat}(v)(h:d<a.tmps.size):(a.put (aa d) v).eval (.tmp d)=v:=by simp[Act.put,Act.eval,pQ,h]
def Qp{a:Act}{d i:Nat}(v)(h:i≠d):(a.put (aa d) v).eval (.tmp i)=a.eval (.tmp i):=by simp only[Act.put,Act.eval,tD];rw[dO (dc h)]
def ev{a:Act}{k:Nat}{v:aD}(h:a.eval (.tmp k)=v):a.tmps[k]?.getD au=v:=by simpa[Act.eval,tD]using h
def ct:Code->Code|.cond _ x _=>x|_=>.skip
def cf:Code->Code|.cond _ _ y=>y|_=>.skip
end
section
attribute [local go_sem ↓] Go.wp_at_zero Go.wp_at_succ
attribute [local go_sem] bV bQ
open Go.RowKit
def bg.cells(m:bg):aB aD:=[an m.wh,.string m.nm,an m.kd,an m.fl,an m.ck,an m.of,an m.ln,.string m.dt,an m.er]
end
section
attribute [local go_sem ↓] Go.wp_at_zero Go.wp_at_succ
attribute [local go_sem] bV bQ
open Go.Proofs.Tryz
open Go.RowKit
def zW{B}{e:aQ}{k v n xs w w'}(h:w.ownsRow B e k v n xs)(a:aN w w'):w'.ownsRow B e k v n xs:=
 h.kept (row:=ay) ⟨a.os,a.tape,a.output,a.size,λj b _=>a.block j b⟩ (by grind)
abbrev iH(w:az)(b:Nat)(m:bg):Prop:=
 w.cell? (aj b 0)=aa (an m.wh)/\w.cell? (aj b 1)=aa (.string m.nm)/\w.cell? (aj b 2)=aa (an m.kd)/\w.cell? (aj b 3)=aa (an m.fl)/\w.cell? (aj b 4)=aa (an m.ck)/\w.cell? (aj b 5)=aa (an m.of)/\w.cell? (aj b 6)=aa (an m.ln)/\w.cell? (aj b 7)=aa (.string m.dt)/\w.cell? (aj b 8)=aa (an m.er)
def iH.cO{w w' row b m}(h:iH w b m)(a:w.grownBy w' row)(c:b<w.heap.size)(d:aa b≠row):iH w' b m:=by obtain⟨h0,e,f,g,i,j,k,l,n⟩:=h;exact⟨(a.cell_far _ c d).trans h0,(a.cell_far _ c d).trans e,(a.cell_far _ c d).trans f,(a.cell_far _ c d).trans g,(a.cell_far _ c d).trans i,(a.cell_far _ c d).trans j,(a.cell_far _ c d).trans k,(a.cell_far _ c d).trans l,(a.cell_far _ c d).trans n⟩
def iH.later{w w' b m}(h:iH w b m)(a:aN w w')(d:b<w.heap.size):iH w' b m:=
 h.cO (row:=ay) ⟨a.os,a.tape,a.output,a.size,λj c _=>a.block j c⟩ d aC
abbrev jT(rb b:Nat)(sz:Int)(m:bg)(W:az):Prop:=W.cell? (aj rb 0)=aa (an sz)/\iH W b m/\W.frozen? (aj b 8)=av
def jT.later{rb b sz m W W'}(h:jT rb b sz m W)(a:aN W W'):jT rb b sz m W':=by have c:=mH h.2.1.1;exact⟨(a.cell (mH h.1)).trans h.1,h.2.1.later a c,(a.frozen c).trans h.2.2⟩
def Gl{W:az}{b:Nat}(m)(h:∀j,j<9->(W.cell? (aj b j)).isSome=aq):iH (W.setCells b 0 m.cells) b m:=by have key:=World.cell?_setCells_in b m.cells 0 W (λj a=>by simpa using h j a);exact⟨key 0 (by simp[bg.cells]),key 1 (by simp[bg.cells]),key 2 (by simp[bg.cells]),key 3 (by simp[bg.cells]),key 4 (by simp[bg.cells]),key 5 (by simp[bg.cells]),key 6 (by simp[bg.cells]),key 7 (by simp[bg.cells]),key 8 (by simp[bg.cells])⟩
def Tx{W b m}(h:iH W b m)(tmps v)(a:tmps.getD 4 au=aR b)(c:tmps.getD 5 au=v):
  (results f230 tmps).run prog W=.ok (.tuple #[m.val,v]) W:=by
 obtain⟨h0,d,e,f,g,i,j,k,l⟩:=h;simp at a c;simp[results,results230,go_sem,a,c,h0,d,e,f,g,i,j,k,l]
def adq{w w1:az}{o:Obj}(a:aN (w.alloc o) w1){m:bg}(c:o=aA (fP m) 132):∀j,j<9->(w1.cell? (aj w.heap.size j)).isSome=aq:=λj b=>by
 subst c;rw[a.cell aC]
 match j,b with
 |0,_|1,_|2,_|3,_|4,_|5,_|6,_|7,_|8,_=>simp[go_sem]
def EJ{B b w W}(h:Below B w W)(a:B<=b)(m:bg):Below B w (W.setCells b 0 m.cells):=EK h a _ _ _ _ _ _ _ _ _
def abK(rb s w)(a:s.size<9):
  bN 230 #[aR rb,.string s] w (.tuple #[bg.zero.val,an 0]):=by
 go_enter func230,ntmps230;go_wp2;exact gn (by simp[results,results230,go_sem,bg.zero]) rfl ⟨rfl,bp⟩
def abN(rb mb sz mx ph us s w)(b:s.size<=cC)(c:9<=s.size)(hR:dU w rb mb sz mx ph us)(hc:bt s 0≠81\/mx<two s 7\/two s 3∈us):
  Calls prog 230 #[aR rb,.string s] w λe a=>e=.panicked [{v:=oZ 9,recovered:=av}]/\aN w a:=by
 have g:Hid (∀W,aN w W->Calls prog 260 #[aR rb,.string s] W λe a=>e=.panicked [{v:=oZ 9,recovered:=av}]/\aN W a):=λW d=>by exact(Fw rb mb sz mx ph us s W b c (hR.later d)).mono (λe a h=>by rw[aW hc]at h;exact h)
 unfold cC at b;go_enter func230,ntmps230;go_wp2_with (go_at_call 260;refine(g.out _ (bp)).mono ?_;rintro e i ⟨rfl,f⟩);exact⟨rfl,rfl,bp.trans (f.mono aC)⟩
def abM(rb mb:Nat)(sz f ph:Int)(us:aB Int)(s:ByteArray)(w:az)(j:s.size<=cC)(l:9<=s.size)(hR:dU w rb mb sz f ph us)(hc:¬(bt s 0≠81\/f<two s 7\/two s 3∈us))(q:bt s 1=1)(u:(s.size:Int)<9+two s 7):
  bN 230 #[aR rb,.string s] w (.tuple #[bg.zero.val,an 0]):=by
 have p:Hid (∀W,aN w W->bN 260 #[aR rb,.string s] W (.agg (rA s))):=λW n=>by exact(Fw rb mb sz f ph us s W j l (hR.later n)).mono (λe B h=>by rw[aK hc]at h;exact h)
 have A:=lM s 7;have z:(bt s 1==1)=aq:=by simpa using q
 unfold cC at j;go_enter func230,ntmps230;go_wp2_with (go_at_call 260;refine(p.out _ (bp)).mono ?_;rintro e a ⟨rfl,d⟩;obtain⟨r,t⟩:=lE d;have k:w.heap.size<a.heap.size:=(by have:=d.size;simp at this;omega);have x:∀(c:Obj) (o:Nat),(a.alloc c).cell? (aj w.heap.size o)=a.cell? (aj w.heap.size o):=(λc o=>jE (Below.heap_alloc a c _ k));have y:∀(c:Obj) (o:Nat),(a.alloc c).frozen? (aj w.heap.size o)=a.frozen? (aj w.heap.size o):=(λc o=>World.frozen?_of_block (Below.heap_alloc a c _ k)));have g:=Gl bg.zero (adq (m:=bg.zero) d rfl);have i:w.heap.size<(a.setCells w.heap.size 0 bg.zero.cells).heap.size:=mH g.1
 exact gn (v:=.tuple #[bg.zero.val,an 0]) (Tx (b:=w.heap.size) (m:=bg.zero) (iH.later (w:=a.setCells w.heap.size 0 bg.zero.cells) g (bp) i) _ _ rfl rfl) rfl
  ⟨rfl,(EJ (bp.trans (d.mono aC)) (bD _) bg.zero).alloc (mW i) _⟩
def Tu{W:az}{rb b:Nat}{sz:Int}{m:bg}{d:ByteArray}(h:W.cell? (aj rb 0)=aa (an sz))(i:rb≠b)(a:W.heap[b]? =aa (aA (jX m.wh m.nm m.kd m.fl m.ck m.of m.ln ⟨#[]⟩ m.er) 132 (0,0))):
  jT rb b sz {m with dt:=d} (W.setCell (aj b 7) (.string d)).drew:=by
 refine⟨(Of W ⟨b,7,ay⟩ ⟨rb,0,ay⟩ _ (dc i)).trans h,?_,?_⟩
 ·have f:∀j,j≠7->((W.setCell (aj b 7) (.string d)).drew).cell? (aj b j)=W.cell? (aj b j):=λj g=>WU W ⟨b,7,ay⟩ ⟨b,j,ay⟩ _ (λe=>g (by cases e;rfl));have c:((W.setCell (aj b 7) (.string d)).drew).cell? (aj b 7)=aa (.string d):=IP W ⟨b,7,ay⟩ _ (by simp[fC,a]);refine⟨?_,?_,?_,?_,?_,?_,?_,c,?_⟩<;>(rw[f _ bL];simp[fC,a])
 ·show(W.setCell (aj b 7) (.string d)).frozen? (aj b 8)=av;rw[Og];simp[oJ,a]
def jT.err{rb b sz m W}(h:jT rb b sz m W)(e):iH (W.setCell (aj b 8) (an e)) b {m with er:=e}:=by obtain⟨_,⟨h0,c,d,f,g,i,k,l,n⟩,_⟩:=h;have a:∀j,j≠8->(W.setCell (aj b 8) (an e)).cell? (aj b j)=W.cell? (aj b j):=λj o=>WU W ⟨b,8,ay⟩ ⟨b,j,ay⟩ _ (λe=>o (by cases e;rfl));exact⟨(a 0 bL).trans h0,(a 1 bL).trans c,(a 2 bL).trans d,(a 3 bL).trans f,(a 4 bL).trans g,(a 5 bL).trans i,(a 6 bL).trans k,(a 7 bL).trans l,IP W ⟨b,8,ay⟩ _ (by rw[n];rfl)⟩
def EM{W:az}{b a j:Nat}{o:Obj}{v:aD}(h:W.heap[b]? =aa o)(c:b≠a):(W.setCell (aj a j) v).heap[b]? =aa o:=(Below.heap_setCell W ⟨a,j,ay⟩ v b c).trans h
def JA{W b}(h:W.heap[b]? =aa (aA (gM) 132 (0,0))):iH W b bg.zero:=by refine⟨?_,?_,?_,?_,?_,?_,?_,?_,?_⟩<;>simp[fC,h,bg.zero]
def EO{W:az}{b:Nat}(h:W.heap[b]? =aa (aA (gM) 132 (0,0))):∀j,j<9->(W.cell? (aj b j)).isSome=aq:=λj a=>by
 match j,a with
 |0,_|1,_|2,_|3,_|4,_|5,_|6,_|7,_|8,_=>simp[fC,h]
def Tv{w W:az}(m:bg)(tmps:aJ aD)(v:aD)(a:tmps.getD 4 au=aR w.heap.size)(b:tmps.getD 5 au=v)(d:∀j,j<9->(W.cell? (aj w.heap.size j)).isSome=aq)(c:aN w W):
  Ec prog f230 (λe f=>e=aM (.tuple #[m.val,v])/\aN w f) Nk {tmps:=tmps,defers:=[]}
   (((((((((W.setCell (aj w.heap.size 0) (an m.wh)).setCell (aj w.heap.size 1) (.string m.nm)).setCell (aj w.heap.size 2) (an m.kd)).setCell (aj w.heap.size 3) (an m.fl)).setCell (aj w.heap.size 4) (an m.ck)).setCell (aj w.heap.size 5) (an m.of)).setCell (aj w.heap.size 6) (an m.ln)).setCell (aj w.heap.size 7) (.string m.dt)).setCell (aj w.heap.size 8) (an m.er)):=
 gn (Tx (Gl m d) tmps v a b) rfl ⟨rfl,EJ c (bD _) m⟩
def EN{W W'}{b:Nat}{o:Obj}(h:W.heap[b]? =aa o)(a:aN W W'):W'.heap[b]? =aa o:=(a.block b (bq.1 h).1).trans h
def abO(rb mb:Nat)(sz v ph:Int)(us:aB Int)(s:ByteArray)(w:az)(J:s.size<=cC)(R:9<=s.size)(hR:dU w rb mb sz v ph us)(hc:¬(bt s 0≠81\/v<two s 7\/two s 3∈us))(H:bt s 1=1)(hl:¬(s.size:Int)<9+two s 7)(RG:s.size<=281474976710656):
  bN 230 #[aR rb,.string s] w (.tuple #[bg.val ⟨3,⟨#[]⟩,bt s 1,bt s 2,two s 3,two s 5,two s 7,s.extract 9 (9+two s 7).toNat,lI (nI s (s.extract 9 (9+two s 7).toNat) 0) sz⟩,an (9+two s 7)]):=by
 have G:Hid (∀W,aN w W->bN 260 #[aR rb,.string s] W (.agg (rA s))):=λW U=>by exact(Fw rb mb sz v ph us s W J R (hR.later U)).mono (λe k h=>by rw[aK hc]at h;exact h)
 have M:=lM s 5;have N:=lM s 7;have kb:(bt s 1==1)=aq:=by simpa using H
 have i9:(9:Int)<=s.size:=ak;have F:=hR.cell;have aT:=hR.lt.1;have x:=bf F.1;unfold cC at J;clear hR hc F;clear H;go_enter func230,ntmps230
 go_upto_region 10 with(first|(go_at_call 260;refine(G.out _ (bp)).mono ?_;rintro e a ⟨rfl,o⟩;obtain⟨V,Y⟩:=lE o;have r:w.heap.size<a.heap.size:=(by have:=o.size;simp at this;omega))|(go_at_call 117;refine(JD _ _ (by simp<;>omega)).mono ?_;rintro e c ⟨rfl,n⟩;obtain⟨X,Z⟩:=lE n))
 have z:aN w a:=bp.trans (o.mono aC);have u:aN w c:=(z.alloc (mW r) _).trans (n.mono (by simp;exact mW (IC r)));have nD:a.heap.size<c.heap.size:=by have:=n.size;simp at this;omega
 have I:c.heap[a.heap.size]? =aa (aA (rA s) 132 (0,0)):=(n.block _ aC).trans (cG a _);have g:c.heap[w.heap.size]? =aa (aA (gM) 132 (0,0)):=(n.block _ cq).trans ((Below.heap_alloc _ _ _ r).trans ((o.block _ aC).trans (cG w _)));have E:jT rb a.heap.size sz (nI s (s.extract 9 (9+two s 7).toNat) 0) (c.setCell (aj a.heap.size 7) (.string (s.extract 9 (9+two s 7).toNat))).drew:=Tu (W:=c) (rb:=rb) (b:=a.heap.size) (m:=⟨3,⟨#[]⟩,bt s 1,bt s 2,two s 3,two s 5,two s 7,⟨#[]⟩,0⟩) (d:=(s.extract 9 (9+two s 7).toNat)) (((u.cell (p:=aj rb 0) aT).trans x.out)) ak I;have y:Hid ((c.setCell (aj a.heap.size 7) (.string (s.extract 9 (9+two s 7).toNat))).heap[w.heap.size]? =aa (aA (gM) 132 (0,0))):=EM g ak;have t:Hid (aN w (c.setCell (aj a.heap.size 7) (.string (s.extract 9 (9+two s 7).toNat)))):=u.setCell (p:=aj a.heap.size 7) (mW r) _;clear V Y X Z o n z u I g;have l:Hid (jT rb a.heap.size sz (nI s (s.extract 9 (9+two s 7).toNat) 0) (c.setCell (aj a.heap.size 7) (.string (s.extract 9 (9+two s 7).toNat))).drew):=E;obtain⟨C,⟨ah,aG,aH,aI,aL,Kw,aO,aP,aS⟩,D⟩:=E
 go_cut [7] (λq k=>q=an (9+two s 7)/\iH k a.heap.size ⟨3,⟨#[]⟩,bt s 1,bt s 2,two s 3,two s 5,two s 7,s.extract 9 (9+two s 7).toNat,lI (nI s (s.extract 9 (9+two s 7).toNat) 0) sz⟩/\aN w k/\k.heap[w.heap.size]? =aa (aA (gM) 132 (0,0)))
 case first=>
  refine fq (S:=λk=>k.cell? (aj rb 0)=aa (an sz)/\k.frozen? (aj a.heap.size 8)=av) ⟨C,D⟩ λT=>?_;refine tk 1 ?_;refine tk 2 ?_;refine tk 3 ?_;refine tk 4 ?_;refine rH 0 λK f=>?_;go_simp;refine f.out _ _ (T) (λaX=>?_);clear f K;refine rH 5 λK f=>?_;go_simp
  (refine(Qy (nI s (s.extract 9 (9+two s 7).toNat) 0) sz _ M.1 M.2 N.1 N.2).mono ?_;rintro e O ⟨rfl,i⟩;have bk:O.cell? (aj a.heap.size 8)=aa (an 0):=(jT.later l.out i).2.1.2.2.2.2.2.2.2.2;have bl:O.frozen? (aj a.heap.size 8)=av:=(jT.later l.out i).2.2)
  go_wp2_with fail;refine f.out _ _ (⟨(jT.later l.out i).1,(jT.later l.out i).2.2⟩) (λB=>?_);clear f K;refine tk 6 ?_;refine rH 7 λK f=>?_;go_simp;refine f.out _ _ (⟨(Of _ ⟨a.heap.size,8,ay⟩ ⟨rb,0,ay⟩ _ (by show a.heap.size≠rb;omega)).trans B.1,(Og _ _ _ _).trans B.2⟩) (λI0=>?_);clear f K;refine dL ?_
  (go_wp2_with fail;go_meet;case rel=>exact⟨rfl,(jT.later l.out i).err _,((t.out.drew).trans (i.mono (by exact t.out.size))).setCell (p:=aj a.heap.size 8) (mW r) _,EM (EN (by exact y.out) i) ak⟩)
 case rest=>
  clear ah aG aH aI aL Kw aO aP aS C D l y t x G;obtain⟨rfl,⟨z0,z1,z2,z3,z4,z5,z6,z7,z8⟩,A,g⟩:=hcut;have L:∀j,j<9->(wc.cell? (aj w.heap.size j)).isSome=aq:=λj hj=>EO g j hj;have Q:Hid (∀j,j<9->(wc.cell? (aj w.heap.size j)).isSome=aq):=L;obtain⟨p0,p1,p2,p3,p4,p5,p6,p7,p8⟩:=JA g;have pf:∀j,wc.frozen? (aj w.heap.size j)=av:=λj=>by simp[oJ,g]
  have aU:Hid (wc.heap[w.heap.size]? =aa (aA (gM) 132 (0,0))):=g;have P:Hid (aN w wc):=A;clear g L A;go_wp2;exact Tv (W:=wc) ⟨3,⟨#[]⟩,bt s 1,bt s 2,two s 3,two s 5,two s 7,s.extract 9 (9+two s 7).toNat,lI (nI s (s.extract 9 (9+two s 7).toNat) 0) sz⟩ _ _ rfl rfl Q.out P.out
def abL(rb mb:Nat)(sz v ph:Int)(us:aB Int)(s:ByteArray)(w:az)(J:s.size<=cC)(R:9<=s.size)(hR:dU w rb mb sz v ph us)(hc:¬(bt s 0≠81\/v<two s 7\/two s 3∈us))(H:¬bt s 1=1)(RG:s.size<=281474976710656):
  bN 230 #[aR rb,.string s] w (.tuple #[bg.val ⟨3,⟨#[]⟩,bt s 1,bt s 2,two s 3,two s 5,two s 7,oH,lI (nI s oH 0) sz⟩,an 9]):=by
 have G:Hid (∀W,aN w W->bN 260 #[aR rb,.string s] W (.agg (rA s))):=λW U=>by exact(Fw rb mb sz v ph us s W J R (hR.later U)).mono (λe k h=>by rw[aK hc]at h;exact h)
 have M:=lM s 5;have N:=lM s 7;have kb:(bt s 1==1)=av:=by simpa using H
 have i9:(9:Int)<=s.size:=ak;have F:=hR.cell;have aT:=hR.lt.1;have x:=bf F.1;unfold cC at J;clear hR hc F;clear H;go_enter func230,ntmps230
 go_upto_region 10 with(first|(go_at_call 260;refine(G.out _ (bp)).mono ?_;rintro e a ⟨rfl,o⟩;obtain⟨V,Y⟩:=lE o;have r:w.heap.size<a.heap.size:=(by have:=o.size;simp at this;omega))|(go_at_call 117;refine(JD _ _ (by simp<;>omega)).mono ?_;rintro e c ⟨rfl,n⟩;obtain⟨X,Z⟩:=lE n))
 have z:aN w a:=bp.trans (o.mono aC);have u:aN w c:=(z.alloc (mW r) _).trans (n.mono (by simp;exact mW (IC r)));have nD:a.heap.size<c.heap.size:=by have:=n.size;simp at this;omega
 have I:c.heap[a.heap.size]? =aa (aA (rA s) 132 (0,0)):=(n.block _ aC).trans (cG a _);have g:c.heap[w.heap.size]? =aa (aA (gM) 132 (0,0)):=(n.block _ cq).trans ((Below.heap_alloc _ _ _ r).trans ((o.block _ aC).trans (cG w _)));have E:jT rb a.heap.size sz (nI s oH 0) (c.setCell (aj a.heap.size 7) (.string (oH))).drew:=Tu (W:=c) (rb:=rb) (b:=a.heap.size) (m:=⟨3,⟨#[]⟩,bt s 1,bt s 2,two s 3,two s 5,two s 7,⟨#[]⟩,0⟩) (d:=(oH)) (((u.cell (p:=aj rb 0) aT).trans x.out)) ak I;have y:Hid ((c.setCell (aj a.heap.size 7) (.string (oH))).heap[w.heap.size]? =aa (aA (gM) 132 (0,0))):=EM g ak;have t:Hid (aN w (c.setCell (aj a.heap.size 7) (.string (oH)))):=u.setCell (p:=aj a.heap.size 7) (mW r) _;clear V Y X Z o n z u I g;have l:Hid (jT rb a.heap.size sz (nI s oH 0) (c.setCell (aj a.heap.size 7) (.string (oH))).drew):=E;obtain⟨C,⟨ah,aG,aH,aI,aL,Kw,aO,aP,aS⟩,D⟩:=E
 go_cut [7] (λq k=>q=an 9/\iH k a.heap.size ⟨3,⟨#[]⟩,bt s 1,bt s 2,two s 3,two s 5,two s 7,oH,lI (nI s oH 0) sz⟩/\aN w k/\k.heap[w.heap.size]? =aa (aA (gM) 132 (0,0)))
 case first=>
  refine fq (S:=λk=>k.cell? (aj rb 0)=aa (an sz)/\k.frozen? (aj a.heap.size 8)=av) ⟨C,D⟩ λT=>?_;refine tk 1 ?_;refine tk 2 ?_;refine tk 3 ?_;refine tk 4 ?_;refine rH 0 λK f=>?_;go_simp;refine f.out _ _ (T) (λaX=>?_);clear f K;refine rH 5 λK f=>?_;go_simp
  (refine(Qy (nI s oH 0) sz _ M.1 M.2 N.1 N.2).mono ?_;rintro e O ⟨rfl,i⟩;have bh:O.cell? (aj a.heap.size 8)=aa (an 0):=(jT.later l.out i).2.1.2.2.2.2.2.2.2.2;have bk:O.frozen? (aj a.heap.size 8)=av:=(jT.later l.out i).2.2)
  go_wp2_with fail;refine f.out _ _ (⟨(jT.later l.out i).1,(jT.later l.out i).2.2⟩) (λB=>?_);clear f K;refine tk 6 ?_;refine rH 7 λK f=>?_;go_simp;refine f.out _ _ (⟨(Of _ ⟨a.heap.size,8,ay⟩ ⟨rb,0,ay⟩ _ (by show a.heap.size≠rb;omega)).trans B.1,(Og _ _ _ _).trans B.2⟩) (λI0=>?_);clear f K;refine dL ?_
  (go_wp2_with fail;go_meet;case rel=>exact⟨rfl,(jT.later l.out i).err _,((t.out.drew).trans (i.mono (by exact t.out.size))).setCell (p:=aj a.heap.size 8) (mW r) _,EM (EN (by exact y.out) i) ak⟩)
 case rest=>
  clear ah aG aH aI aL Kw aO aP aS C D l y t x G;obtain⟨rfl,⟨z0,z1,z2,z3,z4,z5,z6,z7,z8⟩,A,g⟩:=hcut;have L:∀j,j<9->(wc.cell? (aj w.heap.size j)).isSome=aq:=λj hj=>EO g j hj;have Q:Hid (∀j,j<9->(wc.cell? (aj w.heap.size j)).isSome=aq):=L;obtain⟨p0,p1,p2,p3,p4,p5,p6,p7,p8⟩:=JA g;have pf:∀j,wc.frozen? (aj w.heap.size j)=av:=λj=>by simp[oJ,g]
  have aU:Hid (wc.heap[w.heap.size]? =aa (aA (gM) 132 (0,0))):=g;have P:Hid (aN w wc):=A;clear g L A;go_wp2;exact Tv (W:=wc) ⟨3,⟨#[]⟩,bt s 1,bt s 2,two s 3,two s 5,two s 7,oH,lI (nI s oH 0) sz⟩ _ _ rfl rfl Q.out P.out
def UZ(s sz d)(a:0<=sz):lI (nI s d 0) sz=verdict sz (bt s 1) (bt s 2) (two s 5) (two s 7):=
 ZQ _ sz (pg s 1).1 (pg s 2).1 a
def Tw(rb mb sz mx ph us s w)(k:0<=sz)(j:s.size<=281474976710656)(hR:dU w rb mb sz mx ph us):
  Calls prog 230 #[aR rb,.string s] w λe d=>Ends (kU sz mx us s) e/\aN w d:=by
 have i:s.size<=cC:=by unfold cC;omega
 by_cases b:s.size<9
 ·refine(abK rb s w b).mono λe d h=>⟨aE ?_,h.2⟩;unfold kU;rw[aW b];exact⟨bL,h.1⟩
 ·have f:9<=s.size:=ak
  by_cases a:bt s 0≠81\/mx<two s 7\/two s 3∈us
  ·refine(abN rb mb sz mx ph us s w i f hR a).mono λe d h=>⟨aF ?_,h.2⟩;unfold kU;rw[aK b,aW a];exact⟨rfl,h.1⟩
  ·by_cases c:bt s 1=1
   ·by_cases g:(s.size:Int)<9+two s 7
    ·refine(abM rb mb sz mx ph us s w i f hR a c g).mono λe d h=>⟨aE ?_,h.2⟩;unfold kU;rw[aK b,aK a,aW c,aW g];exact⟨bL,h.1⟩
    ·refine(abO rb mb sz mx ph us s w i f hR a c g j).mono λe d h=>⟨aE ?_,h.2⟩;unfold kU;rw[aK b,aK a,aW c,aK g];refine⟨show(3:Int)≠4 by decide,?_⟩;rw[h.1,UZ s sz _ k]
   ·refine(abL rb mb sz mx ph us s w i f hR a c j).mono λe d h=>⟨aE ?_,h.2⟩;unfold kU;rw[aK b,aK a,aK c];refine⟨show(3:Int)≠4 by decide,?_⟩;rw[h.1,UZ s sz _ k];rfl
def acs(n w):(DC (oZ n) 20 294 aq).run prog w=.ok (.tuple #[.agg #[an n],.bool aq]) w:=by simp[DC,xg underlying294,go_sem,Result.andThen]
def YA(n w):
  bN 227 #[oZ n] w (.tuple #[bg.closing.val,an n]):=by
 have a:=acs n;go_enter func227,ntmps227;go_wp2
 go_region
 all_goals (go_wp2)
 exact gn (by simp[results,results227,go_sem,bg.closing]) rfl ⟨rfl,(bp.alloc aC _).drew⟩
def Cc(W:az)(b j:Nat)(v:aD):W.grownBy (W.setCell (aj b j) v) (aa b):=⟨rfl,rfl,rfl,by simp[fY],λk _ a=>Below.heap_setCell W ⟨b,j,ay⟩ v k (λe=>a (by rw[e]))⟩
def Qi(p q w):
  CallsD prog 226 #[.pointer (aa p),.pointer (aa q)] .returning w λe c d=>e=aM (.tuple #[])/\c=.returning/\d=w:=by
 refine callsD_of_wpS func226 rfl λa cs b=>?_;apply wpS_seq;apply Jf;simp[wpOpsS,go_sem,recoverD,b,ntmps226,Hw];apply wpS_seq;apply Jf;simp[wpOpsS,go_sem,Hw];refine wpS_cond (t:=av) (by simp[Act.eval,oF]) ?_;simp;refine wpS_of_wp (wp_skip ?_);cases a
 simp_all[bodyPostS,results,results226]
def Zm(a bn:Nat)(n:Int)(q:aB PanicEntry)(w:az)(m:a≠bn)(hm:w.heap[a]? =aa (aA (gM) 132 (0,0)))(l:w.heap[bn]? =aa (aA #[an 0] 3 (0,0))):
  CallsD prog 226 #[aR a,aR bn] (.panicking ({v:=oZ n,recovered:=av}::q)) w λe A i=>
   e=aM (.tuple #[])/\A=.panicking ({v:=oZ n,recovered:=aq}::q)/\iH i a bg.closing/\i.cell? (aj bn 0)=aa (an n)/\∀B,B<=a->B<=bn->B<=w.heap.size->Below B w i:=by
 refine callsD_of_wpS func226 rfl λD cs o=>?_;apply wpS_seq;apply Jf;simp[wpOpsS,go_sem,recoverD,o,ntmps226,Hw];apply wpS_seq;apply Jf;simp[wpOpsS,go_sem,Hw];refine wpS_cond (t:=aq) (by simp[Act.eval,oF]) ?_;simp only[cV];refine wpS_of_wp ?_;simp only[uJ,uK,uW,pV,ld,uQ,rW,rY,rX];have HM:=bf hm;have s:=bf l;clear hm l o;go_wp2_with (go_at_call 227;refine(YA n _).mono ?_;rintro e c ⟨rfl,g⟩;have d:=EN HM.out g;have f:=EN s.out g;obtain⟨E,p1,F,G,H,I,J,K,L⟩:=JA d;have M:∀j,c.frozen? (aj a j)=av:=(λj=>by simp[oJ,d]);have z:c.cell? (aj bn 0)=aa (an 0):=(by simp[fC,f]);have N:c.frozen? (aj bn 0)=av:=(by simp[oJ,f]);have r:=bf d;have C:=bf f;clear d f);have k:=Gl (W:=c) (b:=a) bg.closing (EO r.out);refine⟨rfl,_,rfl,.tuple #[],by simp[results,results226],rfl,rfl,?_,?_,?_⟩
 ·exact iH.cO (w:=c.setCells a 0 bg.closing.cells) (row:=aa bn) k (Cc _ _ _ _) (mH k.1) (by simp;exact m)
 ·refine IP (c.setCells a 0 bg.closing.cells) ⟨bn,0,ay⟩ _ ?_;have e:(c.setCells a 0 bg.closing.cells).cell? (aj bn 0)=c.cell? (aj bn 0):=WV a bg.closing.cells 0 c ⟨bn,0,ay⟩ (λh=>absurd h (dc m));rw[e,z];rfl
 ·intro B u x y;exact(EJ (g.mono y) u bg.closing).setCell (p:=aj bn 0) x _
def JL{f args w m n}(h:Calls prog f args w λe a=>Ends (m,n) e/\aN w a)(hr:m.wh≠4):
  Calls prog f args w λe a=>e=aM (.tuple #[.agg (fP m),an n])/\aN w a:=
 h.mono λe a h=>by
  obtain⟨⟨b,_⟩|⟨_,c⟩,d⟩:=h
  ·exact absurd (by rw[show m=bg.closing from b];rfl) hr
  ·exact⟨c,d⟩
def JK{f args w m n}(h:Calls prog f args w λe a=>Ends (m,n) e/\aN w a)(hr:m.wh=4):
  Calls prog f args w λe a=>e=.panicked [{v:=oZ n,recovered:=av}]/\(m=.closing/\aN w a):=
 h.mono λe a h=>by
  obtain⟨⟨b,c⟩|⟨b,_⟩,d⟩:=h
  ·exact⟨c,b,d⟩
  ·exact absurd hr b
def LN{W b bn m n}(h:iH W b m)(o:W.cell? (aj bn 0)=aa (an n))(tmps)(a:tmps.getD 4 au=aR b)(c:tmps.getD 5 au=aR bn):
  (results f190 tmps).run prog W=.ok (.tuple #[m.val,an n]) W:=by
 obtain⟨h0,d,e,f,g,i,j,k,l⟩:=h;simp at a c;simp[results,results190,go_sem,a,c,h0,d,e,f,g,i,j,k,l,o]
abbrev Lg(w:az):az:=(w.alloc (aA (gM) 132)).alloc (aA #[an 0] 3)
def SM{w w1}(a:aN (Lg w) w1):w1.heap[w.heap.size]? =aa (aA (gM) 132 (0,0))/\w1.heap[w.heap.size+1]? =aa (aA #[an 0] 3 (0,0))/\aN w w1:=by
 refine⟨?_,?_,?_⟩
 ·rw[a.block _ cq,Below.heap_alloc _ _ _ aC];exact cG w _
 ·rw[a.block _ aC];have:=cG (w.alloc (aA (gM) 132)) (aA #[an 0] 3)
  rwa [wV]at this
 ·exact(bp.alloc aC _).trans (a.mono cq)
def Li{w w1}{m:bg}{n:Int}(tmps)(c:tmps.getD 4 au=aR w.heap.size)(d:tmps.getD 5 au=aR (w.heap.size+1))(j:aN (Lg w) w1):
  bodyPostD prog f190 (λe o=>e=aM (.tuple #[m.val,an n])/\aN w o) Nk
   {tmps:=tmps,defers:=[{target:=.fn (.func 226) #[aR w.heap.size,aR (w.heap.size+1)],args:=#[]}]}
   ((((((((((w1.setCell (aj w.heap.size 0) (an m.wh)).setCell (aj w.heap.size 1) (.string m.nm)).setCell (aj w.heap.size 2) (an m.kd)).setCell (aj w.heap.size 3) (an m.fl)).setCell (aj w.heap.size 4) (an m.ck)).setCell (aj w.heap.size 5) (an m.of)).setCell (aj w.heap.size 6) (an m.ln)).setCell (aj w.heap.size 7) (.string m.dt)).setCell (aj w.heap.size 8) (an m.er)).setCell (aj (w.heap.size+1) 0) (an n)):=by
 obtain⟨hm,k,i⟩:=SM j;have a:=Gl m (EO hm)
 have g:iH ((w1.setCells w.heap.size 0 m.cells).setCell (aj (w.heap.size+1) 0) (an n)) w.heap.size m:=
  iH.cO (row:=aa (w.heap.size+1)) a (Cc _ _ _ _) (mH a.1) aC
 have l:((w1.setCells w.heap.size 0 m.cells).setCell (aj (w.heap.size+1) 0) (an n)).cell? (aj (w.heap.size+1) 0)=aa (an n):=by refine IP (w1.setCells w.heap.size 0 m.cells) ⟨w.heap.size+1,0,ay⟩ _ ?_;have e:(w1.setCells w.heap.size 0 m.cells).cell? (aj (w.heap.size+1) 0)=w1.cell? (aj (w.heap.size+1) 0):=WV w.heap.size m.cells 0 w1 ⟨w.heap.size+1,0,ay⟩ (λh=>absurd h aC);rw[e];simp[fC,k]
 refine Ou (f:=226) (args:=#[aR w.heap.size,aR (w.heap.size+1)]) aC (by simp[go_sem]) ?_;refine(Qi _ _ _).mono ?_;rintro e q r ⟨rfl,rfl,rfl⟩;exact⟨_,LN (b:=w.heap.size) (bn:=w.heap.size+1) (m:=m) (n:=n) g l _ c d,rfl,(EJ i (bD _) m).setCell (p:=aj (w.heap.size+1) 0) (kB _) _⟩
def Lh{w w1}{m:bg}{n:Int}(k:m=.closing)(tmps)(c:tmps.getD 4 au=aR w.heap.size)(d:tmps.getD 5 au=aR (w.heap.size+1))(i:aN (Lg w) w1):
  bodyPostD prog f190 (λe o=>e=aM (.tuple #[m.val,an n])/\aN w o) (Exit.panic [{v:=oZ n,recovered:=av}])
   {tmps:=tmps,defers:=[{target:=.fn (.func 226) #[aR w.heap.size,aR (w.heap.size+1)],args:=#[]}]} w1:=by
 subst k;obtain⟨hm,l,a⟩:=SM i;refine Ou (f:=226) (args:=#[aR w.heap.size,aR (w.heap.size+1)]) aC (by simp[go_sem]) ?_;refine(Zm w.heap.size (w.heap.size+1) n [] w1 ak hm l).mono ?_;rintro e p q ⟨rfl,rfl,g,j,h⟩;exact⟨_,LN (b:=w.heap.size) (bn:=w.heap.size+1) (m:=bg.closing) (n:=n) g j _ c d,rfl,a.trans (h _ (bD _) (kB _) a.size)⟩
def Z4(rb s w)(i:s.size<=cC)(h:w.cell? (aj rb 2)=aa (an 0))(m n)(g:nB s=(m,n))(j:m.wh≠4):
  bN 190 #[aR rb,.string s] w (.tuple #[m.val,an n]):=by
 have p:∀(b:Fn) (first a:aJ aD) (w:az),(rQ b first a).run prog w=.ok (.func b first a) w:=λ_ _ _ _=>rfl;have f:Hid (∀W,aN w W->bN 228 #[.string s] W (.tuple #[.agg (fP m),an n])):=λW k=>JL (by rw[<-g];exact Rk s W i) j;have q:=mH h;have r:¬rb=w.heap.size:=ak;have t:¬rb=w.heap.size+1:=ak;have d:Hid (aN w ((w.alloc (aA (gM) 132)).alloc (aA #[an 0] 3))):=bp.alloc aC _
 go_enter_defers func190,ntmps190
 go_wp2_with (go_at_call 228;refine(f.out _ d.out).mono ?_;rintro e u ⟨rfl,c⟩;obtain⟨l,o⟩:=lE c);exact Li _ rfl rfl c
def Z3(rb s w)(j:s.size<=cC)(i:w.cell? (aj rb 2)=aa (an 0))(m n)(h:nB s=(m,n))(k:m.wh=4):
  bN 190 #[aR rb,.string s] w (.tuple #[m.val,an n]):=by
 have r:∀(b:Fn) (first a:aJ aD) (w:az),(rQ b first a).run prog w=.ok (.func b first a) w:=λ_ _ _ _=>rfl;have f:Hid (∀W,aN w W->Calls prog 228 #[.string s] W λe l=>e=.panicked [{v:=oZ n,recovered:=av}]/\(m=.closing/\aN W l)):=λW o=>JK (by rw[<-h];exact Rk s W j) k;have t:=mH i;have u:¬rb=w.heap.size:=ak;have x:¬rb=w.heap.size+1:=ak;have d:Hid (aN w ((w.alloc (aA (gM) 132)).alloc (aA #[an 0] 3))):=bp.alloc aC _
 go_enter_defers func190,ntmps190
 go_wp2_with (go_at_call 228;refine(f.out _ d.out).mono ?_;rintro e y ⟨rfl,g,c⟩;obtain⟨p,q⟩:=lE c);exact Lh g _ rfl rfl c
def Z7(rb s w)(i:s.size<=cC)(h:w.cell? (aj rb 2)=aa (an 1))(m n)(g:opt s=(m,n))(j:m.wh≠4):
  bN 190 #[aR rb,.string s] w (.tuple #[m.val,an n]):=by
 have p:∀(b:Fn) (first a:aJ aD) (w:az),(rQ b first a).run prog w=.ok (.func b first a) w:=λ_ _ _ _=>rfl;have f:Hid (∀W,aN w W->bN 229 #[.string s] W (.tuple #[.agg (fP m),an n])):=λW k=>JL (by rw[<-g];exact SX s W i) j;have q:=mH h;have r:¬rb=w.heap.size:=ak;have t:¬rb=w.heap.size+1:=ak;have d:Hid (aN w ((w.alloc (aA (gM) 132)).alloc (aA #[an 0] 3))):=bp.alloc aC _
 go_enter_defers func190,ntmps190
 go_wp2_with (go_at_call 229;refine(f.out _ d.out).mono ?_;rintro e u ⟨rfl,c⟩;obtain⟨l,o⟩:=lE c);exact Li _ rfl rfl c
def Z6(rb s w)(j:s.size<=cC)(i:w.cell? (aj rb 2)=aa (an 1))(m n)(h:opt s=(m,n))(k:m.wh=4):
  bN 190 #[aR rb,.string s] w (.tuple #[m.val,an n]):=by
 have r:∀(b:Fn) (first a:aJ aD) (w:az),(rQ b first a).run prog w=.ok (.func b first a) w:=λ_ _ _ _=>rfl;have f:Hid (∀W,aN w W->Calls prog 229 #[.string s] W λe l=>e=.panicked [{v:=oZ n,recovered:=av}]/\(m=.closing/\aN W l)):=λW o=>JK (by rw[<-h];exact SX s W j) k;have t:=mH i;have u:¬rb=w.heap.size:=ak;have x:¬rb=w.heap.size+1:=ak;have d:Hid (aN w ((w.alloc (aA (gM) 132)).alloc (aA #[an 0] 3))):=bp.alloc aC _
 go_enter_defers func190,ntmps190
 go_wp2_with (go_at_call 229;refine(f.out _ d.out).mono ?_;rintro e y ⟨rfl,g,c⟩;obtain⟨p,q⟩:=lE c);exact Lh g _ rfl rfl c
def Z9(rb s w mb sz mx us)(l:0<=sz)(i:s.size<=281474976710656)(hR:dU w rb mb sz mx 2 us)(j:w.cell? (aj rb 2)=aa (an 2))(m n)(h:kU sz mx us s=(m,n))(k:m.wh≠4):
  bN 190 #[aR rb,.string s] w (.tuple #[m.val,an n]):=by
 have q:∀(b:Fn) (first a:aJ aD) (w:az),(rQ b first a).run prog w=.ok (.func b first a) w:=λ_ _ _ _=>rfl;have f:Hid (∀W,aN w W->bN 230 #[aR rb,.string s] W (.tuple #[.agg (fP m),an n])):=λW g=>JL (by rw[<-h];exact Tw rb mb sz mx 2 us s W l i (hR.later g)) k;have r:=mH j;have t:¬rb=w.heap.size:=ak;have u:¬rb=w.heap.size+1:=ak;have d:Hid (aN w ((w.alloc (aA (gM) 132)).alloc (aA #[an 0] 3))):=bp.alloc aC _
 go_enter_defers func190,ntmps190
 go_wp2_with (go_at_call 230;refine(f.out _ d.out).mono ?_;rintro e v ⟨rfl,c⟩;obtain⟨o,p⟩:=lE c);exact Li _ rfl rfl c
def Z8(rb s w mb sz mx us)(o:0<=sz)(j:s.size<=281474976710656)(hR:dU w rb mb sz mx 2 us)(k:w.cell? (aj rb 2)=aa (an 2))(m n)(i:kU sz mx us s=(m,n))(l:m.wh=4):
  bN 190 #[aR rb,.string s] w (.tuple #[m.val,an n]):=by
 have t:∀(b:Fn) (first a:aJ aD) (w:az),(rQ b first a).run prog w=.ok (.func b first a) w:=λ_ _ _ _=>rfl;have f:Hid (∀W,aN w W->Calls prog 230 #[aR rb,.string s] W λe p=>e=.panicked [{v:=oZ n,recovered:=av}]/\(m=.closing/\aN W p)):=λW g=>JK (by rw[<-i];exact Tw rb mb sz mx 2 us s W o j (hR.later g)) l;have u:=mH k;have x:¬rb=w.heap.size:=ak;have y:¬rb=w.heap.size+1:=ak;have d:Hid (aN w ((w.alloc (aA (gM) 132)).alloc (aA #[an 0] 3))):=bp.alloc aC _
 go_enter_defers func190,ntmps190
 go_wp2_with (go_at_call 230;refine(f.out _ d.out).mono ?_;rintro e z ⟨rfl,h,c⟩;obtain⟨q,r⟩:=lE c);exact Lh h _ rfl rfl c
def Z5(rb s w ph)(h:w.cell? (aj rb 2)=aa (an ph))(h0:ph≠0)(d:ph≠1)(g:ph≠2):
  bN 190 #[aR rb,.string s] w (.tuple #[bg.zero.val,an 0]):=by
 have k:∀(c:Fn) (first a:aJ aD) (w:az),(rQ c first a).run prog w=.ok (.func c first a) w:=λ_ _ _ _=>rfl;have l:=mH h;have o:¬rb=w.heap.size:=ak;have p:¬rb=w.heap.size+1:=ak;have i:(ph==0)=av:=by simpa using h0
 have b1:(ph==1)=av:=by simpa using d
 have j:(ph==2)=av:=by simpa using g
 go_enter_defers func190,ntmps190
 go_wp2;refine Ou (f:=226) (args:=#[aR w.heap.size,aR (w.heap.size+1)]) aC (by simp[go_sem]) ?_;refine(Qi _ _ _).mono ?_;rintro e q r ⟨rfl,rfl,rfl⟩;exact⟨_,LN (b:=w.heap.size) (bn:=w.heap.size+1) (m:=bg.zero) (n:=0) (by simp[iH,go_sem,bg.zero]) (by simp[go_sem]) _ rfl rfl,rfl,bp.alloc aC _⟩
def Z2(rb mb sz mx ph us s w)(h:0<=sz)(g:s.size<=281474976710656)(hR:dU w rb mb sz mx ph us):
  bN 190 #[aR rb,.string s] w (.tuple #[(first sz mx ph us s).1.val,an (first sz mx ph us s).2]):=by
 have c:s.size<=cC:=by unfold cC;omega
 have b:=hR.cell.2.2.1
 by_cases h0:ph=0
 ·subst h0;have e:first sz mx 0 us s=nB s:=by unfold first;simp
  rw[e]
  by_cases a:(nB s).1.wh=4
  ·exact Z3 rb s w c b _ _ rfl a
  ·exact Z4 rb s w c b _ _ rfl a
 ·by_cases d:ph=1
  ·subst d;have e:first sz mx 1 us s=opt s:=by unfold first;simp
   rw[e]
   by_cases a:(opt s).1.wh=4
   ·exact Z6 rb s w c b _ _ rfl a
   ·exact Z7 rb s w c b _ _ rfl a
  ·by_cases f:ph=2
   ·subst f;have e:first sz mx 2 us s=kU sz mx us s:=by unfold first;simp
    rw[e]
    by_cases a:(kU sz mx us s).1.wh=4
    ·exact Z8 rb s w mb sz mx us h g hR b _ _ rfl a
    ·exact Z9 rb s w mb sz mx us h g hR b _ _ rfl a
   ·have e:first sz mx ph us s=(.zero,0):=by unfold first;simp[h0,d,f]
    rw[e];exact Z5 rb s w ph b h0 d f
def xy(w w':az)(rb mb:Nat):Prop:=∃row,w.grownBy w' row/\∀r,row=aa r->r=rb\/r=mb
def agh{w mb us}(h:Uses w mb us)(ck)(g:0<=ck/\ck<=65535)(c:us.length<cC):
  ∃a,(Instr.mapUpdate 226 (.map (aa mb)) (an ck) (.agg #[])).run prog w=.ok () a/\Uses a mb (us++[ck])/\w.grownBy a (aa mb):=by
 obtain⟨a,f,e,b⟩:=h.update (AX underlying3) underlying226 c (kl:=.int .i64 ck) (d:=.agg []) (ps:=[]) (IB underlying3 (by simp[Lit.wf,IntKind.min,IntKind.max,Ik,Ij];omega)) unitElem_mk;refine⟨a,f,?_,b⟩;unfold Uses;rw[AT,gW,uU,yN,Maps.setOf_snoc];exact e
def dU.phase{w rb mb sz mx ph us}(h:dU w rb mb sz mx ph us)(p):dU (w.setCell (aj rb 2) (an p)) rb mb sz mx p us:=by
 have b:mb≠rb:=λe=>by obtain⟨d,c,a,_⟩:=h.uses;rw[e,h.box]at a;cases a
 refine⟨?_,h.uses.setCell b _⟩;have f:=h.lt.1;have a:=(bq.1 h.box).2;simp only[fY,lO];simp[h.box]
def dU.frozen{w rb mb sz mx ph us}(h:dU w rb mb sz mx ph us):w.frozen? (aj rb 2)=av:=by simp[oJ,h.box]
def dU.drew{w rb mb sz mx ph us}(h:dU w rb mb sz mx ph us):dU w.drew rb mb sz mx ph us:=⟨h.box,h.uses⟩
def JY{R a w}(b:a.defers=[])(h:R (aM (.tuple #[])) w):Ec prog f231 R Nj a w:=
 ⟨b,.tuple #[],by simp[results,results231],h⟩
def A7(rb mb:Nat)(sz q ph:Int)(us:aB Int)(m:bg)(w:az)(hR:dU w rb mb sz q ph us)(x:0<=m.ck/\m.ck<=65535)(H:us.length<cC):
  Calls prog 231 #[aR rb,m.val] w λe j=>e=aM (.tuple #[])/\dU j rb mb sz q (if m.er=0/\m.kd=5 then 3 else ph) (if m.er=0/\m.kd≠5 then us++[m.ck]else us)/\xy w j rb mb:=by
 obtain⟨D,C,g,t,a,of,ln,s,o⟩:=m;dsimp only at x⊢;obtain⟨g0,Q,g2,R⟩:=hR.cell;have W:=hR.lt.1;have Z:¬rb=w.heap.size:=ak;have f2:=hR.frozen;have n:=bf hR;clear hR;generalize h:(if o=0/\g=5 then 3 else ph)=P;generalize d:(if o=0/\g≠5 then us++[a]else us)=U
 by_cases i:o=0
 ·subst i
  by_cases f:g=5
  ·subst f;obtain rfl:3=P:=ak;obtain rfl:us=U:=by simpa using d
   clear h d;go_enter func231,ntmps231;go_wp2;refine JY rfl ⟨rfl,?_,aa rb,(Cc w rb 2 _).trans (oK _ _ (aa rb)),λr e=>aF (by cases e;rfl)⟩;exact(n.out.phase 3).kept (oK _ _ ay) aC aC
  ·obtain rfl:ph=P:=by simpa[f]using h
   obtain rfl:us++[a]=U:=by simpa[f]using d
   clear h d;have Y:(g==5)=av:=by simpa using f
   have c:dU ((w.alloc (aA (jX D C g t a of ln s 0) 132)).drew) rb mb sz q ph us:=(n.out.kept (oK _ _ ay) aC aC).drew;obtain⟨l,X,B,p⟩:=agh c.uses a x H
   have A:aa rb≠aa mb:=λe=>by obtain⟨O,M,v,_⟩:=c.uses;cases e;rw[c.box]at v;cases v
   have y:dU l rb mb sz q ph (us++[a]):=⟨(p.block _ c.lt.1 A).trans c.box,B⟩;have J:xy w l rb mb:=⟨aa mb,World.grownBy.trans (b:=(w.alloc (aA (jX D C g t a of ln s 0) 132)).drew) ⟨rfl,rfl,rfl,aC,λk G _=>Below.heap_alloc _ _ _ G⟩ p,λr e=>aE (by cases e;rfl)⟩;have F:=c.cell.2.2.2;have I:=n.out.lt.2;have z:l.cell? (aj w.heap.size 4)=aa (an a):=(jE (p.block _ aC (λe=>absurd I (by cases e;exact sr _)))).trans (by simp[go_sem]);have E:Hid (l.cell? (aj rb 3)=aa (.map (aa mb))/\l.cell? (aj w.heap.size 4)=aa (an a)):=⟨y.cell.2.2.2,z⟩;clear z;have L:=bf f;clear f c B p A;go_enter func231,ntmps231
   go_upto_region 1 with fail
   refine fq (S:=λj=>j.cell? (aj rb 3)=aa (.map (aa mb))/\j.cell? (aj w.heap.size 4)=aa (an a)) ⟨F,by simp[go_sem]⟩ λV=>?_;refine tk 0 ?_;refine tk 1 ?_;refine tk 2 ?_;refine tk 3 ?_;refine tk 4 ?_;refine tk 5 ?_;refine tk 6 ?_;refine rH 7 λK u=>?_;go_simp;refine u.out _ _ (E.out) (λT=>?_);clear u K;refine dL ?_
   (go_wp2_with fail;exact JY rfl ⟨rfl,y,J⟩)
 ·obtain rfl:ph=P:=by simpa[i]using h
  obtain rfl:us=U:=by simpa[i]using d
  have N:(o !=0)=aq:=by simpa using i
  clear i h d;go_enter func231,ntmps231;go_wp2;refine JY rfl ⟨rfl,?_,ay,oK _ _ ay,λr e=>by cases e⟩;exact n.out.kept (oK _ _ ay) aC aC
def xG{R a w}(b:a.defers=[])(h:R (aM (.tuple #[])) w):Ec prog f191 R Nj a w:=
 ⟨b,.tuple #[],by simp[results,results191],h⟩
abbrev CY(us:aB Int)(m:bg):aB Int:=if accepted m then us++[m.ck]else us
def A8(rb mb:Nat)(sz l ph:Int)(us:aB Int)(m:bg)(w:az)(hR:dU w rb mb sz l ph us)(A:0<=m.ck/\m.ck<=65535)(G:us.length<cC):
  Calls prog 191 #[aR rb,m.val] w λe n=>e=aM (.tuple #[])/\dU n rb mb sz l (after ph m) (CY us m)/\xy w n rb mb:=by
 obtain⟨b,f,d,i,g,of,ln,h,c⟩:=m;dsimp only at A;obtain⟨g0,O,g2,Q⟩:=hR.cell;have R:=hR.lt.1;have S:¬rb=w.heap.size:=ak;have f2:=hR.frozen;have y:=bf hR;clear hR;generalize a:after ph ⟨b,f,d,i,g,of,ln,h,c⟩=P;generalize j:CY us ⟨b,f,d,i,g,of,ln,h,c⟩=U;have k:=bf a;have z:=bf j;clear a j
 have stay:Hid (P=ph->U=us->dU (w.alloc (aA (jX b f d i g of ln h c) 132)) rb mb sz l P U/\xy w (w.alloc (aA (jX b f d i g of ln h c) 132)) rb mb):=λo q=>by rw[o,q];exact⟨y.out.kept (oK _ _ ay) aC aC,ay,oK _ _ ay,λr e=>by cases e⟩
 have move:Hid (∀p,P=p->U=us->dU ((w.setCell (aj rb 2) (an p)).alloc (aA (jX b f d i g of ln h c) 132)) rb mb sz l P U/\xy w ((w.setCell (aj rb 2) (an p)).alloc (aA (jX b f d i g of ln h c) 132)) rb mb):=λp o q=>by rw[o,q];exact⟨(y.out.phase p).kept (oK _ _ ay) aC aC,aa rb,(Cc w rb 2 _).trans (oK _ _ (aa rb)),λr e=>aF (by cases e;rfl)⟩
 by_cases s:b=3
 ·subst s
  have H:Hid (Calls prog 231 #[aR rb,.agg (jX 3 f d i g of ln h c)] (w.alloc (aA (jX 3 f d i g of ln h c) 132)) λe n=>e=aM (.tuple #[])/\dU n rb mb sz l P U/\xy w n rb mb):=by
   refine(A7 rb mb sz l ph us ⟨3,f,d,i,g,of,ln,h,c⟩ _ (y.out.kept (oK _ _ ay) aC aC) A G).mono ?_;rintro e n ⟨E,hr,row,F,J⟩
   have o:(if c=0/\d=5 then 3 else ph)=P:=by rw[<-k.out];simp[after,and_comm]
   have q:(if c=0/\d≠5 then us++[g]else us)=U:=by rw[<-z.out];simp[CY,accepted]
   dsimp only at hr;rw[o,q]at hr;exact⟨E,hr,row,(oK _ _ row).trans F,J⟩
  clear stay move;go_enter func191,ntmps191;go_wp2_with (go_at_call 231;refine H.out.mono ?_;rintro e T ⟨rfl,I,K⟩);exact xG rfl ⟨rfl,I,K⟩
 ·have M:(b==3)=av:=by simpa using s
  have j:Hid (U=us):=by show U=us;rw[<-z.out];simp[CY,accepted,s]
  have D:=bf s;clear s
  by_cases u:b=1
  ·subst u;cases t:f.toList==[97]with
   |true=>
    have a:Hid (P=1):=by show P=1;rw[<-k.out];simp only[after,t];simp
    go_enter func191,ntmps191;go_wp2_with fail;exact xG rfl ⟨rfl,move.out 1 a.out j.out⟩
   |false=>
    have a:Hid (P=ph):=by show P=ph;rw[<-k.out];simp only[after,t];simp
    go_enter func191,ntmps191;go_wp2_with fail;exact xG rfl ⟨rfl,stay.out a.out j.out⟩
  ·have b1:(b==1)=av:=by simpa using u
   have B:=bf u;clear u
   by_cases v:b=2
   ·subst v;cases t:f.toList==[103]with
    |true=>
     have a:Hid (P=2):=by show P=2;rw[<-k.out];simp only[after,t];simp
     go_enter func191,ntmps191;go_wp2_with fail;exact xG rfl ⟨rfl,move.out 2 a.out j.out⟩
    |false=>
     have a:Hid (P=ph):=by show P=ph;rw[<-k.out];simp only[after,t];simp
     go_enter func191,ntmps191;go_wp2_with fail;exact xG rfl ⟨rfl,stay.out a.out j.out⟩
   ·have L:(b==2)=av:=by simpa using v
    have C:=bf v;clear v
    by_cases x:b=4
    ·subst x;have a:Hid (P=4):=by show P=4;rw[<-k.out];simp[after]
     go_enter func191,ntmps191;go_wp2_with fail;exact xG rfl ⟨rfl,move.out 4 a.out j.out⟩
    ·have N:(b==4)=av:=by simpa using x
     have a:Hid (P=ph):=by show P=ph;rw[<-k.out];simp[after,B.out,C.out,D.out,x]
     clear x;go_enter func191,ntmps191;go_wp2_with fail;exact xG rfl ⟨rfl,stay.out a.out j.out⟩
def SL(sz cl qu mx qn rt bu wk ou ph w):
  Calls prog 115 #[.agg (fN sz cl qu mx qn rt bu wk ou),an ph] w λe a=>e=aM (aR (w.heap.size+2))/\
   a=((w.alloc (aA (fN sz cl qu mx qn rt bu wk ou) 35)).alloc (.map #[] 0)).alloc (aA #[an sz,an mx,an ph,.map (aa (w.heap.size+1))] 228):=by
 have b:=@run_makeMap prog;go_enter func115,ntmps115;go_wp2;go_ret;exact⟨rfl,rfl⟩
def V1(rb s w):
  Calls prog 152 #[aR rb,.string s] w λe c=>e=aM (.func (.func 189) #[] #[aR w.heap.size,aR (w.heap.size+1)])/\
   c=(w.alloc (aA #[aR rb] 164)).alloc (aA #[.string s] 9):=by
 have d:∀(b:Fn) (first a:aJ aD) (w:az),(rQ b first a).run prog w=.ok (.func b first a) w:=λ_ _ _ _=>rfl;go_enter func152,ntmps152;go_wp2;go_ret;exact⟨rfl,rfl⟩
structure kJ(W:az)(rb mb a sb:Nat)(sz mx:Int)(s:ByteArray)(st:St):Prop where
 rd:dU W rb mb sz mx st.ph st.used
 cp:W.heap[a]? =aa (aA #[aR rb] 164 (0,0))
 tx:W.heap[sb]? =aa (aA #[.string (s.extract st.pos s.size)] 9 (0,0))
 apart:rb≠sb/\mb≠sb/\a≠sb/\a≠rb/\a≠mb
abbrev ItR(rb mb a:Nat)(r:Nat):Prop:=r=rb\/r=mb\/r=a
def xq(rb mb a b:Nat)(A B:az):Prop:=B.heap[rb]? =A.heap[rb]? /\B.heap[mb]? =A.heap[mb]? /\B.heap[a]? =A.heap[a]? /\B.heap[b]? =A.heap[b]?
def Uses.block{w w' mb us}(h:Uses w mb us)(c:w'.heap[mb]? =w.heap[mb]?):Uses w' mb us:=by obtain⟨b,a,d,r⟩:=h;exact⟨b,a,c.trans d,r⟩
def kJ.kept{A B rb mb cb sb sz mx s st}(h:kJ A rb mb cb sb sz mx s st)(k:xq rb mb cb sb A B):kJ B rb mb cb sb sz mx s st:=
 ⟨⟨k.1.trans h.rd.box,h.rd.uses.block k.2.1⟩,k.2.2.1.trans h.cp,k.2.2.2.trans h.tx,h.apart⟩
def kJ.later{A B rb mb cb sb sz mx s st}(h:kJ A rb mb cb sb sz mx s st)(a:A.grownBy B ay):kJ B rb mb cb sb sz mx s st:=
 h.kept ⟨a.block _ h.rd.lt.1 aC,a.block _ h.rd.lt.2 aC,a.block _ (bq.1 h.cp).1 aC,a.block _ (bq.1 h.tx).1 aC⟩
def ZM(s:ByteArray)(p n:Nat)(_h:p+n<=s.size):(s.extract p s.size).extract n (s.extract p s.size).size=s.extract (p+n) s.size:=by
 apply wK;simp[uM,mQ]
 congr 1
 omega
def kJ.step{A B rb mb cb sb sz mx s st m n}(h:kJ A rb mb cb sb sz mx s st)(hr:dU B rb mb sz mx (after st.ph m) (CY st.used m))(i:xy A B rb mb):
  kJ (B.setCell (aj sb 0) (.string (s.extract (st.pos+n.toNat) s.size))) rb mb cb sb sz mx s (st.step (m,n)):=by
 obtain⟨row,b,c⟩:=i;obtain⟨a1,a,a3,d,f⟩:=h.apart;have g:B.heap[cb]? =_:=(b.block cb (bq.1 h.cp).1 (λe=>(c _ e.symm).elim d f)).trans h.cp;have j:B.heap[sb]? =_:=(b.block sb (bq.1 h.tx).1 (λe=>(c _ e.symm).elim (λe=>a1 e.symm) (λe=>a e.symm))).trans h.tx;refine⟨⟨?_,?_⟩,?_,?_,h.apart⟩
 ·rw[Below.heap_setCell _ _ _ _ (by exact a1)];exact hr.box
 ·exact Uses.block hr.uses (Below.heap_setCell _ _ _ _ (by exact a))
 ·rw[Below.heap_setCell _ _ _ _ (by exact a3)];exact g
 ·simp only[fY,lO,j];simp[St.step]
def QI(sz mx ph us s):0<=(first sz mx ph us s).1.ck/\(first sz mx ph us s).1.ck<=65535:=by
 have g:∀f i,(dz s f i).1.ck=0:=λf=>by
  induction f with
  |zero=>intro i;unfold dz;split<;>rfl
  |succ f a=>intro i;unfold dz;split;rfl;split;exact a _;rfl
 unfold first
 split
 ·rw[nB,g];simp
 ·split
  ·unfold opt;repeat' split
   all_goals simp[bg.zero,bg.closing]
  ·split
   ·unfold kU;repeat' split
    all_goals (first|exact(lM s 3)|simp[bg.zero,bg.closing])
   ·simp[bg.zero]
def acv(st:St)(xs:aB (bg×Int)):(st.run xs).used.length<=st.used.length+xs.length:=by
 induction xs generalizing st with
 |nil=>simp[St.run]
 |cons x xs a=>
  have:=a (st.step x)
  have e:(st.step x).used.length<=st.used.length+1:=by simp only[St.step];split<;>simp
  simp only[St.run,tK,eM]at this⊢;omega
end
section
attribute [local go_sem] Oper.semAt_some
attribute [local go_sem] bV bQ
open Go.Proofs.Tryz
open Go.RowKit Go.Shelf
abbrev Lb(x:bg×Int):aJ aD:=#[.agg (jX x.1.wh x.1.nm x.1.kd x.1.fl x.1.ck x.1.of x.1.ln x.1.dt x.1.er),an x.2]
def FK(W:az)(a:Nat):Nat:=match W.cell? (aj a 0)with|some (.string t)=>t.size|_=>0
def Sm{W rb mb cb sb sz mx s st}(h:kJ W rb mb cb sb sz mx s st):FK W sb=s.size-st.pos:=by simp[FK,fC,h.tx,mQ]
def Q3(n)(hn:1<=n)(rb mb cb sb sz d s)(st:St)(W)(hz:0<=sz)(RG:s.size<=281474976710656)(hu:st.used.length<=281474976710656)(hp:st.pos<=s.size)(h0:kJ W rb mb cb sb sz d s st):
  Iter iS n prog 189 #[aR cb,aR sb] Lb (ItR rb mb sb) (xq rb mb cb sb) (mG sz d s st)
   (λk i=>mG sz d s st k/\((st.run k).next sz d s).2=0/\kJ i rb mb cb sb sz d s (st.run k))
   (λpre i=>mG sz d s st pre/\kJ i rb mb cb sb sz d s (st.run pre)) W:=by
 intro l J Jx H bI hY bl;refine callsIn_of_wp func189 rfl trivial ?_ rfl;simp only[ntmps189,jB,eM,gX,lR,DW,uJ,uK,uW,uQ,pV,ld]
 gi_wp2
 gi_loopw [5] (λ_ wr=>∃pre,Hid (mG sz d s st pre/\kJ wr rb mb cb sb sz d s (st.run pre)/\J pre wr)) (λ_ wr=>FK wr sb)
 case atStart=>exact⟨[],trivial,h0,bl⟩
 case round=>
  obtain⟨pre,hH⟩:=hrel;obtain⟨F,f,K⟩:=hH.out;clear hH;have Q:=LX sz d s st pre hp F;have T:=acv st pre;generalize v:st.run pre=c at f Q T;obtain⟨⟨m,a⟩,u⟩:∃x,c.next sz d s=x:=⟨_,rfl⟩
  have B:=SN sz d s c;rw[u]at B;have I:=QI sz d c.ph c.used (s.extract c.pos s.size);have L:first sz d c.ph c.used (s.extract c.pos s.size)=(m,a):=u
  rw[L]at I;obtain⟨t,j⟩:∃t,t=s.extract c.pos s.size:=⟨_,rfl⟩;have S:t.size=s.size-c.pos:=by rw[j];simp[mQ]
  have Y:wr.cell? (aj cb 0)=aa (aR rb):=by simp[fC,f.cp]
  have c2:wr.cell? (aj sb 0)=aa (.string t):=by simp[fC,f.tx,j]
  have hN:Hid (bN 190 #[aR rb,.string t] wr (.tuple #[.agg (fP m),an a])):=by have:=Z2 rb mb sz d c.ph c.used t wr hz ak f.rd;rw[j,L]at this;rw[j];exact this
  by_cases P:a=0
  ·subst P
   have HD:Hid (∀b,aN wr b->(∃k,(mG sz d s st k/\((st.run k).next sz d s).2=0/\kJ (b.alloc (aA (fP m) 132)) rb mb cb sb sz d s (st.run k))/\J k (b.alloc (aA (fP m) 132)))):=λb y=>by have A:wr.grownBy (b.alloc (aA (fP m) 132)) ay:=(Kg y).trans (oK _ _ ay);exact⟨pre,⟨F,by rw[v,u],by rw[v];exact f.later A⟩,H _ _ _ ay K A (λr e=>by cases e)⟩
   clear F f K u L I B Q T v S j
   gi_wp2_with (first|(refine⟨trivial,?_⟩;gi_at_call 190;refine(gy.2 hN.out).mono ?_;rintro e b ⟨rfl,z⟩))
   refine gn (Bs rfl _ _ _) rfl ?_;exact⟨⟨_,rfl⟩,aF (HD.out b z)⟩
  ·have bJ:(a==0)=av:=by simpa using P
   have hv:mG sz d s st (pre++[(m,a)]):=(TH sz d s st pre (m,a)).2 ⟨F,by rw[v,u],P⟩;have bP:a<=(t.size:Int):=by rw[S];exact B.2
   have bO:0<=a:=B.1;have aS:c.used.length<cC:=by unfold cC;omega
   have RP:st.run (pre++[(m,a)])=c.step (m,a):=by rw[St.LW,v]
   have HF:Hid (∀b,aN wr b->Calls prog 191 #[aR rb,.agg (fP m)] (b.alloc (aA (fP m) 132)) λe g=>e=aM (.tuple #[])/\(g.cell? (aj sb 0)=aa (.string t)/\g.frozen? (aj sb 0)=av/\iH g b.heap.size m/\sb<b.heap.size/\
     kJ (g.setCell (aj sb 0) (.string (t.extract a.toNat t.size))) rb mb cb sb sz d s (c.step (m,a))/\J pre (g.setCell (aj sb 0) (.string (t.extract a.toNat t.size))))):=λb y=>by
    have A:wr.grownBy (b.alloc (aA (fP m) 132)) ay:=(Kg y).trans (oK _ _ ay);have C:=f.later A;have bz:sb<wr.heap.size:=(bq.1 f.tx).1;have aL:sb<b.heap.size:=dI bz y.size;refine(A8 rb mb sz d c.ph c.used m (b.alloc (aA (fP m) 132)) C.rd I aS).mono ?_;rintro e g ⟨he,bw,aO⟩;have bA:=C.step (n:=a) bw aO;obtain⟨row,O,R⟩:=aO;have aG:=f.apart;have aP:g.heap[sb]? =_:=(O.block sb (bq.1 C.tx).1 (λe=>(R _ e.symm).elim (λe=>aG.1 e.symm) (λe=>aG.2.1 e.symm))).trans C.tx;have hcut:t.extract a.toNat t.size=s.extract (c.pos+a.toNat) s.size:=by rw[j];exact ZM s c.pos a.toNat ak
    rw[hcut]
    have bt:iH g b.heap.size m:=iH.cO (w:=b.alloc (aA (fP m) 132)) (row:=row) (by simp[iH,go_sem]) O aC (λe=>by have:=C.rd.lt;have Z:=f.rd.lt;have:=y.size;rcases R _ e.symm with e|e<;>omega)
    exact⟨he,by simp[fC,aP,j],by simp[oJ,aP],bt,aL,bA,
     H _ _ _ (aa sb) (H _ _ _ row (H _ _ _ ay K A (λr e=>by cases e)) O (λr e=>(R r e).elim aF (λh=>aE (aF h)))) (Cc _ _ _ _) (λr e=>aE (aE (by cases e;rfl)))⟩
   have HY:Hid (∀q,J pre q->YieldAt iS (n-1) prog l (Lb (m,a)) q λe i=>(e=aM (.bool aq)/\J (pre++[(m,a)]) i/\xq rb mb cb sb q i)\/(e=aM (.bool av)/\Jx (pre++[(m,a)]) i/\xq rb mb cb sb q i)):=λq J5=>hY pre (m,a) q J5 hv;have p:Hid (mG sz d s st (pre++[(m,a)])/\st.run (pre++[(m,a)])=c.step (m,a)/\FK wr sb=s.size-c.pos/\c.pos+a.toNat<=s.size):=⟨hv,RP,Sm f,ak⟩;clear F f K u L I Q T v j hv RP aS B S
   gi_wp2_with (first|(refine⟨trivial,?_⟩;gi_at_call 190;refine(gy.2 hN.out).mono ?_;rintro e b ⟨rfl,z⟩;have V:=bf z;obtain⟨bK,bL⟩:=lE z;clear z;have bk:b.cell? (aj cb 0)=aa (aR rb):=(V.out.cell (mH Y)).trans Y;have hx:∀(U:Obj) (o:Nat),(b.alloc U).cell? (aj cb o)=b.cell? (aj cb o):=(λU o=>jE (Below.heap_alloc b U _ (mH bk))))|(refine⟨trivial,?_⟩;gi_at_call 191;refine(gy.2 (HF.out b V.out)).mono ?_;rintro e g ⟨rfl,d2,df,⟨m0,m1,m2,m3,m4,m5,m6,m7,m8⟩,aL,aH,aI⟩;have b8:¬sb=b.heap.size:=ak;obtain⟨fn,b9,assign,body,hy,N⟩:=HY.out _ aI;have X:=bf aH;clear aH aI))
   refine N.mono ?_;rintro e W3 (⟨rfl,Rt,E⟩|⟨rfl,Ru,E⟩)
   ·have D:=X.out.kept E;have G:=bf D;have M:=bf Rt;clear D Rt E N hy
    gi_wp2
    go_roundw
    case rel=>exact⟨pre++[(m,a)],p.out.1,by rw[p.out.2.1];exact G.out,M.out⟩
    case measure=>
     rw[p.out.2.2.1,Sm G.out];have:=p.out.2.2.2;have Z:(c.step (m,a)).pos=c.pos+a.toNat:=rfl;rw[Z];omega
   ·have D:=X.out.kept E;have G:=bf D;have M:=bf Ru;clear D Ru E N hy
    gi_wp2
    refine gn (Bs rfl _ _ _) rfl ?_;exact⟨⟨_,rfl⟩,aE ⟨pre++[(m,a)],⟨p.out.1,by rw[p.out.2.1];exact G.out⟩,M.out⟩⟩
end
section
attribute [local go_sem ↓] Go.wp_at_zero Go.wp_at_succ
attribute [local go_sem] bV bQ
open Go.Conc Go.RowKit
structure bh(X:Nat->Prop)(w w':az):Prop where
 os:w'.os=w.os
 size:w.heap.size<=w'.heap.size
 block:∀k,k<w.heap.size->¬X k->w'.heap[k]? =w.heap[k]?
def bh.refl(X w):bh X w w:=⟨rfl,bD _,λ_ _ _=>rfl⟩
def bh.trans{X a b c}(h:bh X a b)(k:bh X b c):bh X a c:=
 ⟨k.os.trans h.os,dM h.size k.size,λi d e=>(k.block i (dI d h.size) e).trans (h.block i d e)⟩
def bh.mono{X Y a b}(h:bh X a b)(e:∀k,k<a.heap.size->X k->Y k):bh Y a b:=⟨h.os,h.size,λi c f=>h.block i c λd=>f (e i c d)⟩
def bh.below{X w w'}(h:aN w w'):bh X w w':=⟨h.os,h.size,λk a _=>h.block k a⟩
def bh.set{X a w}(h:bh X a w){p}(d:X p.block)(v):bh X a (w.setCell p v):=
 ⟨h.os,by simpa using h.size,λk c b=>(Below.heap_setCell w p v k (λe=>b (e▸d))).trans (h.block k c b)⟩
abbrev Jk(w:az)(c:Nat)(no wt sz cl qu a b rt bu wk ou:Int)(rb:Nat)(s:ByteArray)(out:aD)(tok de:Int)(ch:Nat):Prop:=
 w.heap[c]? =aa (aA (clL no wt sz cl qu a b rt bu wk ou rb s out tok de ch) 168 (0,0))
def aI{w:az}{b T:Nat}{x:aJ aD}(h:w.heap[b]? =aa (aA x T (0,0))){i:Nat}{v:aD}(hv:x[i]? =aa v):w.cell? (aj b i)=aa v:=by simp[fC,h,hv]
def bF{w:az}{b T:Nat}{x:aJ aD}(h:w.heap[b]? =aa (aA x T (0,0)))(i):w.frozen? (aj b i)=av:=by simp[oJ,h]
def dF{w:az}{b T:Nat}{x:aJ aD}(h:w.heap[b]? =aa (aA x T (0,0)))(i v):(w.setCell (aj b i) v).heap[b]? =aa (aA (x.setIfInBounds i v) T (0,0)):=by simp[fY,lO,h]
def nY{w:az}{b k:Nat}{o:aZ Obj}(h:w.heap[k]? =o)(a:k≠b)(i v):(w.setCell (aj b i) v).heap[k]? =o:=
 (Below.heap_setCell w ⟨b,i,ay⟩ v k a).trans h
def fI{P fn R a w}(hr:fn.results=#[])(b:a.defers=[])(h:R (aM (.tuple #[])) w):Ec P fn R Nj a w:=
 ⟨b,.tuple #[],by simp[results,hr],h⟩
def aS(w:az)(b i:Nat)(v:aD){T:Nat}{x:aJ aD}(h:w.heap[b]? =aa (aA x T (0,0)))(hv:x[i]? =aa v:=by rfl):w.cell? ⟨b,i,ay⟩=aa v:=aI h hv
end
section
attribute [local go_sem ↓] Go.wp_at_zero Go.wp_at_succ
attribute [local go_sem] bV bQ
open Go.Conc Go.RowKit
open Go.Proofs.Tryz
def Tq{P o a w w' K Q y sl x}{t u:aQ}{v v' s}(d:dg o y=aq)(b:o.op=.call {callee:=.builtin .append,args:=#[sl,x],argTypes:=#[t,u]}) (c:a.eval sl=v) (e:a.eval x=.string s) (hr:(oG #[t,u] o.type #[v,.string s]).run P w=.ok v' w') (h:K (a.put o.dst v') w'):
  if dg o y=aq then II P o a w K Q else K (a.put o.dst au) w:=by
 rw[aW d];unfold II execOp;simp only[b,resolve,invoke,builtin,wU,Oc,IM,rT,uU,yN,c,e,hr];exact h
def mO{w:az}{B e k n:Nat}{v:aD}{xs:aB aD}(h:w.ownsRow B e k v n xs):∃d a,v=.slice d n a:=by
 rcases h.2 with⟨b,c⟩|⟨g,a,f,b,_⟩
 ·exact⟨ay,0,by rw[b,c]⟩
 ·exact⟨_,a,b⟩
def XK{P w w' base t u ty e}{i:TypeInfo}(b:P.underlying t=aa (.slice e))(c:P.underlying u=aa .string)(a:P.info? e=aa i)(p:i.zero=aa (.int .u8 0))(l:i.size=1)(m:i.bytes=1){v v' n xs}(f:w.ownsRow base e 1 v n xs){s}(A:n+s.size<=140737488355328)(hr:(oG #[t,u] ty #[v,.string s]).run P w=.ok v' w'):
  v'.ownBlock=v.ownBlock\/∀g,v'.ownBlock=aa g->w.heap.size<=g:=by
 have z:xs.length=n:=by simpa using f.1
 rcases f.2 with⟨rfl,rfl⟩|⟨g,d,q,rfl,B,r,E,C,D,F⟩
 ·by_cases hm:s.size=0
  ·have o:=Wj (P:=P) w 1 s;rw[hm]at o;simp[oG,xg b,xg c,sizeOf,typeInfo,a,l,Dp,hm,o]at hr;exact aF (by rw[<-hr.1])
  ·have k:=Xb (P:=P) w t u ty e i (.int .u8 0) b c a p s ak ak (by rw[m];omega);rw[k]at hr;cases hr;exact aE λg h=>by cases h;exact bD _
 ·by_cases y:n+s.size<=d
  ·have k:=Wi (P:=P) w t u ty e i b c a l g n d q r s y ak;rw[k]at hr;cases hr;exact aF rfl
  ·have x:∀j u,xs[j]? =aa u->w.cell? ((⟨g,0,ay⟩:bZ).add j)=aa u:=f.cells (g:=g) rfl;have k:=Wh (P:=P) w t u ty e i (.int .u8 0) b c a p ⟨g,0,ay⟩ n d xs (by rw[l];simpa using z) x s ak ak (by rw[m];exact Ot ak ak);rw[k]at hr;cases hr;exact aE λg h=>by cases h;exact bD _
abbrev tZ(w:az)(b:Nat)(m:bg):Prop:=w.heap[b]? =aa (aA (fP m) 132 (0,0))
abbrev ud(w:az)(out:aD)(o:ByteArray):Prop:=w.ownsRow 0 5 1 out o.size (jh o)
abbrev HeS(c b:Nat)(sz cl qu a d rt bu wk ou:Int)(m:bg)(W:az):Prop:=
 (W.cell? (aj c 2)=aa (an sz)/\W.cell? (aj c 3)=aa (an cl)/\W.cell? (aj c 4)=aa (an qu)/\W.cell? (aj c 5)=aa (an a)/\W.cell? (aj c 6)=aa (an d)/\W.cell? (aj c 7)=aa (an rt)/\W.cell? (aj c 8)=aa (an bu)/\W.cell? (aj c 9)=aa (an wk)/\W.cell? (aj c 10)=aa (an ou))/\
 (W.cell? (aj b 0)=aa (an m.wh)/\W.cell? (aj b 1)=aa (.string m.nm)/\W.cell? (aj b 2)=aa (an m.kd)/\W.cell? (aj b 3)=aa (an m.fl)/\W.cell? (aj b 4)=aa (an m.ck)/\W.cell? (aj b 5)=aa (an m.of)/\W.cell? (aj b 6)=aa (an m.ln)/\W.cell? (aj b 7)=aa (.string m.dt)/\W.cell? (aj b 8)=aa (an m.er))
section
variable {W W':az}
def bW{W W'}(a:aN W W'){k:Nat}{x:Obj}(h:W.heap[k]? =aa x):W'.heap[k]? =aa x:=(a.block k (bq.1 h).1).trans h
end
end
section
attribute [local go_sem] Oper.semAt_some
attribute [local go_sem] bV bQ
open Go.Proofs.Tryz
open Go.RowKit Go.Shelf
structure Xe(W:az)(c rb mb ch:Nat)(sz cl qu mx qn rt bu wk ou de:Int)(k:Cl):Prop where
 box:∃v,Jk W c k.no k.wt sz cl qu mx qn rt bu wk ou rb k.aU v k.tok de ch/\ud W v k.out
 rd:∃a,dU W rb mb sz mx a []/\(k.ph≠4->a=k.ph)
 chan:W.heap[ch]? =aa (.chan 0 #[] (decide (k.ph=4)) 0 0 av)
abbrev Aside(rb mb b:Nat)(x:Nat):Prop:=x=rb\/x=mb\/x=b\/x=b+1\/x=b+2\/x=b+3
section
def nk{W a:az}{row:aZ Nat}{i:Nat}{o:Obj}(h:W.heap[i]? =aa o)(b:W.grownBy a row)(hr:row≠aa i):a.heap[i]? =aa o:=
 (b.block i (bq.1 h).1 (λe=>hr e.symm)).trans h
end
abbrev ReS(c rb a:Nat)(s:ByteArray)(W:az):Prop:=W.cell? (aj c 11)=aa (aR rb)/\W.cell? (aj c 12)=aa (.string s)/\W.cell? (aj a 0)=aa (aR c)
def ReS.Q9{c rb B0 s W x y}(h:ReS c rb B0 s W):ReS c rb B0 s ((W.alloc x).alloc y):=by have a:aN W ((W.alloc x).alloc y):=((Below.refl _ W).alloc (bD _) _).alloc aC _;exact⟨bO a h.1,bO a h.2.1,bO a h.2.2⟩
def ReA(c rb b a:Nat)(s:ByteArray)(x:bg×Int)(d:Nat):Act:=
 {tmps:=#[aR c,aR a,aR d,an x.2,aR c,.bool aq,.bool av,aR c,aR c,.pointer (aa (aj c 11)),aR rb,
   aR c,aR c,.pointer (aa (aj c 12)),.string s,.func (.func 189) #[] #[aR b,aR (b+1)],
   .agg (jX x.1.wh x.1.nm x.1.kd x.1.fl x.1.ck x.1.of x.1.ln x.1.dt x.1.er),an x.2,au,au,au,au,au,au,au,au,au,au,au,au,au,au,au],defers:=[]}
def ReB(c rb b a:Nat)(s t:ByteArray)(m:bg)(K:Nat)(d:Nat):Act:=
 {tmps:=#[aR c,aR a,aR d,an K,aR c,.bool aq,.bool av,aR c,aR c,.pointer (aa (aj c 11)),aR rb,
   aR c,aR c,.pointer (aa (aj c 12)),.string s,.func (.func 189) #[] #[aR b,aR (b+1)],
   .agg (fP m),an K,aR c,aR c,aR c,.pointer (aa (aj c 12)),.string t,an K,.string (t.extract K t.size),aR c,.pointer (aa (aj c 12)),au,au,au,au,au,au],defers:=[]}
def ReM(c rb b e:Nat)(s:ByteArray)(x:bg×Int)(a:Act)(W:az):Prop:=∃d,b+4<=d/\W.heap[d]? =aa (aA (jX x.1.wh x.1.nm x.1.kd x.1.fl x.1.ck x.1.of x.1.ln x.1.dt x.1.er) 132 (0,0))/\a=ReA c rb b e s x d
def ReM.bears{c rb mb b d:Nat}{s:ByteArray}(l:rb<b)(m:mb<b)(x:bg×Int):Bears (λr=>ItR rb mb (b+1) r\/r=b+2+1) (ReM c rb b d s x):=by rintro a W k row ⟨f,g,g2,i⟩ j hr;refine⟨f,g,nk g2 j (λe=>?_),i⟩;rcases hr _ e with(h|h|h)|h<;>omega
abbrev wm(w1:az)(rb:Nat)(s:ByteArray):az:=((w1.alloc (aA #[aR rb] 164)).alloc (aA #[.string s] 9)).drew
def abq(w1 rb s):(wm w1 rb s).heap.size=w1.heap.size+2/\(wm w1 rb s).heap[w1.heap.size]? =aa (aA #[aR rb] 164 (0,0))/\(wm w1 rb s).heap[w1.heap.size+1]? =aa (aA #[.string s] 9 (0,0))/\aN w1 (wm w1 rb s):=by
 refine⟨aC,?_,?_,(((Below.refl _ w1).alloc (bD _) _).alloc aC _).drew⟩
 ·exact(Below.heap_alloc _ _ _ aC).trans (cG w1 _)
 ·have:=cG (w1.alloc (aA #[aR rb] 164)) (aA #[.string s] 9);rw[wV]at this;exact this
def Q5{rb mb b X W W'}(d:bh X W W')(e:∀i,X i->¬Aside rb mb b i)(a:rb<W.heap.size)(c:mb<W.heap.size)(j:b+4<=W.heap.size):Two (b+2) W W'/\xq rb mb b (b+1) W W':=by have key:∀i,i<W.heap.size->Aside rb mb b i->W'.heap[i]? =W.heap[i]? :=λi g f=>d.block i g λh=>e i h f;exact⟨⟨key _ ak (by simp[Aside]),key _ ak (by simp[Aside])⟩,key _ a (by simp[Aside]),key _ c (by simp[Aside]),key _ ak (by simp[Aside]),key _ ak (by simp[Aside])⟩
def jH{W:az}{i j:Nat}{o a:Obj}(h:W.heap[i]? =aa o)(c:W.heap[j]? =aa a)(b:o≠a):i≠j:=λe=>b (by grind)
def XH{sz mx m}(h:m.nm.size<=65535):(answer sz mx m).size<=65540:=by
 unfold answer;split
 ·split<;>exact(by decide:(1:Nat)<=65540)
 ·split
  ·split
   ·rw[qI,qI];exact(by decide:1+2+2<=65540)
   ·split
    ·exact(by decide:(1:Nat)<=65540)
    ·rw[qI];show 1+m.nm.size<=65540;omega
  ·exact(by decide:(0:Nat)<=65540)
def aaA{W v o i x}(h:ud W v o)(c:W.heap[i]? =aa x)(d:∀a,x≠aA a 5 (0,0)):aa i≠v.ownBlock:=λe=>by
 rcases h.2 with⟨rfl,_⟩|⟨g,f,a,rfl,_,b,_⟩
 ·cases e
 ·cases e;exact d a (dP (c.symm.trans b))
def yu{X W W' i x}(h:bh X W W')(a:W.heap[i]? =aa x)(b:¬X i):W'.heap[i]? =aa x:=(h.block i (bq.1 a).1 b).trans a
def cP(cl:aB (aZ Nat)):aB Nat:=cl.filterMap id
def kW(v:aZ Nat):aD:=.pointer (v.map λc=>⟨c,0,ay⟩)
def adn{cl:aB (aZ Nat)}{i c:Nat}(h:cl[i]? =aa (aa c)):cP (cl.take (i+1))=cP (cl.take i)++[c]:=by rw[tN,h];simp[cP]
def adm{cl:aB (aZ Nat)}{i:Nat}(h:cl[i]? =aa ay):cP (cl.take (i+1))=cP (cl.take i):=by rw[tN,h];simp[cP]
def ado(cl i):∃r,cP cl=cP (cl.take i)++r:=⟨cP (cl.drop i),by unfold cP;rw[<-List.filterMap_append,rZ]⟩
abbrev yd(c:Nat):aJ aD:=#[aR c]
def Gx(xb w):
  Calls prog 59 #[aR xb] w λe c=>e=aM (.func (.func 96) #[] #[aR w.heap.size])/\c=w.alloc (aA #[aR xb] 36):=by
 have d:∀(b:Fn) (first a:aJ aD) (w:az),(rQ b first a).run prog w=.ok (.func b first a) w:=λ_ _ _ _=>rfl;go_enter func59,ntmps59;go_wp2;go_ret;exact⟨rfl,rfl⟩
def Gz(n)(M:1<=n)(cb xb sb N cl W)(G:W.cell? (aj cb 0)=aa (aR xb))(O:W.cell? (aj xb 9)=aa (.slice (aa (aj sb 0)) N N))(K:cl.length=N)(F:N<=65535)(x:∀(j:Nat) v,cl[j]? =aa v->W.cell? (aj sb j)=aa (kW v)):
  Iter iS n prog 96 #[aR cb] yd (λ_=>False) (λA B=>B.heap[sb]? =A.heap[sb]?) (λd=>∃r,cP cl=d++r)
   (λd _=>d=cP cl) (λpre _=>∃r,cP cl=pre++r) W:=by
 intro l J z D E w q;refine callsIn_of_wp func96 rfl trivial ?_ rfl;simp only[ntmps96,jB,eM,gX,lR,DW,uJ,uK,uW,uQ,pV,ld]
 gi_wp2
 gi_loopw [10] (λi wr=>∃j:Nat,j<=N/\i=an j/\Hid (J (cP (cl.take j)) wr/\wr.heap[sb]? =W.heap[sb]?)) (λi _=>N-(eY i).toNat)
 case atStart=>exact⟨0,eZ _,rfl,q,rfl⟩
 case round=>
  obtain⟨j,H,rfl,a⟩:=hrel
  by_cases L:j<N
  ·have y:decide ((j:Int)<(N:Int))=aq:=cq;obtain⟨v,hv⟩:∃v,cl[j]? =aa v:=⟨cl[j],by rw[eI]⟩
   have m:wr.cell? (aj sb j)=aa (kW v):=by rw[jE a.out.2];exact x j v hv
   cases v with
   |none=>
    simp only[kW,WI]at m
    gi_wp2
    refine⟨λ_ h=>(by cases h),?_⟩
    gi_wp2
    go_roundw
    case rel=>exact⟨j+1,ak,by go_num,by rw[(bf (adm hv)).out];exact a.out.1,a.out.2⟩
    case measure=>simp[eY];omega
   |some c=>
    have f:=bf (adn hv)
    have g:Hid (∃r,cP cl=(cP (cl.take j)++[c])++r):=by have:=ado cl (j+1);rw[f.out]at this;exact this
    simp only[kW,tP]at m;obtain⟨C,Q,assign,body,P,u⟩:=w (cP (cl.take j)) c wr a.out.1 g.out
    gi_wp2
    refine u.mono ?_;rintro e k (⟨rfl,s,o⟩|⟨rfl,t,o⟩)
    ·have b:Hid (J (cP (cl.take (j+1))) k/\k.heap[sb]? =W.heap[sb]?):=⟨by rw[f.out];exact s,o.trans (bf a.out.2).out⟩
     gi_wp2
     go_roundw
     case rel=>exact⟨j+1,ak,by go_num,b.out⟩
     case measure=>simp[eY];omega
    ·have b:=bf t
     gi_wp2
     refine gn (Bs rfl _ _ _) rfl ?_;exact⟨⟨_,rfl⟩,aE ⟨_,g.out,b.out⟩⟩
  ·have y:decide ((j:Int)<(N:Int))=av:=cq;have I:j=N:=ak
   have p:Hid (J (cP cl) wr):=by have:=a.out.1;rw[uX ak]at this;exact this
   gi_wp2
   exact fI rfl rfl ⟨⟨_,rfl⟩,aF ⟨_,rfl,p.out⟩⟩
def Gb(c n w)(h:w.cell? (aj c 0)=aa (an n)):
  fK 112 #[aR c] w (an n):=by
 go_enter func112,ntmps112;go_wp2;go_ret;exact⟨rfl,rfl⟩
structure vC(W:az)(xb sb N:Nat)(cl:aB (aZ Nat)):Prop where
 sl:W.cell? (aj xb 9)=aa (.slice (aa (aj sb 0)) N N)
 len:cl.length=N
 small:N<=65535
 at_:∀(j:Nat) v,cl[j]? =aa v->W.cell? (aj sb j)=aa (kW v)
 row:∃o,W.heap[sb]? =aa o
def vC.old{W W' xb sb N cl}(h:vC W xb sb N cl)(a:aN W W'):vC W' xb sb N cl:=
 ⟨bO a h.sl,h.len,h.small,λj v b=>bO a (h.at_ j v b),by obtain⟨o,c⟩:=h.row;exact⟨o,bW a c⟩⟩
abbrev fiA(xb:Nat)(u:Int)(B:Nat)(c:Nat):Act:=
 {tmps:=#[aR xb,an u,au,aR B,aR (B+1),aR c,aR xb,.func (.func 96) #[] #[aR (B+1+1)],aR c,au,au,au,au,au],defers:=[]}
abbrev fiB(xb:Nat)(u:Int)(B:Nat)(c:Nat)(k:Int)(y:Bool):Act:=
 {tmps:=#[aR xb,an u,au,aR B,aR (B+1),aR c,aR xb,.func (.func 96) #[] #[aR (B+1+1)],aR c,aR c,an k,an u,.bool y,au],defers:=[]}
def cw{w:az}{b k i:Nat}{v:aD}(a:k≠b):(w.setCell (aj b i) v).heap[k]? =w.heap[k]? :=Below.heap_setCell w ⟨b,i,ay⟩ v k a
def FiI(w:az)(u:Int)(no:Nat->Int)(pre:aB Nat)(W:az):Prop:=
 aN w W/\W.heap[w.heap.size]? =aa (aA #[an u] 3 (0,0))/\W.heap[w.heap.size+1]? =aa (aA #[.pointer ay] 119 (0,0))/\∀c∈pre,no c≠u
def FiX(w:az)(u:Int)(no:Nat->Int)(pre:aB Nat)(W:az):Prop:=
 aN w W/\∃a c,pre=a++[c]/\(∀c∈a,no c≠u)/\no c=u/\W.heap[w.heap.size+1]? =aa (aA #[aR c] 119 (0,0))
abbrev xF(w:az)(xb:Nat)(u:Int):az:=((w.alloc (aA #[an u] 3)).alloc (aA #[.pointer ay] 119)).alloc (aA #[aR xb] 36)
def ZZ(xb C N:Nat)(cl:aB (aZ Nat))(u:Int)(no:Nat->Int)(w:az)(hS:vC w xb C N cl)(bw:∀c∈cP cl,w.cell? (aj c 0)=aa (an (no c))):
  CallsIn iS 3 prog 68 #[aR xb,an u] w λe w'=>e=aM (kW ((cP cl).find? λc=>decide (no c=u)))/\aN w w':=by
 refine Ol func68 rfl trivial ?_ rfl;simp only[ntmps68,jB,eM,gX,lR,DW,uJ,uK,uW,uQ,pV,ld]
 gi_wp2_with (first|(refine⟨trivial,?_⟩;gi_at_call 59;refine(gy.2 (Gx xb _)).mono ?_;rintro e w1 ⟨rfl,rfl⟩))
 have U:aN w (xF w xb u):=(bp.alloc aC _).alloc cq _;have bA:(xF w xb u).heap.size=w.heap.size+3:=aC;have e1:(xF w xb u).heap[w.heap.size]? =aa (aA #[an u] 3 (0,0)):=(Below.heap_alloc _ _ _ cq).trans ((Below.heap_alloc _ _ _ aC).trans (cG w _));have e2:(xF w xb u).heap[w.heap.size+1]? =aa (aA #[.pointer ay] 119 (0,0)):=(Below.heap_alloc _ _ _ aC).trans (by have:=cG (w.alloc (aA #[an u] 3)) (aA #[.pointer ay] 119);rwa [wV]at this);have e3:(xF w xb u).heap[w.heap.size+1+1]? =aa (aA #[aR xb] 36 (0,0)):=by have:=cG ((w.alloc (aA #[an u] 3)).alloc (aA #[.pointer ay] 119)) (aA #[aR xb] 36);rwa [wV,wV]at this
 have bJ:C<w.heap.size:=by obtain⟨o,ho⟩:=hS.row;exact(bq.1 ho).1
 show Code.wpIn iS 3 prog _ _ _ (xF w xb u);generalize xF w xb u=g at*;have bt:FiI w u no [] g:=⟨U,e1,e2,λc h=>by cases h⟩
 have bI:Bears (λr=>False\/r=g.heap.size+1) (FiI w u no):=by
  rintro pre W E row ⟨y,L,M,O⟩ q hr;have s:∀r,row=aa r->r=w.heap.size+4:=λr e=>by rcases hr r e with h|h;cases h;omega
  exact⟨y.grown q y.size (λk e=>by have:=s k e;omega),nk L q (λe=>by have:=s _ e;omega),nk M q (λe=>by have:=s _ e;omega),O⟩
 have bX:Bears (λr=>False\/r=g.heap.size+1) (FiX w u no):=by
  rintro pre W E row ⟨y,aH,c,L,M,O,h5⟩ q hr;have s:∀r,row=aa r->r=w.heap.size+4:=λr e=>by rcases hr r e with h|h;cases h;omega
  exact⟨y.grown q y.size (λk e=>by have:=s k e;omega),aH,c,L,M,O,nk h5 q (λe=>by have:=s _ e;omega)⟩
 refine zS (w:=g) rfl bL (gf:=96) (lb:=#[aR (w.heap.size+1+1)]) rfl trivial (enters_of func96 aT rfl) (encs:=yd) (λ_=>rfl)
  (R:=λ_=>False) (Kp:=λA B=>B.heap[C]? =A.heap[C]?) (V:=λx=>∃r,cP cl=x++r) (S:=λx _=>x=cP cl) (Sp:=λpre _=>∃r,cP cl=pre++r)
  (λW hW=>?seq) (λr h=>h.elim) (λh k=>k.trans h) (λW o=>fS ak) (λx W E row h _ _=>h) (λx W E row h _ _=>h)
  (FiI w u no) (FiX w u no) bI bX bt (λc a _=>a=fiA xb u w.heap.size c) (λc a W E row h _ _=>h) ?assign ?body ?done ?stop
 case seq=>
  have bu:aN w W:=U.grown hW U.size (λk e=>by cases e);have xB:=nk e3 hW aC;have F:=hS.old bu;exact Gz 2 bL (w.heap.size+1+1) xb C N cl W (aI xB rfl) F.sl F.len F.small F.at_
 case assign=>
  rintro l pre c W K b hv iN d
  gi_wp2
  exact d _ W ⟨rfl,rfl⟩ rfl b rfl
 case body=>
  rintro l pre c a' W b rfl ⟨r,hv⟩ iN;have X:c∈cP cl:=by rw[hv];simp
  have Z:W.cell? (aj c 0)=aa (an (no c)):=bO b.1 (bw c X);have cU:=aS W w.heap.size 0 (an u) b.2.1;have cR:=aS W (w.heap.size+1) 0 (.pointer ay) b.2.2.1;have fR:=bF b.2.2.1 0;have D:=bf b;clear b
  by_cases t:no c=u
  ·have bB:(no c==u)=aq:=by simpa using t
   have G:=bf t;clear t
   gi_wp2
   rename_i H z;have T:=z
   have I:H (fiB xb u w.heap.size c (no c) aq) W.drew:=by
    refine T _ _ ?_;unfold fiB;clear z
    gi_wp2
    obtain⟨f,Y,m,n⟩:=D.out;rw[bA];refine⟨⟨?_,?_⟩,?_,?_,pre,c,rfl,n,G.out,?_⟩
    ·exact cw ak
    ·exact cw ak
    ·exact cw ak
    ·exact f.drew.setCell (p:=aj (w.heap.size+1) 0) (kB _) _
    ·exact dF (w:=W.drew) m 0 _
   refine MT (S:=λW=>W.cell? (aj w.heap.size 0)=aa (an u)) 3 aT cU λQ=>?_;refine jk 0 ?_;refine js 2 ?_;refine jr 1 λK d=>?_;go_simp;refine⟨trivial,?_⟩;refine(mR l (gy.2 (Gb c (no c) W.drew Z))).mono ?_;rintro e w1 ⟨rfl,rfl⟩;refine d.out _ _ Q λ_=>?_;refine jz λK d=>?_;go_simp;refine d.out _ _ ?_;refine MR aT ?_ _;exact I
  ·have bB:(no c==u)=av:=by simpa using t
   have G:=bf t;clear t
   gi_wp2
   rename_i H z;have T:=z
   have I:H (fiB xb u w.heap.size c (no c) av) W.drew:=by
    refine T _ _ ?_;unfold fiB;clear z
    gi_wp2
    obtain⟨f,Y,m,n⟩:=D.out;refine⟨⟨rfl,rfl⟩,rfl,f.drew,Y,m,λJ j=>?_⟩;rcases iT.1 j with h|h
    ·exact n J h
    ·rw[iA.1 h];exact G.out
   refine MT (S:=λW=>W.cell? (aj w.heap.size 0)=aa (an u)) 3 aT cU λQ=>?_;refine jk 0 ?_;refine js 2 ?_;refine jr 1 λK d=>?_;go_simp;refine⟨trivial,?_⟩;refine(mR l (gy.2 (Gb c (no c) W.drew Z))).mono ?_;rintro e w1 ⟨rfl,rfl⟩;refine d.out _ _ Q λ_=>?_;refine jz λK d=>?_;go_simp;refine d.out _ _ ?_;refine MR aT ?_ _;exact I
 case done=>
  rintro x W rfl b P;have cR:=aS W (w.heap.size+1) 0 (.pointer ay) b.2.2.1;have fR:=bF b.2.2.1 0;have D:=bf b;clear b
  gi_wp2
  obtain⟨f,Y,m,n⟩:=D.out;have Kh:(W.setCell (aj (w.heap.size+1) 0) (.pointer ay)).heap[g.heap.size]? =aa (.deferred (aa [])):=nY P ak _ _;have Kj:(W.setCell (aj (w.heap.size+1) 0) (.pointer ay)).heap[w.heap.size+1]? =aa (aA #[.pointer ay] 119 (0,0)):=dF m 0 _;have j:=aI (w:=(W.setCell (aj (w.heap.size+1) 0) (.pointer ay)).putObj g.heap.size (.deferred ay)) ((fS ak).trans Kj) (i:=0) (v:=.pointer ay) rfl;refine⟨aC,aF ⟨_,_,rfl,qP Kh,.pointer ay,by simp[results,results68,go_sem,j],?_,?_⟩⟩
  ·rw[Iq.2 (λc X=>by simpa using n c X)];rfl
  ·exact(f.setCell (p:=aj (w.heap.size+1) 0) (kB _) _).grown (Ee _ _ _) (by have:=f.size;simpa using this) (λk e=>by cases e;omega)
 case stop=>
  rintro pre W ⟨r,hv⟩ hx P;have HX:=bf hx;clear hx
  gi_wp2
  obtain⟨f,aH,c,rfl,m,n,i5⟩:=HX.out;have j:=aI (w:=W.putObj g.heap.size (.deferred ay)) ((fS ak).trans i5) (i:=0) (v:=aR c) rfl;refine⟨aC,aF ⟨_,_,rfl,qP P,aR c,by simp[results,results68,go_sem,j],?_,?_⟩⟩
  ·have e:(cP cl).find? (λc=>decide (no c=u))=aa c:=by
    rw[hv,Io,List.find?_append,Iq.2 (λJ j=>by simpa using m J j)];simp[n]
   rw[e];rfl
  ·exact f.grown (Ee _ _ _) f.size (λk e=>by cases e;omega)
def ZY(xb a N:Nat)(cl:aB (aZ Nat))(u:Int)(no:Nat->Int)(w:az)(hS:vC w xb a N cl)(b:∀c∈cP cl,w.cell? (aj c 0)=aa (an (no c))):
  bN 68 #[aR xb,an u] w (kW ((cP cl).find? λc=>decide (no c=u))):=gy.1 (ZZ xb a N cl u no w hS b)
end
section
attribute [local go_sem ↓] Go.wp_at_zero Go.wp_at_succ
attribute [local go_sem] bV bQ
open Go.Proofs.Tryz
open Go.RowKit
section
end
def acn(rb p w)(h:w.cell? (aj rb 2)=aa (an p)):
  fK 170 #[aR rb] w (an p):=by
 go_enter func170,ntmps170;go_wp2;go_ret;exact⟨rfl,rfl⟩
def gV{x}(a:-9223372036854775808<=x)(b:x<=9223372036854775807):dJ.wrap x=x:=by rw[AL];omega
def bh.drew'{X a w}(h:bh X a w):bh X a w.drew:=⟨h.os,h.size,h.block⟩
abbrev feL(sz cl qu b c rt bu wk ou:Int)(d N:Nat)(cM clock:Int)(stop:Bool)(aG:Int)(a:aZ bZ):aJ aD:=
 #[an sz,an cl,an qu,an b,an c,an rt,an bu,an wk,an ou,.slice (aa (aj d 0)) N N,an cM,an 0,an 0,an clock,.bool stop,an aG,.bool av,.slice ay 0 0,.slice ay 0 0,.pointer a,.slice ay 0 0]
abbrev Xi(W:az)(xb:Nat)(sz cl qu b c rt bu wk ou:Int)(d N:Nat)(cM clock:Int)(stop:Bool)(aG:Int)(a:aZ bZ):Prop:=
 W.heap[xb]? =aa (aA (feL sz cl qu b c rt bu wk ou d N cM clock stop aG a) 112 (0,0))
def oA(cs:aB (aZ Nat)):aJ aD:=(cs.map kW).toArray
abbrev xw(W:az)(a:Nat)(cs:aB (aZ Nat)):Prop:=W.heap[a]? =aa (aA (oA cs) 119 (0,0))
def wo{cs}{j:Nat}{v:aZ Nat}(h:cs[j]? =aa v):(oA cs)[j]? =aa (kW v):=by simp[oA,h]
def TE{cs}(j)(v:aZ Nat):(oA cs).setIfInBounds j (kW v)=oA (cs.set j v):=by simp[oA,DO]
def wu{α:Type}{l:aB α}{j:Nat}{a:α}(h:l[j]? =aa a):l.set j a=l:=by obtain⟨b,c⟩:=dS.1 h;rw[<-c];exact List.set_getElem_self b
def ZD(a w):(binOp .eql 119 (.pointer ay) (.pointer (aa a))).run prog w=.ok (.bool av) w:=by
 have b:(Op.equal 119 (.pointer ay) (.pointer (aa a))).run prog w=.ok av w:=by unfold Op.equal;rw[show Op.maxDepth=9999+1 from rfl];unfold Op.equalIn;rw[wU,xg underlying119];rfl
 unfold binOp;rw[wU,b];rfl
def A9(cs:aB (aZ Nat))(j:Nat):Prop:=cs[j]? =aa ay/\∀i,i<j->cs[i]? ≠aa ay
def O4(sb N cs w)(hR:xw w sb cs)(o:cs.length=N)(l:N<=65535):
  Calls prog 72 #[.slice (aa (aj sb 0)) N N,.pointer ay] w λe k=>k=w/\((∃j:Nat,e=aM (an j)/\A9 cs j)\/(e=aM (an (-1))/\∀i:Nat,cs[i]? ≠aa ay)):=by
 go_enter func72,ntmps72;go_wp2
 go_loop [8] (λi=>∃j:Nat,j<=N/\i=an j/\Hid (∀i,i<j->cs[i]? ≠aa ay)) (λi=>N-(eY i).toNat)
 case atStart=>exact⟨0,eZ _,rfl,λi h=>by omega⟩
 case round=>
  obtain⟨j,n,rfl,b⟩:=hrel
  by_cases p:j<N
  ·have g:decide ((j:Int)<(N:Int))=aq:=cq;obtain⟨v,hv⟩:∃v,cs[j]? =aa v:=⟨cs[j],by rw[eI]⟩;have f:=aI hR (wo hv);have d:=bf hv;cases v with
   |none=>
    simp only[kW,WI]at f;go_wp2;go_ret;exact⟨rfl,aF ⟨j,rfl,d.out,b.out⟩⟩
   |some c=>
    simp only[kW,tP]at f;have m:=ZD ⟨c,0,ay⟩ w;go_wp2
    go_round
    case rel=>
     refine⟨j+1,ak,by go_num,λi a=>?_⟩
     by_cases e:i=j
     ·subst e;rw[d.out];simp
     ·exact b.out i ak
    case measure=>simp[eY];omega
  ·have g:decide ((j:Int)<(N:Int))=av:=cq;go_wp2;go_ret;refine⟨rfl,aE ⟨rfl,λi a=>?_⟩⟩;have:=(dS.1 a).1;exact b.out i ak a
end
section
attribute [local go_sem ↓] Go.wp_at_zero Go.wp_at_succ
attribute [local go_sem] bV bQ
open Go.Conc Go.RowKit
open Go.Proofs.Tryz
def Cl.fresh(no wt bu:Int):Cl:=⟨no,wt,0,⟨#[]⟩,⟨#[]⟩,bu⟩
abbrev iG(b:Nat)(sz cl qu mx qn rt bu wk ou:Int)(W:az):Prop:=W.cell? (aj b 0)=aa (an sz)/\W.cell? (aj b 1)=aa (an cl)/\W.cell? (aj b 2)=aa (an qu)/\W.cell? (aj b 3)=aa (an mx)/\W.cell? (aj b 4)=aa (an qn)/\W.cell? (aj b 5)=aa (an rt)/\W.cell? (aj b 6)=aa (an bu)/\W.cell? (aj b 7)=aa (an wk)/\W.cell? (aj b 8)=aa (an ou)
section
variable {b:Nat} {sz cl qu mx qn rt bu wk ou:Int} {W W':az}
def iG.later(h:iG b sz cl qu mx qn rt bu wk ou W)(a:aN W W'):iG b sz cl qu mx qn rt bu wk ou W':=
 ⟨bO a h.1,bO a h.2.1,bO a h.2.2.1,bO a h.2.2.2.1,bO a h.2.2.2.2.1,bO a h.2.2.2.2.2.1,bO a h.2.2.2.2.2.2.1,bO a h.2.2.2.2.2.2.2.1,bO a h.2.2.2.2.2.2.2.2⟩
def iG.a1{x}(h:iG b sz cl qu mx qn rt bu wk ou W):iG b sz cl qu mx qn rt bu wk ou (W.alloc x):=h.later ((Below.refl _ W).alloc (bD _) _)
def iG.a3{x y z}(h:iG b sz cl qu mx qn rt bu wk ou W):iG b sz cl qu mx qn rt bu wk ou (((W.alloc x).alloc y).alloc z):=h.a1.a1.a1
end
def V4(w):(Instr.makeChan 166 (an 0)).run prog w=.ok (.chan (aa w.heap.size)) (w.alloc (.chan 0 #[] av 0 0 av)):=by have h:(prog.info? 169).map (·.bytes)=aa 0:=aT;obtain⟨i,a,c⟩:=eV.1 h;simpa using run_makeChan underlying166 a .i64 0 ak ak
def Eu(w:az)(sz cl qu mx qn rt bu wk ou no wt:Int)(e:iz)(w':az):Prop:=
 ∃c d f a,e=aM (aR c)/\Xe w' c d f a sz cl qu mx qn rt bu wk ou 0 (Cl.fresh no wt bu)/\Jk w' c no wt sz cl qu mx qn rt bu wk ou d ⟨#[]⟩ (.slice ay 0 0) bu 0 a/\aN w w'/\w.heap.size<=c/\w.heap.size<=d/\w.heap.size<=f/\w.heap.size<=a
def gi{W:az}{o x:Obj}{k:Nat}(h:W.heap[k]? =aa x):(W.alloc o).heap[k]? =aa x:=(Below.heap_alloc W o k (bq.1 h).1).trans h
def new1{W:az}{o:Obj}{k:Nat}(h:k=W.heap.size):(W.alloc o).heap[k]? =aa o:=by subst h;exact cG W o
def SK{w V rb mb ch c}(sz cl qu mx qn rt bu wk ou no wt)(l:aN w V)(i:V.heap[rb]? =aa (aA #[an sz,an mx,an 0,.map (aa mb)] 228 (0,0)))(j:V.heap[mb]? =aa (.map #[] 0))(k:V.heap[ch]? =aa (.chan 0 #[] av 0 0 av))(d:Jk V c no wt sz cl qu mx qn rt bu wk ou rb ⟨#[]⟩ (.slice ay 0 0) bu 0 ch)(f:w.heap.size<=c)(g2:w.heap.size<=rb)(g:w.heap.size<=mb)(h:w.heap.size<=ch):Eu w sz cl qu mx qn rt bu wk ou no wt (aM (aR c)) V:=by obtain⟨n,m,a,e⟩:=World.ownsMap_made w prog 3 unitElem;rw[cG]at a;cases a;exact⟨c,rb,mb,ch,rfl,⟨⟨_,d,qM _ _ _ _⟩,⟨0,⟨i,#[],0,j,e⟩,λ_=>rfl⟩,k⟩,d,l,f,g2,g,h⟩
def Y8(w sz cl qu mx qn rt bu wk ou no wt):Eu w sz cl qu mx qn rt bu wk ou no wt (aM (aR (w.heap.size+1+1+1+1+1)))
  ((((((w.alloc (aA (fN sz cl qu mx qn rt bu wk ou) 35)).alloc (aA (fN sz cl qu mx qn rt bu wk ou) 35)).alloc (.map #[] 0)).alloc (aA #[an sz,an mx,an 0,.map (aa (w.heap.size+1+1))] 228)).alloc (.chan 0 #[] av 0 0 av)).alloc (aA (clL no wt sz cl qu mx qn rt bu wk ou (w.heap.size+1+2) ⟨#[]⟩ (.slice ay 0 0) bu 0 (w.heap.size+1+1+1+1)) 168)).drew:=by
 refine SK (rb:=w.heap.size+1+2) (mb:=w.heap.size+1+1) (ch:=w.heap.size+1+1+1+1) sz cl qu mx qn rt bu wk ou no wt ?_ ?_ ?_ ?_ ?_ ak ak ak ak
 ·exact((((bp.alloc aC _).alloc cq _).alloc cq _).alloc cq _).alloc cq _ |>.drew
 ·exact gi (gi (new1 aC))
 ·exact gi (gi (gi (new1 aC)))
 ·exact gi (new1 aC)
 ·exact new1 aC
def Y9(w sz cl qu mx qn rt bu wk ou no wt):Eu w sz cl qu mx qn rt bu wk ou no wt (aM (aR (w.heap.size+1+1+1+1+1)))
  ((((((w.alloc (aA (fN sz cl qu mx qn rt bu wk ou) 35)).alloc (.chan 0 #[] av 0 0 av)).alloc (aA (fN sz cl qu mx qn rt bu wk ou) 35)).alloc (.map #[] 0)).alloc (aA #[an sz,an mx,an 0,.map (aa (w.heap.size+1+1+1))] 228)).alloc (aA (clL no wt sz cl qu mx qn rt bu wk ou (w.heap.size+1+1+2) ⟨#[]⟩ (.slice ay 0 0) bu 0 (w.heap.size+1)) 168)).drew:=by
 refine SK (rb:=w.heap.size+1+1+2) (mb:=w.heap.size+1+1+1) (ch:=w.heap.size+1) sz cl qu mx qn rt bu wk ou no wt ?_ ?_ ?_ ?_ ?_ ak ak ak ak
 ·exact((((bp.alloc aC _).alloc cq _).alloc cq _).alloc cq _).alloc cq _ |>.drew
 ·exact gi (new1 aC)
 ·exact gi (gi (new1 aC))
 ·exact gi (gi (gi (gi (new1 aC))))
 ·exact new1 aC
def Yx(sz cl qu mx qn rt bu wk ou no wt w):
  Calls prog 73 #[.agg (fN sz cl qu mx qn rt bu wk ou),an no,an wt] w (Eu w sz cl qu mx qn rt bu wk ou no wt):=by
 have l:=V4;go_enter func73,ntmps73
 go_upto_region 1 with fail
 refine fq (S:=iG w.heap.size sz cl qu mx qn rt bu wk ou) ⟨by simp[go_sem],by simp[go_sem],by simp[go_sem],by simp[go_sem],by simp[go_sem],by simp[go_sem],by simp[go_sem],by simp[go_sem],by simp[go_sem]⟩ λc=>?_;refine tk 0 ?_;refine tk 1 ?_;refine tk 2 ?_;refine tk 3 ?_;refine tk 5 ?_;refine tk 6 ?_;refine aH [4,7] (.cons rfl (λK a=>?_) ?_)
 ·go_simp
  (refine(SL sz cl qu mx qn rt bu wk ou 0 _).mono ?_;rintro e i ⟨rfl,rfl⟩)
  go_wp2_with fail;refine a.out _ _ (iG.a3 c) (λd=>?_);clear a K;refine rH 7 λK a=>?_;go_simp;refine a.out _ _ (iG.a1 d) (λf=>?_);clear a K;refine tk 8 ?_;refine rH 9 λK a=>?_;go_simp;refine a.out _ _ (iG.a1 f) (λj=>?_);clear a K;refine tk 10 ?_;refine dL ?_
  (go_wp2_with fail;go_ret;exact Y8 w sz cl qu mx qn rt bu wk ou no wt)
 refine .cons rfl (λK a=>?_) .nil;go_simp;refine a.out _ _ (iG.a1 c) (λg=>?_);clear a K;refine rH 4 λK a=>?_;go_simp
 (refine(SL sz cl qu mx qn rt bu wk ou 0 _).mono ?_;rintro e i ⟨rfl,rfl⟩)
 go_wp2_with fail;refine a.out _ _ (iG.a3 g) (λh=>?_);clear a K;refine tk 8 ?_;refine rH 9 λK a=>?_;go_simp;refine a.out _ _ (iG.a1 h) (λk=>?_);clear a K;refine tk 10 ?_;refine dL ?_
 (go_wp2_with fail;go_ret;exact Y9 w sz cl qu mx qn rt bu wk ou no wt)
end
section
attribute [local go_sem ↓] Go.wp_at_zero Go.wp_at_succ
attribute [local go_sem] bV bQ
open Go.RowKit
abbrev FeS(xb sb N:Nat)(sz cl qu mx qn rt bu wk ou:Int)(W:az):Prop:=iG xb sz cl qu mx qn rt bu wk ou W/\W.cell? (aj xb 9)=aa (.slice (aa (aj sb 0)) N N)
section
variable {xb sb N:Nat} {sz cl qu mx qn rt bu wk ou:Int} {W W':az}
def FeS.later(h:FeS xb sb N sz cl qu mx qn rt bu wk ou W)(a:aN W W'):FeS xb sb N sz cl qu mx qn rt bu wk ou W':=⟨h.1.later a,bO a h.2⟩
end
end
section
attribute [local go_sem ↓] Go.wp_at_zero Go.wp_at_succ
attribute [local go_sem] bV bQ
open Go.Proofs.Tryz
open Go.RowKit
abbrev jp(b:Nat):aD:=aR b
abbrev jN(n:Nat)(f:Nat->Nat):aB aD:=(dH n).map λx=>jp (f x)
structure fZ(w:az)(a b:Nat)(v:aD)(n:Nat)(f:Nat->Nat):Prop where
 head:w.cell? (aj a b)=aa v
 row:w.ownsRow 0 130 1 v n (jN n f)
 cO:aa a≠v.ownBlock
def fZ.form{w hb ho n v f}(h:fZ w hb ho v n f):∃a b,v=.slice a n b/\n<=b/\b<=cC:=by
 rcases h.row.2 with⟨c,d⟩|⟨g,b,j,c,_,_,e,i,_⟩
 ·exact⟨ay,0,by rw[c,d],ak,by unfold cC;omega⟩
 ·exact⟨_,b,c,e,i⟩
def Gj{n f x}(h:x<n):(jN n f)[x]? =aa (jp (f x)):=by simp[jN,h]
def fZ.full{w hb ho n v f}(h:fZ w hb ho v n f)(h0:0<n):∃g a b,v=.slice (aa (aj g 0)) n a/\w.heap[g]? =aa (aA b 130 (0,0))/\n<=a/\a<=cC/\b.size=a/\hb≠g/\∀x,x<n->b[x]? =aa (jp (f x)):=by
 rcases h.row.2 with⟨c,d⟩|⟨g,a,b,c,_,d,i,j,m,k⟩
 ·omega
 ·refine⟨g,a,b,c,d,i,j,ak,λe=>h.cO (by rw[c,e];rfl),λx l=>?_⟩;have:=Gj (f:=f) l;rw[<-k,qK,aW ak,oC]at this;exact this
def J9(hb ho n v f w)(h:fZ w hb ho v n f):
  fK 77 #[.pointer (aa (aj hb ho))] w (an n):=by
 obtain⟨a,c,rfl,_⟩:=h.form;have b:=h.head;go_enter func77,ntmps77;go_wp2;go_ret;exact⟨rfl,rfl⟩
def RR(hb ho n v f w)(h:fZ w hb ho v n f)(h0:0<n):
  fK 103 #[.pointer (aa (aj hb ho))] w (.tuple #[jp (f 0),.bool aq]):=by
 obtain⟨g,e,i,rfl,a,_,_,_,_,b⟩:=h.full h0;have c:=h.head;have d:=aI a (b 0 h0);have j:((n:Int)==0)=av:=cq;have k:(0:Int)<(n:Int):=ak;go_enter func103,ntmps103;go_wp2
 go_ret2
 exact⟨rfl,rfl⟩
def Ta(i:Nat)(h0:0<i)(a:i<=1048576)(w:az):
  fK 270 #[an i] w (an (par i:Nat)):=by
 go_enter func270,ntmps270;go_wp2;go_ret;refine⟨?_,rfl⟩;have e:((i:Int)-1) / 2=((par i:Nat):Int):=by grind
 rw[<-e];rfl
structure lT(w:az)(j:Nat)(k:Key):Prop where
 due:w.cell? (aj j 5)=aa (an k.1)
 order:w.cell? (aj j 6)=aa (an k.2)
def XR(i j)(a b:Key)(w)(h:lT w i a)(k:lT w j b):
  Calls prog 304 #[jp i,jp j] w λe q=>e=aM (.bool (dW a b))/\∃d,q=w.drewN d:=by
 obtain⟨n,o⟩:=h;obtain⟨d5,d6⟩:=k;obtain⟨a1,c⟩:=a;obtain⟨b1,f⟩:=b;dsimp only at n o d5 d6
 by_cases l:a1<b1
 ·have e:dW (a1,c) (b1,f)=aq:=by simp[dW,l]
  rw[e];go_enter func304,ntmps304
  go_upto_region 1 with fail
  go_quiet (fail)
  go_wp2;go_ret;exact⟨rfl,_,rfl⟩
 ·by_cases g:a1=b1
  ·subst g;have p:¬a1<a1:=Int.lt_irrefl _
   by_cases m:c<f
   ·have e:dW (a1,c) (a1,f)=aq:=by simp[dW,m]
    rw[e];go_enter func304,ntmps304
    go_upto_region 1 with fail
    go_quiet (fail)
    go_wp2;go_ret;exact⟨rfl,_,rfl⟩
   ·have e:dW (a1,c) (a1,f)=av:=by simp[dW,m]
    rw[e];go_enter func304,ntmps304
    go_upto_region 1 with fail
    go_quiet (fail)
    go_wp2;go_ret;exact⟨rfl,_,rfl⟩
  ·have e:dW (a1,c) (b1,f)=av:=by simp[dW,l,g]
   have p:(a1==b1)=av:=by simp[g]
   rw[e];go_enter func304,ntmps304
   go_upto_region 1 with fail
   go_quiet (fail)
   go_wp2;go_ret;exact⟨rfl,_,rfl⟩
def V2{d}(a w)(b:d=prog.types.size+Made.depth):(method d 130 (.pointer (aa a)) "Before").run prog w=.ok (304,.pointer (aa a)) w:=by
 subst b
 kernel_rfl
def Yg(x y w):(callFunc 304 #[x,y]).run prog w=.ok (.enter 304 #[x,y]) w:=by have a:(f304.name== "runtime.NumGoroutine")=av:=aT;have b:f304.body.isNone=av:=aT;unfold callFunc;simp only[wU,run_program,IM,func304,a,b,eX,dQ,Oc]
def Sd(p r n i k:Nat)(v:aD)(f:Nat->Nat)(a:Nat->Key)(w:az)(h:fZ w p r v n f)(j:i<n)(l:k<n)(B:n<=1048576)(b:∀x,x<n->lT w (f x) (a (f x))):
  Calls prog 195 #[.pointer (aa (aj p r)),an i,an k] w λe c=>e=aM (.bool (dW (a (f i)) (a (f k))))/\∃d,c=w.drewN d:=by
 obtain⟨g,z,A,rfl,q,_,_,_,_,s⟩:=h.full ak;have t:=h.head;have u:=aI q (s i j);have y:=aI q (s k l)
 have o:Hid (∀c,(∃d,c=w.drewN d)->lT c (f i) (a (f i))/\lT c (f k) (a (f k))):=by rintro c ⟨d,rfl⟩;exact⟨⟨(b i j).due,(b i j).order⟩,⟨(b k l).due,(b k l).order⟩⟩
 go_enter func195,ntmps195
 go_upto_region 1 with fail
 refine wp_region_quiet_lit aT aT ?_
 iterate 15 (quiet_step (fail))
 refine wpQuiet_step (λK b=>?_);go_simp;refine⟨.bool (dW (a (f i)) (a (f k))),λm=>?_,b _ ?_⟩
 ·rw[V2 _ _ aT,IM,Yg];refine⟨rfl,Calls.quiet_of (XR (f i) (f k) (a (f i)) (a (f k)) (w.drewN m) (o.out _ ⟨m,rfl⟩).1 (o.out _ ⟨m,rfl⟩).2)⟩
 quiet_step (fail)
 refine wpQuiet_nil ?_;rintro _ ⟨m,rfl⟩;go_wp2;go_ret;exact⟨rfl,_,rfl⟩
def gQ{W:az}{a b o x:Nat}{u v:aD}(h:W.cell? (aj a o)=aa v)(c:a≠b):(W.setCell (aj b x) u).cell? (aj a o)=aa v:=by rw[jE (cw c)];exact h
def abb{n i k f}{b:aJ aD}{cap:Nat}(g:i<n)(j:k<n)(l:n<=cap)(hc:b.size=cap)(e:∀x,x<n->b[x]? =aa (jp (f x))):
  ((b.setIfInBounds i (jp (f k))).setIfInBounds k (jp (f i))).toList.take (n*1)=jN n (gD f i k):=by
 refine yJ λx=>?_;rw[qK];split
 ·rename_i h;have d:x<n:=ak;rw[Gj d,oC];unfold gD
  by_cases c:x=k
  ·subst c;rw[Ho,aW cq]
   by_cases a:x=i
   ·subst a;rw[aW rfl]
   ·rw[aK a,aW rfl]
  ·rw[dO ak,aK c]
   by_cases a:x=i
   ·subst a;rw[Ho,aW ak,aW rfl]
   ·rw[dO ak,aK a];exact e x d
 ·exact(AQ cq).symm
def fZ.swap{w:az}{a m n i k g cap:Nat}{f:Nat->Nat}{e:aJ aD}(h:fZ w a m (.slice (aa (aj g 0)) n cap) n f)(q:i<n)(r:k<n)(p:w.heap[g]? =aa (aA e 130 (0,0)))(j:n<=cap)(hm:cap<=cC)(hc:e.size=cap)(l:a≠g)(c:∀x,x<n->e[x]? =aa (jp (f x)))(d):
  fZ (((w.drewN d).setCell (aj g i) (jp (f k))).setCell (aj g k) (jp (f i))) a m (.slice (aa (aj g 0)) n cap) n (gD f i k)/\bh (·=g) w (((w.drewN d).setCell (aj g i) (jp (f k))).setCell (aj g k) (jp (f i))):=by
 have o:=dF p i (jp (f k));refine⟨⟨gQ (gQ h.head l) l,⟨by simp[jN],aE ⟨g,cap,_,rfl,eZ _,(dF o k (jp (f i))),j,hm,cq,abb q r j hc c⟩⟩,h.cO⟩,rfl,aC,λb a c=>?_⟩;exact(cw c).trans (cw c)
def UF(j ho n i k v f w)(h:fZ w j ho v n f)(s:i<n)(t:k<n)(O:i≠k):
  Calls prog 196 #[.pointer (aa (aj j ho)),an i,an k] w λe p=>e=aM (.tuple #[])/\fZ p j ho v n (gD f i k)/\bh (λb=>aa b=v.ownBlock) w p:=by
 obtain⟨g,u,y,rfl,o,z,A,B,m,l⟩:=h.full ak;have c:=h.head;have G:=aI o (l i s);have H:=aI o (l k t);have I:∀x,w.frozen? (aj g x)=av:=λx=>bF o x;have r:=dF (show(w.drewN 1).heap[g]? =aa (aA y 130 (0,0)) from o) i (jp (f k));have J:∀x,((w.drewN 1).setCell (aj g i) (jp (f k))).frozen? (aj g x)=av:=λx=>bF r x;have q:=h.swap s t o z A B m l 1;have d:=bf q;have M:(i:Int)<(n:Int):=ak;have N:(k:Int)<(n:Int):=ak;clear h l o q r;go_enter func196,ntmps196
 go_upto_region 0 with fail
 refine fq (S:=λp=>p.cell? (aj j ho)=aa (.slice (aa (aj g 0)) n u)) c λL=>?_;refine tk 0 ?_;refine tk 1 ?_;refine tk 2 ?_;refine tk 3 ?_;refine tk 4 ?_;refine tk 5 ?_;refine tk 6 ?_;refine tk 7 ?_;refine tk 8 ?_;refine tk 9 ?_;refine tk 10 ?_;refine tk 11 ?_;refine tk 12 ?_;refine tk 13 ?_;refine tk 14 ?_;refine tk 15 ?_;refine tk 17 ?_;refine tk 18 ?_;refine tk 19 ?_;refine tk 20 ?_;refine tk 21 ?_;refine tk 22 ?_;refine aH [16,23] (.cons rfl (λK a=>?_) ?_)
 ·go_simp;refine a.out _ _ c (λC=>?_);clear a K;refine rH 23 λK a=>?_;go_simp;refine a.out _ _ c (λD=>?_);clear a K;refine tk 24 ?_;refine rH 25 λK a=>?_;go_simp;refine a.out _ _ (gQ c m) (λE=>?_);clear a K;refine tk 26 ?_;refine rH 27 λK a=>?_;go_simp;refine a.out _ _ (gQ (gQ c m) m) (λF=>?_);clear a K;refine dL ?_
  (go_wp2;refine fI rfl rfl ⟨rfl,d.out.1,d.out.2.os,d.out.2.size,λb j l=>d.out.2.block b j λe=>l (by rw[e];rfl)⟩)
 refine .cons rfl (λK a=>?_) .nil;go_simp;refine a.out _ _ c (λC=>?_);clear a K;refine rH 16 λK a=>?_;go_simp;refine a.out _ _ c (λD=>?_);clear a K;refine tk 24 ?_;refine rH 25 λK a=>?_;go_simp;refine a.out _ _ (gQ c m) (λE=>?_);clear a K;refine tk 26 ?_;refine rH 27 λK a=>?_;go_simp;refine a.out _ _ (gQ (gQ c m) m) (λF=>?_);clear a K;refine dL ?_
 (go_wp2;refine fI rfl rfl ⟨rfl,d.out.1,d.out.2.os,d.out.2.size,λb j l=>d.out.2.block b j λe=>l (by rw[e];rfl)⟩)
structure lU(n:Nat)(f f':Nat->Nat):Prop where
 aU:∀x,x<n->∃y,y<n/\f' x=f y
 all:∀y,y<n->∃x,x<n/\f' x=f y
 one:(∀x y,x<n->y<n->f x=f y->x=y)->∀x y,x<n->y<n->f' x=f' y->x=y
def lU.refl(n f):lU n f f:=⟨λx h=>⟨x,h,rfl⟩,λx h=>⟨x,h,rfl⟩,λh=>h⟩
def lU.trans{n f g h}(a:lU n f g)(b:lU n g h):lU n f h:=
 ⟨λx d=>by obtain⟨y,i,e⟩:=b.aU x d;obtain⟨z,j,c⟩:=a.aU y i;exact⟨z,j,e.trans c⟩,
  λz j=>by obtain⟨y,i,e⟩:=a.all z j;obtain⟨x,d,c⟩:=b.all y i;exact⟨x,d,c.trans e⟩,λo=>b.one (a.one o)⟩
def lU.gD{n i k}(f)(d:i<n)(g:k<n):lU n f (gD f i k):=by
 refine⟨λx h=>?_,λy j=>?_,λo x y h j e=>?_⟩
 ·by_cases a:x=i
  ·exact⟨k,g,by simp[Proofs.YtpobhljcainmdaaGreat.gD,a]⟩
  ·by_cases b:x=k
   ·exact⟨i,d,by subst b;simp[Proofs.YtpobhljcainmdaaGreat.gD,a]⟩
   ·exact⟨x,h,by simp[Proofs.YtpobhljcainmdaaGreat.gD,a,b]⟩
 ·by_cases a:y=k
  ·exact⟨i,d,by simp[Proofs.YtpobhljcainmdaaGreat.gD,a]⟩
  ·by_cases b:y=i
   ·refine⟨k,g,?_⟩;subst b;unfold Proofs.YtpobhljcainmdaaGreat.gD;rw[aK (λe=>a e.symm),aW rfl]
   ·exact⟨y,j,by simp[Proofs.YtpobhljcainmdaaGreat.gD,a,b]⟩
 ·simp only[Proofs.YtpobhljcainmdaaGreat.gD]at e
  by_cases a:x=i
  ·by_cases b:y=i
   ·omega
   ·rw[aW a,aK b]at e
    by_cases c:y=k
    ·rw[aW c]at e;have:=o _ _ g d e;omega
    ·rw[aK c]at e;have:=o _ _ g j e;omega
  ·rw[aK a]at e
   by_cases l:x=k
   ·rw[aW l]at e
    by_cases b:y=i
    ·rw[aW b]at e;have:=o _ _ d g e;omega
    ·rw[aK b]at e
     by_cases c:y=k
     ·omega
     ·rw[aK c]at e;have:=o _ _ d j e;omega
   ·rw[aK l]at e
    by_cases b:y=i
    ·rw[aW b]at e;have:=o _ _ h g e;omega
    ·rw[aK b]at e
     by_cases c:y=k
     ·rw[aW c]at e;have:=o _ _ h d e;omega
     ·rw[aK c]at e;exact o _ _ h j e
def Sf(K:Nat->Key)(f:Nat->Nat)(i k:Nat):(λx=>K (gD f i k x))=gD (λx=>K (f x)) i k:=by
 funext x
 simp only[gD];split
 ·rfl
 ·split<;>rfl
def lT.cI{w w' j k X}(h:lT w j k)(c:bh X w w')(b:¬X j):lT w' j k:=by have a:=c.block j (lF h.due) b;exact⟨(jE a).trans h.due,(jE a).trans h.order⟩
def Keyed(w:az)(v:aD)(n:Nat)(f:Nat->Nat)(K:Nat->Key):Prop:=∀x,x<n->lT w (f x) (K (f x))/\aa (f x)≠v.ownBlock
def Keyed.mix{w w' v n f f' K}(h:Keyed w v n f K)(m:lU n f f')(c:bh (λb=>aa b=v.ownBlock) w w'):Keyed w' v n f' K:=λx d=>by obtain⟨y,a,e⟩:=m.aU x d;rw[e];exact⟨(h y a).1.cI c (h y a).2,(h y a).2⟩
def Keyed.drewN{w v n f K}(h:Keyed w v n f K)(d):Keyed (w.drewN d) v n f K:=λx a=>⟨⟨(h x a).1.due,(h x a).1.order⟩,(h x a).2⟩
def fZ.drewN{w hb ho n v f}(h:fZ w hb ho v n f)(d):fZ (w.drewN d) hb ho v n f:=⟨h.head,h.row,h.cO⟩
structure zu(w W:az)(a c:Nat)(v:aD)(n:Nat)(f:Nat->Nat)(K:Nat->Key)(q:Nat)(f':Nat->Nat):Prop where
 heap:fZ W a c v n f'
 keys:Keyed W v n f' K
 mix:lU n f f'
 up:vA n (λx=>K (f' x)) q
 cI:bh (λb=>aa b=v.ownBlock) w W
def zu.drewN{w W hb ho n q v f f' K}(h:zu w W hb ho v n f K q f')(d):zu w (W.drewN d) hb ho v n f K q f':=
 ⟨h.heap.drewN d,h.keys.drewN d,h.mix,h.up,⟨h.cI.os,h.cI.size,h.cI.block⟩⟩
def aci(j k n i:Nat)(v:aD)(f:Nat->Nat)(g:Nat->Key)(w:az)(h:fZ w j k v n f)(F:i<n)(G:n<=1048576)(E:Keyed w v n f g)(D:vA n (λx=>g (f x)) i):
  Calls prog 245 #[.pointer (aa (aj j k)),an i] w λe l=>e=aM (.tuple #[])/\∃c,fZ l j k v n c/\lU n f c/\Hp n (λx=>g (c x))/\bh (λb=>aa b=v.ownBlock) w l:=by
 have y:Hid (zu w w j k v n f g i f):=⟨h,E,lU.refl _ _,D,bh.refl _ _⟩;go_enter func245,ntmps245;go_wp2
 go_loopw [1] (λu wr=>∃q c,u=an (q:Nat)/\q<n/\Hid (zu w wr j k v n f g q c)) (λu _=>(eY u).toNat)
 case atStart=>exact⟨i,f,rfl,F,y⟩
 case round=>
  obtain⟨q,c,rfl,p,hR⟩:=hrel
  by_cases h0:q=0
  ·subst h0;go_wp2;have R:=hR.out;exact fI rfl rfl ⟨rfl,c,R.heap,R.mix,R.up.done (aF rfl),R.cI⟩
  ·have I:(0:Int)<(q:Int):=ak;have o:par q<n:=by simp only[par];omega
   have r:Hid (∀d,Calls prog 195 #[.pointer (aa (aj j k)),an q,an (par q:Nat)] (wr.drewN d) λe l=>e=aM (.bool (dW (g (c q)) (g (c (par q)))))/\∃C,l=wr.drewN (d+C)):=λd=>by refine(Sd j k n q (par q) v c g (wr.drewN d) (hR.out.heap.drewN d) p o G (λx H=>((hR.out.keys.drewN d) x H).1)).mono ?_;rintro e l ⟨rfl,m,rfl⟩;exact⟨rfl,m,WW ..⟩
   cases s:dW (g (c q)) (g (c (par q)))with
   |false=>
    rw[s]at r
    go_wp2_with (first
     |(go_at_call 270;refine(Ta q ak ak _).mono ?_;rintro e t ⟨rfl,rfl⟩)
     |(go_at_call 195;refine(r.out 0).mono ?_;rintro e t ⟨rfl,d,rfl⟩))
    have R:=hR.out.drewN d;exact fI rfl rfl ⟨rfl,c,R.heap,R.mix,R.up.done (aE s),R.cI⟩
   |true=>
    rw[s]at r
    have B:Hid (∀d,Calls prog 196 #[.pointer (aa (aj j k)),an q,an (par q:Nat)] (wr.drewN d) λe l=>e=aM (.tuple #[])/\zu w l j k v n f g (par q) (gD c q (par q))):=λd=>by have R:=hR.out.drewN d;refine(UF j k n q (par q) v c (wr.drewN d) R.heap p o (by simp only[par];omega)).mono ?_;rintro e l ⟨rfl,a,b⟩;refine⟨rfl,a,R.keys.mix (.gD c p o) b,R.mix.trans (.gD c p o),?_,R.cI.trans b⟩;rw[Sf];exact R.up.step ak p s
    go_wp2_with (first
     |(go_at_call 270;refine(Ta q ak ak _).mono ?_;rintro e t ⟨rfl,rfl⟩)
     |(go_at_call 195;refine(r.out 0).mono ?_;rintro e t ⟨rfl,d,rfl⟩)
     |(go_at_call 196;refine(B.out _).mono ?_;rintro e t ⟨rfl,A⟩;have z:=bf A))
    refine⟨⟨par q,_,?_,o,z⟩,?_⟩
    ·have e:(((q-1:Nat):Int) / 2)=((par q:Nat):Int):=by simp only[par];omega
     rw[e]
    ·simp[eY];omega
def aba(n f j):jN n f++[jp j]=jN (n+1) (λx=>if x=n then j else f x):=by
 unfold jN;rw[yP,AT]
 congr 1
 ·refine List.map_congr_left λx a=>?_;have b:=lQ.1 a;show jp (f x)=jp (if x=n then j else f x);rw[aK ak]
 ·simp
def O7:(prog.info? 130).map (λi=>(i.zero,i.size,i.bytes))=aa (aa (.pointer ay),1,8):=aT
abbrev more(f:Nat->Nat)(n j:Nat):Nat->Nat:=λx=>if x=n then j else f x
def K4{n}{f:Nat->Nat}{K:Nat->Key}(j)(h:Hp n λx=>K (f x)):vA (n+1) (λx=>K (more f n j x)) n:=by
 refine⟨λx h0 i a=>?_,λh0 c e g b=>?_⟩
 ·have d:par x<n:=by simp only[par];omega
  have:=h x h0 ak;simp only[more];rw[aK ak,aK a];exact this
 ·simp only[par]at b;omega
def abd{w W hb ho n j g cap v f K jq x}{m:aQ}(q:w.heap[hb]? =aa (aA jq m (0,0)))(u:jq[ho]? =aa v)(M:m≠130)(S:w.ownsRow 0 130 1 v n (jN n f))(L:Keyed w v n f K)(O:∀x,x<n->f x≠hb)(y:lT w j (K j))(z:aa j≠v.ownBlock)(Q:j≠hb)(N:W.ownsRow 0 130 1 (.slice (aa (aj g 0)) (n+1) cap) (n+1) (jN n f++[jp j]))(r:(w.alloc (aA x 130)).grownBy W v.ownBlock)(t:v.ownBlock=aa g\/g=w.heap.size+1):
  W.cell? (aj hb ho)=aa v/\W.frozen? (aj hb ho)=av/\(W.setCell (aj hb ho) (.slice (aa (aj g 0)) (n+1) cap)).heap[hb]? =aa (aA (jq.setIfInBounds ho (.slice (aa (aj g 0)) (n+1) cap)) m (0,0))/\
  fZ (W.setCell (aj hb ho) (.slice (aa (aj g 0)) (n+1) cap)) hb ho (.slice (aa (aj g 0)) (n+1) cap) (n+1) (more f n j)/\Keyed (W.setCell (aj hb ho) (.slice (aa (aj g 0)) (n+1) cap)) (.slice (aa (aj g 0)) (n+1) cap) (n+1) (more f n j) K/\
  bh (λb=>b=hb\/aa b=v.ownBlock) w (W.setCell (aj hb ho) (.slice (aa (aj g 0)) (n+1) cap)):=by
 have R:hb<w.heap.size:=(bq.1 q).1
 have A:aa hb≠v.ownBlock:=λe=>by
  rcases S.2 with⟨c,_⟩|⟨E,C,s,c,_,d,_⟩
  ·rw[c]at e;cases e
  ·rw[c]at e;cases e;rw[q]at d;cases d;exact M rfl
 have B:hb≠g:=λe=>by
  rcases t with h|h
  ·exact A (by rw[h,e])
  ·omega
 have old:∀b,b<w.heap.size->aa b≠v.ownBlock->W.heap[b]? =w.heap[b]? :=λb p l=>(r.block b cq l).trans (Below.heap_alloc w _ b p);have o:W.heap[hb]? =aa (aA jq m (0,0)):=(old hb R A).trans q;have d:=dF o ho (.slice (aa (aj g 0)) (n+1) cap);have T:=r.size;simp at T
 have cI:bh (λb=>b=hb\/aa b=v.ownBlock) w (W.setCell (aj hb ho) (.slice (aa (aj g 0)) (n+1) cap)):=
  ⟨by show W.os=w.os;rw[r.os];rfl,cq,λb p l=>(cw (λe=>l (aF e))).trans (old b p λe=>l (aE e))⟩
 have P:ho<jq.size:=(bq.1 u).1;have key:∀i k,lT w i k->aa i≠v.ownBlock->i≠hb->lT (W.setCell (aj hb ho) (.slice (aa (aj g 0)) (n+1) cap)) i k:=λi k h c d=>h.cI cI (λe=>e.elim d c)
 have cO:∀i k,lT w i k->aa i≠v.ownBlock->aa i≠(gF (aa (aj g 0)) (n+1) cap).ownBlock:=λi k h c e=>by
  have D:i=g:=by simpa[sE]using e
  rcases t with h'|h'
  ·exact c (by rw[h',D])
  ·have:=lF h.due;simp only at this;omega
 refine⟨aI o u,bF o _,d,⟨aI d (by simp[P]),⟨by simp[jN],?_⟩,λe=>B (by simpa[sE]using e)⟩,λx l=>?_,cI⟩
 ·rcases N.2 with⟨h,_⟩|⟨E,C,s,c,d,F,G,H,I,J⟩
  ·cases h
  ·cases c;exact aE ⟨g,cap,s,rfl,d,(cw (λe=>B e.symm)).trans F,G,H,I,by rw[J,aba]⟩
 ·simp only[more]
  by_cases e:x=n
  ·rw[aW e];exact⟨key j _ y z Q,cO j _ y z⟩
  ·rw[aK e];obtain⟨a,b⟩:=L x ak;exact⟨key _ _ a b (O x ak),cO _ _ a b⟩
def abc(a ho n j v f K0 jq Th w)(p:w.heap[a]? =aa (aA jq Th (0,0)))(u:jq[ho]? =aa v)(G:Th≠130)(y:w.ownsRow 0 130 1 v n (jN n f))(hn:n<1048576)(F:Keyed w v n f K0)(H:∀x,x<n->f x≠a)(K:lT w j (K0 j))(M:aa j≠v.ownBlock)(L:j≠a)(E:Hp n λx=>K0 (f x)):
  Calls prog 212 #[.pointer (aa (aj a ho)),jp j] w λe q=>e=aM (.tuple #[])/\∃l d,q.heap[a]? =aa (aA (jq.setIfInBounds ho l) Th (0,0))/\q.ownsRow 0 130 1 l (n+1) (jN (n+1) d)/\lU (n+1) (more f n j) d/\Hp (n+1) (λx=>K0 (d x))/\bh (λb=>b=a\/aa b=v.ownBlock) w q/\(l.ownBlock=v.ownBlock\/∀g,l.ownBlock=aa g->w.heap.size<=g):=by
 obtain⟨R,J,O,P,Q⟩:=qO O7;have ah:=(bq.1 p).1;have Z:=aI p u;have C:Hid ((w.alloc (aA #[jp j] 130)).ownsRow 0 130 1 v n (jN n f)):=y.alloc _;have HM:Hid (w.heap[a]? =aa (aA jq Th (0,0))/\w.ownsRow 0 130 1 v n (jN n f)/\Keyed w v n f K0/\lT w j (K0 j)):=⟨p,y,F,K⟩;have aH:a≠w.heap.size:=ak;have X:True:=trivial;go_enter func212,ntmps212
 go_wp2_with (first
  |(at_builtin;have _t:=X;refine wpList_append_lies _ (by rfl) _ _ 107 (by rfl) 0 130 R _ 1 8 underlying107 J O P Q (by rfl) ak v n (jN n f) (by rfl) C.out ⟨w.heap.size,0,ay⟩ 1 1 [jp j] (by rfl) (by rfl) (Bi (cG w _)) (by simp[za]) ak (by unfold cC;omega) ak aC (w.heap.size+1) aC ?_;intro g c m N I t an;obtain⟨m1,m2,S,A,T,U⟩:=abd HM.out.1 u G HM.out.2.1 HM.out.2.2.1 H HM.out.2.2.2 M L N I t;have o:Hid ((m.setCell (aj a ho) (.slice (aa (aj g 0)) (n+1) c)).heap[a]? =aa (aA (jq.setIfInBounds ho (.slice (aa (aj g 0)) (n+1) c)) Th (0,0))/\
  fZ (m.setCell (aj a ho) (.slice (aa (aj g 0)) (n+1) c)) a ho (.slice (aa (aj g 0)) (n+1) c) (n+1) (more f n j)/\Keyed (m.setCell (aj a ho) (.slice (aa (aj g 0)) (n+1) c)) (.slice (aa (aj g 0)) (n+1) c) (n+1) (more f n j) K0/\
  bh (λb=>b=a\/aa b=v.ownBlock) w (m.setCell (aj a ho) (.slice (aa (aj g 0)) (n+1) c))/\(v.ownBlock=aa g\/g=w.heap.size+1)):=⟨S,A,T,U,t⟩;have c4:=A.head)
  |(go_at_call 245;refine(aci a ho (n+1) n _ (more f n j) K0 _ o.out.2.1 ak ak o.out.2.2.1 (K4 j E)).mono ?_;rintro e w5 ⟨rfl,d,B,V,W,k⟩))
 obtain⟨a1,Y,a3,i,r⟩:=o.out;refine fI rfl rfl ⟨rfl,_,d,(k.block a (bq.1 a1).1 B.cO).trans a1,B.row,V,W,⟨k.os.trans i.os,dM i.size k.size,λb a z=>(k.block b (dI a i.size) (λe=>?_)).trans (i.block b a z)⟩,?_⟩
 ·have s:b=g:=by simpa[sE]using e
  rcases r with h|h
  ·exact z (aE (by rw[h,s]))
  ·omega
 ·rcases r with h|h
  ·exact aF (by rw[h];rfl)
  ·refine aE λD e=>?_;have s:g=D:=by simpa[sE]using e
   omega
structure zw(w W:az)(a c:Nat)(v:aD)(n:Nat)(f:Nat->Nat)(K:Nat->Key)(q:Nat)(f':Nat->Nat):Prop where
 heap:fZ W a c v n f'
 keys:Keyed W v n f' K
 mix:lU n f f'
 dn:vw n (λx=>K (f' x)) q
 cI:bh (λb=>aa b=v.ownBlock) w W
def zw.drewN{w W hb ho n q v f f' K}(h:zw w W hb ho v n f K q f')(d):zw w (W.drewN d) hb ho v n f K q f':=
 ⟨h.heap.drewN d,h.keys.drewN d,h.mix,h.dn,⟨h.cI.os,h.cI.size,h.cI.block⟩⟩
def qw(n:Nat)(f:Nat->Key)(q:Nat):Nat->Nat
 |0=>q
 |k+1=>jJ n f q (2*q+1+k) (qw n f q k)
def QS(n f q):∀k,qw n f q k<=2*q+k
 |0=>by simp only[qw];omega
 |k+1=>by have:=QS n f q k;simp only[qw,jJ];split<;>omega
def Vb{P fn R a w}(hr:fn.results=#[])(b:a.defers=[])(h:R (aM (.tuple #[])) w):Ec P fn R Nk a w:=
 ⟨b,.tuple #[],by simp[results,hr],h⟩
def adk(hb ho n i v f j w)(h:fZ w hb ho v n f)(Q:i<=n)(U:n<=1048576)(N:Keyed w v n f j)(M:vw n (λx=>j (f x)) i):
  Calls prog 160 #[.pointer (aa (aj hb ho)),an i] w λe l=>e=aM (.tuple #[])/\∃g,fZ l hb ho v n g/\lU n f g/\Hp n (λx=>j (g x))/\bh (λb=>aa b=v.ownBlock) w l:=by
 have G:Hid (zw w w hb ho v n f j i f):=⟨h,N,lU.refl _ _,M,bh.refl _ _⟩;go_enter func160,ntmps160;go_wp2
 go_loopw [1,4,5] (λC _ _ wr=>∃q g,C=an (q:Nat)/\q<=n/\Hid (zw w wr hb ho v n f j q g)) (λC _ _ _=>n-(eY C).toNat)
 case atStart=>exact⟨i,f,rfl,Q,G⟩
 case round=>
  obtain⟨q,g,rfl,hq,hR⟩:=hrel;obtain⟨sa,L,hv,O,T⟩:=hR.out.heap.form;have K:∀d,(wr.drewN d).cell? (aj hb ho)=aa (.slice sa n L):=λd=>hv▸hR.out.heap.head;clear hv O T
  have I:Hid (∀d x y,x<n->y<n->Calls prog 195 #[.pointer (aa (aj hb ho)),an (x:Nat),an (y:Nat)] (wr.drewN d) λe l=>e=aM (.bool (dW (j (g x)) (j (g y))))/\∃t,l=wr.drewN (d+t)):=λd x y B V=>by refine(Sd hb ho n x y v g j (wr.drewN d) (hR.out.heap.drewN d) B V U (λx B=>((hR.out.keys.drewN d) x B).1)).mono ?_;rintro e l ⟨rfl,m,rfl⟩;exact⟨rfl,m,WW ..⟩
  go_wp2
  go_loopw [4,5] (λm c W=>∃k:Nat,k<=2/\c=an ((2*q+1+k:Nat):Int)/\m=an (qw n (λx=>j (g x)) q k:Nat)/\∃d,W=wr.drewN d) (λ_ c _=>2*q+3-(eY c).toNat)
  case atStart=>exact⟨0,ak,by go_num,rfl,0,rfl⟩
  case round=>
   obtain⟨k,Z,rfl,rfl,d,rfl⟩:=hrel;have Y:=QS n (λx=>j (g x)) q k;generalize hm:qw n (λx=>j (g x)) q k=m at*;have X:=K d
   by_cases af:k<2
   ·have S:((2*q+1+k:Nat):Int)<=2*(q:Int)+2:=ak;generalize u:2*q+1+k=c at*
    by_cases z:c<n
    ·have P:(c:Int)<(n:Int):=ak;have p:=I.out d c m z ak;cases r:dW (j (g c)) (j (g m))with
     |true=>
      have o:qw n (λx=>j (g x)) q (k+1)=c:=by simp only[qw,jJ,hm,u];exact aW ⟨z,r⟩
      rw[r]at p;go_wp2_with (go_at_call 195;refine p.mono ?_;rintro e F ⟨rfl,t,rfl⟩);refine⟨⟨k+1,ak,by go_num,by rw[o],_,rfl⟩,?_⟩;simp[eY];omega
     |false=>
      have o:qw n (λx=>j (g x)) q (k+1)=m:=by simp only[qw,jJ,hm,u];exact aK (λh=>by rw[r]at h;cases h.2)
      rw[r]at p;go_wp2_with (go_at_call 195;refine p.mono ?_;rintro e F ⟨rfl,t,rfl⟩);refine⟨⟨k+1,ak,by go_num,by rw[o],_,rfl⟩,?_⟩;simp[eY];omega
    ·have P:¬(c:Int)<(n:Int):=ak;have o:qw n (λx=>j (g x)) q (k+1)=m:=by simp only[qw,jJ,hm,u];exact aK (λh=>z h.1)
     go_wp2;refine⟨⟨k+1,ak,by go_num,by rw[o],_,rfl⟩,?_⟩;simp[eY];omega
   ·obtain rfl:k=2:=ak;have S:¬((2*q+1+2:Nat):Int)<=2*(q:Int)+2:=ak;have A:jJ n (λx=>j (g x)) q (2*q+2) (jJ n (λx=>j (g x)) q (2*q+1) q)=m:=hm
    by_cases s:m=q
    ·subst s;go_wp2;have R:=hR.out.drewN d;exact Vb rfl rfl ⟨rfl,g,R.heap,R.mix,R.dn.done A,R.cI⟩
    ·have ah:((m:Int)==(q:Int))=av:=cq;obtain⟨l1,D,l3,l4⟩:=QW A s
     have J:Hid (Calls prog 196 #[.pointer (aa (aj hb ho)),an q,an m] (wr.drewN d) λe l=>e=aM (.tuple #[])/\zw w l hb ho v n f j m (gD g q m)):=by have R:=hR.out.drewN d;refine(UF hb ho n q m v g (wr.drewN d) R.heap ak D (λe=>s e.symm)).mono ?_;rintro e l ⟨rfl,a,b⟩;refine⟨rfl,a,R.keys.mix (.gD g ak D) b,R.mix.trans (.gD g ak D),?_,R.cI.trans b⟩;rw[Sf];exact R.dn.step A s
     go_wp2_with (go_at_call 196;refine J.out.mono ?_;rintro e F ⟨rfl,E⟩;have H:=bf E;clear E);refine⟨⟨m,_,rfl,ak,H⟩,?_⟩;simp[eY];omega
def ya{P o a w w' K Q y sl x}{t u:aQ}{v v' z}(d:dg o y=aq)(b:o.op=.call {callee:=.builtin .append,args:=#[sl,x],argTypes:=#[t,u]}) (c:a.eval sl=v) (e:a.eval x=z) (hr:(oG #[t,u] o.type #[v,z]).run P w=.ok v' w') (h:K (a.put o.dst v') w'):
  if dg o y=aq then II P o a w K Q else K (a.put o.dst au) w:=by
 rw[aW d];unfold II execOp;simp only[b,resolve,invoke,builtin,wU,Oc,IM,rT,uU,yN,c,e,hr];exact h
def uD{T g}:∀(xs:aB aD) (o:Nat) (W:az) (a:aJ aD),W.heap[g]? =aa (aA a T (0,0))->
  ∃b,(W.setCells g o xs).heap[g]? =aa (aA b T (0,0))/\b.size=a.size/\(∀i,i<o\/o+xs.length<=i->b[i]? =a[i]?)/\(∀i u,xs[i]? =aa u->o+i<a.size->b[o+i]? =aa u)/\(∀k,k≠g->(W.setCells g o xs).heap[k]? =W.heap[k]?)/\(W.setCells g o xs).heap.size=W.heap.size/\(W.setCells g o xs).os=W.os:=by
 intro xs;induction xs with
 |nil=>exact λo W a h=>⟨a,h,rfl,λ_ _=>rfl,λi u c=>by simp at c,λ_ _=>rfl,rfl,rfl⟩
 |cons x xs s=>
  intro o W a h;obtain⟨j,l,m,d,n,p,q,r⟩:=s (o+1) (W.setCell (aj g o) x) _ (dF h o x);refine⟨j,l,by rw[m];simp,λi t=>?_,λi u c f=>?_,λk e=>(p k e).trans (cw e),q.trans aC,r.trans rfl⟩
  ·rw[d i (by grind)];exact dO (by grind)
  ·cases i with
   |zero=>
    simp at c;subst c;rw[d (o+0) (aF ak)];rw[Nat.add_zero]at f⊢;simp[Av,f]
   |succ i=>
    have:=n i u (by grind) cq;rw[show o+(i+1)=o+1+i by omega];exact this
def Ze(s a L cap)(b:s=.slice a L cap)(hc:L<=cap)(hm:cap<=cC)(w):
  fK 113 #[s,an 0,an 0] w s:=by
 subst b;unfold cC at hm;go_enter func113,ntmps113;go_wp2
 all_goals (go_ret;exact⟨rfl,rfl⟩)
abbrev PY(w:az)(g L n:Nat)(news:aB aD):az:=(w.drew.setCells g 0 news).setCells g (L-n) (List.replicate n (.int .u8 0))
def Zf(g L cap n news cur w)(h0:0<n)(H:n<=L)(hc:L<=cap)(hm:cap<=cC)(y:news.length=L-n)(k:∀u∈news,u.oneCell'=aq)(a:w.heap[g]? =aa (aA cur 5 (0,0)))(I:cur.size=cap)(c:∀j u,news[j]? =aa u->cur[n+j]? =aa u):
  Calls prog 113 #[.slice (aa (aj g 0)) L cap,an 0,an n] w λe B=>e=aM (.slice (aa (aj g 0)) (L-n) cap)/\B=PY w g L n news:=by
 have c:∀j u,news[j]? =aa u->w.cell? (aj g (n+j))=aa u:=λj u b=>aI a (c j u b);have o:∀j,j<L->(w.cell? (aj g j)).isSome=aq:=λj d=>by rw[aI a (cX ak)];rfl
 have m:∀j,w.frozen? (aj g j)=av:=λj=>bF a j;obtain⟨q,x,J,z,M⟩:=qO infoByte
 obtain⟨A,C,p⟩:∃A:bZ,(if cap=n then aa (⟨g,0,ay⟩:bZ)else aa ⟨g,n,ay⟩)=aa A/\(∀t u,news[t]? =aa u->w.drew.cell? (A.add t)=aa u):=by
  by_cases h:cap=n
  ·refine⟨⟨g,0,ay⟩,by simp[h],λt u b=>?_⟩;have e:news.length=0:=ak;rw[yL.1 e]at b;simp at b
  ·exact⟨⟨g,n,ay⟩,by simp[h],λt u b=>by rw[Hh];exact c t u b⟩
 have r:Hid ((oG #[158,158] 158 #[.slice (aa (aj g 0)) 0 cap,.slice (aa A) (L-n) (cap-n)]).run prog w.drew=.ok (.slice (aa (aj g 0)) (0+(L-n)) cap) (w.drew.setCells g (0+0*q.size) news)):=
  IZ (P:=prog) w.drew 158 158 5 q underlying158 x g 0 0 cap A (L-n) (cap-n) news (by rw[z,y];omega) p k ak (λj d=>by rw[wS,fX];exact(o j ak)) (λj d=>by rw[wS,fX];exact m j)
 have hv:∀w,(zeroValue 5).run prog w=.ok (.int .u8 0) w:=zeroValue5
 have G:∀i,(uL #[158] i #[.slice (aa (aj g (L-n))) (L-(L-n)) (cap-(L-n))]).run prog (w.drew.setCells g 0 news)=.ok (.tuple #[]) (PY w g L n news):=λi=>by
  have:=Lib.run_clear_slice (P:=prog) (w.drew.setCells g 0 news) 158 5 i (.int .u8 0) underlying158 hv rfl rfl g (L-n) (L-(L-n)) (cap-(L-n)) ak ?_ ?_
  ·rw[this,show L-(L-n)=n by omega]
  ·intro j d;obtain⟨s,f,v,_⟩:=uD news 0 w.drew cur a;rw[aI f (cX ak)];rfl
  ·intro j d;obtain⟨s,f,v,_⟩:=uD news 0 w.drew cur a;exact bF f _
 unfold cC at hm;have F:((0:Int)==(n:Int))=av:=cq;clear p c o m k hv a;go_enter func113,ntmps113
 go_upto_region 5 with fail
 refine fq (S:=λ_=>True) trivial λE=>?_;refine tk 0 ?_;refine tk 1 ?_;refine tk 2 ?_;refine tk 3 ?_;refine tk 4 ?_;refine tk 5 ?_;refine rH 6 λK l=>?_
 (refine ya rfl rfl rfl rfl r.out ?_;simp)
 refine l.out _ _ (trivial) (λD=>?_);clear l K;refine tk 7 ?_;refine dL ?_
 (go_wp2;go_ret;exact⟨rfl,rfl⟩)
def LV{P}(w t e ty z)(f:P.underlying t=aa (.slice e))(hv:∀w,(zeroValue e).run P w=.ok z w)(b o n c)(h:0<n)(zs)(g:(tF z.cells n).toList=zs)(d:∀u∈zs,u.oneCell'=aq)(hc:∀j,j<zs.length->(w.cell? (aj b (o+j))).isSome=aq)(hf:∀j,j<zs.length->w.frozen? (aj b (o+j))=av):
  (uL #[t] ty #[.slice (aa (aj b o)) n c]).run P w=.ok (.tuple #[]) (w.setCells b o zs):=by
 have a:=Xc (P:=P) b o zs 0 w ak ak d;simp at a;obtain⟨m,rfl⟩:∃m,n=m+1:=⟨n-1,ak⟩;simp[uL,xg f,hv,g,a]
def PZ{w T k g cap n cur news zs}(r:w.heap[g]? =aa (aA cur T (0,0)))(x:cur.size=cap*k)(q:n+1<=cap)(hm:cap<=cC)(p:news.length=n*k)(y:zs.length=k):
  ((w.drew.setCells g 0 news).setCells g (n*k) zs).ownsRow 0 T k (.slice (aa (aj g 0)) n cap) n news/\bh (·=g) w ((w.drew.setCells g 0 news).setCells g (n*k) zs):=by
 obtain⟨d,f,s,t,h,j,l,m⟩:=uD news 0 w.drew cur r;obtain⟨e,f1,f2,f3,f4,f5,f6,f7⟩:=uD zs (n*k) _ d f;have v:n*k+k<=cap*k:=by rw[<-Nat.succ_mul];exact WC k q
 refine⟨⟨p,aE ⟨g,cap,e,rfl,eZ _,f1,ak,hm,ak,?_⟩⟩,f7.trans m,Nat.le_of_eq (f6.trans l).symm,λb u c=>(f5 b c).trans (j b c)⟩;refine yJ λi=>?_;rw[qK];split
 ·rename_i o;rw[oC,f3 i (aF o)];have a:i<news.length:=ak;have:=h i news[i] (eI a) ak;rw[fX]at this;rw[this,eI a]
 ·exact(AQ ak).symm
def take_at{b:aJ aD}{x rest:aB aD}{m k:Nat}(h:b.toList.take m=x++rest)(d:x.length=k):∀j u,rest[j]? =aa u->b[k+j]? =aa u:=λj u c=>by
 have a:(x++rest)[k+j]? =aa u:=by rw[uR ak,d,wQ];exact c
 rw[<-h,qK]at a;split at a
 ·rw[oC]at a;exact a
 ·cases a
def Lq{zs:aB aD}(h:zs.all (·.oneCell')=aq):∀u∈zs,u.oneCell'=aq:=λu a=>mz.1 h u a
abbrev zsQ:aB aD:=[an 0,.string ⟨#[]⟩,an 0,an 0,an 0,an 0,an 0,.string ⟨#[]⟩,an 0,an 0]
abbrev PX(w:az)(g L:Nat)(news:aB aD):az:=(w.drew.setCells g 0 news).setCells g ((L-1) *10) zsQ
def Zd(g L cap news cur w)(F:0<L)(hc:L<=cap)(hm:cap<=cC)(r:news.length=(L-1) *10)(n:∀u∈news,u.oneCell'=aq)(c:w.heap[g]? =aa (aA cur 134 (0,0)))(J:cur.size=cap*10)(d:∀j u,news[j]? =aa u->cur[10+j]? =aa u):
  Calls prog 269 #[.slice (aa (aj g 0)) L cap,an 0,an 1] w λe y=>e=aM (.slice (aa (aj g 0)) (L-1) cap)/\y=PX w g L news:=by
 have d:∀j u,news[j]? =aa u->w.cell? (aj g (10+j))=aa u:=λj u a=>aI c (d j u a);have s:∀j,j<cap*10->(w.cell? (aj g j)).isSome=aq:=λj b=>by rw[aI c (cX ak)];rfl
 have o:∀j,w.frozen? (aj g j)=av:=λj=>bF c j;have q:(prog.info? 134).map (·.size)=aa 10:=aT;obtain⟨l,p,x⟩:=eV.1 q
 obtain⟨A,C,v⟩:∃A:bZ,(if cap=1 then aa (⟨g,0,ay⟩:bZ)else aa ⟨g,10,ay⟩)=aa A/\(∀t u,news[t]? =aa u->w.drew.cell? (A.add t)=aa u):=by
  by_cases h:cap=1
  ·refine⟨⟨g,0,ay⟩,by simp[h],λt u a=>?_⟩;have e:news.length=0:=ak;rw[yL.1 e]at a;simp at a
  ·exact⟨⟨g,10,ay⟩,by simp[h],λt u a=>by rw[Hh];exact d t u a⟩
 have m:Hid ((oG #[165,165] 165 #[.slice (aa (aj g 0)) 0 cap,.slice (aa A) (L-1) (cap-1)]).run prog w.drew=.ok (.slice (aa (aj g 0)) (0+(L-1)) cap) (w.drew.setCells g (0+0*l.size) news)):=
  IZ w.drew 165 165 134 l underlying165 p g 0 0 cap A (L-1) (cap-1) news (by rw[x,r]) v n ak (λj b=>by rw[wS,fX];exact(s _ ak)) (λj b=>by rw[wS,fX];exact o _)
 have I:∀f,(uL #[165] f #[.slice (aa (aj g ((L-1) *10))) (L-(L-1)) (cap-(L-1))]).run prog (w.drew.setCells g 0 news)=.ok (.tuple #[]) (PX w g L news):=λf=>by
  obtain⟨z,i,B,_⟩:=uD news 0 w.drew cur c;refine LV (w.drew.setCells g 0 news) 165 134 f _ underlying165 zeroValue134 g ((L-1) *10) (L-(L-1)) (cap-(L-1)) ak _ (by rw[show L-(L-1)=1 by omega];kernel_rfl) (Lq (by rfl)) ?_ ?_
  ·intro j b;have:j<10:=b;rw[aI i (cX ak)];rfl
  ·exact λj _=>bF i _
 unfold cC at hm;have G:(1:Int)<=(L:Int):=ak;have H:((cap:Int)==1)=decide (cap=1):=by by_cases h:cap=1<;>simp[h];omega
 go_enter func269,ntmps269
 go_upto_region 5 with fail
 refine fq (S:=λ_=>True) trivial λE=>?_;refine tk 0 ?_;refine tk 1 ?_;refine tk 2 ?_;refine tk 3 ?_;refine tk 4 ?_;refine tk 5 ?_;refine rH 6 λK k=>?_
 (refine ya rfl rfl rfl rfl m.out ?_;simp)
 refine k.out _ _ (trivial) (λD=>?_);clear k K;refine tk 7 ?_;refine dL ?_
 (go_wp2;go_ret;exact⟨rfl,rfl⟩)
abbrev zsF:aB aD:=[an 0,.bool av,an 0]
abbrev PW(w:az)(g L:Nat)(news:aB aD):az:=(w.drew.setCells g 0 news).setCells g ((L-1) *3) zsF
def YZ(g L cap news cur w)(F:0<L)(hc:L<=cap)(hm:cap<=cC)(r:news.length=(L-1) *3)(n:∀u∈news,u.oneCell'=aq)(c:w.heap[g]? =aa (aA cur 188 (0,0)))(J:cur.size=cap*3)(d:∀j u,news[j]? =aa u->cur[3+j]? =aa u):
  Calls prog 244 #[.slice (aa (aj g 0)) L cap,an 0,an 1] w λe y=>e=aM (.slice (aa (aj g 0)) (L-1) cap)/\y=PW w g L news:=by
 have d:∀j u,news[j]? =aa u->w.cell? (aj g (3+j))=aa u:=λj u a=>aI c (d j u a);have s:∀j,j<cap*3->(w.cell? (aj g j)).isSome=aq:=λj b=>by rw[aI c (cX ak)];rfl
 have o:∀j,w.frozen? (aj g j)=av:=λj=>bF c j;have q:(prog.info? 188).map (·.size)=aa 3:=aT;obtain⟨l,p,x⟩:=eV.1 q
 obtain⟨A,C,v⟩:∃A:bZ,(if cap=1 then aa (⟨g,0,ay⟩:bZ)else aa ⟨g,3,ay⟩)=aa A/\(∀t u,news[t]? =aa u->w.drew.cell? (A.add t)=aa u):=by
  by_cases h:cap=1
  ·refine⟨⟨g,0,ay⟩,by simp[h],λt u a=>?_⟩;have e:news.length=0:=ak;rw[yL.1 e]at a;simp at a
  ·exact⟨⟨g,3,ay⟩,by simp[h],λt u a=>by rw[Hh];exact d t u a⟩
 have m:Hid ((oG #[106,106] 106 #[.slice (aa (aj g 0)) 0 cap,.slice (aa A) (L-1) (cap-1)]).run prog w.drew=.ok (.slice (aa (aj g 0)) (0+(L-1)) cap) (w.drew.setCells g (0+0*l.size) news)):=
  IZ w.drew 106 106 188 l underlying106 p g 0 0 cap A (L-1) (cap-1) news (by rw[x,r]) v n ak (λj b=>by rw[wS,fX];exact(s _ ak)) (λj b=>by rw[wS,fX];exact o _)
 have I:∀f,(uL #[106] f #[.slice (aa (aj g ((L-1) *3))) (L-(L-1)) (cap-(L-1))]).run prog (w.drew.setCells g 0 news)=.ok (.tuple #[]) (PW w g L news):=λf=>by
  obtain⟨z,i,B,_⟩:=uD news 0 w.drew cur c;refine LV (w.drew.setCells g 0 news) 106 188 f _ underlying106 zeroValue188 g ((L-1) *3) (L-(L-1)) (cap-(L-1)) ak _ (by rw[show L-(L-1)=1 by omega];kernel_rfl) (Lq (by rfl)) ?_ ?_
  ·intro j b;have:j<3:=b;rw[aI i (cX ak)];rfl
  ·exact λj _=>bF i _
 unfold cC at hm;have G:(1:Int)<=(L:Int):=ak;have H:((cap:Int)==1)=decide (cap=1):=by by_cases h:cap=1<;>simp[h];omega
 go_enter func244,ntmps244
 go_upto_region 5 with fail
 refine fq (S:=λ_=>True) trivial λE=>?_;refine tk 0 ?_;refine tk 1 ?_;refine tk 2 ?_;refine tk 3 ?_;refine tk 4 ?_;refine tk 5 ?_;refine rH 6 λK k=>?_
 (refine ya rfl rfl rfl rfl m.out ?_;simp)
 refine k.out _ _ (trivial) (λD=>?_);clear k K;refine tk 7 ?_;refine dL ?_
 (go_wp2;go_ret;exact⟨rfl,rfl⟩)
def Za{v:aD}{n:Nat}{x rest:aB aD}(w)(h:w.ownsRow 0 188 3 v (n+1) (x++rest))(c:x.length=3)(r:∀u∈rest,u.oneCell'=aq):
  Calls prog 244 #[v,an 0,an 1] w λe f=>∃d,e=aM d/\f.ownsRow 0 188 3 d n rest/\bh (λb=>aa b=v.ownBlock) w f/\d.ownBlock=v.ownBlock:=by
 have m:rest.length=n*3:=by have:=h.1;simp[c]at this;omega
 rcases h.2 with⟨_,h0⟩|⟨g,p,q,rfl,y,l,o,i,j,t⟩
 ·omega
 ·refine(YZ g (n+1) p rest q w ak o i m r l j (take_at t c)).mono ?_;rintro e f ⟨rfl,rfl⟩;obtain⟨a,b⟩:=PZ (zs:=zsF) l j o i m rfl;exact⟨_,rfl,a,⟨b.os,b.size,λk s c=>b.block k s λe=>c (by rw[e];rfl)⟩,rfl⟩
def Zb(g n cap cur w)(h0:0<n)(hc:n<=cap)(hm:cap<=cC)(f:w.heap[g]? =aa (aA cur 130 (0,0)))(C:cur.size=cap):
  Calls prog 159 #[.slice (aa (aj g 0)) n cap,an ((n-1:Nat):Int),an n] w λe q=>e=aM (.slice (aa (aj g 0)) (n-1) cap)/\q=w.drew.setCells g (n-1) [.pointer ay]:=by
 have o:∀j,j<cap->(w.cell? (aj g j)).isSome=aq:=λj a=>by rw[aI f (cX ak)];rfl
 have k:∀j,w.frozen? (aj g j)=av:=λj=>bF f j;have m:(prog.info? 130).map (·.size)=aa 1:=aT;obtain⟨p,l,D⟩:=eV.1 m
 obtain⟨A,x⟩:∃A:bZ,(if cap=n then aa (⟨g,0,ay⟩:bZ)else aa ⟨g,n,ay⟩)=aa A:=by
  by_cases h:cap=n
  ·exact⟨_,aW h⟩
  ·exact⟨_,aK h⟩
 have i:Hid ((oG #[107,107] 107 #[.slice (aa (aj g 0)) (n-1) cap,.slice (aa A) 0 (cap-n)]).run prog w.drew=.ok (.slice (aa (aj g 0)) (n-1) cap) w.drew):=
  IZ w.drew 107 107 130 p underlying107 l g 0 (n-1) cap A 0 (cap-n) [] aC (λj u b=>by simp at b) (λu b=>by cases b) ak (λj a=>by simp at a) (λj a=>by simp at a)
 have B:∀c,(uL #[107] c #[.slice (aa (aj g (n-1))) (n-(n-1)) (cap-(n-1))]).run prog w.drew=.ok (.tuple #[]) (w.drew.setCells g (n-1) [.pointer ay]):=λc=>by
  refine LV w.drew 107 130 c _ underlying107 zeroValue130 g (n-1) (n-(n-1)) (cap-(n-1)) ak _ (by rw[show n-(n-1)=1 by omega];kernel_rfl) (Lq (by rfl)) ?_ ?_
  ·intro j a;have:j<1:=a;exact o _ ak
  ·exact λj _=>k _
 unfold cC at hm;have r:(((n-1:Nat):Int)==(n:Int))=av:=cq;have s:((n-1:Nat):Int)<=(n:Int):=ak;have t:n-1<=cap:=ak;have v:n-1<=n:=ak;go_enter func159,ntmps159
 go_upto_region 5 with fail
 refine fq (S:=λ_=>True) trivial λz=>?_;refine tk 0 ?_;refine tk 1 ?_;refine tk 2 ?_;refine tk 3 ?_;refine tk 4 ?_;refine tk 5 ?_;refine rH 6 λK d=>?_
 (refine ya rfl rfl rfl rfl i.out ?_;simp)
 refine d.out _ _ (trivial) (λy=>?_);clear d K;refine tk 7 ?_;refine dL ?_
 (go_wp2;go_ret;exact⟨rfl,rfl⟩)
abbrev down(f:Nat->Nat)(m:Nat):Nat->Nat:=λx=>if x=0 then f m else f x
def K3{m}{f:Nat->Nat}{K:Nat->Key}(h:Hp (m+1) λx=>K (f x)):vw m (λx=>K (down f m x)) 0:=by refine⟨λx h0 b a=>?_,λh0=>by omega⟩;have:=h x h0 ak;simp only[down];rw[aK a,aK ak];exact this
def aaW{w hb ho m g cap d d' f K jq cur}{c:aQ}(B:w.heap[hb]? =aa (aA jq c (0,0)))(E:ho<jq.size)(D:w.heap[g]? =aa (aA cur 130 (0,0)))(I:m+1<=cap)(hm:cap<=cC)(hc:cur.size=cap)(i:hb≠g)(F:∀x,x<m+1->cur[x]? =aa (jp (f x)))(A:Keyed w (.slice (aa (aj g 0)) (m+1) cap) (m+1) f K)(C:∀x,x<m+1->f x≠hb):
  ∃W,((((w.drewN d).setCell (aj g 0) (jp (f m))).drewN d').setCells g m [.pointer ay]).setCell (aj hb ho) (.slice (aa (aj g 0)) m cap)=W/\W.heap[hb]? =aa (aA (jq.setIfInBounds ho (.slice (aa (aj g 0)) m cap)) c (0,0))/\
   fZ W hb ho (.slice (aa (aj g 0)) m cap) m (down f m)/\Keyed W (.slice (aa (aj g 0)) m cap) m (down f m) K/\bh (λb=>b=hb\/b=g) w W/\((((w.drewN d).setCell (aj g 0) (jp (f m))).drewN d').setCells g m [.pointer ay]).heap[hb]? =aa (aA jq c (0,0)):=by
 have g0:(w.drewN d).heap[g]? =aa (aA cur 130 (0,0)):=D;have z:(((w.drewN d).setCell (aj g 0) (jp (f m))).drewN d').heap[g]? =_:=(dF g0 0 (jp (f m)));obtain⟨q,r,s,t,G,n,u,v⟩:=uD [.pointer ay] m _ _ z;have b1:((((w.drewN d).setCell (aj g 0) (jp (f m))).drewN d').setCells g m [.pointer ay]).heap[hb]? =aa (aA jq c (0,0)):=(n hb i).trans ((cw i).trans B);have l:=dF b1 ho (.slice (aa (aj g 0)) m cap)
 have cI:bh (λb=>b=hb\/b=g) w (((((w.drewN d).setCell (aj g 0) (jp (f m))).drewN d').setCells g m [.pointer ay]).setCell (aj hb ho) (.slice (aa (aj g 0)) m cap)):=
  ⟨v,by simp;rw[u];simp,λb H j=>(cw (λe=>j (aF e))).trans ((n b λe=>j (aE e)).trans (cw λe=>j (aE e)))⟩
 refine⟨_,rfl,l,⟨aI l (by simp[E]),⟨by simp[jN],aE ⟨g,cap,q,rfl,eZ _,(cw (λe=>i e.symm)).trans r,ak,hm,by simp at s;omega,?_⟩⟩,λe=>i (by simpa[sE]using e)⟩,λx J=>?_,cI,b1⟩
 ·refine yJ λx=>?_;rw[qK];split
  ·rename_i h;have o:x<m:=ak;rw[Gj o,oC,t x (aF o)];simp only[down]
   by_cases e:x=0
   ·subst e;rw[aW rfl,Ho,aW ak]
   ·rw[aK e,dO ak];exact F x ak
  ·exact(AQ cq).symm
 ·have key:∀y,y<m+1->lT (((((w.drewN d).setCell (aj g 0) (jp (f m))).drewN d').setCells g m [.pointer ay]).setCell (aj hb ho) (.slice (aa (aj g 0)) m cap)) (f y) (K (f y))/\aa (f y)≠aa g:=λy p=>by
   obtain⟨a,b⟩:=A y p;have k:f y≠g:=λe=>b (by rw[e];rfl);exact⟨a.cI cI (λe=>e.elim (C y p) k),λe=>k (by simpa using e)⟩
  simp only[down]
  by_cases e:x=0
  ·rw[aW e];exact key m ak
  ·rw[aK e];exact key x ak
def aaV(hb ho m v f K0 jq Th w)(o:w.heap[hb]? =aa (aA jq Th (0,0)))(t:jq[ho]? =aa v)(V:Th≠130)(u:w.ownsRow 0 130 1 v (m+1) (jN (m+1) f))(hn:m<1048576)(h:Keyed w v (m+1) f K0)(W:∀x,x<m+1->f x≠hb)(U:Hp (m+1) λx=>K0 (f x)):
  Calls prog 105 #[.pointer (aa (aj hb ho))] w λe c=>e=aM (.tuple #[jp (f 0),.bool aq])/\∃z k,c.heap[hb]? =aa (aA (jq.setIfInBounds ho z) Th (0,0))/\c.ownsRow 0 130 1 z m (jN m k)/\lU m (down f m) k/\Hp m (λx=>K0 (k x))/\bh (λb=>b=hb\/aa b=v.ownBlock) w c/\z.ownBlock=v.ownBlock:=by
 have X:aa hb≠v.ownBlock:=λe=>by
  rcases u.2 with⟨s,_⟩|⟨g',aL,aN,s,_,A,_⟩
  ·rw[s]at e;cases e
  ·rw[s]at e;cases e;rw[o]at A;cases A;exact V rfl
 have l:fZ w hb ho v (m+1) f:=⟨aI o t,u,X⟩;obtain⟨g,a,R,rfl,j,E,F,Y,G,i⟩:=l.full ak;have r:=l.head;have c1:=aI j (i m ak);have fz:=bF j 0;have c2:w.cell? (aj g 0)=aa (jp (f 0)):=aI j (i 0 ak);have O:Hid (∀d,Calls prog 103 #[.pointer (aa (aj hb ho))] (w.drewN d) λe c=>e=aM (.tuple #[jp (f 0),.bool aq])/\c=w.drewN d):=λd=>RR hb ho (m+1) _ f (w.drewN d) (l.drewN d) ak;have HM:Hid (∀d d',_):=λd d'=>aaW (d:=d) (d':=d') o ((bq.1 t).1) j E F Y G i h W;obtain⟨P,C,H,I,J,L,y⟩:=HM.out 1 1
 have N:Hid (Calls prog 159 #[.slice (aa (aj g 0)) (m+1) a,an m,an ((m:Int)+1)] ((w.drewN 1).setCell (aj g 0) (jp (f m))) λe c=>e=aM (.slice (aa (aj g 0)) m a)/\c.cell? (aj hb ho)=aa (.slice (aa (aj g 0)) (m+1) a)/\c.frozen? (aj hb ho)=av/\
   (c.setCell (aj hb ho) (.slice (aa (aj g 0)) m a)).heap[hb]? =aa (aA (jq.setIfInBounds ho (.slice (aa (aj g 0)) m a)) Th (0,0))/\fZ (c.setCell (aj hb ho) (.slice (aa (aj g 0)) m a)) hb ho (.slice (aa (aj g 0)) m a) m (down f m)/\Keyed (c.setCell (aj hb ho) (.slice (aa (aj g 0)) m a)) (.slice (aa (aj g 0)) m a) m (down f m) K0/\bh (λb=>b=hb\/b=g) w (c.setCell (aj hb ho) (.slice (aa (aj g 0)) m a))):=by
  have g0:(w.drewN 1).heap[g]? =aa (aA R 130 (0,0)):=j;have key:Calls prog 159 #[.slice (aa (aj g 0)) (m+1) a,an m,an ((m:Int)+1)] ((w.drewN 1).setCell (aj g 0) (jp (f m))) λe c=>e=aM (.slice (aa (aj g 0)) m a)/\c=(((w.drewN 1).setCell (aj g 0) (jp (f m))).drewN 1).setCells g m [.pointer ay]:=Zb g (m+1) a _ _ ak E F (dF g0 0 (jp (f m))) cq;refine key.mono ?_;rintro e c ⟨rfl,rfl⟩;refine⟨rfl,aI y t,bF y ho,?_⟩;have T:((((w.drewN 1).setCell (aj g 0) (jp (f m))).drewN 1).setCells g m [.pointer ay]).setCell (aj hb ho) (.slice (aa (aj g 0)) m a)=P:=C;change(fY ((((w.drewN 1).setCell (aj g 0) (jp (f m))).drewN 1).setCells g m [.pointer ay]) ⟨hb,ho,ay⟩ (.slice (aa (aj g 0)) m a)).heap[hb]? =_/\fZ (fY ((((w.drewN 1).setCell (aj g 0) (jp (f m))).drewN 1).setCells g m [.pointer ay]) ⟨hb,ho,ay⟩ (.slice (aa (aj g 0)) m a)) _ _ _ _ _/\Keyed (fY ((((w.drewN 1).setCell (aj g 0) (jp (f m))).drewN 1).setCells g m [.pointer ay]) ⟨hb,ho,ay⟩ (.slice (aa (aj g 0)) m a)) _ _ _ _/\bh _ _ (fY ((((w.drewN 1).setCell (aj g 0) (jp (f m))).drewN 1).setCells g m [.pointer ay]) ⟨hb,ho,ay⟩ (.slice (aa (aj g 0)) m a));rw[T];exact⟨H,I,J,L⟩
 have Q:((w.drewN 1).setCell (aj g 0) (jp (f m))).cell? (aj hb ho)=aa (.slice (aa (aj g 0)) (m+1) a):=gQ r G;have aX:(m:Int)<(m:Int)+1:=ak;have aU:(0:Int)<(m:Int)+1:=ak;clear HM H I J L y i h u l j o C;go_enter func105,ntmps105
 go_upto_region 4 with(go_at_call 103;refine(O.out 0).mono ?_;rintro e w1 ⟨rfl,rfl⟩)
 refine fq (S:=λc=>c.cell? (aj hb ho)=aa (.slice (aa (aj g 0)) (m+1) a)) r λaT=>?_;refine tk 0 ?_;refine tk 1 ?_;refine tk 2 ?_;refine tk 3 ?_;refine tk 4 ?_;refine tk 5 ?_;refine tk 6 ?_;refine tk 7 ?_;refine tk 8 ?_;refine tk 9 ?_;refine rH 10 λK h=>?_;go_simp;refine h.out _ _ r (λhA=>?_);clear h K;refine tk 11 ?_;refine rH 12 λK h=>?_;go_simp;refine h.out _ _ Q (λhB=>?_);clear h K;refine dL ?_
 go_wp2_with (first
  |(go_at_call 159;refine N.out.mono ?_;rintro e w5 ⟨rfl,c5,f5,B⟩;have q:=bf B;clear B)
  |(go_at_call 160;refine(adk hb ho m 0 _ (down f m) K0 _ q.out.2.1 ak ak q.out.2.2.1 (K3 U)).mono ?_;rintro e w7 ⟨rfl,k,M,Z,r3,p⟩))
 go_ret2
 obtain⟨a1,a2,a3,n⟩:=q.out;exact⟨rfl,_,k,(p.block hb (bq.1 a1).1 M.cO).trans a1,M.row,Z,r3,⟨p.os.trans n.os,dM n.size p.size,λb D i=>(p.block b (dI D n.size) (λe=>i (aE e))).trans (n.block b D (λe=>i (e.elim aF λe=>aE (by rw[e];rfl))))⟩,rfl⟩
abbrev sS(x:UInt8):aD:=.int .u8 (x.toNat:Int)
def xS:aJ UInt8->Nat->aB UInt8->aJ UInt8
 |B,_,[]=>B
 |B,o,x::a=>xS (B.setIfInBounds o x) (o+1) a
def Sk:∀(xs:aB UInt8) (B:aJ UInt8) (o:Nat),(xS B o xs).size=B.size
 |[],_,_=>rfl
 |x::xs,B,o=>by rw[xS,Sk xs];simp
abbrev Jn(W:az)(b:Nat)(B:aJ UInt8):Prop:=W.heap[b]? =aa (aA (B.map sS) 5 (0,0))
def abj{W b B}(h:Jn W b B){i}(a:i<B.size):W.cell? (aj b i)=aa (sS B[i]):=aI h (by simp[a])
abbrev acE(c:Nat×aB UInt8):aB aD:=an (c.1:Int)::c.2.map sS
structure jF(W:az)(d bb db:Nat)(cv:aD)(n:Nat)(B D:aJ UInt8)(C:aB (Nat×aB UInt8)):Prop where
 box:W.heap[d]? =aa (aA #[.slice (aa (aj bb 0)) n n,.slice (aa (aj db 0)) n n,cv] 161 (0,0))
 bytes:Jn W bb B
 zF:Jn W db D
 cache:W.ownsRow 0 274 5 cv C.length (C.flatMap acE)
 sizes:B.size=n/\D.size=n
 fits:∀c∈C,c.1+4<=n/\c.2.length=4
 apart:bb≠db
 small:n<=65536
def Zn(d a db n off len cv B D)(C:aB (Nat×aB UInt8))(w)(h:jF w d a db cv n B D C)(q:off+len<=n):
  fK 54 #[jp d,an off,an len] w (.string ⟨B.extract off (off+len)⟩):=by
 have i:=aS w d 0 (.slice (aa (aj a 0)) n n) h.box
 obtain⟨A,c⟩:∃A:bZ,(if n=off then aa (⟨a,0,ay⟩:bZ)else aa ⟨a,off,ay⟩)=aa A:=by
  by_cases e:n=off
  ·exact⟨_,aW e⟩
  ·exact⟨_,aK e⟩
 have r:=h.small;have s:=h.sizes.1
 have m:∀b,(convert 158 9 (.slice (aa A) len b)).run prog w=.ok (.string ⟨B.extract off (off+len)⟩) w:=λb=>by
  have f:(B.extract off (off+len)).toList.length=len:=cq
  have:=Bt w 158 9 5 A b (B.extract off (off+len)).toList underlying158 underlying5 underlying9 (λj o=>by have p:j<len:=ak;have g:¬n=off:=ak;rw[aK g]at c;cases c;rw[Hh,abj h.bytes ak];simp)
  rw[f]at this;exact this
 have k:((off:Int)+(len:Int))<=(n:Int):=ak;have l:(off:Int)<=(off:Int)+(len:Int):=ak
 trace_state
 go_enter func54,ntmps54;go_wp2;go_ret;exact⟨rfl,rfl⟩
def aat(l:aB UInt8):∀u∈l.map sS,u.oneCell'=aq:=λu a=>by obtain⟨x,_,rfl⟩:=ku.1 a;rfl
def acu{P}(w:az)(c n p d:aQ)(b o a f:Nat)(t:ByteArray)(l:aB UInt8)(k:P.underlying c=aa (.slice d))(m:∀w,(No d).run P w=.ok 1 w)(g:t.data.toList.take a=l)
  (hc:∀j,j<l.length->(w.cell? (aj b (o+j))).isSome=aq) (hf:∀j,j<l.length->w.frozen? (aj b (o+j))=av):
  ∃r,(Dn #[c,n] p #[.slice (aa (aj b o)) a f,.string t]).run P w=.ok r (w.setCells b o (l.map sS)):=by
 have e:=Xc (P:=P) b o (l.map sS) 0 w (by simpa using hc) (by simpa using hf) (aat l);simp at e;have q:t.data.toList.length=t.size:=rfl
 have i:List.take (Nat.min t.size a) (t.data.toList.map sS)=l.map sS:=by
  rw[<-List.map_take,<-g]
  congr 1
  by_cases h:t.size<=a
  ·rw[show Nat.min t.size a=t.size from wR h,uX ak,uX ak]
  ·rw[show Nat.min t.size a=a from Nat.min_eq_right ak]
 refine⟨goInt (Nat.min t.size a),?_⟩;simp[Dn,xg k,Dp,Builtin.firstCells,m];rw[show List.take (t.size.min a) (List.map (λb=>Value.int IntKind.u8 ↑b.toNat) t.data.toList)=l.map sS from i,e];rfl
def adp(w):(No 5).run prog w=.ok 1 w:=by obtain⟨e,a,c,b,d⟩:=qO infoByte;simp[No,typeInfo,a,b]
def secs(off:Nat)(s:aB UInt8)(q:Nat):aB (Nat×aB UInt8):=(dH q).map λi=>(off+4*i,(s.drop (4*i)).take 4)
def jF.below{w w' d bb db n cv B D C}(h:jF w d bb db cv n B D C)(a:aN w w'):jF w' d bb db cv n B D C:=by
 refine⟨bW a h.box,bW a h.bytes,bW a h.zF,⟨h.cache.1,?_⟩,h.sizes,h.fits,h.apart,h.small⟩;rcases h.cache.2 with b|⟨g,c,e,b,f,i,j⟩
 ·exact aF b
 ·exact aE ⟨g,c,e,b,f,bW a i,j⟩
def Q8(D:aJ UInt8)(C:aB (Nat×aB UInt8)):aJ UInt8:=C.foldl (λD c=>xS D c.1 c.2) D
def J4(off a:Nat)(c:Nat×aB UInt8):Bool:=decide (off<=c.1)&&decide (c.1<a)
abbrev stay(off a:Nat)(C:aB (Nat×aB UInt8)):aB (Nat×aB UInt8):=C.filter λc=>!J4 off a c
structure Rq where
 m:bg
 no:Int
abbrev aO(r:Rq):aJ aD:=#[an r.m.wh,.string r.m.nm,an r.m.kd,an r.m.fl,an r.m.ck,an r.m.of,an r.m.ln,.string r.m.dt,an r.m.er,an r.no]
structure Rq.Ok(r:Rq):Prop where
 of0:0<=r.m.of
 of1:r.m.of<=65535
 mL:0<=r.m.ln
 qx:r.m.ln<=65535
def Rq.touch(a b:Rq):Bool:=!(decide (a.m.kd=0)&&decide (b.m.kd=0))&&(decide (a.m.of<b.m.of+b.m.ln)&&decide (b.m.of<a.m.of+a.m.ln))
def Gs(m w)(h0:0<=m.ln)(h:m.ln<=65535):
  bN 201 #[.agg (fP m)] w (an (sizeOf' m)):=by
 obtain⟨j,i,b,g,c,of,ln,d,f⟩:=m;dsimp only at h0 h⊢
 by_cases a:b=0
 ·subst a;go_enter func201,ntmps201;go_wp2;go_ret;exact⟨rfl,bp⟩
 ·have k:(b==0)=av:=by simp[a]
  have e:sizeOf' ⟨j,i,b,g,c,of,ln,d,f⟩=4:=by simp[sizeOf',a]
  rw[e];go_enter func201,ntmps201;go_wp2;go_ret;exact⟨rfl,bp⟩
def Tm(r w):
  bN 206 #[.agg (aO r)] w (an (bY r.m)):=by
 obtain⟨⟨i,h,b,g,c,of,ln,d,f⟩,no⟩:=r
 by_cases a:b=2
 ·subst a;go_enter func206,ntmps206;go_wp2;go_ret;exact⟨rfl,bp⟩
 ·have j:(b==2)=av:=by simp[a]
  have e:bY ⟨i,h,b,g,c,of,ln,d,f⟩=ln:=by simp[bY,a]
  rw[e];go_enter func206,ntmps206;go_wp2;go_ret;exact⟨rfl,bp⟩
def rE(r w)(h:r.Ok):
  bN 268 #[.agg (aO r)] w (an (r.m.of+r.m.ln)):=by
 obtain⟨h0,a,b,c⟩:=h;obtain⟨⟨k,j,i,g,d,of,ln,e,f⟩,no⟩:=r;dsimp only at h0 a b c⊢;go_enter func268,ntmps268;go_wp2;go_ret;exact⟨rfl,bp⟩
def bH{P ops Q b S oi fuel listed a a' w}(i)(h:wpAnyH P b ops Q S fuel (listed.setIfInBounds i aq) a' w)(hS:S w:=by assumption) (f:ops[i]? =aa oi:=by rfl) (g:Region.noSelect ops=aq:=by kernel_rfl) (hf:Region.free b ops listed i=aq:=by kernel_rfl) (hr:(Region.ready b ops listed).contains i=aq:=by kernel_rfl) (d:∀c a w,Q (.panic c) (a.put oi.dst au) w->Q (.panic c) a w:=by exact λ_ _ _ h=>h) (j:dg oi (yielded ops a.tmps)=av:=by rfl) (e:a.put oi.dst au=a':=by(first|(simp only[Act.put,uS,nP,qL,rW,rY,rX];rfl)|rfl)):wpAnyH P b ops Q S (fuel+1) listed a w:=
 wpAnyH_take f g hf hr d (aE ⟨j,rfl⟩) hS (e▸h)
abbrev cu(W:az)(b:Nat)(r:Rq):Prop:=
 W.cell? (aj b 0)=aa (an r.m.wh)/\W.cell? (aj b 1)=aa (.string r.m.nm)/\W.cell? (aj b 2)=aa (an r.m.kd)/\W.cell? (aj b 3)=aa (an r.m.fl)/\W.cell? (aj b 4)=aa (an r.m.ck)/\W.cell? (aj b 5)=aa (an r.m.of)/\W.cell? (aj b 6)=aa (an r.m.ln)/\W.cell? (aj b 7)=aa (.string r.m.dt)/\W.cell? (aj b 8)=aa (an r.m.er)/\W.cell? (aj b 9)=aa (an r.no)
def cu.of{W b r}(h:W.heap[b]? =aa (aA (aO r) 134 (0,0))):cu W b r:=
 ⟨aI h rfl,aI h rfl,aI h rfl,aI h rfl,aI h rfl,aI h rfl,aI h rfl,aI h rfl,aI h rfl,aI h rfl⟩
def UQ(a b w)(R:a.Ok)(T:b.Ok):
  bN 241 #[.agg (aO a),.agg (aO b)] w (.bool (a.touch b)):=by
 have N:aN w ((w.alloc (aA (aO a) 134)).alloc (aA (aO b) 134)):=bp.alloc aC _;have O:((w.alloc (aA (aO a) 134)).alloc (aA (aO b) 134)).heap[w.heap.size]? =aa (aA (aO a) 134 (0,0)):=(Below.heap_alloc _ _ _ aC).trans (cG w _)
 have P:((w.alloc (aA (aO a) 134)).alloc (aA (aO b) 134)).heap[w.heap.size+1]? =aa (aA (aO b) 134 (0,0)):=by have:=cG (w.alloc (aA (aO a) 134)) (aA (aO b) 134);simpa using this
 have B:Hid (∀W,Below ((w.alloc (aA (aO a) 134)).alloc (aA (aO b) 134)).heap.size ((w.alloc (aA (aO a) 134)).alloc (aA (aO b) 134)) W->cu W w.heap.size a/\cu W (w.heap.size+1) b):=λW Q=>⟨cu.of (bW Q O),cu.of (bW Q P)⟩;have F:=B.out _ (Below.refl _ _);have x:Hid (a.Ok/\b.Ok/\aN w ((w.alloc (aA (aO a) 134)).alloc (aA (aO b) 134))):=⟨R,T,N⟩;clear O P R T N;obtain⟨⟨v,u,z,t,q,of,ln,r,s⟩,no⟩:=a;obtain⟨⟨p,n,i,m,j,d,f,k,l⟩,o⟩:=b
 by_cases U:z=0/\i=0
 ·obtain⟨rfl,rfl⟩:=U;have e:Rq.touch ⟨⟨v,u,0,t,q,of,ln,r,s⟩,no⟩ ⟨⟨p,n,0,m,j,d,f,k,l⟩,o⟩=av:=by simp[Rq.touch]
  rw[e];go_enter func241,ntmps241;go_wp2;go_ret;exact⟨rfl,x.out.2.2⟩
 ·by_cases L:z=0
  ·subst L;have V:¬i=0:=λh=>U ⟨rfl,h⟩;have X:(i==0)=av:=by simp[V]
   have e:Rq.touch ⟨⟨v,u,0,t,q,of,ln,r,s⟩,no⟩ ⟨⟨p,n,i,m,j,d,f,k,l⟩,o⟩=(decide (of<d+f)&&decide (d<of+ln)):=by simp[Rq.touch,V]
   rw[e]
   by_cases E:of<d+f
   ·by_cases G:d<of+ln
    ·rw[iC E,iC G];go_enter func241,ntmps241
     go_upto_region 3 with fail
     refine fq (S:=λW=>cu W w.heap.size ⟨⟨v,u,0,t,q,of,ln,r,s⟩,no⟩/\cu W (w.heap.size+1) ⟨⟨p,n,i,m,j,d,f,k,l⟩,o⟩) F λI=>?_;refine tk 0 ?_;refine tk 1 ?_;refine tk 2 ?_;refine tk 3 ?_;refine rH 4 λK g=>?_;go_simp;go_at_call 268;refine(rE ⟨⟨p,n,i,m,j,d,f,k,l⟩,o⟩ _ x.out.2.1).mono ?_;rintro e D ⟨rfl,c⟩;have y:Hid (Below ((w.alloc (aA (aO ⟨⟨v,u,0,t,q,of,ln,r,s⟩,no⟩) 134)).alloc (aA (aO ⟨⟨p,n,i,m,j,d,f,k,l⟩,o⟩) 134)).heap.size ((w.alloc (aA (aO ⟨⟨v,u,0,t,q,of,ln,r,s⟩,no⟩) 134)).alloc (aA (aO ⟨⟨p,n,i,m,j,d,f,k,l⟩,o⟩) 134)) D):=⟨c.os,c.tape,c.output,c.size,c.block⟩;refine g.out _ _ (B.out _ y.out) (λH=>?_);clear g K c;refine tk 5 ?_;refine tk 6 ?_;refine tk 7 ?_;refine tk 8 ?_;refine tk 9 ?_;refine tk 10 ?_;refine rH 11 λK g=>?_;go_simp;go_at_call 268;refine(rE ⟨⟨v,u,0,t,q,of,ln,r,s⟩,no⟩ _ x.out.1).mono ?_;rintro e M ⟨rfl,C⟩;have A:=bf (y.out.trans (C.mono y.out.size));refine g.out _ _ (B.out _ A.out) (λJ=>?_);clear g K C;refine tk 12 ?_;refine tk 13 ?_;refine tk 14 ?_;refine dL ?_;go_wp2;go_ret;exact⟨rfl,x.out.2.2.trans (A.out.mono x.out.2.2.size)⟩
    ·rw[iC E,iB G];go_enter func241,ntmps241
     go_upto_region 3 with fail
     refine fq (S:=λW=>cu W w.heap.size ⟨⟨v,u,0,t,q,of,ln,r,s⟩,no⟩/\cu W (w.heap.size+1) ⟨⟨p,n,i,m,j,d,f,k,l⟩,o⟩) F λI=>?_;refine tk 0 ?_;refine tk 1 ?_;refine tk 2 ?_;refine tk 3 ?_;refine rH 4 λK g=>?_;go_simp;go_at_call 268;refine(rE ⟨⟨p,n,i,m,j,d,f,k,l⟩,o⟩ _ x.out.2.1).mono ?_;rintro e D ⟨rfl,c⟩;have y:Hid (Below ((w.alloc (aA (aO ⟨⟨v,u,0,t,q,of,ln,r,s⟩,no⟩) 134)).alloc (aA (aO ⟨⟨p,n,i,m,j,d,f,k,l⟩,o⟩) 134)).heap.size ((w.alloc (aA (aO ⟨⟨v,u,0,t,q,of,ln,r,s⟩,no⟩) 134)).alloc (aA (aO ⟨⟨p,n,i,m,j,d,f,k,l⟩,o⟩) 134)) D):=⟨c.os,c.tape,c.output,c.size,c.block⟩;refine g.out _ _ (B.out _ y.out) (λH=>?_);clear g K c;refine tk 5 ?_;refine tk 6 ?_;refine tk 7 ?_;refine tk 8 ?_;refine tk 9 ?_;refine tk 10 ?_;refine rH 11 λK g=>?_;go_simp;go_at_call 268;refine(rE ⟨⟨v,u,0,t,q,of,ln,r,s⟩,no⟩ _ x.out.1).mono ?_;rintro e M ⟨rfl,C⟩;have A:=bf (y.out.trans (C.mono y.out.size));refine g.out _ _ (B.out _ A.out) (λJ=>?_);clear g K C;refine tk 12 ?_;refine tk 13 ?_;refine tk 14 ?_;refine dL ?_;go_wp2;go_ret;exact⟨rfl,x.out.2.2.trans (A.out.mono x.out.2.2.size)⟩
   ·rw[iB E];go_enter func241,ntmps241
    go_upto_region 3 with fail
    refine fq (S:=λW=>cu W w.heap.size ⟨⟨v,u,0,t,q,of,ln,r,s⟩,no⟩/\cu W (w.heap.size+1) ⟨⟨p,n,i,m,j,d,f,k,l⟩,o⟩) F λI=>?_;refine tk 0 ?_;refine tk 1 ?_;refine tk 2 ?_;refine tk 3 ?_;refine rH 4 λK g=>?_;go_simp;go_at_call 268;refine(rE ⟨⟨p,n,i,m,j,d,f,k,l⟩,o⟩ _ x.out.2.1).mono ?_;rintro e D ⟨rfl,c⟩;have y:Hid (Below ((w.alloc (aA (aO ⟨⟨v,u,0,t,q,of,ln,r,s⟩,no⟩) 134)).alloc (aA (aO ⟨⟨p,n,i,m,j,d,f,k,l⟩,o⟩) 134)).heap.size ((w.alloc (aA (aO ⟨⟨v,u,0,t,q,of,ln,r,s⟩,no⟩) 134)).alloc (aA (aO ⟨⟨p,n,i,m,j,d,f,k,l⟩,o⟩) 134)) D):=⟨c.os,c.tape,c.output,c.size,c.block⟩;refine g.out _ _ (B.out _ y.out) (λH=>?_);clear g K c;refine tk 5 ?_;refine tk 6 ?_;refine bH 7 ?_;refine bH 8 ?_;refine bH 9 ?_;refine bH 10 ?_;refine bH 11 ?_;refine bH 12 ?_;refine tk 13 ?_;refine tk 14 ?_;refine dL ?_;go_wp2;go_ret;exact⟨rfl,x.out.2.2.trans (y.out.mono x.out.2.2.size)⟩
  ·have X:(z==0)=av:=by simp[L]
   have e:Rq.touch ⟨⟨v,u,z,t,q,of,ln,r,s⟩,no⟩ ⟨⟨p,n,i,m,j,d,f,k,l⟩,o⟩=(decide (of<d+f)&&decide (d<of+ln)):=by simp[Rq.touch,L]
   rw[e]
   by_cases E:of<d+f
   ·by_cases G:d<of+ln
    ·rw[iC E,iC G];go_enter func241,ntmps241
     go_upto_region 3 with fail
     refine fq (S:=λW=>cu W w.heap.size ⟨⟨v,u,z,t,q,of,ln,r,s⟩,no⟩/\cu W (w.heap.size+1) ⟨⟨p,n,i,m,j,d,f,k,l⟩,o⟩) F λI=>?_;refine tk 0 ?_;refine tk 1 ?_;refine tk 2 ?_;refine tk 3 ?_;refine rH 4 λK g=>?_;go_simp;go_at_call 268;refine(rE ⟨⟨p,n,i,m,j,d,f,k,l⟩,o⟩ _ x.out.2.1).mono ?_;rintro e D ⟨rfl,c⟩;have y:Hid (Below ((w.alloc (aA (aO ⟨⟨v,u,z,t,q,of,ln,r,s⟩,no⟩) 134)).alloc (aA (aO ⟨⟨p,n,i,m,j,d,f,k,l⟩,o⟩) 134)).heap.size ((w.alloc (aA (aO ⟨⟨v,u,z,t,q,of,ln,r,s⟩,no⟩) 134)).alloc (aA (aO ⟨⟨p,n,i,m,j,d,f,k,l⟩,o⟩) 134)) D):=⟨c.os,c.tape,c.output,c.size,c.block⟩;refine g.out _ _ (B.out _ y.out) (λH=>?_);clear g K c;refine tk 5 ?_;refine tk 6 ?_;refine tk 7 ?_;refine tk 8 ?_;refine tk 9 ?_;refine tk 10 ?_;refine rH 11 λK g=>?_;go_simp;go_at_call 268;refine(rE ⟨⟨v,u,z,t,q,of,ln,r,s⟩,no⟩ _ x.out.1).mono ?_;rintro e M ⟨rfl,C⟩;have A:=bf (y.out.trans (C.mono y.out.size));refine g.out _ _ (B.out _ A.out) (λJ=>?_);clear g K C;refine tk 12 ?_;refine tk 13 ?_;refine tk 14 ?_;refine dL ?_;go_wp2;go_ret;exact⟨rfl,x.out.2.2.trans (A.out.mono x.out.2.2.size)⟩
    ·rw[iC E,iB G];go_enter func241,ntmps241
     go_upto_region 3 with fail
     refine fq (S:=λW=>cu W w.heap.size ⟨⟨v,u,z,t,q,of,ln,r,s⟩,no⟩/\cu W (w.heap.size+1) ⟨⟨p,n,i,m,j,d,f,k,l⟩,o⟩) F λI=>?_;refine tk 0 ?_;refine tk 1 ?_;refine tk 2 ?_;refine tk 3 ?_;refine rH 4 λK g=>?_;go_simp;go_at_call 268;refine(rE ⟨⟨p,n,i,m,j,d,f,k,l⟩,o⟩ _ x.out.2.1).mono ?_;rintro e D ⟨rfl,c⟩;have y:Hid (Below ((w.alloc (aA (aO ⟨⟨v,u,z,t,q,of,ln,r,s⟩,no⟩) 134)).alloc (aA (aO ⟨⟨p,n,i,m,j,d,f,k,l⟩,o⟩) 134)).heap.size ((w.alloc (aA (aO ⟨⟨v,u,z,t,q,of,ln,r,s⟩,no⟩) 134)).alloc (aA (aO ⟨⟨p,n,i,m,j,d,f,k,l⟩,o⟩) 134)) D):=⟨c.os,c.tape,c.output,c.size,c.block⟩;refine g.out _ _ (B.out _ y.out) (λH=>?_);clear g K c;refine tk 5 ?_;refine tk 6 ?_;refine tk 7 ?_;refine tk 8 ?_;refine tk 9 ?_;refine tk 10 ?_;refine rH 11 λK g=>?_;go_simp;go_at_call 268;refine(rE ⟨⟨v,u,z,t,q,of,ln,r,s⟩,no⟩ _ x.out.1).mono ?_;rintro e M ⟨rfl,C⟩;have A:=bf (y.out.trans (C.mono y.out.size));refine g.out _ _ (B.out _ A.out) (λJ=>?_);clear g K C;refine tk 12 ?_;refine tk 13 ?_;refine tk 14 ?_;refine dL ?_;go_wp2;go_ret;exact⟨rfl,x.out.2.2.trans (A.out.mono x.out.2.2.size)⟩
   ·rw[iB E];go_enter func241,ntmps241
    go_upto_region 3 with fail
    refine fq (S:=λW=>cu W w.heap.size ⟨⟨v,u,z,t,q,of,ln,r,s⟩,no⟩/\cu W (w.heap.size+1) ⟨⟨p,n,i,m,j,d,f,k,l⟩,o⟩) F λI=>?_;refine tk 0 ?_;refine tk 1 ?_;refine tk 2 ?_;refine tk 3 ?_;refine rH 4 λK g=>?_;go_simp;go_at_call 268;refine(rE ⟨⟨p,n,i,m,j,d,f,k,l⟩,o⟩ _ x.out.2.1).mono ?_;rintro e D ⟨rfl,c⟩;have y:Hid (Below ((w.alloc (aA (aO ⟨⟨v,u,z,t,q,of,ln,r,s⟩,no⟩) 134)).alloc (aA (aO ⟨⟨p,n,i,m,j,d,f,k,l⟩,o⟩) 134)).heap.size ((w.alloc (aA (aO ⟨⟨v,u,z,t,q,of,ln,r,s⟩,no⟩) 134)).alloc (aA (aO ⟨⟨p,n,i,m,j,d,f,k,l⟩,o⟩) 134)) D):=⟨c.os,c.tape,c.output,c.size,c.block⟩;refine g.out _ _ (B.out _ y.out) (λH=>?_);clear g K c;refine tk 5 ?_;refine tk 6 ?_;refine bH 7 ?_;refine bH 8 ?_;refine bH 9 ?_;refine bH 10 ?_;refine bH 11 ?_;refine bH 12 ?_;refine tk 13 ?_;refine tk 14 ?_;refine dL ?_;go_wp2;go_ret;exact⟨rfl,x.out.2.2.trans (y.out.mono x.out.2.2.size)⟩
def l9{α:Type}(F:α->aB aD)(k)(hF:∀x,(F x).length=k):∀(l:aB α) (i:Nat) (x:α),l[i]? =aa x->∀j,j<k->(l.flatMap F)[i*k+j]? =(F x)[j]? :=by
 intro l;induction l with
 |nil=>intro i x h;simp at h
 |cons c l d=>
  intro i x h j b;rw[DL];cases i with
  |zero=>
   have e:c=x:=by simpa using h
   rw[List.getElem?_append_left (by grind),wS,fX,e]
  |succ i=>
   have a:(i+1) *k+j=k+(i*k+j):=by grind
   rw[a,uR (by grind),hF,wQ];exact d i x (by simpa using h) j b
abbrev iX(w:az)(v:aD)(q:aB Rq):Prop:=w.ownsRow 0 134 10 v q.length (q.flatMap λr=>(aO r).toList)
def iX.form{w v q}(h:iX w v q):∃a b,v=.slice a q.length b/\q.length<=b/\b<=cC:=by
 rcases h.2 with⟨c,d⟩|⟨g,b,i,c,_,_,e,f,_⟩
 ·exact⟨ay,0,by rw[c,d],ak,by unfold cC;omega⟩
 ·exact⟨_,b,c,e,f⟩
def iX.at {w a n cap q}(h:iX w (.slice a n cap) q){i r}(d:q[i]? =aa r):∃g,a=aa ⟨g,0,ay⟩/\
  (w.cell? (aj g (i*10))=aa (an r.m.wh)/\w.cell? (aj g (i*10+1))=aa (.string r.m.nm)/\w.cell? (aj g (i*10+2))=aa (an r.m.kd)/\w.cell? (aj g (i*10+3))=aa (an r.m.fl)/\w.cell? (aj g (i*10+4))=aa (an r.m.ck)/\w.cell? (aj g (i*10+5))=aa (an r.m.of)/\w.cell? (aj g (i*10+6))=aa (an r.m.ln)/\w.cell? (aj g (i*10+7))=aa (.string r.m.dt)/\w.cell? (aj g (i*10+8))=aa (an r.m.er)/\w.cell? (aj g (i*10+9))=aa (an r.no)):=by
 have p:i<q.length:=(dS.1 d).1;rcases h.2 with⟨c,b⟩|⟨g,l,e,c,_,b,_,_,o,f⟩
 ·omega
 ·cases c
  have cell:∀j,j<10->e[i*10+j]? =(aO r).toList[j]? :=λj k=>by rw[<-l9 (λr=>(aO r).toList) 10 (λ_=>rfl) q i r d j k,<-f,qK,aW ak,oC]
  exact⟨g,rfl,aI b (cell 0 ak),aI b (cell 1 ak),aI b (cell 2 ak),aI b (cell 3 ak),aI b (cell 4 ak),aI b (cell 5 ak),aI b (cell 6 ak),aI b (cell 7 ak),aI b (cell 8 ak),aI b (cell 9 ak)⟩
abbrev ME(r:Rq):aD:=.func (.func 241) #[.agg (aO r)] #[]
def O2(v q r w)(h:iX w v q)(hr:r.Ok)(y:∀x∈q,x.Ok)(J:q.length<=1048576):
  Calls prog 282 #[v,ME r] w λe l=>aN w l/\∃i:Int,e=aM (an i)/\decide (0<=i)=q.any (r.touch ·):=by
 obtain⟨a,u,rfl,G,hm⟩:=h.form;generalize C:q.any (r.touch ·)=B;have t:=bf C;have m:Hid (iX w (.slice a q.length u) q/\r.Ok/\∀x∈q,x.Ok):=⟨h,hr,y⟩;clear h hr y;go_enter func282,ntmps282;go_wp2
 go_loopw [8] (λs wr=>∃i:Nat,i<=q.length/\s=an (i:Int)/\Hid (aN w wr/\∀j x,j<i->q[j]? =aa x->r.touch x=av)) (λs _=>q.length-(eY s).toNat)
 case atStart=>exact⟨0,eZ _,rfl,Below.refl _ _,λj c k=>by omega⟩
 case round=>
  obtain⟨i,H,rfl,hR⟩:=hrel
  by_cases E:i<q.length
  ·have A:(i:Int)<(q.length:Int):=ak;obtain⟨x,b⟩:∃x,q[i]? =aa x:=⟨q[i],eI E⟩;have z:iX wr (.slice a q.length u) q:=zW m.out.1 hR.out.1;obtain⟨g,rfl,K,L,M,N,O,P,Q,R,S,T⟩:=z.at b
   have d:Hid (Calls prog 241 #[.agg (aO r),.agg (aO x)] wr λe l=>e=aM (.bool (r.touch x))/\aN w l):=by refine(UQ r x wr m.out.2.1 (m.out.2.2 x (lf b))).mono ?_;rintro e l ⟨rfl,D⟩;exact⟨rfl,hR.out.1.trans (D.mono hR.out.1.size)⟩
   clear z;cases f:r.touch x with
   |true=>
    have n:q.any (r.touch ·)=aq:=rS.2 ⟨x,lf b,f⟩;rw[f]at d;go_wp2_with (go_at_call 241;refine d.out.mono ?_;rintro e F ⟨rfl,o⟩);go_ret;exact⟨o,(i:Int),rfl,by rw[<-t.out,n];simp⟩
   |false=>
    rw[f]at d;go_wp2_with (go_at_call 241;refine d.out.mono ?_;rintro e F ⟨rfl,o⟩);refine⟨⟨i+1,ak,by go_num,o,λj c k p=>?_⟩,?_⟩
    ·by_cases e:j=i
     ·subst e;rw[b]at p;cases p;exact f
     ·exact hR.out.2 j c ak p
    ·simp[eY];omega
  ·have A:¬(i:Int)<(q.length:Int):=ak
   have n:q.any (r.touch ·)=av:=by rw[AO];intro x b;obtain⟨j,k⟩:=tM.1 b;have I:j<q.length:=(dS.1 k).1;rw[hR.out.2 j x ak k];simp
   go_wp2;go_ret;exact⟨hR.out.1,-1,rfl,by rw[<-t.out,n];rfl⟩
def YG(v q r w)(h:iX w v q)(hr:r.Ok)(f:∀x∈q,x.Ok)(d:q.length<=1048576):
  bN 267 #[v,ME r] w (.bool (q.any (r.touch ·))):=by
 generalize a:q.any (r.touch ·)=B;go_enter func267,ntmps267;go_wp2_with (go_at_call 282;refine(bf (a▸O2 v q r w h hr f d)).out.mono ?_;rintro e g ⟨b,i,rfl,c⟩);go_ret;exact⟨by rw[<-c];rfl,b⟩
structure Ft where
 delay:Int
 eU:Bool
 part:Int
abbrev Cp(c:Nat)(rv:aD)(f:Ft)(due a:Int):aJ aD:=#[jp c,rv,an f.delay,.bool f.eU,an f.part,an due,an a]
structure eP(W:az)(j c:Nat)(rv:aD)(q:aB Rq)(f:Ft)(due order:Int):Prop where
 box:W.heap[j]? =aa (aA (Cp c rv f due order) 217 (0,0))
 row:iX W rv q
def eP.key{W j c rv q f due order}(h:eP W j c rv q f due order):lT W j (due,order):=⟨aI h.box rfl,aI h.box rfl⟩
def eP.below{w w' j c rv q f due order}(h:eP w j c rv q f due order)(a:aN w w'):eP w' j c rv q f due order:=⟨bW a h.box,zW h.row a⟩
def eP.drewN{w j c rv q f due order}(h:eP w j c rv q f due order)(d):eP (w.drewN d) j c rv q f due order:=⟨h.box,h.row⟩
def Q0(j c rv q)(f:Ft)(due order now w)(h:eP w j c rv q f due order):
  fK 104 #[jp j,an now] w (.bool (decide (due<=now))):=by
 have a:=aS w j 5 (an due) h.box;go_enter func104,ntmps104;go_wp2;go_ret;exact⟨rfl,rfl⟩
def Q4(j c rv q)(f:Ft)(due order r w)(h:eP w j c rv q f due order)(hr:r.Ok)(p:∀x∈q,x.Ok)(u:q.length<=1048576):
  bN 240 #[jp j,.agg (aO r)] w (.bool (q.any (r.touch ·))):=by
 have b:aN w (w.alloc (aA (aO r) 134)):=bp;have i:(w.alloc (aA (aO r) 134)).heap[w.heap.size]? =aa (aA (aO r) 134 (0,0)):=cG w _;have g:Hid (∀W,aN (w.alloc (aA (aO r) 134)) W->W.cell? (aj j 1)=aa rv/\cu W w.heap.size r):=λW n=>⟨aI (bW n (bW b h.box)) rfl,cu.of (bW n i)⟩;have z:=g.out _ (Below.refl _ _);generalize l:q.any (r.touch ·)=B
 have t:Hid (∀k,Calls prog 267 #[rv,ME r] ((w.alloc (aA (aO r) 134)).drewN k) λe s=>e=aM (.bool B)/\aN (w.alloc (aA (aO r) 134)) s):=λk=>by rw[<-l];refine(YG rv q r _ ((h.below b).drewN k).row hr p u).mono ?_;rintro e s ⟨rfl,a⟩;exact⟨rfl,a.os,a.tape,a.output,a.size,a.block⟩
 have d:=bf b;obtain⟨v,y,rfl,_⟩:=h.row.form;clear h hr p i b l;go_enter func240,ntmps240
 go_upto_region 1 with fail
 refine fq (S:=λW=>W.cell? (aj j 1)=aa (.slice v q.length y)/\cu W w.heap.size r) z λC=>?_;refine tk 0 ?_;refine tk 1 ?_;refine tk 2 ?_;refine tk 3 ?_;refine tk 4 ?_;refine tk 5 ?_;refine rH 6 λK m=>?_;go_simp;go_at_call 267;refine(t.out 1).mono ?_;rintro e D ⟨rfl,o⟩;refine m.out _ _ (g.out _ o) (λA=>?_);clear m K;refine tk 7 ?_;refine dL ?_;go_wp2;go_ret;exact⟨rfl,d.out.trans (o.mono d.out.size)⟩
def iu{W:az}{a b o x:Nat}{u v:aD}(h:W.drew.cell? (aj a o)=aa v)(c:a≠b):(W.setCell (aj b x) u).drew.cell? (aj a o)=aa v:=by exact gQ h c
def eP.drew{w j c rv q f due order}(h:eP w j c rv q f due order):eP w.drew j c rv q f due order:=⟨h.box,h.row⟩
def bh.drew{X w W}(h:bh X w W):bh X w W.drew:=⟨h.os,h.size,h.block⟩
abbrev ep(f:Ft):aJ aD:=#[an f.delay,.bool f.eU,an f.part]
def afj(j c rv q)(f0 f:Ft)(Qj SY l order w)(h:eP w j c rv q f0 Qj SY)(h0:0<=l)(L:l<=281474976710656)(y:0<=f.delay)(z:f.delay<=65535):
  Calls prog 210 #[jp j,an l,an order,.agg (ep f)] w λe A=>e=aM (.tuple #[])/\eP A j c rv q f (l+f.delay) order/\bh (·=j) w A:=by
 obtain⟨a,d,part⟩:=f;dsimp only at y z;have r:aN w (w.alloc (aA (ep ⟨a,d,part⟩) 188)):=bp;have n:(w.alloc (aA (ep ⟨a,d,part⟩) 188)).heap[w.heap.size]? =aa (aA (ep ⟨a,d,part⟩) 188 (0,0)):=cG w _;have hj:j<w.heap.size:=(bq.1 h.box).1;have m:=bW r h.box;have s:(w.alloc (aA (ep ⟨a,d,part⟩) 188)).cell? (aj w.heap.size 0)=aa (an a)/\(w.alloc (aA (ep ⟨a,d,part⟩) 188)).cell? (aj w.heap.size 1)=aa (.bool d)/\(w.alloc (aA (ep ⟨a,d,part⟩) 188)).cell? (aj w.heap.size 2)=aa (an part):=⟨aI n rfl,aI n rfl,aI n rfl⟩;have i:w.heap.size≠j:=ak;have Q:=aS (w.alloc (aA (ep ⟨a,d,part⟩) 188)) j 2 (an f0.delay) m;have R:=aS (w.alloc (aA (ep ⟨a,d,part⟩) 188)) j 3 (.bool f0.eU) m;have T:=aS (w.alloc (aA (ep ⟨a,d,part⟩) 188)) j 4 (an f0.part) m;have U:=aS (w.alloc (aA (ep ⟨a,d,part⟩) 188)) j 5 (an Qj) m;have V:=aS (w.alloc (aA (ep ⟨a,d,part⟩) 188)) j 6 (an SY) m;have X:∀k,(w.alloc (aA (ep ⟨a,d,part⟩) 188)).frozen? (aj j k)=av:=λk=>bF m k
 have x:Hid (eP ((((((w.alloc (aA (ep ⟨a,d,part⟩) 188)).setCell (aj j 2) (an a)).setCell (aj j 3) (.bool d)).setCell (aj j 4) (an part)).setCell (aj j 5) (an (dJ.wrap (l+a)))).setCell (aj j 6) (an order)) j c rv q ⟨a,d,part⟩ (dJ.wrap (l+a)) order/\bh (·=j) w ((((((w.alloc (aA (ep ⟨a,d,part⟩) 188)).setCell (aj j 2) (an a)).setCell (aj j 3) (.bool d)).setCell (aj j 4) (an part)).setCell (aj j 5) (an (dJ.wrap (l+a)))).setCell (aj j 6) (an order))):=by
  have F:=dF m 2 (an a);have G:=dF F 3 (.bool d);have H:=dF G 4 (an part);have I:=dF H 5 (an (dJ.wrap (l+a)));have J:=dF I 6 (an order);have off:∀b,b≠j->((((((w.alloc (aA (ep ⟨a,d,part⟩) 188)).setCell (aj j 2) (an a)).setCell (aj j 3) (.bool d)).setCell (aj j 4) (an part)).setCell (aj j 5) (an (dJ.wrap (l+a)))).setCell (aj j 6) (an order)).heap[b]? =(w.alloc (aA (ep ⟨a,d,part⟩) 188)).heap[b]? :=λb p=>(cw p).trans ((cw p).trans ((cw p).trans ((cw p).trans (cw p))));refine⟨⟨J,(h.below r).row.1,?_⟩,⟨r.os,aC,λb p M=>(off b M).trans (r.block b p)⟩⟩;rcases(h.below r).row.2 with u|⟨g,C,E,u,N,v,O⟩
  ·exact aF u
  ·refine aE ⟨g,C,E,u,N,(off g λe=>?_).trans v,O⟩;rw[e,m]at v;cases v
 have B:Hid (dJ.wrap (l+a)=l+a):=(by rw[AL];omega:dJ.wrap (l+a)=l+a);clear h r n m h0 L y z;go_enter func210,ntmps210
 go_upto_region 1 with fail
 generalize w.alloc (aA (ep ⟨a,d,part⟩) 188)=P at*;refine fq (S:=λW=>W.cell? (aj w.heap.size 0)=aa (an a)/\W.cell? (aj w.heap.size 1)=aa (.bool d)/\W.cell? (aj w.heap.size 2)=aa (an part)) s λZ=>?_;refine tk 0 ?_;refine tk 1 ?_;refine tk 2 ?_;refine tk 3 ?_;refine tk 4 ?_;refine tk 5 ?_;refine tk 6 ?_;refine tk 7 ?_;generalize dJ.wrap (l+a)=D at*;refine tk 8 ?_;refine tk 9 ?_;refine tk 10 ?_;refine rH 11 λK o=>?_;go_simp;refine o.out _ _ ⟨iu (iu (iu s.1 i) i) i,iu (iu (iu s.2.1 i) i) i,iu (iu (iu s.2.2 i) i) i⟩ (λn=>?_);clear o K;refine tk 12 ?_;refine tk 13 ?_;refine rH 14 λK o=>?_;go_simp;refine o.out _ _ ⟨iu n.1 i,iu n.2.1 i,iu n.2.2 i⟩ (λt=>?_);clear o K;refine tk 15 ?_;refine tk 16 ?_;refine rH 17 λK o=>?_;go_simp;refine o.out _ _ ⟨iu t.1 i,iu t.2.1 i,iu t.2.2 i⟩ (λY=>?_);clear o K;refine dL ?_;go_wp2;have e:=B.out;subst e;exact fI rfl rfl ⟨rfl,x.out.1.drew,x.out.2.drew⟩
abbrev clG(no wt sz cl qu a b rt bu wk ou:Int)(rb:Nat)(s:ByteArray)(q:aD)(bE prom:Int)(out:aD)(tok de sv:Int)(ch:Nat):aJ aD:=
 #[an no,an wt,an sz,an cl,an qu,an a,an b,an rt,an bu,an wk,an ou,aR rb,.string s,q,an bE,an prom,out,an tok,an de,an sv,.chan (aa ch)]
def QH(c cap a w)(h:w.cell? (aj c 13)=aa (.slice a 0 cap)):
  bN 78 #[jp c] w (.tuple #[abJ,.bool av]):=by
 have b:=lF h;go_enter func78,ntmps78;go_wp2;refine gn (by simp[results,results78,go_sem]) rfl ⟨rfl,?_⟩
 repeat (refine Below.setCell ?_ (bD _) _)
 exact bp
def JS(c v r q w)(h:w.cell? (aj c 13)=aa v)(b:iX w v (r::q)):
  bN 78 #[jp c] w (.tuple #[.agg (aO r),.bool aq]):=by
 have C:=lF h;obtain⟨a,B,rfl,_⟩:=b.form;obtain⟨g,rfl,d,l,m,n,o,p,s,t,u,x⟩:=b.at (i:=0) rfl;simp at d l m n o p s t u x;have D:g<w.heap.size:=lF d;have E:(((r::q).length:Int)==0)=av:=by simp only[eM,sG,ne_eq];omega
 have F:(0:Int)<((r::q).length:Int):=by simp only[eM];omega
 generalize (r::q).length=L at*;obtain⟨⟨A,z,y,k,e,of,ln,f,j⟩,no⟩:=r;clear b;go_enter func78,ntmps78;go_wp2;refine gn (v:=.tuple #[.agg (aO ⟨⟨A,z,y,k,e,of,ln,f,j⟩,no⟩),.bool aq]) (by simp[results,results78,go_sem]) rfl ⟨rfl,?_⟩
 repeat (refine Below.setCell ?_ (bD _) _)
 exact bp
def Kk(c:Nat)(w:az)(a:aZ bZ)(n cap:Nat)(k prom ou:Int)(i:n<=4194304)(g:0<=k/\k<=131072)(j:0<=prom/\prom<=4194304)(h:w.cell? (aj c 16)=aa (.slice a n cap))(d:w.cell? (aj c 15)=aa (an prom))(f:w.cell? (aj c 10)=aa (an ou)):
  Calls prog 225 #[jp c,an k] w λe b=>e=aM (.bool (decide ((n:Int)+prom+k<=ou)))/\∃m,b=w.drewN m:=by
 go_enter func225,ntmps225;go_wp2
 go_quiet (fail)
 go_wp2;go_ret;exact⟨rfl,_,rfl⟩
def PG(c r de w)(h:w.cell? (aj c 18)=aa (an de)):
  bN 168 #[jp c,.agg (aO r)] w (.bool (decide (bY r.m<=de))):=by
 have q:c<w.heap.size:=lF h;have d:aN w (w.alloc (aA (aO r) 134)):=bp;have i:(w.alloc (aA (aO r) 134)).heap[w.heap.size]? =aa (aA (aO r) 134 (0,0)):=cG w _
 have g:Hid (∀W,aN (w.alloc (aA (aO r) 134)) W->W.cell? (aj c 18)=aa (an de)/\cu W w.heap.size r):=λW l=>
  ⟨(jE (a:=aj c 18) ((l.block c cq).trans (d.block c q))).trans h,cu.of (bW l i)⟩
 have s:=g.out _ (Below.refl _ _);have f:=bf d
 have p:Hid (∀k,Calls prog 206 #[.agg (aO r)] ((w.alloc (aA (aO r) 134)).drewN k) λe o=>e=aM (an (bY r.m))/\aN (w.alloc (aA (aO r) 134)) o):=λk=>by refine(Tm r _).mono ?_;rintro e o ⟨rfl,b⟩;exact⟨rfl,b.os,b.tape,b.output,b.size,b.block⟩
 clear d i;generalize bY r.m=t at*;go_enter func168,ntmps168
 go_upto_region 1 with fail
 refine fq (S:=λW=>W.cell? (aj c 18)=aa (an de)/\cu W w.heap.size r) s λv=>?_;refine tk 0 ?_;refine tk 2 ?_;refine tk 3 ?_;refine tk 4 ?_;refine tk 5 ?_;refine rH 1 λK j=>?_;go_simp;go_at_call 206;refine(p.out 1).mono ?_;rintro e x ⟨rfl,n⟩;refine j.out _ _ (g.out _ n) (λu=>?_);clear j K;refine tk 6 ?_;refine tk 7 ?_;refine dL ?_;go_wp2;go_ret;exact⟨rfl,f.out.trans (n.mono f.out.size)⟩
def Below.drew'{B w W}(h:Below B w W):Below B w W.drew:=⟨h.os,h.tape,h.output,h.size,h.block⟩
def cZ{B w W}(h:Below B w W)(k v):Below B w (W.setCell (aj B k) v):=Below.setCell h (bD _) _
def EL{B w W}(h:Below B w W)(v0 v1 v2 v3 v4 v5 v6 v7 v8 v9):Below B w ((((((((((W.setCell (aj B 0) v0).setCell (aj B 1) v1).setCell (aj B 2) v2).setCell (aj B 3) v3).setCell (aj B 4) v4).setCell (aj B 5) v5).setCell (aj B 6) v6).setCell (aj B 7) v7).setCell (aj B 8) v8).setCell (aj B 9) v9).drew:=
 Below.drew' (cZ (cZ (cZ (cZ (cZ (cZ (cZ (cZ (cZ (cZ h _ _) _ _) _ _) _ _) _ _) _ _) _ _) _ _) _ _) _ _)
abbrev kV:aJ aD:=#[an 0,.string ⟨#[]⟩,an 0,an 0,an 0,an 0,an 0,.string ⟨#[]⟩,an 0,an 0]
abbrev lC(W:az)(b:Nat):Prop:=W.heap[b]? =aa (aA kV 134 (0,0))
def aby(c v r q tok w)(h:w.cell? (aj c 13)=aa v)(D:iX w v (r::q))(E:w.cell? (aj c 17)=aa (an tok))(h0:¬0<tok):
  bN 204 #[jp c] w (.tuple #[.agg (aO r),.bool av]):=by
 have C:c<w.heap.size:=lF h;have s:aN w (w.alloc (aA kV 134)):=bp;have B:lC (w.alloc (aA kV 134)) w.heap.size:=cG w _
 have R:Hid (Calls prog 78 #[jp c] (w.alloc (aA kV 134)) λe u=>e=aM (.tuple #[.agg (aO r),.bool aq])/\aN w u/\lC u w.heap.size/\w.heap.size<u.heap.size):=by refine(JS c v r q _ ((jE (a:=aj c 13) (s.block c C)).trans h) (zW D s)).mono ?_;rintro e u ⟨rfl,z⟩;exact⟨rfl,s.trans (z.mono s.size),bW z B,by have:=z.size;simp at this;omega⟩
 have T:Hid (∀W,aN w W->W.cell? (aj c 17)=aa (an tok)):=λW X=>(jE (a:=aj c 17) (X.block c C)).trans E;obtain⟨⟨p,n,m,l,g,of,ln,i,j⟩,no⟩:=r;clear h D E s B;go_enter func204,ntmps204
 go_upto_region 2 with(go_at_call 78;refine R.out.mono ?_;rintro e o ⟨rfl,A,F,aX⟩)
 have y:aN o (o.alloc (aA (aO ⟨⟨p,n,m,l,g,of,ln,i,j⟩,no⟩) 134)):=bp;have t:(o.alloc (aA (aO ⟨⟨p,n,m,l,g,of,ln,i,j⟩,no⟩) 134)).heap[o.heap.size]? =aa (aA (aO ⟨⟨p,n,m,l,g,of,ln,i,j⟩,no⟩) 134 (0,0)):=cG o _;have x:=bf (A.trans (y.mono A.size));have s0:(o.alloc (aA (aO ⟨⟨p,n,m,l,g,of,ln,i,j⟩,no⟩) 134)).cell? (aj c 17)=aa (an tok)/\cu (o.alloc (aA (aO ⟨⟨p,n,m,l,g,of,ln,i,j⟩,no⟩) 134)) o.heap.size ⟨⟨p,n,m,l,g,of,ln,i,j⟩,no⟩:=⟨T.out _ x.out,cu.of t⟩;have d:lC (o.alloc (aA (aO ⟨⟨p,n,m,l,g,of,ln,i,j⟩,no⟩) 134)) w.heap.size:=bW y F;clear y t F A;generalize o.alloc (aA (aO ⟨⟨p,n,m,l,g,of,ln,i,j⟩,no⟩) 134)=f at*;have G:=aS f w.heap.size 0 (an 0) d;have H:=aS f w.heap.size 1 (.string ⟨#[]⟩) d;have I:=aS f w.heap.size 2 (an 0) d;have J:=aS f w.heap.size 3 (an 0) d;have L:=aS f w.heap.size 4 (an 0) d;have M:=aS f w.heap.size 5 (an 0) d;have N:=aS f w.heap.size 6 (an 0) d;have O:=aS f w.heap.size 7 (.string ⟨#[]⟩) d;have P:=aS f w.heap.size 8 (an 0) d;have Q:=aS f w.heap.size 9 (an 0) d;have fz:∀k,f.frozen? (aj w.heap.size k)=av:=λk=>bF d k;refine fq (S:=λ_=>True) trivial λaU=>?_;obtain⟨bg,Y,m1,m2,Z,m4,m5,m6,m7,m8,m9⟩:=s0;dsimp only at Y m1 m2 Z m4 m5 m6 m7 m8 m9;clear d;have aT:decide (0<tok)=av:=iB ak;refine tk 1 ?_;refine tk 2 ?_;refine tk 3 ?_;refine tk 4 ?_;refine tk 5 ?_;refine aH [0,6] (.cons rfl (λK b=>?_) ?_)
 ·go_simp;refine b.out _ _ trivial (λU=>?_);clear b K;refine rH 6 λK b=>?_;go_simp;refine b.out _ _ trivial (λt=>?_);clear b K;refine tk 7 ?_;refine tk 8 ?_;refine tk 9 ?_;refine bH 10 ?_;refine bH 11 ?_;refine bH 12 ?_;refine bH 13 ?_;refine bH 14 ?_;refine tk 15 ?_;refine rH 16 λK b=>?_;go_simp;refine b.out _ _ trivial (λV=>?_);clear b K;refine tk 17 ?_;refine dL ?_;go_wp2;refine gn (v:=.tuple #[.agg (aO ⟨⟨p,n,m,l,g,of,ln,i,j⟩,no⟩),.bool av]) (by simp[results,results204,go_sem,G,H,I,J,L,M,N,O,P,Q]) rfl ⟨rfl,?_⟩;exact EL x.out _ _ _ _ _ _ _ _ _ _
 refine .cons rfl (λK b=>?_) .nil;go_simp;refine b.out _ _ trivial (λU=>?_);clear b K;refine tk 7 ?_;refine tk 8 ?_;refine tk 9 ?_;refine bH 10 ?_;refine bH 11 ?_;refine bH 12 ?_;refine bH 13 ?_;refine bH 14 ?_;refine tk 15 ?_;refine rH 0 λK b=>?_;go_simp;refine b.out _ _ trivial (λt=>?_);clear b K;refine rH 16 λK b=>?_;go_simp;refine b.out _ _ trivial (λV=>?_);clear b K;refine tk 17 ?_;refine dL ?_;go_wp2;refine gn (v:=.tuple #[.agg (aO ⟨⟨p,n,m,l,g,of,ln,i,j⟩,no⟩),.bool av]) (by simp[results,results204,go_sem,G,H,I,J,L,M,N,O,P,Q]) rfl ⟨rfl,?_⟩;exact EL x.out _ _ _ _ _ _ _ _ _ _
def XX{B w W}(h:Below B w W)(v0 v1 v2 v3 v4 v5 v6 v7 v8 v9 m):Below B w (((((((((((W.setCell (aj B 0) v0).setCell (aj B 1) v1).setCell (aj B 2) v2).setCell (aj B 3) v3).setCell (aj B 4) v4).setCell (aj B 5) v5).setCell (aj B 6) v6).setCell (aj B 7) v7).setCell (aj B 8) v8).setCell (aj B 9) v9).drewN m):=
 iU (cZ (cZ (cZ (cZ (cZ (cZ (cZ (cZ (cZ (cZ h _ _) _ _) _ _) _ _) _ _) _ _) _ _) _ _) _ _) _ _) _
abbrev oV(W:az)(c:Nat)(tok:Int)(b:Nat)(r:Rq):Prop:=W.cell? (aj c 17)=aa (an tok)/\cu W b r
def oV.old{W W' c b tok r}(h:oV W c tok b r)(q:aN W W'):oV W' c tok b r:=by have e:∀{a k:Nat} {v:aD},W.cell? (aj a k)=aa v->W'.cell? (aj a k)=aa v:=λ{a k v} d=>(jE (q.block a (lF d))).trans d;obtain⟨p,f,a1,g,a3,i,j,l,m,n,o⟩:=h;exact⟨e p,e f,e a1,e g,e a3,e i,e j,e l,e m,e n,e o⟩
def oV.put{W c b B tok r}(h:oV W c tok b r)(hc:c≠B)(a:b≠B)(k v):oV (W.setCell (aj B k) v) c tok b r:=by obtain⟨n,d,a1,e,a3,f,g,i,j,l,m⟩:=h;exact⟨gQ n hc,gQ d a,gQ a1 a,gQ e a,gQ a3 a,gQ f a,gQ g a,gQ i a,gQ j a,gQ l a,gQ m a⟩
def oV.drewN{W c b tok r}(h:oV W c tok b r)(m):oV (W.drewN m) c tok b r:=h
def abz(c n cap oa prom ou v r q tok w)(h:w.cell? (aj c 13)=aa v)(Q:iX w v (r::q))(R:w.cell? (aj c 17)=aa (an tok))(h0:0<tok)(hr:r.Ok)(hn:n<=4194304)(hp:0<=prom/\prom<=4194304)(N:w.cell? (aj c 16)=aa (.slice oa n cap))(P:w.cell? (aj c 15)=aa (an prom))(O:w.cell? (aj c 10)=aa (an ou)):
  bN 204 #[jp c] w (.tuple #[.agg (aO r),.bool (decide ((n:Int)+prom+sizeOf' r.m<=ou))]):=by
 have J:c<w.heap.size:=lF h;have D:aN w (w.alloc (aA kV 134)):=bp;have M:lC (w.alloc (aA kV 134)) w.heap.size:=cG w _
 have Y:Hid (Calls prog 78 #[jp c] (w.alloc (aA kV 134)) λe B=>e=aM (.tuple #[.agg (aO r),.bool aq])/\aN w B/\lC B w.heap.size/\w.heap.size<B.heap.size):=by refine(JS c v r q _ ((jE (a:=aj c 13) (D.block c J)).trans h) (zW Q D)).mono ?_;rintro e B ⟨rfl,H⟩;exact⟨rfl,D.trans (H.mono D.size),bW H M,by have:=H.size;simp at this;omega⟩
 have HT:Hid (∀W,aN w W->W.cell? (aj c 17)=aa (an tok)):=λW z=>(jE (a:=aj c 17) (z.block c J)).trans R
 have HM:Hid (∀W,aN w W->(bN 201 #[.agg (jX r.m.wh r.m.nm r.m.kd r.m.fl r.m.ck r.m.of r.m.ln r.m.dt r.m.er)] W (an (sizeOf' r.m)))/\Calls prog 225 #[jp c,an (sizeOf' r.m)] W λe B=>e=aM (.bool (decide ((n:Int)+prom+sizeOf' r.m<=ou)))/\∃m,B=W.drewN m):=λW z=>by
  have old:∀(k:Nat) (x:aD),w.cell? (aj c k)=aa x->W.cell? (aj c k)=aa x:=λk x hx=>(jE (a:=aj c k) (z.block c J)).trans hx
  have hs:0<=sizeOf' r.m/\sizeOf' r.m<=131072:=by have h1:=hr.mL;have h2:=hr.qx;unfold sizeOf';split<;>omega
  exact⟨Gs r.m W hr.mL hr.qx,Kk c W oa n cap _ prom ou hn hs hp (old _ _ N) (old _ _ P) (old _ _ O)⟩
 generalize sizeOf' r.m=sm at*;generalize decide ((n:Int)+prom+sm<=ou)=ok at*;obtain⟨⟨t,s,p,j,f,of,ln,g,i⟩,no⟩:=r;clear h Q R D M N P O hr;go_enter func204,ntmps204
 go_upto_region 2 with(go_at_call 78;refine Y.out.mono ?_;rintro e b ⟨rfl,I,T,bG⟩)
 have F:aN b (b.alloc (aA (aO ⟨⟨t,s,p,j,f,of,ln,g,i⟩,no⟩) 134)):=bp;have G:(b.alloc (aA (aO ⟨⟨t,s,p,j,f,of,ln,g,i⟩,no⟩) 134)).heap[b.heap.size]? =aa (aA (aO ⟨⟨t,s,p,j,f,of,ln,g,i⟩,no⟩) 134 (0,0)):=cG b _;have y:=bf (I.trans (F.mono I.size));have V:oV (b.alloc (aA (aO ⟨⟨t,s,p,j,f,of,ln,g,i⟩,no⟩) 134)) c tok b.heap.size ⟨⟨t,s,p,j,f,of,ln,g,i⟩,no⟩:=⟨HT.out _ y.out,cu.of G⟩;have U:lC (b.alloc (aA (aO ⟨⟨t,s,p,j,f,of,ln,g,i⟩,no⟩) 134)) w.heap.size:=bW F T;clear F G T I;generalize b.alloc (aA (aO ⟨⟨t,s,p,j,f,of,ln,g,i⟩,no⟩) 134)=L at*
 have E:Hid (∀W,aN L W->(W.cell? (aj w.heap.size 0)=aa (an 0)/\W.cell? (aj w.heap.size 1)=aa (.string ⟨#[]⟩)/\W.cell? (aj w.heap.size 2)=aa (an 0)/\W.cell? (aj w.heap.size 3)=aa (an 0)/\W.cell? (aj w.heap.size 4)=aa (an 0)/\W.cell? (aj w.heap.size 5)=aa (an 0)/\W.cell? (aj w.heap.size 6)=aa (an 0)/\W.cell? (aj w.heap.size 7)=aa (.string ⟨#[]⟩)/\W.cell? (aj w.heap.size 8)=aa (an 0)/\W.cell? (aj w.heap.size 9)=aa (an 0))/\(∀k,W.frozen? (aj w.heap.size k)=av)/\oV W c tok b.heap.size ⟨⟨t,s,p,j,f,of,ln,g,i⟩,no⟩):=λW z=>by have d:=bW z U;exact⟨⟨aI d rfl,aI d rfl,aI d rfl,aI d rfl,aI d rfl,aI d rfl,aI d rfl,aI d rfl,aI d rfl,aI d rfl⟩,λk=>bF d k,V.old z⟩
 have o:c≠w.heap.size:=ak;have l:b.heap.size≠w.heap.size:=ak;have bu:decide (0<tok)=aq:=iC h0;clear U;refine fq (S:=λW=>oV W c tok b.heap.size ⟨⟨t,s,p,j,f,of,ln,g,i⟩,no⟩) V λbE=>?_;refine tk 0 ?_;refine tk 1 ?_;refine tk 2 ?_;refine tk 3 ?_;refine tk 4 ?_;refine tk 5 ?_;refine tk 6 ?_;refine tk 7 ?_;refine tk 8 ?_;refine tk 9 ?_;refine tk 10 ?_;refine tk 11 ?_;refine tk 12 ?_;refine rH 13 λK u=>?_;go_simp;go_at_call 201;refine(HM.out _ (Below.drew' y.out)).1.mono ?_;rintro e w2 ⟨rfl,A⟩;have C:Hid (aN L w2):=⟨A.os,A.tape,A.output,A.size,A.block⟩;refine u.out _ _ (E.out _ C.out).2.2 (λhA=>?_);clear u K A;refine rH 14 λK u=>?_;go_simp;go_at_call 225;refine(HM.out _ (y.out.trans (C.out.mono y.out.size))).2.mono ?_;rintro e w3 ⟨rfl,m,rfl⟩;refine u.out _ _ ((E.out _ C.out).2.2.drewN m) (λG=>?_);clear u K;obtain⟨⟨z0,z1,z2,z3,z4,z5,z6,z7,z8,z9⟩,fz,X⟩:=E.out _ C.out;have Z:=bf X;clear X;refine tk 15 ?_;refine rH 16 λK u=>?_;go_simp;refine u.out _ _ (oV.drewN (((((((((((Z.out.put o l _ _).put o l _ _).put o l _ _).put o l _ _).put o l _ _).put o l _ _).put o l _ _).put o l _ _).put o l _ _).put o l _ _)) m) (λhC=>?_);clear u K;refine tk 17 ?_;refine dL ?_;go_wp2;refine gn (v:=.tuple #[.agg (aO ⟨⟨t,s,p,j,f,of,ln,g,i⟩,no⟩),.bool ok]) (by simp[results,results204,go_sem,z0,z1,z2,z3,z4,z5,z6,z7,z8,z9]) rfl ⟨rfl,?_⟩;exact XX (y.out.trans (C.out.mono y.out.size)) _ _ _ _ _ _ _ _ _ _ m
def needs(q:aB Rq):Int:=match q with
 |[]=>6
 |r::_=>6+sizeOf' r.m
def acm(c n cap oa prom ou v r q w)(h:w.cell? (aj c 13)=aa v)(u:iX w v (r::q))(hr:r.Ok)(l:n<=4194304)(s:0<=prom/\prom<=4194304)(o:w.cell? (aj c 16)=aa (.slice oa n cap))(t:w.cell? (aj c 15)=aa (an prom))(p:w.cell? (aj c 10)=aa (an ou)):
  bN 188 #[jp c] w (.bool (decide ((n:Int)+prom+needs (r::q)<=ou))):=by
 have f:=bf (JS c v r q w h u)
 have G:0<=sizeOf' r.m/\sizeOf' r.m<=65539:=by have E:=hr.mL;have F:=hr.qx;unfold sizeOf';split<;>omega
 have HM:Hid (∀W,aN w W->(Calls prog 201 #[.agg (jX r.m.wh r.m.nm r.m.kd r.m.fl r.m.ck r.m.of r.m.ln r.m.dt r.m.er)] W λe a=>e=aM (an (sizeOf' r.m))/\aN w a)/\Calls prog 225 #[jp c,an (6+sizeOf' r.m)] W λe a=>e=aM (.bool (decide ((n:Int)+prom+(6+sizeOf' r.m)<=ou)))/\aN w a):=λW b=>by
  have old:∀(k:Nat) (x:aD),w.cell? (aj c k)=aa x->W.cell? (aj c k)=aa x:=λk x y=>(jE (b.block c (lF h))).trans y;constructor
  ·refine(Gs r.m W hr.mL hr.qx).mono ?_;rintro e a ⟨rfl,g⟩;exact⟨rfl,b.trans (g.mono b.size)⟩
  ·refine(Kk c W oa n cap _ prom ou l ⟨ak,ak⟩ s (old _ _ o) (old _ _ t) (old _ _ p)).mono ?_;rintro e a ⟨rfl,m,rfl⟩;exact⟨rfl,iU b _⟩
 have e:needs (r::q)=6+sizeOf' r.m:=rfl;rw[e];generalize sizeOf' r.m=z at*;generalize decide ((n:Int)+prom+(6+z)<=ou)=ok at*;obtain⟨⟨M,I,H,D,A,of,ln,B,C⟩,no⟩:=r;go_enter func188,ntmps188
 go_wp2_with (first
  |(go_at_call 78;refine f.out.mono ?_;rintro e J ⟨rfl,d⟩)
  |(go_at_call 201;refine(HM.out _ (d.trans (bp.mono d.size))).1.mono ?_;rintro e K ⟨rfl,i⟩)
  |(go_at_call 225;refine(HM.out _ i).2.mono ?_;rintro e L ⟨rfl,j⟩))
 go_ret;exact⟨rfl,j⟩
def ack(c n cap b:Nat)(a g:aZ bZ)(prom ou:Int)(w:az)(h:w.cell? (aj c 13)=aa (.slice a 0 b))(o:n<=4194304)(r:0<=prom/\prom<=4194304)(p:w.cell? (aj c 16)=aa (.slice g n cap))(s:w.cell? (aj c 15)=aa (an prom))(q:w.cell? (aj c 10)=aa (an ou)):
  bN 188 #[jp c] w (.bool (decide ((n:Int)+prom+needs []<=ou))):=by
 have j:=bf (QH c b a w h)
 have HM:Hid (∀W,aN w W->Calls prog 225 #[jp c,an 6] W λe i=>e=aM (.bool (decide ((n:Int)+prom+needs []<=ou)))/\aN w i):=λW d=>by have old:∀(k:Nat) (x:aD),w.cell? (aj c k)=aa x->W.cell? (aj c k)=aa x:=λk x t=>(jE (d.block c (lF h))).trans t;refine(Kk c W g n cap 6 prom ou o ⟨ak,ak⟩ r (old _ _ p) (old _ _ s) (old _ _ q)).mono ?_;rintro e i ⟨rfl,m,rfl⟩;exact⟨rfl,iU d _⟩
 generalize decide ((n:Int)+prom+needs []<=ou)=ok at*;go_enter func188,ntmps188
 go_wp2_with (first
  |(go_at_call 78;refine j.out.mono ?_;rintro e u ⟨rfl,f⟩)
  |(go_at_call 225;refine(HM.out _ (f.trans (bp.mono f.size))).mono ?_;rintro e v ⟨rfl,l⟩))
 go_ret;exact⟨rfl,l⟩
def U9(c ch v q qu ok w)(t:w.cell? (aj c 20)=aa (.chan (aa ch)))(u:w.heap[ch]? =aa (.chan 0 #[] av 0 0 av))(h:w.cell? (aj c 13)=aa v)(x:iX w v q)(y:w.cell? (aj c 4)=aa (an qu))(z:∀k,Calls prog 188 #[jp c] (w.drewN k) λe i=>e=aM (.bool ok)/\aN w i):
  bN 151 #[jp c] w (.bool (decide ((q.length:Int)<qu)&&ok)):=by
 obtain⟨a,f,rfl,_⟩:=x.form;have o:=lF h;have j:Hid (∀k,Calls prog 116 #[jp c] (w.drewN k) λe i=>e=aM (.bool av)/\i=w.drewN k):=λk=>zM c ch (w.drewN k) t u;have l:Hid (∀W,aN w W->W.cell? (aj c 13)=aa (.slice a q.length f)/\W.cell? (aj c 4)=aa (an qu)):=λW m=>⟨(jE (m.block c o)).trans h,(jE (m.block c o)).trans y⟩;have d:=l.out _ (Below.refl _ _);generalize q.length=L at*
 by_cases p:(L:Int)<qu
 ·have g:=iC p;rw[g,Bool.true_and];go_enter func151,ntmps151
  go_upto_region 1 with fail
  refine fq (S:=λW=>W.cell? (aj c 13)=aa (.slice a L f)/\W.cell? (aj c 4)=aa (an qu)) d λs=>?_;refine tk 0 ?_;refine rH 1 λK b=>?_;go_simp;go_at_call 116;refine(j.out 1).mono ?_;rintro e A ⟨rfl,rfl⟩;refine b.out _ _ d (λr=>?_);clear b K;refine tk 2 ?_;refine tk 3 ?_;refine tk 4 ?_;refine tk 5 ?_;refine tk 6 ?_;refine tk 7 ?_;refine tk 8 ?_;refine tk 9 ?_;refine tk 10 ?_;refine tk 11 ?_;refine tk 12 ?_;refine tk 13 ?_;refine tk 14 ?_;refine tk 15 ?_;refine tk 16 ?_;refine tk 17 ?_;refine rH 18 λK b=>?_;go_simp;go_at_call 188;refine((bf z).out 1).mono ?_;rintro e C ⟨rfl,n⟩;refine b.out _ _ (l.out _ n) (λB=>?_);clear b K;refine tk 19 ?_;refine tk 20 ?_;refine dL ?_;go_wp2;go_ret;exact⟨rfl,n⟩
 ·have g:decide ((L:Int)<qu)=av:=iB p;rw[g,Bool.false_and];go_enter func151,ntmps151
  go_upto_region 1 with fail
  refine fq (S:=λW=>W.cell? (aj c 13)=aa (.slice a L f)/\W.cell? (aj c 4)=aa (an qu)) d λs=>?_;refine tk 0 ?_;refine rH 1 λK b=>?_;go_simp;go_at_call 116;refine(j.out 1).mono ?_;rintro e A ⟨rfl,rfl⟩;refine b.out _ _ d (λr=>?_);clear b K;refine tk 2 ?_;refine tk 3 ?_;refine tk 4 ?_;refine tk 5 ?_;refine tk 6 ?_;refine tk 7 ?_;refine tk 8 ?_;refine tk 9 ?_;refine tk 10 ?_;refine tk 11 ?_;refine tk 12 ?_;refine tk 13 ?_;refine tk 14 ?_;refine tk 15 ?_;refine tk 16 ?_;refine bH 17 ?_;refine bH 18 ?_;refine tk 19 ?_;refine tk 20 ?_;refine dL ?_;go_wp2;go_ret;exact⟨rfl,iU (Below.refl _ _) _⟩
def nG(er:UInt8)(a:Int)(d:ByteArray):ByteArray:=⟨#[82]⟩++⟨#[er]⟩++⟨(eG a).toArray⟩++d
def Ts(er:UInt8)(a d w)(g:0<=a)(h:a<=65535)(o:d.size<=65535):
  bN 202 #[an (er.toNat:Int),an a,.string d] w (.string (nG er a d)):=by
 have f:Hid (∀W,aN w W->Calls prog 238 #[an a] W λe c=>e=aM (.string ⟨(eG a).toArray⟩)/\aN w c):=λW b=>by refine(KU a W g h).mono ?_;rintro e c ⟨rfl,i⟩;exact⟨rfl,b.trans (i.mono b.size)⟩
 have p:(⟨(eG a).toArray⟩:ByteArray).size=2:=rfl;generalize l:(⟨(eG a).toArray⟩:ByteArray)=m at*;have n:(er.toNat:Int)%256=(er.toNat:Int):=by have:=er.toNat_lt;omega
 have e:nG er a d=⟨#[82]⟩++⟨#[er]⟩++m++d:=by rw[nG,l]
 rw[e];go_enter func202,ntmps202
 go_wp2_with (first
  |(go_at_call 237;refine(Lp er _).mono ?_;rintro e q ⟨rfl,j⟩)
  |(go_at_call 238;refine(f.out _ j).mono ?_;rintro e r ⟨rfl,k⟩))
 go_ret;exact⟨rfl,k⟩
def afB(c n w)(h:decide (n<0)=aq):
  fK 69 #[aR c,an n] w (.tuple #[.string ⟨#[]⟩,an 5]):=by
 go_enter func69,ntmps69;go_wp2
 go_ret2
 exact⟨rfl,rfl⟩
def YI(b cap w):(convert 158 9 (.slice b 0 cap)).run prog w=.ok (.string ⟨#[]⟩) w:=by
 cases b with
 |some a=>exact Bt w 158 9 5 a cap [] underlying158 underlying5 underlying9 (λj c=>by cases c)
 |none=>
  rw[run_convert_bytes_string w 158 9 5 ay 0 cap underlying158 underlying5 underlying9];rfl
end
section
open Go.Proofs.Tryz
structure Cf where
 sz:Int
 cl:Int
 qu:Int
 mx:Int
 qn:Int
 rt:Int
 bu:Int
 wk:Int
 ou:Int
structure Ck where
 no:Int
 wt:Int
 ph:Int
 aU:ByteArray
 q:aB Rq
 bE:Int
 prom:Int
 out:ByteArray
 tok:Int
 de:Int
 sv:Int
 us:aB Int
def iI(g:Cf)(m:bg):ByteArray:=if m.wh=3 then(if m.er=0 then⟨#[]⟩else nG (tR m.er.toNat) m.ck ⟨#[]⟩)else answer g.sz g.mx m
def Ck.shut(k:Ck):Ck:={k with ph:=4,aU:=⟨#[]⟩,q:=[],out:=⟨#[]⟩}
def Ck.hear(g:Cf)(k:Ck)(x:bg×Int):Ck:=
 {k with ph:=after k.ph x.1,aU:=k.aU.extract x.2.toNat k.aU.size,out:=k.out++iI g x.1,q:=if accepted x.1 then k.q++[⟨x.1,-1⟩]else k.q,us:=if accepted x.1 then k.us++[x.1.ck]else k.us}
def Ck.may(g:Cf)(k:Ck):Prop:=k.ph≠4/\(k.q.length:Int)<g.qu/\(k.out.size:Int)+k.prom+needs k.q<=g.ou
def Ck.read(g:Cf):Nat->Ck->Ck
 |0,k=>k
 |f+1,k=>
  if k.ph≠4/\(k.q.length:Int)<g.qu/\(k.out.size:Int)+k.prom+needs k.q<=g.ou then
   let x:=first g.sz g.mx k.ph k.us k.aU
   if x.2=0 then k else if x.1.wh=4 then k.shut else Ck.read g f (k.hear g x)
  else k
inductive qh(g:Cf)(k:Ck):aB (bg×Int)->Ck->Prop
 |nil:qh g k [] k
 |snoc {pre:aB (bg×Int)} {k1:Ck} {x:bg×Int} (h:qh g k pre k1) (b:k1.may g) (c:first g.sz g.mx k1.ph k1.us k1.aU=x) (h0:x.2≠0) (a:x.1.wh≠4):qh g k (pre++[x]) (k1.hear g x)
section
variable {g:Cf} {k k1:Ck} {x:bg×Int} {pre:aB (bg×Int)}
def abu(a:k.may g)(c:first g.sz g.mx k.ph k.us k.aU=x)(h0:x.2≠0)(b:x.1.wh≠4)(f):Ck.read g (f+1) k=Ck.read g f (k.hear g x):=by unfold Ck.may at a;rw[Ck.read,aW a];simp only[c,h0,b,dQ]
def abt(a:k.may g)(c:first g.sz g.mx k.ph k.us k.aU=x)(h0:x.2≠0)(b:x.1.wh=4)(f):Ck.read g (f+1) k=k.shut:=by unfold Ck.may at a;rw[Ck.read,aW a];simp only[c,h0,b,dQ,cV]
def abr(h0:(first g.sz g.mx k.ph k.us k.aU).2=0)(f):Ck.read g f k=k:=by
 cases f with
 |zero=>rfl
 |succ f=>
  rw[Ck.read];split
  ·simp only[h0,cV]
  ·rfl
def Tn(a:¬k.may g)(f):Ck.read g f k=k:=by
 cases f with
 |zero=>rfl
 |succ f=>
  rw[Ck.read];exact aK a
def LL(h:qh g k pre k1):∀f,Ck.read g (pre.length+f) k=Ck.read g f k1:=by
 induction h with
 |nil=>intro f;simp
 |@snoc pre k1 x h b c h0 a d=>
  intro f;have e:(pre++[x]).length+f=pre.length+(f+1):=cq;rw[e,d (f+1),abu b c h0 a]
def Fp(h:qh g k pre k1):
  k1.ph=((⟨k.ph,k.us,0⟩:St).run pre).ph/\((⟨k.ph,k.us,0⟩:St).run pre).used=k1.us/\k1.aU=k.aU.extract ((⟨k.ph,k.us,0⟩:St).run pre).pos k.aU.size/\((⟨k.ph,k.us,0⟩:St).run pre).pos<=k.aU.size/\
   k1.no=k.no/\k1.wt=k.wt/\k1.tok=k.tok/\k1.bE=k.bE/\k1.prom=k.prom/\k1.de=k.de/\k1.sv=k.sv:=by
 induction h with
 |nil=>
  refine⟨rfl,rfl,?_,eZ _,rfl,rfl,rfl,rfl,rfl,rfl,rfl⟩;show k.aU=k.aU.extract 0 k.aU.size;simp
 |@snoc pre k1 x h l c h0 j i=>
  obtain⟨d,e,a,n,f⟩:=i;have b:=JU g.sz g.mx k1.ph k1.us k1.aU;rw[c]at b;have m:k1.aU.size=k.aU.size-((⟨k.ph,k.us,0⟩:St).run pre).pos:=by rw[a];simp[mQ]
  rw[St.LW];refine⟨?_,?_,?_,?_,f⟩
  ·show after k1.ph x.1=after _ x.1;rw[d]
  ·show(if accepted x.1 then _ else _)=if accepted x.1 then _ else _
   rw[e]
  ·show k1.aU.extract x.2.toNat k1.aU.size=k.aU.extract (((⟨k.ph,k.us,0⟩:St).run pre).pos+x.2.toNat) k.aU.size;rw[a];exact YL _ _ _ ak
  ·show((⟨k.ph,k.us,0⟩:St).run pre).pos+x.2.toNat<=k.aU.size;omega
def Rf(h:qh g k pre k1):((⟨k.ph,k.us,0⟩:St).run pre).next g.sz g.mx k.aU=first g.sz g.mx k1.ph k1.us k1.aU:=by
 obtain⟨a,b,c,_⟩:=Fp h;unfold St.next
 rw[a,b,c]
end
end
section
open Go.Proofs.Tryz
open Go.RowKit
def lz:aD->Prop
 |.int _ _=>True
 |.string _=>True
 |.bool _=>True
 |_=>False
def ng(W:az)(v:aD):Prop:=∀g,v.ownBlock=aa g->∃x T,W.heap[g]? =aa (aA x T (0,0))/\∀u∈x.toList,lz u
def Ah(W):ng W (.slice ay 0 0):=λg h=>by cases h
def ng.keep{W W' v}(h:ng W v)(e:∀g,v.ownBlock=aa g->W'.heap[g]? =W.heap[g]?):ng W' v:=λg a=>by obtain⟨x,T,b,d⟩:=h g a;exact⟨x,T,(e g a).trans b,d⟩
def eL{W W':az}{T k n:Nat}{v:aD}{xs:aB aD}(h:W.ownsRow 0 T k v n xs)(i:∀g,v.ownBlock=aa g->W'.heap[g]? =W.heap[g]?):W'.ownsRow 0 T k v n xs:=by
 refine⟨h.1,?_⟩;rcases h.2 with h|⟨g,a,b,rfl,d,e,f⟩
 ·exact aF h
 ·exact aE ⟨g,a,b,rfl,d,(i g rfl).trans e,f⟩
def zV{W:az}{T k n:Nat}{v:aD}{xs:aB aD}(h:W.ownsRow 0 T k v n xs){g:Nat}(a:v.ownBlock=aa g):g<W.heap.size:=(h.lt g a).2
def Fg{z n}(h:∀u∈z.toList,lz u):∀u∈(tF z n).toList,lz u:=λu a=>by
 simp only[tF,gx,ku]at a;obtain⟨i,b,rfl⟩:=a;have d:i<n*z.size:=by simpa using b
 have h0:0<z.size:=Nat.pos_of_ne_zero λe=>by rw[e]at d;omega
 have:i %z.size<z.size:=AZ _ h0;rw[getElem!_pos z _ this];exact h _ aC
def QM(s):∀u∈jh s,lz u:=λu a=>by simp only[jh,ku]at a;obtain⟨b,_,rfl⟩:=a;trivial
structure Es(w w':az)(v a:aD)(news:aB aD):Prop where
 at_:a.ownBlock=v.ownBlock\/∀g,a.ownBlock=aa g->w.heap.size<=g
 UH:ng w v->(∀u∈news,lz u)->ng w' a
def GX{w g n cap a}{T:aQ}(h:ng w (.slice (aa (aj g 0)) n cap))(e:w.heap[g]? =aa (aA a T (0,0))):∀u∈a.toList,lz u:=by obtain⟨x,f,b,d⟩:=h g rfl;rw[e]at b;cases b;exact d
def Pn{P}(w t u ty e)(i:TypeInfo)(f:P.underlying t=aa (.slice e))(a:P.underlying u=aa .string)(d:P.info? e=aa i)(z:i.zero=aa (.int .u8 0))(p:i.size=1)(y:i.bytes=1)(v n xs)(o:w.ownsRow 0 e 1 v n xs)(s)(E:n+s.size<=140737488355328):
  ∃r h,(oG #[t,u] ty #[v,.string s]).run P w=.ok r h/\h.ownsRow 0 e 1 r (n+s.size) (xs++jh s)/\w.grownBy h v.ownBlock/\Es w h v r (jh s):=by
 obtain⟨r,h,hr,G,H,_⟩:=Lib.run_append_own_string w 0 t u ty e i f a d z p y v n xs o s (by unfold cC;omega) E (eZ _);refine⟨r,h,hr,G,H,XK f a d z p y o E hr,λI l=>?_⟩;have M:xs.length=n:=by simpa using o.1
 rcases o.2 with⟨rfl,rfl⟩|⟨g,A,D,rfl,N,m,R,O,Q,L⟩
 ·by_cases hm:s.size=0
  ·have l:=Wj (P:=P) w 1 s;rw[hm]at l;simp[oG,xg f,xg a,sizeOf,typeInfo,d,p,Dp,hm,l]at hr;rw[<-hr.1];exact Ah _
  ·have k:=Xb (P:=P) w t u ty e i (.int .u8 0) f a d z s ak ak (by rw[y];omega);rw[k]at hr;cases hr;intro g m;cases m;refine⟨_,_,cG w.drew _,λx hx=>?_⟩;rw[yD,iT]at hx;rcases hx with hx|hx
   ·simp at hx;obtain⟨b,_,rfl⟩:=hx;trivial
   ·exact Fg (λu a=>by simp[Bg]at a;subst a;trivial) x hx
 ·have B:=GX I m
  by_cases K:n+s.size<=A
  ·have k:=Wi (P:=P) w t u ty e i f a d p g n A D m s K ak;rw[k]at hr;cases hr;intro F C;cases C;refine⟨_,_,Ox w g D _ e _ m,λx hx=>?_⟩;simp only[iT]at hx;rcases hx with(hx|hx)|hx
   ·exact B x (rU hx)
   ·exact l x hx
   ·exact B x (uV hx)
  ·have J:∀j u,xs[j]? =aa u->w.cell? ((⟨g,0,ay⟩:bZ).add j)=aa u:=o.cells (g:=g) rfl;have k:=Wh (P:=P) w t u ty e i (.int .u8 0) f a d z ⟨g,0,ay⟩ n A xs (by rw[p];simpa using M) J s ak ak (by rw[y];exact Ot ak ak);rw[k]at hr;cases hr;intro F C;cases C;refine⟨_,_,cG w.drew _,λx hx=>?_⟩;simp only[yD,iT]at hx;rcases hx with(hx|hx)|hx
   ·rw[<-L]at hx;exact B x (rU (by simpa using hx))
   ·exact l x (by simpa using hx)
   ·exact Fg (λu a=>by simp[Bg]at a;subst a;trivial) x hx
def ED{P}(w t ty e)(i:TypeInfo)(z size bytes)(A:P.underlying t=aa (.slice e))(r:P.info? e=aa i)(F:i.zero=aa z)(L:i.size=size)(I:i.bytes=bytes)(V:z.cells.size=size)(T:0<size)(M:∀u∈z.cells.toList,lz u)(v n xs)(y:w.ownsRow 0 e size v n xs)(a m c news)(l:news.length=m*size)(s:∀j u,news[j]? =aa u->w.cell? (a.add j)=aa u)(G:∀u∈news,u.oneCell'=aq)(hm:0<m)(H:n+m<=cC)(D:(n+m) *bytes<=140737488355328):
  ∃o d,(oG #[t,t] ty #[v,.slice (aa a) m c]).run P w=.ok o d/\d.ownsRow 0 e size o (n+m) (xs++news)/\w.grownBy d v.ownBlock/\Es w d v o news:=by
 obtain⟨o,d,hr,X,Y,_⟩:=run_append_own w 0 t ty e i z size bytes A r F L I V T v n xs y a m c news l s G H D (eZ _);subst L;subst I;have aj:n+m<=9223372036854775807:=by simp only[cC]at H;omega
 refine⟨o,d,hr,X,Y,?_⟩;rcases y.2 with⟨rfl,rfl⟩|⟨g,B,C,rfl,Z,b,ah,af,Q,U⟩
 ·have k:=run_append_nil w t ty e i z A r F a m c news l s ak ak (by have O:=D;simp at O;omega);rw[k]at hr;cases hr;refine⟨aE λg h=>by cases h;exact bD _,λp f g b=>?_⟩;cases b;refine⟨_,_,cG w.drew _,λx hx=>?_⟩;rw[yD,iT]at hx;rcases hx with hx|hx
  ·exact f x (by simpa using hx)
  ·exact Fg M x hx
 ·by_cases K:n+m<=B
  ·have R:n*i.size+news.length<=C.size:=by rw[l,Q,<-Nat.add_mul];exact WC _ K
   have k:=run_append_room w t ty e i A r g n B C b a m c news l s G K R;rw[k]at hr;cases hr;refine⟨aF rfl,λp f N E=>?_⟩;have J:=GX p b;cases E;refine⟨_,_,Ox w g C _ e _ b,λx hx=>?_⟩;simp only[iT]at hx;rcases hx with(hx|hx)|hx
   ·exact J x (rU hx)
   ·exact f x hx
   ·exact J x (uV hx)
  ·have S:=y.cells rfl;rw[(run_append_grow w t ty e i z A r F ⟨g,0,ay⟩ n B xs y.1 S a m c news l s ak ak (Ot ak D))]at hr;cases hr;refine⟨aE λg h=>by cases h;exact bD _,λp f N E=>?_⟩;cases E;refine⟨_,_,cG w.drew _,λx hx=>?_⟩;simp only[yD,iT]at hx;rcases hx with(hx|hx)|hx
   ·rw[<-U]at hx;exact(GX p b) x (rU (by simpa using hx))
   ·exact f x (by simpa using hx)
   ·exact Fg M x hx
abbrev jI(g:Cf)(k:Ck)(rb:Nat)(q out:aD)(ch:Nat):aJ aD:=clG k.no k.wt g.sz g.cl g.qu g.mx g.qn g.rt g.bu g.wk g.ou rb k.aU q k.bE k.prom out k.tok k.de k.sv ch
structure cH(W:az)(c rb ch:Nat)(q v:aD)(g:Cf)(k:Ck):Prop where
 box:W.heap[c]? =aa (aA (jI g k rb q v ch) 168 (0,0))
 row:iX W q k.q
 out:ud W v k.out
 tq:ng W q
 tv:ng W v
 chan:W.heap[ch]? =aa (.chan 0 #[] (decide (k.ph=4)) 0 0 av)
section
variable {W W':az} {c rb ch:Nat} {q v:aD} {g:Cf} {k:Ck}
def cH.keep(h:cH W c rb ch q v g k)(e:W'.heap[c]? =W.heap[c]?)(f:W'.heap[ch]? =W.heap[ch]?)(a:∀b,q.ownBlock=aa b->W'.heap[b]? =W.heap[b]?)(d:∀b,v.ownBlock=aa b->W'.heap[b]? =W.heap[b]?):cH W' c rb ch q v g k:=
 ⟨e.trans h.box,eL h.row a,eL h.out d,h.tq.keep a,h.tv.keep d,f.trans h.chan⟩
def cH.eH(h:cH W c rb ch q v g k):c<W.heap.size/\ch<W.heap.size/\(∀b,q.ownBlock=aa b->b<W.heap.size)/\∀b,v.ownBlock=aa b->b<W.heap.size:=
 ⟨(bq.1 h.box).1,(bq.1 h.chan).1,λ_ a=>zV h.row a,λ_ a=>zV h.out a⟩
def cH.old(h:cH W c rb ch q v g k)(a:aN W W'):cH W' c rb ch q v g k:=
 have l:=h.eH
 h.keep (a.block _ l.1) (a.block _ l.2.1) (λb e=>a.block _ (l.2.2.1 b e)) λb e=>a.block _ (l.2.2.2 b e)
def cH.cI{X}(h:cH W c rb ch q v g k)(a:bh X W W')(d:¬X c)(f:¬X ch)(i:∀b,q.ownBlock=aa b->¬X b)(j:∀b,v.ownBlock=aa b->¬X b):cH W' c rb ch q v g k:=
 have l:=h.eH
 h.keep (a.block _ l.1 d) (a.block _ l.2.1 f) (λb e=>a.block _ (l.2.2.1 b e) (i b e)) λb e=>a.block _ (l.2.2.2 b e) (j b e)
def cH.apart(h:cH W c rb ch q v g k):c≠ch/\aa c≠q.ownBlock/\aa c≠v.ownBlock/\aa ch≠q.ownBlock/\aa ch≠v.ownBlock/\(∀b,q.ownBlock=aa b->aa b≠v.ownBlock):=by
 have key:∀{T k n:Nat} {u:aD} {l:aB aD} {b:Nat} {o:Obj},W.ownsRow 0 T k u n l->W.heap[b]? =aa o->(∀a,o≠aA a T (0,0))->aa b≠u.ownBlock:=λ{T k n u l b o} hr d r e=>by
  rcases hr.2 with⟨rfl,_⟩|⟨p,m,a,rfl,_,f,_⟩
  ·cases e
  ·cases e;exact r a (dP (d.symm.trans f))
 refine⟨λe=>?_,key h.row h.box aC,key h.out h.box aC,key h.row h.chan aC,key h.out h.chan aC,λb d e=>?_⟩
 ·have i:=h.box;have j:=h.chan;rw[e]at i;rw[i]at j;simp at j
 ·rcases h.row.2 with⟨rfl,_⟩|⟨p,m,a,rfl,_,f,_⟩
  ·cases d
  ·cases d;exact key h.out f aC e
def cH.put(h:cH W c rb ch q v g k){k':Ck}(i u)(d:(jI g k rb q v ch).setIfInBounds i u=jI g k' rb q v ch)(m:k'.q=k.q)(j:k'.out=k.out)(l:k'.ph=k.ph):cH (W.setCell (aj c i) u) c rb ch q v g k':=by
 obtain⟨a1,f,a3,_⟩:=h.apart;have off:∀b,b≠c->(W.setCell (aj c i) u).heap[b]? =W.heap[b]? :=λb d=>cw d;refine⟨d▸dF h.box i u,?_,?_,h.tq.keep λb e=>off b λa=>f (by rw[e,a]),h.tv.keep λb e=>off b λa=>a3 (by rw[e,a]),?_⟩
 ·rw[m];exact eL h.row λb e=>off b λa=>f (by rw[e,a])
 ·rw[j];exact eL h.out λb e=>off b λa=>a3 (by rw[e,a])
 ·rw[l];exact(off ch (dc a1)).trans h.chan
def cH.drewN(h:cH W c rb ch q v g k)(n):cH (W.drewN n) c rb ch q v g k:=⟨h.box,h.row,h.out,h.tq,h.tv,h.chan⟩
def cH.drew(h:cH W c rb ch q v g k):cH W.drew c rb ch q v g k:=⟨h.box,h.row,h.out,h.tq,h.tv,h.chan⟩
end
end
section
attribute [local go_sem ↓] Go.wp_at_zero Go.wp_at_succ
attribute [local go_sem] bV bQ
open Go.Conc Go.RowKit
open Go.Proofs.Tryz
abbrev cfV(g:Cf):aD:=.agg (fN g.sz g.cl g.qu g.mx g.qn g.rt g.bu g.wk g.ou)
abbrev msV(m:bg):aD:=.agg (fP m)
structure bg.Ok(m:bg):Prop where
 nm:m.nm.size<=65535
 ck:0<=m.ck/\m.ck<=65535
 er:0<=m.er/\m.er<=255
def XC(g m w)(h0:0<=g.sz/\g.sz<=65535)(s:0<=g.mx/\g.mx<=65535)(hm:m.Ok)(n:m.wh=1\/m.wh=2\/m.wh=3\/m.wh=4):
  bN 192 #[cfV g,msV m] w (.string (iI g m)):=by
 by_cases i:m.wh=3
 ·obtain⟨B,y,x,r,d,of,ln,p,b⟩:=m;obtain⟨u,j,l⟩:=hm;dsimp only at i u j l;subst i;obtain⟨v,hv⟩:∃v,v=iI g ⟨3,y,x,r,d,of,ln,p,b⟩:=⟨_,rfl⟩;rw[<-hv]
  by_cases f:b=0
  ·subst f;have h:=bf hv;clear hv n;go_enter func192,ntmps192;go_wp2;go_ret;exact⟨by rw[h.out];rfl,bp.alloc aC _⟩
  ·obtain⟨a,rfl⟩:∃a:UInt8,b=(a.toNat:Int):=⟨_,(BR b l.1 ak).symm⟩
   have h:Hid (v=nG a d ⟨#[]⟩):=by
    rw[hv];unfold iI;rw[aW rfl,aK f];show nG (tR _) _ _=_
    congr 1
    simp
   have z:((a.toNat:Int)==0)=av:=by simpa using f
   have o:Hid (∀w,bN 202 #[an (a.toNat:Int),an d,.string ⟨#[]⟩] w (.string v)):=λw=>by rw[h.out];exact Ts a d ⟨#[]⟩ w j.1 j.2 bL
   clear hv n f l;generalize (a.toNat:Int)=b at*;go_enter func192,ntmps192;go_wp2_with (go_at_call 202;refine(o.out _).mono ?_;rintro e A ⟨rfl,t⟩);go_ret;exact⟨rfl,(bp.alloc aC _).trans (t.mono cq)⟩
 ·have e:iI g m=answer g.sz g.mx m:=aK i;rw[e];exact XG _ _ _ _ _ _ _ _ _ m w h0 s hm.nm ak
def Sb(m w):
  bN 193 #[msV m] w (.bool (accepted m)):=by
 obtain⟨a,d⟩:∃a,a=accepted m:=⟨_,rfl⟩;rw[<-d];obtain⟨l,r,j,p,n,of,ln,o,i⟩:=m;cases f:(l==3)with
 |false=>
  have b:Hid (a=av):=by rw[d];simp[accepted];intro e;simp[e]at f
  go_enter func193,ntmps193;go_wp2;go_ret;exact⟨by rw[b.out];rfl,bp⟩
 |true=>
  cases h:(i==0)with
  |false=>
   have b:Hid (a=av):=by rw[d];simp[accepted];intro _ e;simp[e]at h
   go_enter func193,ntmps193;go_wp2;go_ret;exact⟨by rw[b.out];rfl,bp⟩
  |true=>
   have b:Hid (a=(j !=5)):=by show a=_;rw[d];simp only[wW]at f h;simp[accepted,f,h,bne,BEq.beq]
   go_enter func193,ntmps193;go_wp2;go_ret;exact⟨by rw[b.out];rfl,bp⟩
section
variable {w:az} {c rb ch:Nat} {q v:aD} {g:Cf} {k:Ck}
def U8(h:cH w c rb ch q v g k)(o:k.ph≠4)(x:∀r∈k.q,r.Ok)(m:k.out.size<=4194304)(p:0<=k.prom/\k.prom<=4194304):
  ∃b:Bool,(b=aq↔k.may g)/\bN 151 #[jp c] w (.bool b):=by
 have l:=h.chan;rw[iB o]at l;obtain⟨s,t,rfl⟩:=mO h.out;refine⟨decide ((k.q.length:Int)<g.qu)&&decide ((k.out.size:Int)+k.prom+needs k.q<=g.ou),by simp[Ck.may,o],U9 c ch q k.q g.qu (decide ((k.out.size:Int)+k.prom+needs k.q<=g.ou)) w (aI h.box rfl) l (aI h.box rfl) h.row (aI h.box rfl) λn=>?_⟩;have d:=h.drewN n
 have key:bN 188 #[jp c] (w.drewN n) (.bool (decide ((k.out.size:Int)+k.prom+needs k.q<=g.ou))):=by
  cases j:k.q with
  |nil=>
   obtain⟨a,u,rfl,_⟩:=h.row.form;refine ack c k.out.size t u a s k.prom g.ou _ ?_ m p (aI d.box rfl) (aI d.box rfl) (aI d.box rfl);have:=aI (i:=13) d.box rfl;rw[this,j];rfl
  |cons r rest=>
   have hr:=d.row;rw[j]at hr;exact acm c k.out.size t s k.prom g.ou q r rest _ (aI d.box rfl) hr (x r (by rw[j];simp)) m p (aI d.box rfl) (aI d.box rfl) (aI d.box rfl)
 refine key.mono ?_;rintro e y ⟨rfl,f⟩;exact⟨rfl,f.os,f.tape,f.output,f.size,f.block⟩
end
def RY:(prog.info? 134).map (λi=>(i.zero,i.size,i.bytes))=aa (aa (.agg #[an 0,.string ⟨#[]⟩,an 0,an 0,an 0,an 0,an 0,.string ⟨#[]⟩,an 0,an 0]),10,96):=aT
def Yz(c rb ch q v g k w)(h:cH w c rb ch q v g k)(y:k.ph≠4):
  Calls prog 75 #[jp c] w λe n=>e=aM (.tuple #[])/\cH n c rb ch (.slice ay 0 0) (.slice ay 0 0) g k.shut/\bh (λb=>b=c\/b=ch) w n:=by
 have f:=h.chan;rw[iB y]at f;have t:=aS w c 20 (.chan (aa ch)) h.box;have j:=h.apart.1;have u:=run_close_open (P:=prog) (w:=w) #[166] 0 f;obtain⟨W,d⟩:∃W:az,W={w with heap:=w.heap.setIfInBounds ch (.chan 0 #[] aq 0 0 av)}:=⟨_,rfl⟩;rw[<-d]at u
 have a:W.heap[c]? =aa (aA (jI g k rb q v ch) 168 (0,0)):=by rw[d];show(w.heap.setIfInBounds ch _)[c]? =_;rw[dO (dc j)];exact h.box
 have l:W.heap[ch]? =aa (.chan 0 #[] aq 0 0 av):=by rw[d];have:=(bq.1 f).1;simp[this]
 have m:bh (λb=>b=c\/b=ch) w W:=by rw[d];exact⟨rfl,aC,λk _ x=>dO (λe=>x (aE e.symm))⟩
 have o:Hid (W.heap[c]? =aa (aA (jI g k rb q v ch) 168 (0,0))/\W.heap[ch]? =aa (.chan 0 #[] aq 0 0 av)/\bh (λb=>b=c\/b=ch) w W):=⟨a,l,m⟩;have z:=aS W c 12 (.string k.aU) a;have A:=aS W c 13 q a;have B:=aS W c 16 v a;have f12:=bF a 12;have f13:=bF a 13;have f16:=bF a 16;have i:=bf j;clear d a l m j h;go_enter func75,ntmps75;go_wp2_with (go_at_call 116;refine(zM c ch _ t f).mono ?_;rintro e C ⟨rfl,rfl⟩);obtain⟨r,g2,s⟩:=o.out;refine fI rfl rfl ⟨rfl,⟨?_,qM _ _ _ _,qM _ _ _ _,Ah _,Ah _,?_⟩,((s.set (p:=aj c 12) (aF rfl) _).set (p:=aj c 13) (aF rfl) _).set (p:=aj c 16) (aF rfl) _⟩
 ·exact dF (dF (dF r 12 _) 13 _) 16 _
 ·exact nY (nY (nY g2 (dc i.out) _ _) (dc i.out) _ _) (dc i.out) _ _
abbrev sM(c b:Nat)(g:Cf)(q v:aD)(m:bg)(W:az):Prop:=
 (W.cell? (aj c 13)=aa q/\W.cell? (aj c 16)=aa v)/\HeS c b g.sz g.cl g.qu g.mx g.qn g.rt g.bu g.wk g.ou m W
def sM.of{c b rb ch g k q v m W}(h:W.heap[c]? =aa (aA (jI g k rb q v ch) 168 (0,0)))(hm:tZ W b m):sM c b g q v m W:=
 ⟨⟨aI h rfl,aI h rfl⟩,⟨aI h rfl,aI h rfl,aI h rfl,aI h rfl,aI h rfl,aI h rfl,aI h rfl,aI h rfl,aI h rfl⟩,⟨aI hm rfl,aI hm rfl,aI hm rfl,aI hm rfl,aI hm rfl,aI hm rfl,aI hm rfl,aI hm rfl,aI hm rfl⟩⟩
def Pk{g m}(h:m.nm.size<=65535):(iI g m).size<=65540:=by
 unfold iI;split
 ·split
  ·exact(by decide:(0:Nat)<=65540)
  ·exact(by decide:(4:Nat)<=65540)
 ·exact XH h
def Ck.told(k:Ck)(a:ByteArray):Ck:={k with out:=k.out++a}
def cH.tell{W W1 c rb ch q v v' g k a}(h:cH W c rb ch q v g k)(n:W1.ownsRow 0 5 1 v' (k.out.size+a.size) (jh k.out++jh a))(f:W.grownBy W1 v.ownBlock)(w:Es W W1 v v' (jh a)):
  cH (W1.setCell (aj c 16) v') c rb ch q v' g (k.told a)/\bh (λb=>b=c\/aa b=v.ownBlock) W (W1.setCell (aj c 16) v')/\W1.heap[c]? =aa (aA (jI g k rb q v ch) 168 (0,0)):=by
 obtain⟨a1,j,a3,y,s,l⟩:=h.apart;obtain⟨l1,x,p,C⟩:=h.eH;have d:W1.heap[c]? =aa (aA (jI g k rb q v ch) 168 (0,0)):=(f.block c l1 a3).trans h.box;have off:∀b,b≠c->(W1.setCell (aj c 16) v').heap[b]? =W1.heap[b]? :=λb d=>cw d
 have r:∀b,v'.ownBlock=aa b->b≠c:=λb e i=>by
  rcases n.2 with⟨rfl,_⟩|⟨B,z,A,rfl,_,m,_⟩
  ·cases e
  ·cases e;subst i;rw[d]at m;cases m
 refine⟨⟨dF d 16 v',?_,?_,?_,(w.UH h.tv (QM a)).keep λb e=>off b (r b e),?_⟩,⟨f.os,by simpa using f.size,λb d o=>(off b λe=>o (aF e)).trans (f.block b d λe=>o (aE e))⟩,d⟩
 ·exact eL h.row λb e=>(off b λi=>j (by rw[e,i])).trans (f.block b (p b e) (l b e))
 ·have t:(k.out++a).size=k.out.size+a.size:=qI ..;have u:jh (k.out++a)=jh k.out++jh a:=by simp[jh]
  show ud _ v' (k.out++a);unfold ud;rw[t,u];exact eL n λb e=>off b (r b e)
 ·exact h.tq.keep λb e=>(off b λi=>j (by rw[e,i])).trans (f.block b (p b e) (l b e))
 ·exact(off ch (dc a1)).trans ((f.block ch x s).trans h.chan)
def Ck.asks(k:Ck)(r:Rq):Ck:={k with q:=k.q++[r]}
def cH.ask{W W1 c rb ch q v q' g k r}(h:cH W c rb ch q v g k)(l:W1.ownsRow 0 134 10 q' (k.q.length+1) (k.q.flatMap (λr=>(aO r).toList)++(aO r).toList))(f:W.grownBy W1 q.ownBlock)(x:Es W W1 q q' (aO r).toList):
  cH (W1.setCell (aj c 13) q') c rb ch q' v g (k.asks r)/\bh (λb=>b=c\/aa b=q.ownBlock) W (W1.setCell (aj c 13) q')/\W1.heap[c]? =aa (aA (jI g k rb q v ch) 168 (0,0)):=by
 obtain⟨a1,s,a3,t,z,w⟩:=h.apart;obtain⟨l1,y,D,o⟩:=h.eH;have d:W1.heap[c]? =aa (aA (jI g k rb q v ch) 168 (0,0)):=(f.block c l1 s).trans h.box;have off:∀b,b≠c->(W1.setCell (aj c 13) q').heap[b]? =W1.heap[b]? :=λb d=>cw d
 have p:∀b,q'.ownBlock=aa b->b≠c:=λb e a=>by
  rcases l.2 with⟨rfl,_⟩|⟨C,A,B,rfl,_,j,_⟩
  ·cases e
  ·cases e;subst a;rw[d]at j;cases j
 have i:∀b,v.ownBlock=aa b->aa b≠q.ownBlock:=λb e a=>w b a.symm e.symm;refine⟨⟨dF d 13 q',?_,?_,(x.UH h.tq ?_).keep λb e=>off b (p b e),?_,?_⟩,⟨f.os,by simpa using f.size,λb d n=>(off b λe=>n (aF e)).trans (f.block b d λe=>n (aE e))⟩,d⟩
 ·show iX _ q' (k.q++[r]);unfold iX;rw[gW,yK];simp;exact eL l λb e=>off b (p b e)
 ·exact eL h.out λb e=>(off b λa=>a3 (by rw[e,a])).trans (f.block b (o b e) (i b e))
 ·intro u m;simp at m;rcases m with rfl|rfl|rfl|rfl|rfl|rfl|rfl|rfl|rfl|rfl<;>trivial
 ·exact h.tv.keep λb e=>(off b λa=>a3 (by rw[e,a])).trans (f.block b (o b e) (i b e))
 ·exact(off ch (dc a1)).trans ((f.block ch y t).trans h.chan)
def Ck.heard(g:Cf)(k:Ck)(m:bg):Ck:=if m.wh=4 then k.shut else if accepted m then(k.told (iI g m)).asks ⟨m,-1⟩else k.told (iI g m)
def J1(c rb ch q v g k m w)(h:cH w c rb ch q v g k)(hp:k.ph≠4)(h0:0<=g.sz/\g.sz<=65535)(h1:0<=g.mx/\g.mx<=65535)(hm:m.Ok)(X:m.wh=1\/m.wh=2\/m.wh=3\/m.wh=4)(ho:k.out.size<=1048576)(hq:k.q.length<=1048576):
  Calls prog 153 #[jp c,msV m] w λe j=>e=aM (.tuple #[])/\∃z a,cH j c rb ch z a g (k.heard g m)/\bh (λb=>b=c\/b=ch\/aa b=q.ownBlock\/aa b=v.ownBlock) w j/\
   (z.ownBlock=q.ownBlock\/∀b,z.ownBlock=aa b->w.heap.size<=b)/\(a.ownBlock=v.ownBlock\/∀b,a.ownBlock=aa b->w.heap.size<=b):=by
 obtain⟨i0,bz,nC,bJ,nD⟩:=qO infoByte;obtain⟨i1,bA,bG,bH,bI⟩:=qO RY;have bR:=Pk (g:=g) hm.nm
 have D:Hid (w.heap.size≠c/\w.heap.size≠ch/\(∀b,q.ownBlock=aa b->b≠w.heap.size)/\∀b,v.ownBlock=aa b->b≠w.heap.size):=by obtain⟨l1,l2,l3,l4⟩:=h.eH;exact⟨ak,ak,λb e=>by have:=l3 b e;omega,λb e=>by have:=l4 b e;omega⟩
 have I:aN w (w.alloc (aA (fP m) 132)):=bp;have o:Hid (cH (w.alloc (aA (fP m) 132)) c rb ch q v g k/\tZ (w.alloc (aA (fP m) 132)) w.heap.size m/\aN w (w.alloc (aA (fP m) 132))):=⟨h.old I,cG w _,I⟩;have L:Hid (m.Ok/\(m.wh=1\/m.wh=2\/m.wh=3\/m.wh=4)):=⟨hm,X⟩;clear h hm X I;go_enter func153,ntmps153
 go_upto_region 1 with fail
 generalize w.alloc (aA (fP m) 132)=A0 at*
 go_cut [3] (λp j=>p=aR w.heap.size/\∃a,cH j c rb ch q a g (k.told (iI g m))/\tZ j w.heap.size m/\bh (λb=>b=c\/aa b=v.ownBlock) w j/\(a.ownBlock=v.ownBlock\/∀b,a.ownBlock=aa b->w.heap.size<=b))
 case first=>
  refine iD ?_;refine dY (S:=sM c w.heap.size g q v m) 14 aT (sM.of o.out.1.box o.out.2.1) ?_;intro hS;refine gk 0 ?_;refine gk 1 ?_;refine gk 2 ?_;refine gk 3 ?_;refine gs 4 ?_;refine gk 5 ?_;refine gk 6 ?_;refine gk 7 ?_;refine gs 8 ?_;refine gs 9 ?_;refine gr 10 λK d=>?_;go_simp;go_at_call 192;refine(XC g m _ h0 h1 L.out.1 L.out.2).mono ?_;rintro e J ⟨rfl,r⟩;have x:aN A0 J:=⟨r.os,r.tape,r.output,r.size,r.block⟩;have G:=o.out.1.old x;have E:tZ J w.heap.size m:=bW x o.out.2.1;refine d.out _ _ (sM.of G.box E) (λFu=>?_);clear d K;obtain⟨a,w3,hr,U,R,Y⟩:=Pn (P:=prog) J 158 9 158 5 i0 underlying158 underlying9 bz nC bJ nD v k.out.size (jh k.out) G.out (iI g m) ak;obtain⟨va,vc,rfl⟩:=mO U;obtain⟨P3,T3,A⟩:=G.tell U R Y;have M:tZ w3 w.heap.size m:=(R.block _ (bq.1 E).1 λe=>D.out.2.2.2 _ e.symm rfl).trans E;refine gr 11 λK d=>?_;refine Tq rfl rfl rfl rfl hr ?_;refine d.out _ _ (sM.of A M) (λRw=>?_);clear d K;refine gk 12 ?_;refine gk 13 ?_;have bX:=aS w3 c 16 v A;have f16:=bF A 16;refine gz λK d=>?_;go_simp;refine d.out _ _ ?_;refine ef aT ?_ _;refine gE ?_;go_wp2_with fail
  go_meet
  case rel=>
   refine⟨rfl,_,P3,nY M D.out.1 16 _,(bh.below (o.out.2.2.trans (x.mono o.out.2.2.size))).trans (T3.mono λb _ h=>h),Y.at_.imp id λh b e=>?_⟩;have:=h b e;have:=x.size;have:=o.out.2.2.size;omega
 case rest=>
  obtain⟨rfl,a,k1,f,k3,k4⟩:=hcut;have i:Hid (cH wc c rb ch q a g (k.told (iI g m))/\tZ wc w.heap.size m/\bh (λb=>b=c\/aa b=v.ownBlock) w wc/\(a.ownBlock=v.ownBlock\/∀b,a.ownBlock=aa b->w.heap.size<=b)):=⟨k1,f,k3,k4⟩;have z0:=aS wc w.heap.size 0 (an m.wh) f;have z1:=aS wc w.heap.size 1 (.string m.nm) f;have z2:=aS wc w.heap.size 2 (an m.kd) f;have z3:=aS wc w.heap.size 3 (an m.fl) f;have z4:=aS wc w.heap.size 4 (an m.ck) f;have z5:=aS wc w.heap.size 5 (an m.of) f;have z6:=aS wc w.heap.size 6 (an m.ln) f;have z7:=aS wc w.heap.size 7 (.string m.dt) f;have z8:=aS wc w.heap.size 8 (an m.er) f;clear k1 f k3 k4;cases Q:(m.wh==4)with
  |true=>
   have e4:k.heard g m=(k.told (iI g m)).shut:=aW (by simpa using Q)
   have HC:Hid (Calls prog 75 #[jp c] wc λe j=>e=aM (.tuple #[])/\cH j c rb ch (.slice ay 0 0) (.slice ay 0 0) g (k.heard g m)/\bh (λb=>b=c\/b=ch) wc j):=by rw[e4];exact Yz c rb ch q a g _ wc i.out.1 hp
   go_wp2_with (go_at_call 75;refine HC.out.mono ?_;rintro e l ⟨rfl,c1,c2⟩);refine fI rfl rfl ⟨rfl,_,_,c1,(i.out.2.2.1.mono ?_).trans (c2.mono ?_),aE (λb e=>(by cases e)),aE (λb e=>(by cases e))⟩
   ·rintro b _ (h|h)
    ·exact aF h
    ·exact aE (aE (aE h))
   ·rintro b _ (h|h)
    ·exact aF h
    ·exact aE (aF h)
  |false=>
   have y:m.wh≠4:=by simpa using Q
   cases t:accepted m with
   |false=>
    have C:Hid (k.heard g m=k.told (iI g m)):=by show k.heard g m=_;rw[Ck.heard,aK y,t];rfl
    have HI:=bf (t▸Sb m wc);clear y;go_wp2_with (go_at_call 193;refine HI.out.mono ?_;rintro e l ⟨rfl,n⟩);refine fI rfl rfl ⟨rfl,q,a,C.out▸i.out.1.old n,(i.out.2.2.1.mono ?_).trans (bh.below n),aF rfl,i.out.2.2.2⟩;rintro b _ (h|h)
    ·exact aF h
    ·exact aE (aE (aE h))
   |true=>
    have C:Hid (k.heard g m=(k.told (iI g m)).asks ⟨m,-1⟩):=by show k.heard g m=_;rw[Ck.heard,aK y,t];rfl
    clear y
    go_upto_region 5 with(go_at_call 193;refine(bf (t▸Sb m wc)).out.mono ?_;rintro e l ⟨rfl,n⟩)
    have O:=i.out.1.old n;have N:tZ l w.heap.size m:=bW n i.out.2.1;refine iD ?_;refine dY (S:=sM c w.heap.size g q a m) 11 aT (sM.of O.box N) ?_;intro hS;refine gk 0 ?_;refine gk 1 ?_;refine gk 2 ?_;refine gk 3 ?_;refine gs 4 ?_;refine gs 5 ?_;refine gk 6 ?_;have s:aN l (l.drew.alloc (aA (aO ⟨m,-1⟩) 134)):=⟨rfl,rfl,rfl,aC,λk hk=>Below.heap_alloc _ _ _ hk⟩;have H:=O.old s;have F:tZ (l.drew.alloc (aA (aO ⟨m,-1⟩) 134)) w.heap.size m:=bW s N;refine gr 7 λK d=>?_;go_simp;refine d.out _ _ (sM.of H.box F) (λbP=>?_);clear d K
    obtain⟨z,w7,hr,V,T,Z⟩:=ED (P:=prog) (l.drew.alloc (aA (aO ⟨m,-1⟩) 134)) 165 165 134 i1 _ 10 96 underlying165 bA bG bH bI rfl ak (by intro u W;simp only[Bg,jR,DS,or_false]at W;rcases W with rfl|rfl|rfl|rfl|rfl|rfl|rfl|rfl|rfl|rfl<;>trivial) q k.q.length _ H.row ⟨l.heap.size,0,ay⟩ 1 1 (aO ⟨m,-1⟩).toList rfl (Bi (cG l.drew (aA (aO ⟨m,-1⟩) 134))) (by simp[za]) ak (by unfold cC;omega) ak
    obtain⟨qa,qc,rfl⟩:=mO V;obtain⟨P7,T7,B⟩:=H.ask V T Z;have M7:tZ w7 w.heap.size m:=(T.block _ (bq.1 F).1 λe=>D.out.2.2.1 _ e.symm rfl).trans F;refine gr 8 λK d=>?_;refine ya rfl rfl rfl rfl hr ?_;refine d.out _ _ (sM.of B M7) (λbQ=>?_);clear d K;refine gk 9 ?_;refine gk 10 ?_;have bV:=aS w7 c 13 q B;have f13:=bF B 13;refine gz λK d=>?_;go_simp;refine d.out _ _ ?_;refine ef aT ?_ _;refine gE ?_;go_wp2;refine fI rfl rfl ⟨rfl,_,a,C.out▸P7,((i.out.2.2.1.mono ?_).trans (bh.below (n.trans (s.mono n.size)))).trans (T7.mono ?_),Z.at_.imp id λh b e=>?_,i.out.2.2.2⟩
    ·rintro b _ (h|h)
     ·exact aF h
     ·exact aE (aE (aE h))
    ·rintro b _ (h|h)
     ·exact aF h
     ·exact aE (aE (aF h))
    ·have:=h b e;have:=s.size;have:=n.size;have:=i.out.2.2.1.size;omega
end
section
open Go.Conc Go.RowKit
open Go.Proofs.Tryz
def agk(sz kd fl of ln):0<=verdict sz kd fl of ln/\verdict sz kd fl of ln<=255:=by
 unfold verdict
 repeat' split
 all_goals omega
def G7(s f i):(dz s f i).1.ck=0/\(dz s f i).1.er=0/\(dz s f i).1.of=0/\(dz s f i).1.ln=0:=by
 induction f generalizing i with
 |zero=>unfold dz;split<;>exact⟨rfl,rfl,rfl,rfl⟩
 |succ f a=>
  unfold dz;split
  ·exact⟨rfl,rfl,rfl,rfl⟩
  ·split
   ·exact a (i+1)
   ·exact⟨rfl,rfl,rfl,rfl⟩
def QK(sz mx ph us s):(first sz mx ph us s).1.Ok/\(⟨(first sz mx ph us s).1,-1⟩:Rq).Ok:=by
 have e:=QJ sz mx ph us s
 have key:(0<=(first sz mx ph us s).1.er/\(first sz mx ph us s).1.er<=255)/\(0<=(first sz mx ph us s).1.of/\(first sz mx ph us s).1.of<=65535)/\(0<=(first sz mx ph us s).1.ln/\(first sz mx ph us s).1.ln<=65535):=by
  have z:((0:Int)<=0/\(0:Int)<=255)/\((0:Int)<=0/\(0:Int)<=65535)/\((0:Int)<=0/\(0:Int)<=65535):=bL;unfold first
  split
  ·obtain⟨_,a,b,d⟩:=G7 s 5 0;unfold nB;omega
  ·split
   ·unfold opt
    repeat' split
    all_goals exact z
   ·split
    ·unfold kU
     repeat' split
     all_goals first|exact⟨agk _ _ _ _ _,lM s 5,lM s 7⟩|exact z
    ·exact z
 exact⟨⟨ak,(QI sz mx ph us s),key.1⟩,⟨key.2.1.1,key.2.1.2,key.2.2.1,key.2.2.2⟩⟩
def j9(sz mx ph us s)(h0:(first sz mx ph us s).2≠0):(first sz mx ph us s).1.wh=1\/(first sz mx ph us s).1.wh=2\/(first sz mx ph us s).1.wh=3\/(first sz mx ph us s).1.wh=4:=by
 revert h0;unfold first
 split
 ·rcases G8 s 5 0 with h|h|h
  ·intro h0;exact absurd h.2 h0
  ·exact λ_=>aF h
  ·intro _;have:(nB s).1=.closing:=h;rw[this];exact aE (aE (aE rfl))
 ·split
  ·unfold opt
   repeat' split
   all_goals simp[bg.closing]
  ·split
   ·unfold kU
    repeat' split
    all_goals simp[bg.closing]
   ·simp
def Jt{ph m}(a:ph≠4)(hm:m.wh≠4):after ph m≠4:=by
 unfold after
 repeat' split
 all_goals omega
section
variable {W w:az} {c rb mb ch:Nat} {q v:aD} {g:Cf} {k k':Ck}
def cH.like(h:cH W c rb ch q v g k)(a:jI g k' rb q v ch=jI g k rb q v ch)(b:k'.q=k.q)(d:k'.out=k.out)(e:k'.ph=4↔k.ph=4):cH W c rb ch q v g k':=
 ⟨a▸h.box,b▸h.row,d▸h.out,h.tq,h.tv,by rw[show decide (k'.ph=4)=decide (k.ph=4) from decide_eq_decide.2 e];exact h.chan⟩
def Sz(h:cH w c rb ch q v g k)(i:∀r∈k.q,r.Ok)(e:k.out.size<=4194304)(f:0<=k.prom/\k.prom<=4194304):
  ∃b:Bool,(b=aq↔k.may g)/\bN 151 #[jp c] w (.bool b):=by
 by_cases a:k.ph=4
 ·have d:=h.chan;rw[iC a]at d;exact⟨av,by simp[Ck.may,a],V0 c ch w (aI h.box rfl) d⟩
 ·exact U8 h a i e f
structure cj(W:az)(c rb mb ch:Nat)(q v:aD)(g:Cf)(k:Ck):Prop where
 p:cH W c rb ch q v g k
 rd:∃a,dU W rb mb g.sz g.mx a k.us/\(k.ph≠4->a=k.ph)
structure Ck.BA(g:Cf)(k:Ck):Prop where
 aU:k.aU.size<=1048576
 out:k.out.size<=1048576
 q:∀r∈k.q,r.Ok
 len:k.q.length<=1048576
 prom:0<=k.prom/\k.prom<=1048576
 us:k.us.length<=1048576
 sz:0<=g.sz/\g.sz<=65535
 mx:0<=g.mx/\g.mx<=65535
 qu:g.qu<=65535
 ou:g.ou<=65535
def Rg{pre a}(h:qh g k pre a)(d:∀r∈k.q,r.Ok):∀r∈a.q,r.Ok:=by
 induction h with
 |nil=>exact d
 |@snoc pre a x h i e h0 f b=>
  intro r hr;have hr':r∈(if accepted x.1 then a.q++[⟨x.1,-1⟩]else a.q):=hr;split at hr'
  ·rw[iT]at hr';rcases hr' with hr'|hr'
   ·exact b r hr'
   ·obtain rfl:=iA.1 hr';rw[<-e];exact(QK _ _ _ _ _).2
  ·exact b r hr'
def Y1{l}(h:∀r∈l,r.Ok):6<=needs l:=by
 cases l with
 |nil=>exact jQ 6
 |cons r t=>
  have:=(h r aC).mL;show 6<=6+sizeOf' r.m;unfold sizeOf';split<;>omega
end
end
section
attribute [local go_sem] Oper.semAt_some
attribute [local go_sem] bV bQ
open Go.Proofs.Tryz
open Go.RowKit Go.Shelf
def RgI(c rb mb ch b B0:Nat)(g:Cf)(k:Ck)(pre:aB (bg×Int))(W:az):Prop:=
 ∃a q v,qh g k pre a/\a.may g/\cH W c rb ch q v g a/\(∀x,q.ownBlock=aa x->¬Aside rb mb b x)/\(∀x,v.ownBlock=aa x->¬Aside rb mb b x)/\W.heap[B0]? =aa (aA #[aR c] 119 (0,0))
def RgX(c rb mb ch b:Nat)(g:Cf)(k:Ck)(pre:aB (bg×Int))(W:az):Prop:=
 ∃a q v,(∀f,pre.length<=f->Ck.read g f k=a)/\cH W c rb ch q v g a/\(∀x,q.ownBlock=aa x->¬Aside rb mb b x)/\(∀x,v.ownBlock=aa x->¬Aside rb mb b x)/\(a.ph≠4->a.ph=((⟨k.ph,k.us,0⟩:St).run pre).ph)/\((⟨k.ph,k.us,0⟩:St).run pre).used=a.us
section
variable {c rb mb ch b B0:Nat} {g:Cf} {k:Ck} {q v:aD} {W W':az}
def Jv{row}(hr:∀r,row=aa r->ItR rb mb (b+1) r\/r=b+2+1):∀i,¬Aside rb mb b i->row≠aa i:=λi a e=>a (by
 rcases hr i e with(h|h|h)|h
 ·exact aF h
 ·exact aE (aF h)
 ·exact aE (aE (aE (aF h)))
 ·exact aE (aE (aE (aE (aE h)))))
def cH.grown{row}(h:cH W c rb ch q v g k)(a:W.grownBy W' row)(hr:∀i,¬Aside rb mb b i->row≠aa i)(hc:¬Aside rb mb b c)(j:¬Aside rb mb b ch)(d:∀x,q.ownBlock=aa x->¬Aside rb mb b x)(f:∀x,v.ownBlock=aa x->¬Aside rb mb b x):cH W' c rb ch q v g k:=
 have l:=h.eH
 h.keep (a.block _ l.1 (hr c hc).symm) (a.block _ l.2.1 (hr ch j).symm) (λx e=>a.block _ (l.2.2.1 x e) (hr x (d x e)).symm) λx e=>a.block _ (l.2.2.2 x e) (hr x (f x e)).symm
def RgI.bears(hc:¬Aside rb mb b c)(m:¬Aside rb mb b ch)(l:¬Aside rb mb b B0):Bears (λr=>ItR rb mb (b+1) r\/r=b+2+1) (RgI c rb mb ch b B0 g k):=by rintro pre W W' row ⟨n,q,v,f,h,i,a,d,j⟩ e hr;exact⟨n,q,v,f,h,i.grown e (Jv hr) hc m a d,a,d,nk j e (Jv hr B0 l)⟩
def RgX.bears(hc:¬Aside rb mb b c)(j:¬Aside rb mb b ch):Bears (λr=>ItR rb mb (b+1) r\/r=b+2+1) (RgX c rb mb ch b g k):=by rintro pre W W' row ⟨l,q,v,e,f,a,d,h⟩ i hr;exact⟨l,q,v,e,f.grown i (Jv hr) hc j a d,a,d,h⟩
def cj.off{x}{N:Nat}(h:cj W c rb mb ch q v g k)(w:W.heap[N]? =aa (.deferred x))(y:∀i,i≠N->W'.heap[i]? =W.heap[i]?):cj W' c rb mb ch q v g k:=by
 have key:∀i o,W.heap[i]? =aa o->o≠Obj.deferred x->W'.heap[i]? =W.heap[i]? :=λi o A z=>y i λe=>z (by subst e;exact dP (A.symm.trans w))
 have f:∀{T m n:Nat} {u:aD} {j:aB aD},W.ownsRow 0 T m u n j->∀b,u.ownBlock=aa b->W'.heap[b]? =W.heap[b]? :=λ{T m n u j} hr b e=>by
  rcases hr.2 with⟨rfl,_⟩|⟨E,C,D,rfl,_,a,_⟩
  ·cases e
  ·cases e;exact key _ _ a aC
 obtain⟨B,a,t⟩:=h.rd;refine⟨h.p.keep (key _ _ h.p.box aC) (key _ _ h.p.chan aC) (f h.p.row) (f h.p.out),B,⟨(key _ _ a.box aC).trans a.box,?_⟩,t⟩;obtain⟨s,l,d,r⟩:=a.uses;exact⟨s,l,(key _ _ d aC).trans d,r⟩
end
def Ck.jL(g:Cf)(k:Ck)(x:bg×Int):Ck:=if x.1.wh=4 then k.shut else k.hear g x
def uy(c rb mb ch q v g k w)(h:cj w c rb mb ch q v g k)(B:k.BA g):
  CallsIn iS 3 prog 100 #[aR c] w λe w'=>e=aM (.tuple #[])/\∃j s,cj w' c rb mb ch j s g (Ck.read g (k.aU.size+1) k):=by
 obtain⟨rp,hR,bQ⟩:=h.rd;have Km:aN w (w.alloc (aA #[aR c] 119)):=bp;obtain⟨dd,bK,c7⟩:=Sz (h.p.old Km) B.q (by have:=B.out;omega) (by have:=B.prom;omega);have HM:=bf c7;have HB:=bf Km;clear c7 Km;cases dd with
 |false=>
  have HA:Hid (∀W,aN w W->∃j s,cj W c rb mb ch j s g (Ck.read g (k.aU.size+1) k)):=λW Y=>by rw[Tn (λhx=>by simp[hx]at bK)];exact⟨q,v,h.p.old Y,rp,hR.later Y,bQ⟩
  clear hR bQ h bK;refine Ol func100 rfl trivial ?_ rfl;simp only[ntmps100,jB,eM,gX,lR,DW,uJ,uK,uW,uQ,pV,ld]
  gi_wp2_with (first|(refine⟨trivial,?_⟩;gi_at_call 151;refine(gy.2 HM.out).mono ?_;rintro e E ⟨rfl,Z⟩))
  exact⟨.tuple #[],by simp[results,results100],rfl,HA.out _ (HB.out.trans (Z.mono aC))⟩
 |true=>
  have RN:k.may g:=bK.1 rfl;have K2:k.ph≠4:=RN.1;obtain rfl:=bQ K2;have HA:Hid (∀W,aN w W->cH W c rb ch q v g k/\dU W rb mb g.sz g.mx k.ph k.us):=λW Y=>⟨h.p.old Y,hR.later Y⟩
  have HX:Hid (∀b,w.heap.size<b->¬Aside rb mb b c/\¬Aside rb mb b ch/\¬Aside rb mb b w.heap.size/\(∀x,q.ownBlock=aa x->¬Aside rb mb b x)/\(∀x,v.ownBlock=aa x->¬Aside rb mb b x)/\rb<w.heap.size/\mb<w.heap.size):=λb hb=>by
   obtain⟨es,ck,c6,_⟩:=hR.uses;have xM:=hR.box;have l1:=(bq.1 xM).1;have l2:=(bq.1 c6).1
   have key:∀i o,w.heap[i]? =aa o->o≠.map es ck->o≠aA #[an g.sz,an g.mx,an k.ph,.map (aa mb)] 228 (0,0)->¬Aside rb mb b i:=λi o ho n1 n2=>by
    have l3:=(bq.1 ho).1;rintro(rfl|rfl|h)
    ·exact n2 (dP (ho.symm.trans xM))
    ·exact n1 (dP (ho.symm.trans c6))
    ·omega
   have Si:∀{T m n:Nat} {u:aD} {H:aB aD},T≠228->w.ownsRow 0 T m u n H->∀x,u.ownBlock=aa x->¬Aside rb mb b x:=λ{T m n u H} hT hr x e=>by
    rcases hr.2 with⟨rfl,_⟩|⟨g',eb,ef,rfl,_,h3,_⟩
    ·cases e
    ·cases e;exact key _ _ h3 aC (by simp;intro _ e;exact absurd e hT)
   refine⟨key c _ h.p.box aC aC,key ch _ h.p.chan aC aC,?_,Si bL h.p.row,Si bL h.p.out,l1,l2⟩;rintro(h|h|h)<;>omega
  clear hR bQ h bK;refine Ol func100 rfl trivial ?_ rfl;simp only[ntmps100,jB,eM,gX,lR,DW,uJ,uK,uW,uQ,pV,ld]
  gi_wp2_with (first|(refine⟨trivial,?_⟩;gi_at_call 151;refine(gy.2 HM.out).mono ?_;rintro e E ⟨rfl,Z⟩;have Rx:=HA.out E (HB.out.trans (Z.mono aC));have fc:=aS E c 11 (aR rb) Rx.1.box;have ff:=aS E c 12 (.string k.aU) Rx.1.box;have r0:E.cell? (aj w.heap.size 0)=aa (aR c):=bO Z (by simp[go_sem])))
  refine wpIn_wide.2 ?_;refine fq (S:=ReS c rb w.heap.size k.aU) ⟨fc,ff,r0⟩ λeu=>?_;refine tk 0 ?_;refine tk 1 ?_;refine tk 2 ?_;refine tk 3 ?_;refine tk 4 ?_;refine tk 5 ?_;refine tk 6 ?_;refine tk 7 ?_;refine rH 8 λK hK=>?_;go_simp
  (refine(V1 rb k.aU _).mono ?_;rintro e w4 ⟨rfl,rfl⟩)
  go_wp2_with fail;refine hK.out _ _ (ReS.Q9 eu) (λfH=>?_);clear hK K;refine dL ?_
  (gi_wp2)
  obtain⟨bz,I9,eE,lZ⟩:=abq E rb k.aU;have H7:aN w E:=HB.out.trans (Z.mono aC);have cB:w.heap.size<E.heap.size:=by have:=Z.size;simp at this;omega
  have Ro:aN w (wm E rb k.aU):=H7.trans (lZ.mono (mW cB));have zK:(wm E rb k.aU).heap[w.heap.size]? =aa (aA #[aR c] 119 (0,0)):=(lZ.block _ cB).trans ((Z.block _ aC).trans (cG w _));obtain⟨y1,y3⟩:=HA.out _ Ro;obtain⟨x1,x2,x3,x4,fA,x5,x6⟩:=HX.out _ cB;show Code.wpIn iS 3 prog _ _ _ (wm E rb k.aU);generalize wm E rb k.aU=W0 at*;generalize E.heap.size=b at*;have ey:kJ W0 rb mb b (b+1) g.sz g.mx k.aU ⟨k.ph,k.us,0⟩:=⟨y3,I9,by rw[show k.aU.extract (⟨k.ph,k.us,0⟩:St).pos k.aU.size=k.aU by simp];exact eE,ak,ak,ak,ak,ak⟩;have hz:=B.sz.1;have fM:=B.aU;have fO:=B.us
  refine zS (w:=W0) rfl bL (gf:=189) (lb:=#[aR b,aR (b+1)]) rfl trivial (enters_of func189 aT rfl) (encs:=Lb) (λ_=>rfl)
   (R:=ItR rb mb (b+1)) (Kp:=xq rb mb b (b+1)) (V:=mG g.sz g.mx k.aU ⟨k.ph,k.us,0⟩)
   (S:=λH W'=>mG g.sz g.mx k.aU ⟨k.ph,k.us,0⟩ H/\(((⟨k.ph,k.us,0⟩:St).run H).next g.sz g.mx k.aU).2=0/\kJ W' rb mb b (b+1) g.sz g.mx k.aU ((⟨k.ph,k.us,0⟩:St).run H))
   (Sp:=λpre W'=>mG g.sz g.mx k.aU ⟨k.ph,k.us,0⟩ pre/\kJ W' rb mb b (b+1) g.sz g.mx k.aU ((⟨k.ph,k.us,0⟩:St).run pre))
   (λW Y=>Q3 2 bL _ _ _ _ g.sz g.mx k.aU ⟨k.ph,k.us,0⟩ W hz ak (by show k.us.length<=_;omega) (eZ _) (ey.later Y)) ?hR ?hKt ?hKb ?hS ?hSp
   (RgI c rb mb ch b w.heap.size g k) (RgX c rb mb ch b g k) ?hI ?hIx ?h0 (ReM c rb b w.heap.size k.aU) ?hAx ?assign ?body ?done ?stop
  case hR=>rintro r (h|h|h)<;>omega
  case hKt=>exact λh k=>⟨k.1.trans h.1,k.2.1.trans h.2.1,k.2.2.1.trans h.2.2.1,k.2.2.2.trans h.2.2.2⟩
  case hKb=>exact λW o=>⟨fS ak,fS ak,fS ak,fS ak⟩
  case hS=>exact λH W W' row h I hr=>⟨h.1,h.2.1,h.2.2.kept ⟨I.block _ h.2.2.rd.lt.1 (λe=>by have:=hr _ e.symm;omega),I.block _ h.2.2.rd.lt.2 (λe=>by have:=hr _ e.symm;omega),I.block _ (bq.1 h.2.2.cp).1 (λe=>by have:=hr _ e.symm;omega),I.block _ (bq.1 h.2.2.tx).1 (λe=>by have:=hr _ e.symm;omega)⟩⟩
  case hSp=>exact λH W W' row h I hr=>⟨h.1,h.2.kept ⟨I.block _ h.2.rd.lt.1 (λe=>by have:=hr _ e.symm;omega),I.block _ h.2.rd.lt.2 (λe=>by have:=hr _ e.symm;omega),I.block _ (bq.1 h.2.cp).1 (λe=>by have:=hr _ e.symm;omega),I.block _ (bq.1 h.2.tx).1 (λe=>by have:=hr _ e.symm;omega)⟩⟩
  case hI=>rw[bz];exact RgI.bears x1 x2 x3
  case hIx=>rw[bz];exact RgX.bears x1 x2
  case h0=>exact⟨k,_,_,.nil,RN,y1,x4,fA,zK⟩
  case hAx=>rw[bz];exact λx=>ReM.bears ak ak x
  case assign=>
   rintro l pre ⟨m,nn⟩ W K hi hv iN hK
   gi_wp2
   have I:=oK W (aA (fP m) 132) ay;refine hK _ (W.alloc (aA (fP m) 132)) ?_ ?_ ?_ ?_
   ·exact⟨Below.heap_alloc _ _ _ ak,Below.heap_alloc _ _ _ ak⟩
   ·exact⟨Below.heap_alloc _ _ _ ak,Below.heap_alloc _ _ _ ak,Below.heap_alloc _ _ _ ak,Below.heap_alloc _ _ _ ak⟩
   ·exact RgI.bears x1 x2 x3 _ _ _ ay hi I (λr e=>by cases e)
   ·exact⟨W.heap.size,ak,cG _ _,rfl⟩
  case body=>
   rintro l pre ⟨m,nn⟩ a' W ⟨a,C,D,G,g2,O,g4,g5,U⟩ ⟨A,dB,dD,rfl⟩ hv iN;obtain⟨i1,i2,i3,i4,i5,i6,i7,i8,i9,eH,eK⟩:=Fp G;have zL:=Rf G;have dj:=((TH g.sz g.mx k.aU ⟨k.ph,k.us,0⟩ pre (m,nn)).1 hv).2;rw[zL]at dj;obtain⟨P,cI⟩:=dj;have bP:=JU g.sz g.mx a.ph a.us a.aU;have cF:=QK g.sz g.mx a.ph a.us a.aU;have KE:=j9 g.sz g.mx a.ph a.us a.aU (by rw[P];exact cI);rw[P]at bP cF KE;obtain⟨K,rfl⟩:∃K:Nat,nn=(K:Int):=⟨nn.toNat,by have:=bP.1;simp at this;omega⟩;have hK:K<=a.aU.size:=by have:=bP.2;simp at this;omega
   have dY:=aS W c 12 (.string a.aU) O.box;have f12:=bF O.box 12;have c0:=aS W w.heap.size 0 (aR c) U;have fL:a.aU.size<=1048576:=by rw[i3];simp[mQ];omega
   have fN:(K:Int)<=(a.aU.size:Int):=ak;have HG:Hid (qh g k pre a/\a.may g/\first g.sz g.mx a.ph a.us a.aU=(m,(K:Int))/\(K:Int)≠0/\m.Ok/\(m.wh=1\/m.wh=2\/m.wh=3\/m.wh=4)):=⟨G,g2,P,cI,cF.1,KE⟩;have HQ:Hid (cH W c rb ch C D g a/\(∀x,C.ownBlock=aa x->¬Aside rb mb b x)/\(∀x,D.ownBlock=aa x->¬Aside rb mb b x)/\W.heap[w.heap.size]? =aa (aA #[aR c] 119 (0,0))/\W.heap[A]? =aa (aA (fP m) 132 (0,0))/\b+4<=A/\W0.heap.size+2<=W.heap.size):=⟨O,g4,g5,U,dD,dB,iN⟩;have HI:Hid (a.prom=k.prom/\a.ph=((⟨k.ph,k.us,0⟩:St).run pre).ph/\((⟨k.ph,k.us,0⟩:St).run pre).used=a.us):=⟨i9,i1,i2⟩;clear G g2 O g4 g5 U dB dD iN i1 i2 i3 i4 i5 i6 i7 i8 i9 eH eK P cI cF KE bP zL hv;unfold ReA
   gi_wp2
   rename_i K0 Rv;have ew:=Rv
   have dR:K0 (ReB c rb b w.heap.size k.aU a.aU m K A) (W.setCell (aj c 12) (.string (a.aU.extract K a.aU.size))).drew:=by
    obtain⟨p1,z,p3,p4,p5,p6⟩:=HG.out;obtain⟨aI,q3,cO,q5,q6,q7,q8⟩:=HQ.out;obtain⟨j1,j2,j3⟩:=HI.out;have n2:w.heap.size≠c:=jH q5 aI.box aC;have n3:A≠c:=jH q6 aI.box aC;have n4:w.heap.size≠ch:=jH q5 aI.chan aC
    have n5:aa w.heap.size≠C.ownBlock:=λe=>by
     rcases aI.row.2 with⟨e',_⟩|⟨g',eb,ef,e',_,h3,_⟩
     ·rw[e']at e;cases e
     ·rw[e']at e;cases e;exact jH q5 h3 aC rfl
    have n6:aa w.heap.size≠D.ownBlock:=aaA aI.out q5 aC;obtain⟨y,aP⟩:∃y,y=(W.setCell (aj c 12) (.string (a.aU.extract K a.aU.size))).drew:=⟨_,rfl⟩;have P5:cH y c rb ch C D g {a with aU:=a.aU.extract K a.aU.size}:=by rw[aP];exact(aI.put (k':={a with aU:=a.aU.extract K a.aU.size}) 12 (.string (a.aU.extract K a.aU.size)) rfl rfl rfl rfl).drew
    have M:y.heap[A]? =aa (aA (fP m) 132 (0,0)):=by rw[aP];exact nY q6 n3 _ _
    have X5:y.heap[w.heap.size]? =aa (aA #[aR c] 119 (0,0)):=by rw[aP];exact nY q5 n2 _ _
    have T5:bh (λi=>i=c) W y:=by rw[aP];exact⟨rfl,aC,λi _ hi=>Below.heap_setCell _ _ _ _ hi⟩
    rw[<-aP];clear aP Rv aI q5 q6 dY f12 c0;refine ew _ _ ?_;have z0:=aS y A 0 (an m.wh) M;have z1:=aS y A 1 (.string m.nm) M;have z2:=aS y A 2 (an m.kd) M;have z3:=aS y A 3 (an m.fl) M;have z4:=aS y A 4 (an m.ck) M;have z5:=aS y A 5 (an m.of) M;have z6:=aS y A 6 (an m.ln) M;have z7:=aS y A 7 (.string m.dt) M;have z8:=aS y A 8 (an m.er) M;have y0:=aS y w.heap.size 0 (aR c) X5;have c9:=Rg p1 B.q;have eA:=Y1 c9;have eB:a.out.size<=65535:=by have:=z.2.2;have:=B.ou;have:=B.prom;omega
    have eC:a.q.length<=65535:=by have:=z.2.1;have:=B.qu;omega
    have RF:(a.jL g (m,(K:Int))).ph=4↔m.wh=4:=by
     unfold Ck.jL;split
     ·rename_i e;exact⟨λ_=>e,λ_=>rfl⟩
     ·rename_i e;exact⟨λh=>absurd h (Jt z.1 e),λh=>absurd h e⟩
    have dh:∀t j s,cH t c rb ch j s g (({a with aU:=a.aU.extract K a.aU.size}:Ck).heard g m)->cH t c rb ch j s g (a.jL g (m,(K:Int))):=λt j s d=>by
     by_cases e:m.wh=4
     ·have e1:(({a with aU:=a.aU.extract K a.aU.size}:Ck).heard g m)=a.shut:=aW e;have e2:a.jL g (m,(K:Int))=a.shut:=aW e;rw[e2,<-e1];exact d
     ·have e2:a.jL g (m,(K:Int))=a.hear g (m,(K:Int)):=aK e;rw[e2];unfold Ck.heard at d;rw[aK e]at d;cases ha:accepted m with
      |true=>
       rw[ha]at d;refine d.like rfl ?_ rfl ⟨λh=>absurd h (Jt z.1 e),λh=>absurd h z.1⟩;show(if accepted m then _ else _)=_;rw[ha];rfl
      |false=>
       rw[ha]at d;refine d.like rfl ?_ rfl ⟨λh=>absurd h (Jt z.1 e),λh=>absurd h z.1⟩;show(if accepted m then _ else _)=_;rw[ha];rfl
    have FB:(∀r∈(a.jL g (m,(K:Int))).q,r.Ok)/\(a.jL g (m,(K:Int))).out.size<=4194304/\(a.jL g (m,(K:Int))).prom=k.prom:=by
     unfold Ck.jL;split
     ·exact⟨λr hr=>(by cases hr),(by decide:(0:Nat)<=4194304),j1⟩
     ·rename_i e;refine⟨Rg (qh.snoc p1 z p3 p4 e) B.q,?_,j1⟩;show(a.out++iI g m).size<=_;rw[qI];have:=Pk (g:=g) p5.nm;omega
    have HE:Hid (Calls prog 153 #[aR c,.agg (fP m)] y λe t=>e=aM (.tuple #[])/\∃j s,cH t c rb ch j s g (a.jL g (m,(K:Int)))/\
      bh (λi=>i=c\/i=ch\/aa i=C.ownBlock\/aa i=D.ownBlock) W t/\t.heap[w.heap.size]? =aa (aA #[aR c] 119 (0,0))/\(∀x,j.ownBlock=aa x->¬Aside rb mb b x)/\(∀x,s.ownBlock=aa x->¬Aside rb mb b x)):=by
     refine(J1 c rb ch C D g _ m y P5 z.1 B.sz B.mx p5 p6 (by show a.out.size<=_;omega) (by show a.q.length<=_;omega)).mono ?_;rintro e t ⟨rfl,j,s,d,F,a6,b6⟩
     have fresh:∀(u u':aD),(∀x,u.ownBlock=aa x->¬Aside rb mb b x)->(u'.ownBlock=u.ownBlock\/∀x,u'.ownBlock=aa x->y.heap.size<=x)->∀x,u'.ownBlock=aa x->¬Aside rb mb b x:=λu u' hu M0 x hx=>by
      rcases M0 with e|e
      ·exact hu x (e▸hx)
      ·have:=e x hx;have:=T5.size;rintro(h|h|h)<;>omega
     refine⟨rfl,j,s,dh _ _ _ d,(T5.mono λi _ h=>aF h).trans F,yu F X5 ?_,fresh C j q3 a6,fresh D s cO b6⟩;rintro(e|e|e|e)
     ·exact n2 e
     ·exact n4 e
     ·exact n5 e
     ·exact n6 e
    have cS:Hid (∀Q,bh (λi=>i=c\/i=ch\/aa i=C.ownBlock\/aa i=D.ownBlock) W Q->Two (b+2) W Q/\xq rb mb b (b+1) W Q):=λQ hT=>Q5 hT (by rintro i (rfl|rfl|e|e);exact x1;exact x2;exact q3 i e.symm;exact cO i e.symm) ak ak ak
    obtain⟨d2,cZ⟩:∃d2:Bool,(d2=aq↔(a.jL g (m,(K:Int))).may g):=by
     by_cases e:(a.jL g (m,(K:Int))).may g
     ·exact⟨aq,by simp[e]⟩
     ·exact⟨av,by simp[e]⟩
    have HR:Hid (∀t j s,cH t c rb ch j s g (a.jL g (m,(K:Int)))->bN 151 #[aR c] t (.bool d2)):=λt j s d=>by
     obtain⟨d3,fK,ez⟩:=Sz d FB.1 FB.2.1 (by rw[FB.2.2];have:=B.prom;omega)
     have:d3=d2:=by cases d2<;>cases d3<;>simp_all
     rw[<-this];exact ez
    have HD:Hid ((d2=aq↔(a.jL g (m,(K:Int))).may g)/\((a.jL g (m,(K:Int))).ph=4↔m.wh=4)):=⟨cZ,RF⟩;clear p1 z p3 p4 p5 p6 q3 cO q7 q8 j1 j2 j3 c9 eA eB eC RF dh FB cZ P5 M X5 T5 n2 n3 n4 n5 n6;unfold ReB;cases d2 with
    |true=>
     have cm:=bf (HD.out.1.1 rfl)
     gi_wp2_with (first|(refine⟨trivial,?_⟩;gi_at_call 153;refine(mR l (gy.2 HE.out)).mono ?_;rintro e t ⟨rfl,j,s,d,F,N,J,L⟩;have y6:=aS t w.heap.size 0 (aR c) N;have bk:Hid (cH t c rb ch j s g (a.jL g (m,(K:Int)))/\bh (λi=>i=c\/i=ch\/aa i=C.ownBlock\/aa i=D.ownBlock) W t/\t.heap[w.heap.size]? =aa (aA #[aR c] 119 (0,0))/\(∀x,j.ownBlock=aa x->¬Aside rb mb b x)/\(∀x,s.ownBlock=aa x->¬Aside rb mb b x)):=⟨d,F,N,J,L⟩;clear d F N J L)|(refine⟨trivial,?_⟩;gi_at_call 151;refine(mR l (gy.2 (HR.out _ _ _ bk.out.1))).mono ?_;rintro e Q ⟨rfl,xJ⟩))
     obtain⟨p1,z,p3,p4,p5,p6⟩:=HG.out;obtain⟨d,F,N,J,L⟩:=bk.out;have Ky:=cm.out;have X:m.wh≠4:=λe=>Ky.1 (HD.out.2.2 e);have en:a.jL g (m,(K:Int))=a.hear g (m,(K:Int)):=aK X;have G6:=qh.snoc p1 z p3 p4 X;rw[bz];obtain⟨t1,t2⟩:=cS.out Q (F.trans (.below xJ));rw[en]at d Ky;exact⟨t1,t2,_,j,s,G6,Ky,d.old xJ,J,L,bW xJ N⟩
    |false=>
     have cm:Hid (¬(a.jL g (m,(K:Int))).may g):=λe=>(by have:=HD.out.1.2 e;cases this)
     gi_wp2_with (first|(refine⟨trivial,?_⟩;gi_at_call 153;refine(mR l (gy.2 HE.out)).mono ?_;rintro e t ⟨rfl,j,s,d,F,N,J,L⟩;have y6:=aS t w.heap.size 0 (aR c) N;have bk:Hid (cH t c rb ch j s g (a.jL g (m,(K:Int)))/\bh (λi=>i=c\/i=ch\/aa i=C.ownBlock\/aa i=D.ownBlock) W t/\t.heap[w.heap.size]? =aa (aA #[aR c] 119 (0,0))/\(∀x,j.ownBlock=aa x->¬Aside rb mb b x)/\(∀x,s.ownBlock=aa x->¬Aside rb mb b x)):=⟨d,F,N,J,L⟩;clear d F N J L)|(refine⟨trivial,?_⟩;gi_at_call 151;refine(mR l (gy.2 (HR.out _ _ _ bk.out.1))).mono ?_;rintro e Q ⟨rfl,xJ⟩))
     obtain⟨p1,z,p3,p4,p5,p6⟩:=HG.out;obtain⟨d,F,N,J,L⟩:=bk.out;have c8:=cm.out;rw[bz];obtain⟨t1,t2⟩:=cS.out Q (F.trans (.below xJ))
     by_cases X:m.wh=4
     ·have en:a.jL g (m,(K:Int))=a.shut:=aW X;obtain⟨j1,j2,j3⟩:=HI.out;rw[en]at d;refine⟨t1,t2,_,j,s,λf P=>?_,d.old xJ,J,L,λh=>absurd rfl h,?_⟩
      ·obtain⟨f',rfl⟩:=WB P;have e:(pre++[(m,(K:Int))]).length+f'=pre.length+(f'+1):=cq;rw[e,LL p1,abt z p3 p4 X]
      ·rw[St.LW];show(if accepted m then _ else _)=a.us;have:accepted m=av:=by unfold accepted;simp[X]
       rw[this];exact j3
     ·have en:a.jL g (m,(K:Int))=a.hear g (m,(K:Int)):=aK X;have G6:=qh.snoc p1 z p3 p4 X;obtain⟨r1,r2,r3⟩:=Fp G6;rw[en]at d c8;refine⟨t1,t2,_,j,s,λf P=>?_,d.old xJ,J,L,λ_=>r1,r2⟩;obtain⟨f',rfl⟩:=WB P;rw[LL G6,Tn c8]
   gi_region<;>exact dR
  case done=>
   rintro H W ⟨hr,cD,bu⟩ ⟨a,C,D,G,g2,O,g4,g5,U⟩ hD;obtain⟨i1,i2,i3⟩:=Fp G;have ah:=LX g.sz g.mx k.aU ⟨k.ph,k.us,0⟩ H (eZ _) hr
   have hrd:Ck.read g (k.aU.size+1) k=a:=by obtain⟨f,P⟩:∃f,k.aU.size+1=H.length+f:=⟨k.aU.size+1-H.length,by have:=ah.1;have:=ah.2;simp only at*;omega⟩;rw[P,LL G,abr (by rw[Rf G]at cD;exact cD)]
   have HQ:Hid (cj W c rb mb ch C D g (Ck.read g (k.aU.size+1) k)):=by rw[hrd];have bw:=bu.rd;rw[i2]at bw;exact⟨O,_,bw,λ_=>i1.symm⟩
   clear hrd ah i1 i2 i3 G g2 O g4 g5 U hr cD bu
   gi_wp2
   refine⟨aC,aF ⟨_,_,rfl,qP hD,.tuple #[],by simp[results,results100],rfl,_,_,HQ.out.off hD λi hi=>fS hi⟩⟩
  case stop=>
   rintro pre W ⟨hr,bu⟩ ⟨k2,C,D,G,O,g4,g5,U,g8⟩ hD;have ah:=LX g.sz g.mx k.aU ⟨k.ph,k.us,0⟩ pre (eZ _) hr;have hrd:Ck.read g (k.aU.size+1) k=k2:=G _ (by have:=ah.1;have:=ah.2;simp only at*;omega)
   have HQ:Hid (cj W c rb mb ch C D g (Ck.read g (k.aU.size+1) k)):=by rw[hrd];have bw:=bu.rd;rw[g8]at bw;exact⟨O,_,bw,λh=>(U h).symm⟩
   clear hrd ah G O g4 g5 U g8 hr bu
   gi_wp2
   refine⟨aC,aF ⟨_,_,rfl,qP hD,.tuple #[],by simp[results,results100],rfl,_,_,HQ.out.off hD λi hi=>fS hi⟩⟩
end
section
attribute [local go_sem ↓] Go.wp_at_zero Go.wp_at_succ
attribute [local go_sem] bV bQ
open Go.Conc Go.RowKit
open Go.Proofs.Tryz
def dU.keep{w w' rb mb sz mx ph us}(h:dU w rb mb sz mx ph us)(a:w'.heap[rb]? =w.heap[rb]?)(b:w'.heap[mb]? =w.heap[mb]?):dU w' rb mb sz mx ph us:=⟨a.trans h.box,h.uses.block b⟩
section
variable {W W':az} {c rb mb ch:Nat} {q v:aD} {g:Cf} {k k':Ck}
def cj.eH(h:cj W c rb mb ch q v g k):rb<W.heap.size/\mb<W.heap.size:=by obtain⟨b,a,_⟩:=h.rd;exact a.lt
def cj.apart(h:cj W c rb mb ch q v g k):rb≠c/\mb≠c/\rb≠ch/\mb≠ch/\aa rb≠q.ownBlock/\aa mb≠q.ownBlock/\aa rb≠v.ownBlock/\aa mb≠v.ownBlock/\rb≠mb:=by
 obtain⟨y,a,_⟩:=h.rd;obtain⟨w,t,d,_⟩:=a.uses
 have key:∀{T m n:Nat} {u:aD} {i:aB aD} {b:Nat} {o:Obj},W.ownsRow 0 T m u n i->W.heap[b]? =aa o->(∀f,o≠aA f T (0,0))->aa b≠u.ownBlock:=λ{T m n u i b o} hr l r e=>by
  rcases hr.2 with⟨rfl,_⟩|⟨x,s,f,rfl,_,j,_⟩
  ·cases e
  ·cases e;exact r f (dP (l.symm.trans j))
 exact⟨jH a.box h.p.box aC,jH d h.p.box aC,jH a.box h.p.chan aC,jH d h.p.chan aC,key h.p.row a.box aC,key h.p.row d aC,key h.p.out a.box aC,key h.p.out d aC,jH a.box d aC⟩
def cj.of{q' v'}(h:cj W c rb mb ch q v g k)(j:cH W' c rb ch q' v' g k')(b:W'.heap[rb]? =W.heap[rb]?)(d:W'.heap[mb]? =W.heap[mb]?)(l:k'.us=k.us)(hf:k'.ph≠4->k'.ph=k.ph):cj W' c rb mb ch q' v' g k':=by obtain⟨m,f,i⟩:=h.rd;refine⟨j,m,l▸f.keep b d,λe=>?_⟩;rw[hf e];exact i λa=>e ((hf e).trans a)
def cj.put(h:cj W c rb mb ch q v g k)(i u)(b:(jI g k rb q v ch).setIfInBounds i u=jI g k' rb q v ch)(e:k'.q=k.q)(d:k'.out=k.out)(a:k'.ph=k.ph)(f:k'.us=k.us):cj (W.setCell (aj c i) u) c rb mb ch q v g k':=
 h.of (h.p.put i u b e d a) (cw h.apart.1) (cw h.apart.2.1) f λ_=>a
def cj.drew(h:cj W c rb mb ch q v g k):cj W.drew c rb mb ch q v g k:=⟨h.p.drew,h.rd.choose,⟨h.rd.choose_spec.1.box,h.rd.choose_spec.1.uses⟩,h.rd.choose_spec.2⟩
def cj.drewN(h:cj W c rb mb ch q v g k)(n):cj (W.drewN n) c rb mb ch q v g k:=⟨h.p.drewN n,h.rd.choose,⟨h.rd.choose_spec.1.box,h.rd.choose_spec.1.uses⟩,h.rd.choose_spec.2⟩
def cj.old(h:cj W c rb mb ch q v g k)(a:aN W W'):cj W' c rb mb ch q v g k:=
 h.of (h.p.old a) (a.block _ h.eH.1) (a.block _ h.eH.2) rfl λ_=>rfl
def cj.keep(h:cj W c rb mb ch q v g k){O:Nat->Prop}(a:O c/\O rb/\O mb/\O ch/\(∀b,q.ownBlock=aa b->O b)/\∀b,v.ownBlock=aa b->O b)(d:∀b,O b->b<W.heap.size->W'.heap[b]? =W.heap[b]?):cj W' c rb mb ch q v g k:=
 have l:=h.p.eH;have f:=h.eH
 h.of (h.p.keep (d _ a.1 l.1) (d _ a.2.2.2.1 l.2.1) (λb e=>d b (a.2.2.2.2.1 b e) (l.2.2.1 b e)) λb e=>d b (a.2.2.2.2.2 b e) (l.2.2.2 b e)) (d _ a.2.1 f.1) (d _ a.2.2.1 f.2) rfl λ_=>rfl
end
def Tc(c rb mb ch q v g k w)(h:cj w c rb mb ch q v g k):
  fK 114 #[jp c] w (an k.ph):=by
 obtain⟨n,d,f⟩:=h.rd;have b:=h.p.chan;have i:=aS w c 20 (.chan (aa ch)) h.p.box;have o:=aS w c 11 (aR rb) h.p.box;have m:=aS w rb 2 (an n) d.box
 by_cases a:k.ph=4
 ·rw[iC a]at b;have l:=bf a;clear a d f h;go_enter func114,ntmps114;go_wp2_with (go_at_call 116;refine(FI c ch _ i b).mono ?_;rintro e j ⟨rfl,rfl⟩);go_ret;exact⟨by rw[l.out];rfl,rfl⟩
 ·rw[iB a]at b;obtain rfl:=f a;clear a d f h;go_enter func114,ntmps114;go_wp2_with (first|(go_at_call 116;refine(zM c ch _ i b).mono ?_;rintro e j ⟨rfl,rfl⟩)|(go_at_call 170;refine(acn rb k.ph _ m).mono ?_;rintro e j ⟨rfl,rfl⟩));go_ret;exact⟨rfl,rfl⟩
def Ck.gone(k:Ck):Bool:=!decide (k.ph<3)&&(((k.q.length:Int)==0)&&(k.bE==0)&&((k.out.size:Int)==0))
def Q1(c rb mb ch q v g k w)(h:cj w c rb mb ch q v g k):
  fK 109 #[jp c] w (.bool k.gone):=by
 obtain⟨n,o,rfl,_⟩:=h.p.row.form;obtain⟨l,m,rfl⟩:=mO h.p.out;have r:=aS w c 13 (.slice n k.q.length o) h.p.box;have s:=aS w c 14 (an k.bE) h.p.box;have t:=aS w c 16 (.slice l k.out.size m) h.p.box;have b:=bf (Tc _ _ _ _ _ _ _ _ _ h);have a:Hid (k.gone=(!decide (k.ph<3)&&(((k.q.length:Int)==0)&&(k.bE==0)&&((k.out.size:Int)==0)))):=rfl;generalize k.gone=G at*;clear h;cases d:decide (k.ph<3)with
 |true=>
  go_enter func109,ntmps109;go_wp2_with (go_at_call 114;refine b.out.mono ?_;rintro e i ⟨rfl,rfl⟩);go_ret;exact⟨by rw[a.out,d];rfl,rfl⟩
 |false=>
  cases f:((k.q.length:Int)==0)with
  |false=>
   go_enter func109,ntmps109;go_wp2_with (go_at_call 114;refine b.out.mono ?_;rintro e i ⟨rfl,rfl⟩);go_ret;exact⟨by rw[a.out,d,f];rfl,rfl⟩
  |true=>
   cases j:(k.bE==0)with
   |false=>
    go_enter func109,ntmps109;go_wp2_with (go_at_call 114;refine b.out.mono ?_;rintro e i ⟨rfl,rfl⟩);go_ret;exact⟨by rw[a.out,d,f,j];rfl,rfl⟩
   |true=>
    go_enter func109,ntmps109;go_wp2_with (go_at_call 114;refine b.out.mono ?_;rintro e i ⟨rfl,rfl⟩);go_ret;exact⟨by rw[a.out,d,f,j];rfl,rfl⟩
def Ck.lose(k:Ck):Ck:={k with de:=0}
def U0(c rb mb ch q v g k w)(h:cj w c rb mb ch q v g k):
  Calls prog 167 #[jp c] w λe a=>e=aM (.tuple #[])/\cj a c rb mb ch q v g k.lose/\bh (λi=>i=c) w a:=by
 have b:Hid (cj (w.setCell (aj c 18) (an 0)) c rb mb ch q v g k.lose):=h.put 18 _ rfl rfl rfl rfl rfl;have d:=aS w c 18 (an k.de) h.p.box;have f18:=bF h.p.box 18;go_enter func167,ntmps167;go_wp2;exact fI rfl rfl ⟨rfl,b.out,(bh.refl (λi=>i=c) w).set rfl _⟩
def Ck.lX(g:Cf)(k:Ck):Ck:={k with tok:=min (k.tok+g.rt) g.bu}
def Zu(c rb mb ch q v g k w)(h:cj w c rb mb ch q v g k)(hr:0<=g.rt/\g.rt<=65535)(m:0<=k.tok/\k.tok<=65535):
  Calls prog 60 #[jp c] w λe a=>e=aM (.tuple #[])/\cj a c rb mb ch q v g (k.lX g)/\bh (λi=>i=c) w a:=by
 have b:Hid (cj (w.drew.setCell (aj c 17) (an (min (dJ.wrap (k.tok+g.rt)) g.bu))) c rb mb ch q v g (k.lX g)):=by rw[gV ak ak];exact h.drew.put 17 _ rfl rfl rfl rfl rfl
 have f:=aS w c 7 (an g.rt) h.p.box;have j:=aS w c 8 (an g.bu) h.p.box;have d:=aS w c 17 (an k.tok) h.p.box;have f17:=bF h.p.box 17;clear h;go_enter func60,ntmps60
 go_upto_region 0 with fail
 refine iD ?_;refine dY (S:=λW=>W.cell? (aj c 7)=aa (an g.rt)/\W.cell? (aj c 8)=aa (an g.bu)/\W.cell? (aj c 17)=aa (an k.tok)) 19 aT ⟨f,j,d⟩ ?_;intro hS;refine gk 0 ?_;refine gk 1 ?_;refine gk 2 ?_;refine gk 3 ?_;refine gs 4 ?_;refine gk 5 ?_;refine gk 6 ?_;refine gk 7 ?_;refine gk 8 ?_;refine gs 9 ?_;refine gk 10 ?_;refine gk 11 ?_;refine gk 12 ?_;refine gk 13 ?_;refine gk 14 ?_;refine gs 15 ?_;refine gk 16 ?_;refine gk 17 ?_;refine gk 18 ?_;refine gz λK l=>?_;go_simp;refine l.out _ _ ?_;refine ef aT ?_ _;refine gE ?_;go_wp2;exact fI rfl rfl ⟨rfl,b.out,(bh.refl (λi=>i=c) w).drew'.set (p:=aj c 17) rfl _⟩
def Ck.open(g:Cf)(k:Ck):Ck:={k with de:=k.de+k.wt*g.qn}
def aaw(c rb mb ch q v g k w)(h:cj w c rb mb ch q v g k)(a:0<=g.qn/\g.qn<=65535)(b:0<=k.wt/\k.wt<=65535)(o:0<=k.de/\k.de<=1048576):
  Calls prog 165 #[jp c] w λe d=>e=aM (.tuple #[])/\cj d c rb mb ch q v g (k.open g)/\bh (λi=>i=c) w d:=by
 have r:0<=k.wt*g.qn:=pU b.1 a.1
 have s:k.wt*g.qn<=4294836225:=by have:=Int.mul_le_mul b.2 a.2 a.1 ak;omega
 have f:Hid (cj (w.drew.setCell (aj c 18) (an (dJ.wrap (k.de+dJ.wrap (k.wt*g.qn))))) c rb mb ch q v g (k.open g)):=by rw[gV (x:=k.wt*g.qn) ak ak,gV (x:=k.de+k.wt*g.qn) ak ak];exact h.drew.put 18 _ rfl rfl rfl rfl rfl
 have j:=aS w c 1 (an k.wt) h.p.box;have m:=aS w c 6 (an g.qn) h.p.box;have l:=aS w c 18 (an k.de) h.p.box;have f18:=bF h.p.box 18;clear h;go_enter func165,ntmps165
 go_upto_region 0 with fail
 refine iD ?_;refine dY (S:=λW=>W.cell? (aj c 1)=aa (an k.wt)/\W.cell? (aj c 6)=aa (an g.qn)/\W.cell? (aj c 18)=aa (an k.de)) 17 aT ⟨j,m,l⟩ ?_;intro hS;refine gk 0 ?_;refine gk 1 ?_;refine gk 2 ?_;refine gs 3 ?_;refine gk 4 ?_;refine gk 5 ?_;refine gk 6 ?_;refine gs 7 ?_;refine gk 8 ?_;refine gk 9 ?_;refine gk 10 ?_;refine gk 11 ?_;refine gs 12 ?_;refine gk 13 ?_;refine gk 14 ?_;refine gk 15 ?_;refine gk 16 ?_;refine gz λK n=>?_;go_simp;refine n.out _ _ ?_;refine ef aT ?_ _;refine gE ?_;go_wp2;exact fI rfl rfl ⟨rfl,f.out,(bh.refl (λi=>i=c) w).drew'.set (p:=aj c 18) rfl _⟩
def cz(n:Int):aB Rq->aB Rq×Int
 |[]=>([],n)
 |r::t=>if r.no= -1 then(⟨r.m,n⟩::(cz (n+1) t).1,(cz (n+1) t).2)else(r::(cz n t).1,(cz n t).2)
def xV(l):∀n,(cz n l).1.length=l.length:=by
 induction l with
 |nil=>intro n;rfl
 |cons r t a=>intro n;unfold cz;split<;>simp[a]
def Lm(l):∀n,n<=(cz n l).2/\(cz n l).2<=n+l.length:=by
 induction l with
 |nil=>intro n;simp[cz]
 |cons r t a=>
  intro n;unfold cz;split
  ·have:=a (n+1);simp;omega
  ·have:=a n;simp;omega
def aai(a b):∀n,cz n (a++b)=((cz n a).1++(cz (cz n a).2 b).1,(cz (cz n a).2 b).2):=by
 induction a with
 |nil=>intro n;simp[cz]
 |cons r t c=>
  intro n;simp only[ld,cz];split<;>simp[c]
def aaj{l:aB Rq}{i:Nat}{r:Rq}(h:l[i]? =aa r)(n):cz n (l.take (i+1))=if r.no= -1 then((cz n (l.take i)).1++[⟨r.m,(cz n (l.take i)).2⟩],(cz n (l.take i)).2+1)else((cz n (l.take i)).1++[r],(cz n (l.take i)).2):=by
 rw[tN,h];rw[aai]
 by_cases e:r.no= -1
 ·simp[cz,e]
 ·simp[cz,e]
def QL{α:Type}(F:α->aB aD)(K)(hF:∀x,(F x).length=K):∀(l:aB α) (i j:Nat) (x y:α) (u:aD),l[i]? =aa x->j<K->F y=(F x).set j u->(l.set i y).flatMap F=(l.flatMap F).set (i*K+j) u:=by
 intro l;induction l with
 |nil=>intro i j x y u h;simp at h
 |cons a t d=>
  intro i j x y u h c b;cases i with
  |zero=>
   simp at h;subst h;simp;rw[NI,aW (by grind),b]
  |succ i=>
   simp at h;have e:(i+1) *K+j=K+(i*K+j):=by grind
   simp;rw[d i j x y u h c b,e,NI,aK (by grind),hF]
   congr 2
   omega
def cH.abI{W c rb ch gb n cap i v g k r}(h:cH W c rb ch (.slice (aa (aj gb 0)) n cap) v g k)(o:k.q[i]? =aa r)(no):
  cH (W.setCell (aj gb (i*10+9)) (an no)) c rb ch (.slice (aa (aj gb 0)) n cap) v g {k with q:=k.q.set i ⟨r.m,no⟩}:=by
 obtain⟨a1,s,a3,t,D,p⟩:=h.apart;have off:∀b,b≠gb->(W.setCell (aj gb (i*10+9)) (an no)).heap[b]? =W.heap[b]? :=λb l=>cw l;have H:i<k.q.length:=(dS.1 o).1;refine⟨(off c λe=>s (by rw[e];rfl)).trans h.box,?_,eL h.out λb e=>off b λf=>p gb rfl (by rw[e,f]),?_,h.tv.keep λb e=>off b λf=>p gb rfl (by rw[e,f]),(off ch λe=>t (by rw[e];rfl)).trans h.chan⟩
 ·have a:(k.q.set i ⟨r.m,no⟩).length=k.q.length:=aC;refine⟨?_,?_⟩
  ·rw[QL (λr=>(aO r).toList) 10 (λ_=>rfl) k.q i 9 r ⟨r.m,no⟩ (an no) o ak rfl,kr,a];exact h.row.1
  ·rcases h.row.2 with⟨e,_⟩|⟨G,E,F,e,j,y,z,A,B,C⟩
   ·cases e
   ·cases e;refine aE ⟨gb,cap,_,by rw[a],j,dF y (i*10+9) _,by rw[a];exact z,A,by simpa using B,?_⟩;rw[QL (λr=>(aO r).toList) 10 (λ_=>rfl) k.q i 9 r ⟨r.m,no⟩ (an no) o ak rfl,<-C,a,Hr,List.take_set]
 ·obtain⟨x,T,w,j⟩:=h.tq gb rfl;intro b l;cases l;refine⟨_,T,dF w (i*10+9) _,λu d=>?_⟩;rw[Hr]at d;rcases Iv d with d|rfl
  ·exact j u d
  ·trivial
def aah(c rb mb ch q v g k n w)(h:cj w c rb mb ch q v g k)(Z:0<=n/\n<=281474976710656)(W:k.q.length<=1048576):
  Calls prog 102 #[jp c,an n] w λe G=>e=aM (an (cz n k.q).2)/\cj G c rb mb ch q v g {k with q:=(cz n k.q).1}/\bh (λb=>aa b=q.ownBlock) w G:=by
 obtain⟨l,a,rfl,_⟩:=h.p.row.form;have P:=aS w c 13 (.slice l k.q.length a) h.p.box;have t:=bf h;clear h;go_enter func102,ntmps102;go_wp2
 go_loopw [1,5,11] (λM _ D wr=>∃i:Nat,i<=k.q.length/\D=an (i:Int)/\M=an (cz n (k.q.take i)).2/\Hid (cH wr c rb ch (.slice l k.q.length a) v g {k with q:=(cz n (k.q.take i)).1++k.q.drop i}/\bh (λb=>aa b=(gF l k.q.length a).ownBlock) w wr)) (λ_ _ D _=>k.q.length-(eY D).toNat)
 case atStart=>exact⟨0,eZ _,rfl,rfl,t.out.p,bh.refl _ _⟩
 case round=>
  obtain⟨i,V,rfl,rfl,hR⟩:=hrel
  by_cases x:i<k.q.length
  ·have K:(i:Int)<(k.q.length:Int):=ak;obtain⟨r,hr⟩:∃r,k.q[i]? =aa r:=⟨k.q[i],eI x⟩;have j:=aaj hr n
   have y:((cz n (k.q.take i)).1++k.q.drop i)[i]? =aa r:=by rw[uR (by rw[xV];simp;omega),xV,Ir,yM,wR ak];simpa using hr
   have X:=Lm (k.q.take i) n;have af:(k.q.take i).length<=1048576:=cq;have S:=aS wr c 13 (.slice l k.q.length a) hR.out.1.box;have Y:((cz n (k.q.take i)).1++k.q.drop i).length=k.q.length:=by rw[gW,xV];simp;omega
   have z:iX wr (.slice l k.q.length a) ((cz n (k.q.take i)).1++k.q.drop i):=hR.out.1.row;obtain⟨f,rfl,k0,k1,k2,k3,k4,k5,k6,k7,k8,k9⟩:=z.at y
   have C:((cz n (k.q.take i)).1++k.q.drop i).set i ⟨r.m,(cz n (k.q.take i)).2⟩=(cz n (k.q.take i)).1++[⟨r.m,(cz n (k.q.take i)).2⟩]++k.q.drop (i+1):=by
    have L:(cz n (k.q.take i)).1.length=i:=by rw[xV];simp;omega
    rw[NI,aK ak,L,Nat.sub_self,Io]
    congr 1
    rw[DK x];rfl
   have B:k.q.drop i=r::k.q.drop (i+1):=by
    rw[DK x]
    congr 1
    rw[eI x]at hr;exact dP hr
   have f9:wr.frozen? (aj f (i*10+9))=av:=by
    rcases z.2 with⟨e,_⟩|⟨T,Q,R,e,U,J,_⟩
    ·cases e
    ·injection e with d;injection d with d;injection d with d;subst d;exact bF J _
   have A:=hR.out.1.abI y (cz n (k.q.take i)).2;cases E:(r.no==-1)with
   |true=>
    have d:r.no= -1:=by simpa using E
    rw[aW d]at j
    have o:Hid (cH (wr.setCell (aj f (i*10+9)) (an (cz n (k.q.take i)).2)) c rb ch (.slice (aa (aj f 0)) k.q.length a) v g {k with q:=(cz n (k.q.take (i+1))).1++k.q.drop (i+1)}/\bh (λb=>aa b=(gF (aa (aj f 0)) k.q.length a).ownBlock) w (wr.setCell (aj f (i*10+9)) (an (cz n (k.q.take i)).2))):=by refine⟨?_,hR.out.2.set (p:=aj f (i*10+9)) rfl _⟩;rw[j];show cH _ _ _ _ _ _ _ {k with q:=(cz n (k.q.take i)).1++[⟨r.m,(cz n (k.q.take i)).2⟩]++k.q.drop (i+1)};rw[<-C];exact A
    have u:Hid ((cz n (k.q.take (i+1))).2=(cz n (k.q.take i)).2+1):=by show _=_;rw[j]
    clear A j C B z y;generalize (cz n (k.q.take i)).2=F at*;go_wp2;refine⟨⟨i+1,ak,by go_num,?_,o.out⟩,?_⟩
    ·rw[u.out]
    ·simp[eY];omega
   |false=>
    have d:¬r.no= -1:=by simpa using E
    rw[aK d]at j
    have o:Hid (cH wr c rb ch (.slice (aa (aj f 0)) k.q.length a) v g {k with q:=(cz n (k.q.take (i+1))).1++k.q.drop (i+1)}/\bh (λb=>aa b=(gF (aa (aj f 0)) k.q.length a).ownBlock) w wr):=by refine⟨?_,hR.out.2⟩;rw[j];show cH _ _ _ _ _ _ _ {k with q:=(cz n (k.q.take i)).1++[r]++k.q.drop (i+1)};rw[Io];show cH _ _ _ _ _ _ _ {k with q:=(cz n (k.q.take i)).1++(r::k.q.drop (i+1))};rw[<-B];exact hR.out.1
    have u:Hid ((cz n (k.q.take (i+1))).2=(cz n (k.q.take i)).2):=by show _=_;rw[j]
    clear A j C B z y;generalize (cz n (k.q.take i)).2=F at*;go_wp2;refine⟨⟨i+1,ak,by go_num,?_,o.out⟩,?_⟩
    ·rw[u.out]
    ·simp[eY];omega
  ·have K:¬(i:Int)<(k.q.length:Int):=ak;have e:i=k.q.length:=ak;subst e;have s:=hR.out;rw[wP,List.drop_length,DJ]at s
   have o:Hid (cj wr c rb mb ch (.slice l k.q.length a) v g {k with q:=(cz n k.q).1}/\bh (λb=>aa b=(gF l k.q.length a).ownBlock) w wr):=by obtain⟨a1,N,a3,O,H,I,_⟩:=t.out.apart;exact⟨t.out.of s.1 (s.2.block _ t.out.eH.1 H) (s.2.block _ t.out.eH.2 I) rfl λ_=>rfl,s.2⟩
   have u:Hid ((cz n (k.q.take k.q.length)).2=(cz n k.q).2):=by show _=_;rw[wP]
   clear hR s;generalize (cz n (k.q.take k.q.length)).2=F at*;go_wp2;go_ret;exact⟨by rw[<-u.out];rfl,o.out.1,o.out.2⟩
end
end Go.Proofs.YtpobhljcainmdaaGreat
