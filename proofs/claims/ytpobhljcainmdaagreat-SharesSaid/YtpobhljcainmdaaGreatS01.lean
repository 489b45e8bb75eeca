/- Parts of the proof. -/
import Derived.Below
import Derived.Conc.Beside
import Derived.Conc.CrowdComm
import Derived.Conc.Listed
import Derived.Conc.LoneSelect
import Derived.Deep.RegionHeld
import Derived.Deep.RegionHeld3
import Derived.OrdersHeld
import Derived.OrdersIn
import Derived.OwnWalkIn
import Derived.WalkKit
import GoSem.Dispatch
set_option maxRecDepth 100000
set_option maxHeartbeats 8000000
set_option linter.all false
namespace Go.Proofs.YtpobhljcainmdaaGreat
abbrev bq:=@Array.getElem?_eq_some_iff
abbrev dO:=@Array.getElem?_setIfInBounds_ne
abbrev cX:=@Array.getElem?_eq_getElem
abbrev bD:=@Nat.le_refl
abbrev aK:=@if_neg
abbrev dS:=@List.getElem?_eq_some_iff
abbrev cE:=@Bool.and_eq_true
abbrev dw:=@List.mem_cons_self
abbrev eI:=@List.getElem?_eq_getElem
abbrev dI:=@Nat.lt_of_lt_of_le
abbrev eO:=@Option.bind_eq_some_iff
abbrev aW:=@if_pos
abbrev eV:=@Option.map_eq_some_iff
abbrev eJ:=@List.mem_cons_of_mem
abbrev dP:=@Option.some.inj
abbrev eX:=@Bool.false_eq_true
abbrev fJ:=@Array.getElem?_push
abbrev eM:=@List.length_cons
abbrev dM:=@Nat.le_trans
abbrev fV:=@Array.getElem?_map
abbrev gW:=@List.length_append
abbrev iA:=@List.mem_singleton
abbrev lN:=@Array.getElem?_eq_none
abbrev gX:=@List.length_nil
abbrev lf:=@List.mem_of_getElem?
abbrev lO:=@Array.getElem?_modify
abbrev eZ:=@Nat.zero_le
abbrev jB:=@List.size_toArray
abbrev jA:=@List.getElem?_map
abbrev iB:=@decide_eq_false
abbrev cV:=@if_true
abbrev mw:=@Array.mem_of_getElem?
abbrev mQ:=@ByteArray.size_extract
abbrev rN:=@Array.all_eq_true_iff_forall_mem
abbrev fX:=@Nat.zero_add
abbrev iT:=@List.mem_append
abbrev dc:=@Ne.symm
abbrev dQ:=@if_false
abbrev iC:=@decide_eq_true
abbrev ko:=@List.getElem?_set
abbrev nP:=@List.getElem_cons_zero
abbrev dZ:=@congrArg
abbrev pS:=@Classical.byContradiction
abbrev wI:=@Array.getElem?_setIfInBounds_self_of_lt
abbrev ld:=@List.cons_append
abbrev oC:=@Array.getElem?_toList
abbrev kr:=@List.length_set
abbrev rW:=@List.setIfInBounds_toArray
abbrev mV:=@Nat.eq_zero_or_pos
abbrev tD:=@Array.getD_eq_getD_getElem?
abbrev mz:=@List.all_eq_true
abbrev qL:=@List.getElem_cons_succ
abbrev jR:=@List.mem_cons
abbrev qJ:=@List.getElem?_set_self
abbrev mY:=@Option.getD_some
abbrev qI:=@ByteArray.size_append
abbrev lQ:=@List.mem_range
abbrev uR:=@List.getElem?_append_right
abbrev ku:=@List.mem_map
abbrev rZ:=@List.take_append_drop
abbrev nQ:=@List.length_map
abbrev rU:=@List.mem_of_mem_take
abbrev jQ:=@Int.le_refl
abbrev pZ:=@decide_eq_true_eq
abbrev qK:=@List.getElem?_take
abbrev kB:=@Nat.le_succ
abbrev tM:=@List.mem_iff_getElem?
abbrev sG:=@beq_eq_false_iff_ne
abbrev rO:=@Array.length_toList
abbrev wH:=@Array.getElem?_eq_none_iff
abbrev tE:=@Array.mem_toList_iff
abbrev tL:=@List.getElem?_set_ne
abbrev rY:=@List.set_cons_zero
abbrev rX:=@List.set_cons_succ
abbrev uX:=@List.take_of_length_le
abbrev uM:=@ByteArray.data_extract
abbrev rV:=@List.pairwise_cons
abbrev pR:=@Bool.or_eq_true
abbrev pV:=@List.nil_append
abbrev nM:=@Array.mem_map
abbrev mX:=@Nat.lt_or_ge
abbrev mW:=@Nat.le_of_lt
abbrev rP:=@Bool.not_eq_true'
abbrev sH:=@of_decide_eq_true
abbrev wQ:=@Nat.add_sub_cancel_left
abbrev uS:=@List.getElem_toArray
abbrev uJ:=@Array.replicate_succ
abbrev uK:=@Array.replicate_zero
abbrev uV:=@List.mem_of_mem_drop
abbrev pU:=@Int.mul_nonneg
abbrev rT:=@List.map_toArray
abbrev rS:=@List.any_eq_true
abbrev yU:=@Option.isNone_iff_eq_none
abbrev uQ:=@List.append_toArray
abbrev tN:=@List.take_add_one
abbrev wJ:=@Array.mem_iff_getElem
abbrev wO:=@List.contains_iff_mem
abbrev Av:=@Array.getElem?_setIfInBounds
abbrev su:=@Nat.not_lt_zero
abbrev ve:=@Option.isSome_none
abbrev yL:=@List.length_eq_zero_iff
abbrev uW:=@List.push_toArray
abbrev tK:=@List.foldl_cons
abbrev tP:=@Option.map_some
abbrev Aw:=@Array.mapM_eq_mapM_toList
abbrev yR:=@Nat.eq_of_beq_eq_true
abbrev uI:=@Array.mem_append
abbrev DF:=@Int.mul_le_mul_of_nonneg_right
abbrev sr:=@Nat.lt_irrefl
abbrev yO:=@List.mem_append_left
abbrev yD:=@Array.toList_append
abbrev yK:=@List.flatMap_append
abbrev wP:=@List.take_length
abbrev uT:=@List.mapM_cons
abbrev yV:=@Option.isSome_some
abbrev DG:=@Int.tmod_eq_emod_of_nonneg
abbrev yC:=@Array.ext_getElem?
abbrev AQ:=@List.getElem?_eq_none
abbrev AU:=@List.mem_append_right
abbrev Ho:=@Array.getElem?_setIfInBounds_self
abbrev DK:=@List.drop_eq_getElem_cons
abbrev wR:=@Nat.min_eq_left
abbrev yJ:=@List.ext_getElem?
abbrev Di:=@Array.setIfInBounds_comm
abbrev Dg:=@Array.getElem?_replicate
abbrev uU:=@List.map_cons
abbrev yS:=@Nat.lt_succ_self
abbrev Hi:=@Array.eq_empty_of_size_eq_zero
abbrev yM:=@List.length_take
abbrev DM:=@List.getElem?_replicate
abbrev Ip:=@List.eq_nil_of_length_eq_zero
abbrev yE:=@Bool.eq_iff_iff
abbrev yP:=@List.range_succ
abbrev wK:=@ByteArray.ext
abbrev AP:=@List.foldl_append
abbrev AO:=@List.any_eq_false
abbrev Hl:=@Array.getElem?_append_left
abbrev Hr:=@Array.toList_setIfInBounds
abbrev wS:=@Nat.zero_mul
abbrev Iv:=@List.mem_or_eq_of_mem_set
abbrev IL:=@Option.isSome_iff_exists
abbrev oI:=@Iff.rfl
abbrev AJ:=@Int.tmod_nonneg
abbrev AT:=@List.map_append
abbrev AV:=@List.mem_filter
abbrev Df:=@Array.foldl_toList
abbrev Eb:=@UInt8.toNat_ofNat'
abbrev DH:=@Int.tmod_lt_of_pos
abbrev Dv:=@Function.comp_def
abbrev yN:=@List.map_nil
abbrev DL:=@List.flatMap_cons
abbrev DT:=@List.pairwise_map
abbrev DN:=@List.mapM_toArray
abbrev Hj:=@Array.getElem?_append
abbrev wW:=@beq_iff_eq
abbrev DS:=@List.not_mem_nil
abbrev DQ:=@List.mem_flatMap
abbrev AS:=@List.mapM_nil
abbrev Hq:=@Array.toList_extract
abbrev It:=@List.getElem?_of_mem
abbrev Iw:=@List.pairwise_append
abbrev VZ:=@Int.mul_le_mul_of_nonneg_left
abbrev DJ:=@List.append_nil
abbrev Vw:=@Array.getElem?_append_right
abbrev AK:=@Int.zero_mul
abbrev Dm:=@Bool.not_false
abbrev Iu:=@List.mem_filterMap
abbrev Iq:=@List.find?_eq_none
abbrev Ir:=@List.getElem?_drop
abbrev IX:=@not_false_eq_true
abbrev tS:=@dif_pos
abbrev IC:=@Nat.lt_succ_of_lt
abbrev Io:=@List.append_assoc
abbrev ID:=@Nat.lt_trichotomy
abbrev AI:=@Int.add_mul
abbrev Dh:=@Array.map_map
abbrev DD:=@Int.mul_assoc
abbrev ej:=@Nat.le_of_not_lt
abbrev Ws:=@List.mem_toArray
abbrev gx:=@Array.toList_map
abbrev Wq:=@List.getElem_mem
abbrev NN:=@Nat.le_add_right
abbrev AZ:=@Nat.mod_lt
abbrev Au:=@Array.ext'
abbrev DO:=@List.map_set
abbrev DU:=@List.set_set
abbrev MY:=@Array.size_push
abbrev WI:=@Option.map_none
abbrev NI:=@List.set_append
abbrev Ii:=@Int.mul_add
abbrev gK:=@dif_neg
abbrev aB:=@List
abbrev aJ:=@Array
abbrev aZ:=@Option
abbrev an(n:Int):Value:=.int .i64 n
abbrev aj(b n:Nat):Addr:=⟨b,n,none⟩
abbrev aR(b:Nat):Value:=.pointer (some ⟨b,0,none⟩)
theorem bp{w:World}{o:Obj}:RowKit.Below w.heap.size w (w.alloc o):=(RowKit.Below.refl _ _).alloc (Nat.le_refl _) _
theorem bf{p:Prop}(h:p):RowKit.Hid p:=h
abbrev aN(w v:World):Prop:=RowKit.Below w.heap.size w v
theorem ak{p:Prop}(h:p:=by omega):p:=h
theorem aC{p:Prop}(h:p:=by simp):p:=h
theorem cq{p:Prop}(h:p:=by (simp;omega)):p:=h
theorem aT{p:Prop}(h:p:=by kernel_rfl):p:=h
theorem bL{p:Prop}(h:p:=by decide):p:=h
theorem iL{p:Prop}(h:p:=by (intro _ _;unfold execOp;simp[go_sem,Act.put,Act.eval])):p:=h
theorem iM{p:Prop}(h:p:=by (intro _ _ _ h;unfold execOp at h;simp[go_sem,Act.put,Act.eval]at h)):p:=h
open Go renaming TypeId->aQ,Program->aY,Value->aD,World->az,FuncId->bC,TypeDesc->jC,TypeInfo->jD,behindNumber->pY,runtimePanic->qQ,Frame->aV,binOp->fD,Addr->bZ,IntKind->nO,communicate->wX,Question->jS,Event->jw,Operand->gY,getD_set_ne->zg,BinOp->kY,Oper->dK,variablesAt->By,Goroutine->bM,ready_mono->Br,doReturn->qN,commResult->Bj,Result->sx,mayBeOne->zh,program->xe,eqGuard->wY,callDeferred->IS,unsupported->Jd,noView->vh,mem_ready->Eg,seenCells->Eh,cellsIn->ze,callMethod->IT,typeInfo->Ek,stringish->Jc,FrameMode->Ie,boundsPanic->Oj,goexitEntry->Bn,MapEntry->IA,BoundsCode->hO,CommCase->Hv,elemOf->Bm,newObj->Bp,PanicEntry->ia,unwind->qR,about_put->jf,loadBytes->kq,GStep->lg,Code->gN,Item->fW
open Go.Sem renaming bind->cL,run_bind'->gw,runT->dx,runT_fst->ji,bind_assoc'->Be,store->sC,getObj->Bf,run_bind->wU,shape->IN,setObj->Od
open Go.World renaming shape?->gO,setCell->fY,freeze->zb,cell?->fC,frozen?->oJ,viewStore->Xa,seen->Oi,farStore->WY,noCell->WZ
open Go.Region renaming ready->eD,wanted->dg,noSelect_spec->Ea,free_spec->Bc,binds->tQ,noSelect->Bd,free->yX,Mode->yW
open Go.Op renaming equal->eN,maxDepth->tO,equalIn->yT,addrMod->DX,unary->Ba,addrSub->IG,addrCmp->IF,twoPlaces->NX,eqGuardIn->NP,intArith->NQ,stringOp->NW,intBits->NS,intCmp->NU,intDiv->NV,shift->qv
open Go.Extern.BytealgMakeNoZero renaming makeNoZero->yG,digits->VJ
open Go.RowKit.Below renaming heap_setCell->wT
open _root_.Bind renaming bind->kg
open _root_.Pure renaming pure->kD
open Go.stepG renaming exec->gZ,oper->td
open Go.Builtin renaming unsafeSliceData_->Dq,zeroCells->tF,unsafeAdd_->Ht,len_->Ay,min2->Az,unsafeString_->Ng,mayShare->Nf,min_->Hs,append_->oG,delete_->Nd,close_->Nc,clear_->uL,copy_->Dn,firstCells->VC,holdsCells->VD,cap_->Nb,lenOf->Dp
open Go.Goroutine renaming finishComm->AE
open Go.Instr renaming sliceAt->uP,endRound->tH,sliceBounds->AG,slice->uO,takeDeferred->Dz,fill->uN,getLoop->tI,enterLoop->yI,endLoop->yH,findNow->Dw,sameBits->Ih,keyThatStays->Ny,sliceBound->ND,buildSlice->Nr,beginRound->AF,typeAssert->DC,findAsking->Nu,makeSlice->Dy,mapUpdate->NA,checkKey->Ns,panicnil->NB,makeChan->Nz,makeInterface->VV,indexAt->Nx,fieldAt->Nt,sameNow->NC,findKey->Nv,lookup->Dx,index->Nw,build->Nq,yield->AH,sureAddr->VY,makeFunc->rQ,storeAt->VX,extract->VT,makeMap->VW,loadAt->VU,alloc->py,box->tw
open Go.Conv renaming unsafePointer->AA,seenAt->tG,bytesToString->Ni
open _root_.MonadExcept renaming throw->AY
open Go.Deferred renaming ofValue->wM
open Go.Extern.AbiNoEscape renaming same->Hy
open Go.GStep renaming after->jy,es->Nl
open _root_.List renaming range->dH,length_eraseIdx->Wr,dropWhile_cons->Wn
open Go.Act renaming put_comm->yB
open Go.Extern renaming allNextRows->Hz,findNext->Ib,allGenericRows->VL,find->Ia,allTypedRows->VM
open Go.MemOp renaming ofEvents->kA
open _root_.Array renaming swapAt!->Dl,swapAt->Dj,getD->pQ,replicate->oF,toList_zipIdx->VB,forIn_toList->Vv,map_id->MW,toList_zip->VA,range->MX
open Go.Conc renaming runT_crowd_comm->IY,stepT_solo->Bv,illMade->Bo,rcase->sA
open _root_.Except renaming bind->Ds,pure->Dt
open Go.Made renaming reckonStruct->NL,reckon->Iz,infoAt->NK,depth->NJ
open Go.Value renaming pointer->Bh,ofBytes->WN
open Go.Oper renaming semAt_plain->NY,wpIn->IJ,uponIn->NZ,wp->II
open Go.Result renaming andThen->Oa
open _root_.Bool renaming not_true->Na,false_or->MZ
open Go.Obj renaming isChan->IE
open _root_.Option.some renaming injEq->WJ
open _root_.Option renaming bind_some->WH
open Go.Stepped.next renaming inj->vf
open Go.Code renaming region->Nh
open Go.Question renaming forced->WK
open Go.Frame renaming catches->Ic,round->so,oper?->sw
open _root_.Nat renaming add_comm->oc
open Go.Tables renaming info?->WM
open _root_.UInt8 renaming ofNat->tR
open _root_.Functor renaming map->VP
open Go.Operand renaming tmp->IK
open _root_.MonadExceptOf renaming throw->sB
open Go renaming undef->au
open Go.Obj renaming cells->aA
open _root_.Bool renaming false->av,true->aq
open _root_.Option renaming none->ay,some->aa
open _root_.Or renaming inl->aF,inr->aE
section
structure bg where
 wh:Int
 nm:ByteArray
 kd:Int
 fl:Int
 ck:Int
 of:Int
 ln:Int
 dt:ByteArray
 er:Int
def bg.zero:bg:=⟨0,⟨#[]⟩,0,0,0,0,0,⟨#[]⟩,0⟩
def bg.closing:bg:=⟨4,⟨#[]⟩,0,0,0,0,0,⟨#[]⟩,0⟩
def bt(s:ByteArray)(i:Nat):Int:=((s.data.getD i 0).toNat:Int)
def vK(s i)(h:i<s.size):(s[i].toNat:Int)=bt s i:=by unfold bt;rw[show s[i]=s.data[i] from rfl];simp[pQ,h]
def pg(s i):0<=bt s i/\bt s i<=255:=by unfold bt;have:=(s.data.getD i 0).toNat_lt;omega
def two(s:ByteArray)(i:Nat):Int:=bt s i+256*bt s (i+1)
abbrev nI(s d:ByteArray)(e:Int):bg:=⟨3,⟨#[]⟩,bt s 1,bt s 2,two s 3,two s 5,two s 7,d,e⟩
def lM(s i):0<=two s i/\two s i<=65535:=by have a:=pg s i;have b:=pg s (i+1);unfold two;omega
def verdict(sz a fl of ln:Int):Int:=
 if 5<a\/1<fl then 22
 else if fl=1/\a≠3/\a≠1/\a≠4 then 22
 else if a≠0/\a≠3/\a≠1/\a≠4 then(if of≠0\/ln≠0 then 22 else 0)
 else if ln=0\/ln %4≠0\/of %4≠0 then 22
 else if sz<of+ln then(if a=1\/a=4 then 28 else 22)
 else 0
def vS(i:Nat):Int:=if i=0 then 70 else if i=1 then 69 else if i=2 then 82 else if i=3 then 82 else 89
def dz(s:ByteArray):Nat->Nat->bg×Int
 |0,_=>if s.size<6 then(.zero,0)else(⟨1,s.extract 5 6,0,0,0,0,0,⟨#[]⟩,0⟩,6)
 |f+1,i=>if s.size<=i then(.zero,0)else if bt s i=vS i then dz s f (i+1)else(.closing,i+1)
def nB(s:ByteArray):bg×Int:=dz s 5 0
def opt(s:ByteArray):bg×Int:=
 if s.size=0 then(.zero,0)else if bt s 0<97\/122<bt s 0 then(.closing,1)else(⟨2,s.extract 0 1,0,0,0,0,0,⟨#[]⟩,0⟩,1)
def kU(sz a:Int)(b:aB Int)(s:ByteArray):bg×Int:=
 if s.size<9 then(.zero,0)
 else if bt s 0≠81\/a<two s 7\/two s 3∈b then(.closing,9)
 else if bt s 1=1 then
  (if(s.size:Int)<9+two s 7 then(.zero,0)
   else((nI s (s.extract 9 (9+two s 7).toNat) (verdict sz (bt s 1) (bt s 2) (two s 5) (two s 7))),9+two s 7))
 else(⟨3,⟨#[]⟩,bt s 1,bt s 2,two s 3,two s 5,two s 7,⟨#[]⟩,verdict sz (bt s 1) (bt s 2) (two s 5) (two s 7)⟩,9)
def first(sz a ph:Int)(b:aB Int)(s:ByteArray):bg×Int:=
 if ph=0 then nB s else if ph=1 then opt s else if ph=2 then kU sz a b s else(.zero,0)
def after(ph:Int)(m:bg):Int:=
 if m.wh=1/\(m.nm.toList==[97])=aq then 1 else if m.wh=2/\(m.nm.toList==[103])=aq then 2 else if m.wh=3/\m.kd=5/\m.er=0 then 3 else if m.wh=4 then 4 else ph
def accepted(m:bg):Bool:=decide (m.wh=3/\m.er=0/\m.kd≠5)
abbrev Key:=Int×Int
def dW(a b:Key):Bool:=decide (a.1<b.1)||(decide (a.1=b.1)&&decide (a.2<b.2))
def iw(a b:Key):Prop:=a.1<b.1\/(a.1=b.1/\a.2<=b.2)
def EG(a b:Key):dW a b=aq↔¬iw b a:=by unfold dW iw;simp;omega
def Cq{a b}(h:dW a b=aq):iw a b:=by rw[EG]at h;unfold iw at*;omega
def Cr{a b}(h:dW a b=av):iw b a:=by
 have:¬dW a b=aq:=by rw[h];simp
 rw[EG]at this;exact Classical.not_not.1 this
def iw.trans{a b c}(h:iw a b)(k:iw b c):iw a c:=by unfold iw at*;omega
def iw.refl(a:Key):iw a a:=by unfold iw;omega
def gD{α:Type}(f:Nat->α)(i k:Nat):Nat->α:=λx=>if x=i then f k else if x=k then f i else f x
abbrev par(i:Nat):Nat:=(i-1) / 2
def Hp(n:Nat)(f:Nat->Key):Prop:=∀j,0<j->j<n->iw (f (par j)) (f j)
structure vA(n:Nat)(f:Nat->Key)(i:Nat):Prop where
 rest:∀j,0<j->j<n->j≠i->iw (f (par j)) (f j)
 over:0<i->∀c,0<c->c<n->par c=i->iw (f (par i)) (f c)
structure vw(n:Nat)(f:Nat->Key)(i:Nat):Prop where
 rest:∀j,0<j->j<n->par j≠i->iw (f (par j)) (f j)
 over:0<i->∀c,0<c->c<n->par c=i->iw (f (par i)) (f c)
def vA.done{n f i}(h:vA n f i)(hi:i=0\/dW (f i) (f (par i))=av):Hp n f:=λj h0 a=>by
 by_cases e:j=i
 ·subst e;rcases hi with hi|hi
  ·omega
  ·exact Cr hi
 ·exact h.rest j h0 a e
def vA.step{n f i}(h:vA n f i)(h0:0<i)(t:i<n)(o:dW (f i) (f (par i))=aq):vA n (gD f i (par i)) (par i):=by
 have u:par i<i:=by grind
 have l:=Cq o;refine⟨λj d g s=>?_,λm c p q r=>?_⟩
 ·unfold gD
  by_cases e:j=i
  ·subst e;rw[aK ak,aW rfl,aW rfl];exact l
  ·rw[aK e,aK s]
   by_cases a:par j=i
   ·rw[aW a];exact h.over h0 j d g a
   ·rw[aK a]
    by_cases b:par j=par i
    ·rw[aW b];exact l.trans (b▸h.rest j d g e)
    ·rw[aK b];exact h.rest j d g e
 ·have v:par (par i)<par i:=by simp only[par]at m⊢;omega
  have k:=h.rest (par i) m ak ak;unfold gD;rw[aK ak,aK ak]
  by_cases e:c=i
  ·rw[aW e];exact k
  ·rw[aK e,aK (by grind)];have:=h.rest c p q e;rw[r]at this;exact k.trans this
def jJ(n:Nat)(f:Nat->Key)(i c:Nat)(m:Nat):Nat:=if c<n/\dW (f c) (f m)=aq then c else m
def vw.done{n f i}(h:vw n f i)(hm:jJ n f i (2*i+2) (jJ n f i (2*i+1) i)=i):Hp n f:=λj h0 g=>by
 by_cases e:par j=i
 ·have l:j=2*i+1\/j=2*i+2:=by simp only[par]at e;omega
  have b:jJ n f i (2*i+1) i=i:=by
   by_cases c:jJ n f i (2*i+1) i=i
   ·exact c
   ·exfalso
    have k:jJ n f i (2*i+1) i=2*i+1:=by
     unfold jJ at c⊢;split at c
     ·rw[aW (by assumption)]
     ·exact absurd rfl c
    rw[k]at hm;unfold jJ at hm;split at hm<;>omega
  rw[b]at hm;rw[e];rcases l with rfl|rfl
  ·unfold jJ at b;split at b
   ·omega
   ·rename_i d;cases a:dW (f (2*i+1)) (f i)with
    |true=>exact absurd ⟨g,a⟩ d
    |false=>exact Cr a
  ·unfold jJ at hm;split at hm
   ·omega
   ·rename_i d;cases a:dW (f (2*i+2)) (f i)with
    |true=>exact absurd ⟨g,a⟩ d
    |false=>exact Cr a
 ·exact h.rest j h0 g e
def QW{n f i m}(hm:jJ n f i (2*i+2) (jJ n f i (2*i+1) i)=m)(k:m≠i):(m=2*i+1\/m=2*i+2)/\m<n/\dW (f m) (f i)=aq/\∀c,c<n->(c=2*i+1\/c=2*i+2)->iw (f m) (f c):=by
 unfold jJ at hm
 by_cases e:2*i+1<n/\dW (f (2*i+1)) (f i)=aq
 ·rw[aW e]at hm
  by_cases d:2*i+2<n/\dW (f (2*i+2)) (f (2*i+1))=aq
  ·rw[aW d]at hm;subst hm;have a:=Cq e.2;have b:=Cq d.2;refine⟨aE rfl,d.1,?_,λc j h=>?_⟩
   ·have:=e.2;have:=d.2;rw[EG]at*;unfold iw at*;omega
   ·rcases h with rfl|rfl
    ·exact b
    ·exact iw.refl _
  ·rw[aK d]at hm;subst hm;refine⟨aF rfl,e.1,e.2,λc j h=>?_⟩;rcases h with rfl|rfl
   ·exact iw.refl _
   ·cases g:dW (f (2*i+2)) (f (2*i+1))with
    |true=>exact absurd ⟨j,g⟩ d
    |false=>exact Cr g
 ·rw[aK e]at hm
  by_cases d:2*i+2<n/\dW (f (2*i+2)) (f i)=aq
  ·rw[aW d]at hm;subst hm;refine⟨aE rfl,d.1,d.2,λc j h=>?_⟩;rcases h with rfl|rfl
   ·cases g:dW (f (2*i+1)) (f i)with
    |true=>exact absurd ⟨j,g⟩ e
    |false=>exact(Cq d.2).trans (Cr g)
   ·exact iw.refl _
  ·rw[aK d]at hm;exact absurd hm.symm k
def vw.step{n f i m}(h:vw n f i)(hm:jJ n f i (2*i+2) (jJ n f i (2*i+1) i)=m)(w:m≠i):vw n (gD f i m) m:=by
 obtain⟨y,o,p,q⟩:=QW hm w;have d:par m=i:=by grind
 refine⟨λj k l x=>?_,λz c r u g=>?_⟩
 ·unfold gD
  by_cases e:par j=i
  ·rw[aW e];have v:j≠i:=by grind
   rw[aK v]
   by_cases a:j=m
   ·rw[aW a];exact(Cq p)
   ·rw[aK a];exact q j l (by grind)
  ·rw[aK e,aK x]
   by_cases a:j=i
   ·subst a;rw[aW rfl];exact h.over k m ak o d
   ·rw[aK a];have b:j≠m:=λb=>e (b▸d);rw[aK b];exact h.rest j k l e
 ·have t:c≠m:=by simp only[par]at g;omega
  have s:c≠i:=by grind
  unfold gD;rw[d,aW rfl,aK s,aK t];exact g▸h.rest c r u ak
def Hp.top{n f}(h:Hp n f):∀j,j<n->iw (f 0) (f j):=by
 intro j;induction j using Nat.strongRecOn with
 |ind j b=>
  intro a
  by_cases e:j=0
  ·subst e;exact iw.refl _
  ·exact(b (par j) (by grind) (by grind)).trans (h j ak a)
structure St where
 ph:Int
 used:aB Int
 pos:Nat
def St.step(st:St)(x:bg×Int):St:=⟨after st.ph x.1,if accepted x.1 then st.used++[x.1.ck]else st.used,st.pos+x.2.toNat⟩
def St.run(st:St)(xs:aB (bg×Int)):St:=xs.foldl St.step st
def St.LW(st:St)(xs:aB (bg×Int))(x:bg×Int):st.run (xs++[x])=(st.run xs).step x:=by simp[St.run,AP]
def St.next(sz a:Int)(s:ByteArray)(st:St):bg×Int:=first sz a st.ph st.used (s.extract st.pos s.size)
def mG(sz a:Int)(s:ByteArray):St->aB (bg×Int)->Prop
 |_,[]=>True
 |st,x::b=>st.next sz a s=x/\x.2≠0/\mG sz a s (st.step x) b
def TH(sz mx s)(st:St)(xs:aB (bg×Int))(x:bg×Int):mG sz mx s st (xs++[x])↔mG sz mx s st xs/\(st.run xs).next sz mx s=x/\x.2≠0:=by
 induction xs generalizing st with
 |nil=>simp[mG,St.run]
 |cons y g f=>
  simp only[ld,mG,f];simp;constructor
  ·rintro⟨a,b,c,d,e⟩;exact⟨⟨a,b,c⟩,d,e⟩
  ·rintro⟨⟨a,b,c⟩,d,e⟩;exact⟨a,b,c,d,e⟩
def G4(s f i):0<=(dz s f i).2/\(dz s f i).2<=s.size:=by
 induction f generalizing i with
 |zero=>unfold dz;split<;>simp<;>omega
 |succ f a=>
  unfold dz;split
  ·simp
  ·split
   ·exact a (i+1)
   ·simp;omega
def JU(sz mx ph used s):0<=(first sz mx ph used s).2/\(first sz mx ph used s).2<=s.size:=by
 have a:=lM s 7;unfold first
 split
 ·exact G4 s 5 0
 ·split
  ·unfold opt;repeat' split
   all_goals simp
   all_goals omega
  ·split
   ·unfold kU;repeat' split
    all_goals simp
    all_goals omega
   ·simp
def SN(sz mx s)(st:St):0<=(st.next sz mx s).2/\(st.next sz mx s).2<=(s.size-st.pos:Nat):=by
 have h:=JU sz mx st.ph st.used (s.extract st.pos s.size);have e:(s.extract st.pos s.size).size=s.size-st.pos:=by simp[mQ]
 rw[e]at h;exact h
def LX(sz mx s)(st:St)(xs:aB (bg×Int))(h0:st.pos<=s.size)(h:mG sz mx s st xs):st.pos+xs.length<=(st.run xs).pos/\(st.run xs).pos<=s.size:=by
 induction xs generalizing st with
 |nil=>simp[St.run];omega
 |cons x xs d=>
  obtain⟨a,f,b⟩:=h;have c:=SN sz mx s st;rw[a]at c;have e:(st.step x).pos=st.pos+x.2.toNat:=rfl;have:=d (st.step x) ak b;simp only[St.run,tK,eM]at this⊢;omega
def eG(n:Int):aB UInt8:=[tR (n %256).toNat,tR (n / 256).toNat]
def answer(sz a:Int)(m:bg):ByteArray:=
 if m.wh=1 then(if(m.nm.toList==[97])=aq then⟨#[89]⟩else⟨#[78]⟩)
 else if m.wh=2 then(if(m.nm.toList==[105])=aq then⟨#[73]⟩++⟨(eG sz).toArray⟩++⟨(eG a).toArray⟩else if(m.nm.toList==[103])=aq then⟨#[71]⟩else⟨#[85]⟩++m.nm)
 else⟨#[]⟩
structure Cl where
 no:Int
 wt:Int
 ph:Int
 aU:ByteArray
 out:ByteArray
 tok:Int
def G8(s f i):(dz s f i).1.wh=0/\(dz s f i).2=0\/(dz s f i).1.wh=1\/(dz s f i).1=.closing:=by
 induction f generalizing i with
 |zero=>unfold dz;split<;>simp[bg.zero]
 |succ f a=>
  unfold dz;split
  ·simp[bg.zero]
  ·split
   ·exact a (i+1)
   ·simp
def YL(s:ByteArray)(p n:Nat)(_h:p+n<=s.size):(s.extract p s.size).extract n (s.extract p s.size).size=s.extract (p+n) s.size:=by
 apply wK;simp[mQ]
 congr 1
 omega
def G5(s f i):(dz s f i).1.nm.size<=1:=by
 induction f generalizing i with
 |zero=>unfold dz;split
        ·exact(by decide:(0:Nat)<=1)
        ·show(s.extract 5 6).size<=1;simp[mQ];omega
 |succ f a=>
  unfold dz;split
  ·exact(by decide:(0:Nat)<=1)
  ·split
   ·exact a (i+1)
   ·exact(by decide:(0:Nat)<=1)
def QJ(sz mx ph us s):(first sz mx ph us s).1.nm.size<=1:=by
 unfold first
 split
 ·exact G5 s 5 0
 ·split
  ·unfold opt;split
   ·exact(by decide:(0:Nat)<=1)
   ·split
    ·exact(by decide:(0:Nat)<=1)
    ·show(s.extract 0 1).size<=1;simp[mQ];omega
  ·split
   ·unfold kU
    repeat' split
    all_goals exact(by decide:(0:Nat)<=1)
   ·exact(by decide:(0:Nat)<=1)
def tk{P ops Q md S oi v fuel listed a a' w}(i)(h:wpAnyH P md ops Q S fuel (listed.setIfInBounds i aq) a' w)(hS:S w:=by assumption) (f:ops[i]? =aa oi:=by rfl) (g:Bd ops=aq:=by kernel_rfl) (hf:yX md ops listed i=aq:=by kernel_rfl) (hr:(eD md ops listed).contains i=aq:=by kernel_rfl) (b:∀c a w,Q (.panic c) (a.put oi.dst v) w->Q (.panic c) a w:=by exact λ_ _ _ h=>h) (j:dg oi (yielded ops a.tmps)=aq:=by rfl) (hy:∀w,S w->(execOp a.eval oi).run P w=.ok (.value v) w:=by(intro k d;(try dsimp only at d);go_simp;try with_reducible rfl)) (e:a.put oi.dst v=a':=by(first|(simp only[Act.put,uS,nP,qL,rW,rY,rX];rfl)|rfl)):wpAnyH P md ops Q S (fuel+1) listed a w:=
 wpAnyH_take f g hf hr b (aF ⟨j,hy⟩) hS (e▸h)
section
variable {P:aY} {ops:aJ dK} {Q:Exit->Act->az->Prop} {md:yW} {S:az->Prop} {fuel:Nat} {listed:aJ Bool} {a:Act} {w:az} {o:dK}
def rH(i)(h:∀b:Act->az->Prop,Shut (∀a w,S w->(S w->wpAnyH P md ops Q S fuel (listed.setIfInBounds i aq) a w)->b a w)->if dg o (yielded ops a.tmps)=aq then II P o a w b Q else b (a.put o.dst au) w)(c:ops[i]? =aa o:=by rfl) (hr:eD md ops listed=[i]:=by kernel_rfl):wpAnyH P md ops Q S (fuel+1) listed a w:=wpAnyH_ready hr aC (.cons c h .nil)
def aH(rs)(h:AllReadyH P md ops Q S fuel listed a w rs)(hr:eD md ops listed=rs:=by kernel_rfl) (b:rs≠[]:=by simp):wpAnyH P md ops Q S (fuel+1) listed a w:=wpAnyH_ready hr b h
end
def fq{P:aY}{ops:aJ dK}{Q:Exit->Act->az->Prop}{S:az->Prop}{id:Nat}{a:Act}{w:az}(hS:S w.drew)(h:S w.drew->wpAnyH P .any ops (NoPanic Q) S ops.size (oF ops.size av) a w.drew)(hm:P.follows .mixedOrders=aq:=by kernel_rfl):(Nh id ops aq).wp P Q a w:=wp_region_noPanic (wp_region_held_drew hm hS h)
def dL{P:aY}{ops:aJ dK}{Q:Exit->Act->az->Prop}{S:az->Prop}{md:yW}{listed:aJ Bool}{a:Act}{w:az}{fuel:Nat}(h:Q .normal a w)(hr:eD md ops listed=[]:=by kernel_rfl):wpAnyH P md ops (NoPanic Q) S fuel listed a w:=wpAnyH_done hr (NoPanic.normal h) _
def heldBy(md:yW)(ops:aJ dK)(i:Nat):Nat->Nat->Bool
 |0,j=>j==i
 |n+1,j=>heldBy md ops i n j||(match ops[j]? with|some o=>o.after.any λe=>tQ md e&&heldBy md ops i n e.on|none=>av)
section
variable {P:aY} {ops:aJ dK} {Q:Exit->Act->az->Prop} {md:yW} {S:az->Prop} {s:Nat}
def Fz{i j}:∀{n:Nat},heldBy md ops i n j=aq->j=i\/∃o e,ops[j]? =aa o/\e∈o.after/\tQ md e=aq/\heldBy md ops i n e.on=aq
 |0,h=>aF (by simpa[heldBy]using h)
 |n+1,h=>by
  simp only[heldBy,pR]at h;rcases h with h|h
  ·rcases Fz h with e|⟨o,e,b,c,d,f⟩
   ·exact aF e
   ·exact aE ⟨o,e,b,c,d,by simp[heldBy,f]⟩
  ·cases a:ops[j]? with
   |none=>rw[a]at h;cases h
   |some o=>
    rw[a]at h;simp only[Array.any_eq_true']at h;obtain⟨e,g,h⟩:=h;rw[cE]at h;exact aE ⟨o,e,rfl,g,h.1,by simp[heldBy,h.2]⟩
def stays{i j n listed}(h:∀k,heldBy md ops i n k=aq->listed.getD k aq=av)(p:j∈eD md ops listed)(q:j≠i):
  ∀k,heldBy md ops i n k=aq->(listed.setIfInBounds j aq).getD k aq=av:=λk b=>by
 by_cases e:j=k
 ·subst e;rcases Fz b with e|⟨o,e,d,f,g,l⟩
  ·exact absurd e q
  ·obtain⟨_,r,c,m⟩:=Eg.1 p;rw[d]at c;cases c;have a1:=m e f g;have a:=h _ l;rcases mX e.on listed.size with h'|h'
   ·simp[h']at a1 a;rw[a1]at a;cases a
   ·simp[lN h']at a
 ·rw[zg aq e];exact h k b
def gm(P:aY)(md:yW)(ops:aJ dK)(Q:Exit->Act->az->Prop)(S:az->Prop)(s:Nat):Nat->aJ Bool->Act->az->Prop
 |0,listed,a,w=>eD md ops listed=[]/\Q .normal a w
 |fuel+1,listed,a,w=>
  (eD md ops listed=[]->Q .normal a w)/\
  ∀i∈eD md ops listed,wpOp P ops Q i (λc b=>((listed.setIfInBounds i aq).getD s aq=av->S b)/\gm P md ops Q S s fuel (listed.setIfInBounds i aq) c b) a w
def Vo:∀(fuel:Nat) (listed:aJ Bool) (a:Act) (w:az),gm P md ops Q S s fuel listed a w->wpAny P md ops Q fuel listed a w
 |0,_,_,_,h=>h
 |fuel+1,_,_,_,h=>⟨h.1,λi d=>wpOp_mono (λb e c=>Vo fuel _ b e c.2) (h.2 i d)⟩
def Hg{T i n oi v}(t:ops[i]? =aa oi)(C:∀(j:Nat) (o:dK) cs b,ops[j]? =aa o->o.op≠.select cs b)(K:∀c a w,Q (.panic c) (a.put oi.dst v) w->Q (.panic c) a w)(D:i≠s)(r:(∀w,T w)\/((∀w,S w->T w)/\heldBy md ops i n s=aq)):
  ∀(fuel:Nat) (listed:aJ Bool) (a:Act) (w:az),
   (∀j g,ops[j]? =aa g->j≠i->listed.getD j aq=av->(∀e∈g.after,tQ md e=aq->e.on≠i)->oi.apart ops g=aq)->
   i∈eD md ops listed->((∀k,heldBy md ops i n k=aq->listed.getD k aq=av)\/∀w,T w)->YieldsIf P ops T oi v a->(listed.getD s aq=av->S w)->
   gm P md ops Q S s fuel (listed.setIfInBounds i aq) (a.put oi.dst v) w->gm P md ops Q S s (fuel+1) listed a w:=by
 have F:∀{listed:aJ Bool} {w:az},((∀k,heldBy md ops i n k=aq->listed.getD k aq=av)\/(∀w,T w))->(listed.getD s aq=av->S w)->T w:=λh hS=>by
  rcases h with h|h
  ·rcases r with r|⟨f,J⟩
   ·exact r _
   ·exact f _ (hS (h s J))
  ·exact h _
 have B:∀{listed:aJ Bool} {w:az},(listed.getD s aq=av->S w)->(listed.setIfInBounds i aq).getD s aq=av->S w:=λh e=>h (by rw[zg aq D]at e;exact e);intro fuel;induction fuel with
 |zero=>
  intro listed a w _ hr m p hS H;refine⟨λh=>(by rw[h]at hr;cases hr),λj l=>?_⟩
  by_cases d:j=i
  ·subst d;exact p.wpOp t (F m hS) ⟨B hS,H⟩
  ·have:=Br l d;rw[H.1]at this;cases this
 |succ fuel Y=>
  intro listed a w y hr m p hS H;refine⟨λh=>(by rw[h]at hr;cases hr),λj l=>?_⟩
  by_cases d:j=i
  ·subst d;exact p.wpOp t (F m hS) ⟨B hS,H⟩
  ·have f:=H.2 j (Br l d);obtain⟨A,g,u,L⟩:=Eg.1 l
   have X:∀e∈g.after,tQ md e=aq->e.on≠i:=λe N M O=>by
    have f:=L e N M;have h0:=(Eg.1 hr).1;rw[O]at f;rcases mX i listed.size with h'|h'
    ·simp[h']at h0 f;rw[h0]at f;cases f
    ·simp[lN h']at f
   have R:∀k ok,ops[k]? =aa ok->k≠i->(listed.setIfInBounds j aq).getD k aq=av->
     (∀e∈ok.after,tQ md e=aq->e.on≠i)->oi.apart ops ok=aq:=λk ok U V E W=>by
    refine y k ok U V ?_ W
    by_cases z:j=k
    ·subst z;exact A
    ·rw[zg aq z]at E;exact E
   refine wpOp_mono (λI G q=>?_) (wpOp_putIf u (y j g u d A X) (λcs b=>C i oi cs b t) (λcs b=>C j g cs b u) K p f)
   have x:(listed.setIfInBounds j aq).getD s aq=av->S G:=λe=>q.2.1 (by rw[Di _ _ (dc d),zg aq D];exact e)
   refine⟨x,Y (listed.setIfInBounds j aq) I G R (Br hr (dc d)) (m.imp (λh=>stays h l d) id) q.1 x ?_⟩;rw[Di _ _ d];exact q.2.2
def gk{oi v fuel listed a a' w}(i)(h:gm P md ops Q S s fuel (listed.setIfInBounds i aq) a' w)(hS:S w:=by assumption) (b:ops[i]? =aa oi:=by rfl) (f:Bd ops=aq:=by kernel_rfl) (hf:yX md ops listed i=aq:=by kernel_rfl) (hr:(eD md ops listed).contains i=aq:=by kernel_rfl) (g:i≠s:=by decide) (d:∀c a w,Q (.panic c) (a.put oi.dst v) w->Q (.panic c) a w:=by exact λ_ _ _ h=>h) (j:dg oi (yielded ops a.tmps)=aq:=by rfl) (hy:∀w:az,(execOp a.eval oi).run P w=.ok (.value v) w:=by(intro k;go_simp;try with_reducible rfl)) (e:a.put oi.dst v=a':=by(first|(simp only[Act.put,uS,nP,qL,rW,rY,rX];rfl)|rfl)):gm P md ops Q S s (fuel+1) listed a w:=
 Hg (T:=λ_=>True) (n:=0) b (Ea f) d g (aF λ_=>trivial) fuel listed a w (Bc b hf) (by grind) (aE λ_=>trivial) (aF ⟨j,λw _=>hy w⟩) (λ_=>hS) (e▸h)
def gs{oi v fuel listed a a' w}(i)(h:gm P md ops Q S s fuel (listed.setIfInBounds i aq) a' w)(hS:S w:=by assumption) (d:ops[i]? =aa oi:=by rfl) (q:Bd ops=aq:=by kernel_rfl) (hf:yX md ops listed i=aq:=by kernel_rfl) (hr:(eD md ops listed).contains i=aq:=by kernel_rfl) (r:i≠s:=by decide) (b:(heldBy md ops i 6 s&&((dH ops.size).all λk=>!(heldBy md ops i 6 k)||!(listed.getD k aq)))=aq:=by kernel_rfl) (j:∀c a w,Q (.panic c) (a.put oi.dst v) w->Q (.panic c) a w:=by exact λ_ _ _ h=>h) (t:dg oi (yielded ops a.tmps)=aq:=by rfl) (hy:∀w,S w->(execOp a.eval oi).run P w=.ok (.value v) w:=by(intro u l;(try dsimp only at l);go_simp;try with_reducible rfl)) (m:a.put oi.dst v=a':=by(first|(simp only[Act.put,uS,nP,qL,rW,rY,rX];rfl)|rfl)):gm P md ops Q S s (fuel+1) listed a w:=by
 rw[cE,mz]at b;refine Hg (T:=S) (n:=6) d (Ea q) j r (aE ⟨λ_ h=>h,b.1⟩) fuel listed a w (Bc d hf) (by simpa using hr) (aF λk f=>?_) (aF ⟨t,hy⟩) (λ_=>hS) (m▸h)
 have p:k<ops.size:=by
  rcases Fz f with e|⟨o,e,g,_⟩
  ·subst e;exact(bq.1 d).1
  ·exact(bq.1 g).1
 have:=b.2 k (lQ.2 p);rw[f]at this;simpa using this
def g0{oi fuel listed a a' w}(i)(h:gm P md ops Q S s fuel (listed.setIfInBounds i aq) a' w)(hS:S w:=by assumption) (b:ops[i]? =aa oi:=by rfl) (f:Bd ops=aq:=by kernel_rfl) (hf:yX md ops listed i=aq:=by kernel_rfl) (hr:(eD md ops listed).contains i=aq:=by kernel_rfl) (g:i≠s:=by decide) (d:∀c a w,Q (.panic c) (a.put oi.dst au) w->Q (.panic c) a w:=by exact λ_ _ _ h=>h) (j:dg oi (yielded ops a.tmps)=av:=by rfl) (e:a.put oi.dst au=a':=by(first|(simp only[Act.put,uS,nP,qL,rW,rY,rX];rfl)|rfl)):gm P md ops Q S s (fuel+1) listed a w:=
 Hg (T:=λ_=>True) (n:=0) b (Ea f) d g (aF λ_=>trivial) fuel listed a w (Bc b hf) (by grind) (aE λ_=>trivial) (aE ⟨j,rfl⟩) (λ_=>hS) (e▸h)
def ga{oi v fuel listed a a' w}(i)(h:gm P md ops Q S s fuel (listed.setIfInBounds i aq) a' w)(l:listed.getD s aq=aq:=by kernel_rfl) (b:ops[i]? =aa oi:=by rfl) (g:Bd ops=aq:=by kernel_rfl) (hf:yX md ops listed i=aq:=by kernel_rfl) (hr:(eD md ops listed).contains i=aq:=by kernel_rfl) (j:i≠s:=by decide) (d:∀c a w,Q (.panic c) (a.put oi.dst v) w->Q (.panic c) a w:=by exact λ_ _ _ h=>h) (k:dg oi (yielded ops a.tmps)=aq:=by rfl) (hy:∀w:az,(execOp a.eval oi).run P w=.ok (.value v) w:=by(intro m;go_simp;try with_reducible rfl)) (f:a.put oi.dst v=a':=by(first|(simp only[Act.put,uS,nP,qL,rW,rY,rX];rfl)|rfl)):gm P md ops Q S s (fuel+1) listed a w:=
 Hg (T:=λ_=>True) (n:=0) b (Ea g) d j (aF λ_=>trivial) fuel listed a w (Bc b hf) (by grind) (aE λ_=>trivial) (aF ⟨k,λw _=>hy w⟩) (λe=>by rw[l]at e;cases e) (f▸h)
def gr{o fuel listed a w}(i)(h:∀b:Act->az->Prop,Shut (∀a w,S w->(S w->gm P md ops Q S s fuel (listed.setIfInBounds i aq) a w)->b a w)->if dg o (yielded ops a.tmps)=aq then II P o a w b Q else b (a.put o.dst au) w)(k:ops[i]? =aa o:=by rfl) (hr:eD md ops listed=[i]:=by kernel_rfl):gm P md ops Q S s (fuel+1) listed a w:=by
 refine⟨λh0=>(by grind),?_⟩;rw[hr];intro j g;obtain rfl:=iA.1 g;unfold wpOp;simp only[k];have:=h (λf d=>((listed.setIfInBounds j aq).getD s aq=av->S d)/\gm P md ops Q S s fuel (listed.setIfInBounds j aq) f d) (λa w c h=>⟨λ_=>c,h c⟩);split
 ·rename_i e;rw[aW e]at this;exact aF this
 ·rename_i e;rw[aK e]at this;exact this
def gz{o fuel listed a w}(h:∀b:Act->az->Prop,Shut (∀a w,gm P md ops Q S s fuel (listed.setIfInBounds s aq) a w->b a w)->if dg o (yielded ops a.tmps)=aq then II P o a w b Q else b (a.put o.dst au) w)(k:ops[s]? =aa o:=by rfl) (hr:eD md ops listed=[s]:=by kernel_rfl) (i:s<listed.size:=by decide):gm P md ops Q S s (fuel+1) listed a w:=by
 refine⟨λh0=>(by grind),?_⟩;rw[hr];intro j g;obtain rfl:=iA.1 g;unfold wpOp;simp only[k];have f:(listed.setIfInBounds j aq).getD j aq≠av:=by simp[i]
 have:=h (λd c=>((listed.setIfInBounds j aq).getD j aq=av->S c)/\gm P md ops Q S j fuel (listed.setIfInBounds j aq) d c) (λa w h=>⟨λe=>absurd e f,h⟩);split
 ·rename_i e;rw[aW e]at this;exact aF this
 ·rename_i e;rw[aK e]at this;exact this
def ef{listed a w}(hr:eD md ops listed=[])(h:Q .normal a w):
  ∀fuel,gm P md ops Q S s fuel listed a w
 |0=>⟨hr,h⟩
 |_+1=>⟨λ_=>h,by rw[hr];simp⟩
def dY{id a w}(s)(hm:P.follows .mixedOrders=aq)(hS:S w.drew)(h:S w.drew->gm P .any ops Q S s ops.size (oF ops.size av) a w.drew):(Nh id ops aq).wp P Q a w:=
 wp_region_any hm (Vo _ _ _ _ (h hS))
end
section
variable {F:Fence} {n:Nat} {P:aY} {ops:aJ dK} {Q:Exit->Act->az->Prop} {md:yW} {S T:az->Prop} {s i:Nat} {o oi:dK} {v:aD} {fuel:Nat} {listed:aJ Bool} {a a':Act} {w:az}
def vI(P:aY)(ops:aJ dK)(T:az->Prop)(o:dK)(v:aD)(a:Act):Prop:=YieldsIf P ops T o v a/\∀w,o.about P w a.eval=ay
def vI.wpOpIn(k:∀c,o.op≠.defer c)(j:ops[i]? =aa o)(hy:vI P ops T o v a){K}(g:T w)(h:K (a.put o.dst v) w):wpOpIn F n P ops Q i K a w:=by
 unfold Go.wpOpIn;simp only[j];have d:∀f,o.about P w a.eval=aa f->F.fn f:=λf e=>by rw[hy.2 w]at e;cases e
 rcases hy.1 with⟨b,hv⟩|⟨b,rfl⟩
 ·simp only[b,cV,IJ,NY F _ _ k,hv w g,NZ];exact⟨d,h⟩
 ·simp only[b,eX,dQ];exact⟨d,h⟩
def agL{j g}(A:∀c,g.op≠.defer c)(D:ops[j]? =aa g)(C:oi.apart ops g=aq)(E:∀cs b,oi.op≠.select cs b)(G:∀cs b,g.op≠.select cs b)(t:∀c a w,Q (.panic c) (a.put oi.dst v) w->Q (.panic c) a w){K}(hy:vI P ops T oi v a)(h:wpOpIn F n P ops Q j K (a.put oi.dst v) w):
  wpOpIn F n P ops Q j (λa' z=>vI P ops T oi v a'/\K (a'.put oi.dst v) z) a w:=by
 obtain⟨p,m,q⟩:=Oper.apart_spec C
 have keep:∀(a:Act),vI P ops T oi v a->∀u,vI P ops T oi v (a.put g.dst u):=λa hy u=>
  ⟨hy.1.of_same (execOp_put oi E a g.dst u q) (wanted_put oi a g.dst u q),λw=>by rw[jf oi w a g.dst u q];exact hy.2 w⟩
 have H:∀d,vI P ops T oi v {a with defers:=d::a.defers}:=λd=>hy;unfold wpOpIn at*;simp only[D]at*;rw[wanted_put g a oi.dst v p,jf g w a oi.dst v p]at h;split
 ·rename_i y;simp only[y,cV]at h;unfold IJ at*;rw[jf g w a oi.dst v p]at h;refine⟨h.1,?_⟩;have h:=h.2;rw[NY F _ _ A,execOp_put g G a oi.dst v p]at h;rw[NY F _ _ A];generalize (execOp a.eval g).run P w=r at*;cases r with
  |ok x z=>
   cases x<;>simp only[NZ]at h⊢
   case value u=>exact⟨keep a hy u,by rw[<-yB a v u m];exact h⟩
   case skip=>exact⟨keep a hy _,by rw[<-yB a v au m];exact h⟩
   case defer d=>
    refine⟨keep _ (H d) _,?_⟩;rw[<-yB _ v au m,<-Act.put_defers];exact h
   case enter f args=>
    refine⟨h.1,CallsIn.mono h.2 λe B k=>?_⟩;cases e with
    |returned u=>exact⟨keep a hy u,by rw[<-yB a v u m];exact k⟩
    |panicked c=>exact t _ _ _ k
    |outgrown=>exact k
   case row row args=>exact⟨h.1,RowsIn.mono h.2 λu B k=>⟨keep a hy u,by rw[<-yB a v u m];exact k⟩⟩
   case round l f tmps assign body=>
    refine⟨h.1,RoundIn.mono h.2 λe B k=>?_⟩;cases e with
    |returned u=>exact⟨keep a hy u,by rw[<-yB a v u m];exact k⟩
    |panicked c=>exact t _ _ _ k
    |outgrown=>exact k
  |halt x z=>
   cases x<;>simp only[NZ]at h⊢
   case panic u=>exact t _ _ _ h
 ·rename_i y;simp only[y]at h;exact⟨h.1,keep a hy _,by rw[<-yB a v au m];exact h.2⟩
def oB(F:Fence)(n:Nat)(P:aY)(md:yW)(ops:aJ dK)(Q:Exit->Act->az->Prop)(S:az->Prop)(s:Nat):Nat->aJ Bool->Act->az->Prop
 |0,listed,a,w=>eD md ops listed=[]/\Q .normal a w
 |fuel+1,listed,a,w=>
  (eD md ops listed=[]->Q .normal a w)/\
  ∀i∈eD md ops listed,wpOpIn F n P ops Q i (λa' b=>((listed.setIfInBounds i aq).getD s aq=av->S b)/\oB F n P md ops Q S s fuel (listed.setIfInBounds i aq) a' b) a w
def Vm:∀(fuel:Nat) (listed:aJ Bool) (a:Act) (w:az),oB F n P md ops Q S s fuel listed a w->wpAnyIn F n P md ops Q fuel listed a w
 |0,_,_,_,h=>h
 |fuel+1,_,_,_,h=>⟨h.1,λi c=>wpOpIn_mono (λa' d b=>Vm fuel _ a' d b.2) (h.2 i c)⟩
def ndB(ops:aJ dK):Bool:=Bd ops&&ops.all λo=>match o.op with|.defer _=>av|_=>aq
def Le(h:ndB ops=aq){j:Nat}{o:dK}(b:ops[j]? =aa o):∀c,o.op≠.defer c:=λc e=>by unfold ndB at h;rw[cE,rN]at h;have:=h.2 o (mw b);rw[e]at this;cases this
def Vn{m:Nat}(l:ops[i]? =aa oi)(r:ndB ops=aq)
  (M:∀c a w,Q (.panic c) (a.put oi.dst v) w->Q (.panic c) a w) (G:i≠s) (y:(∀w,T w)\/((∀w,S w->T w)/\heldBy md ops i m s=aq)):
  ∀(fuel:Nat) (listed:aJ Bool) (a:Act) (w:az),
   (∀j g,ops[j]? =aa g->j≠i->listed.getD j aq=av->(∀e∈g.after,tQ md e=aq->e.on≠i)->oi.apart ops g=aq)->
   i∈eD md ops listed->((∀k,heldBy md ops i m k=aq->listed.getD k aq=av)\/∀w,T w)->vI P ops T oi v a->(listed.getD s aq=av->S w)->
   oB F n P md ops Q S s fuel (listed.setIfInBounds i aq) (a.put oi.dst v) w->oB F n P md ops Q S s (fuel+1) listed a w:=by
 have E:=Ea ((cE _ _).mp r).1
 have J:∀{listed:aJ Bool} {w:az},((∀k,heldBy md ops i m k=aq->listed.getD k aq=av)\/(∀w,T w))->(listed.getD s aq=av->S w)->T w:=λh hS=>by
  rcases h with h|h
  ·rcases y with y|⟨f,L⟩
   ·exact y _
   ·exact f _ (hS (h s L))
  ·exact h _
 have D:∀{listed:aJ Bool} {w:az},(listed.getD s aq=av->S w)->(listed.setIfInBounds i aq).getD s aq=av->S w:=λh e=>h (by rw[zg aq G]at e;exact e);intro fuel;induction fuel with
 |zero=>
  intro listed a w _ hr q u hS H;refine⟨λh=>(by rw[h]at hr;cases hr),λj p=>?_⟩
  by_cases d:j=i
  ·subst d;exact u.wpOpIn (Le r l) l (J q hS) ⟨D hS,H⟩
  ·have:=Br p d;rw[H.1]at this;cases this
 |succ fuel ih=>
  intro listed a w A hr q u hS H;refine⟨λh=>(by rw[h]at hr;cases hr),λj p=>?_⟩
  by_cases d:j=i
  ·subst d;exact u.wpOpIn (Le r l) l (J q hS) ⟨D hS,H⟩
  ·have f:=H.2 j (Br p d);obtain⟨C,g,t,N⟩:=Eg.1 p
   have Z:∀e∈g.after,tQ md e=aq->e.on≠i:=λe R O U=>by
    have f:=N e R O;have h0:=(Eg.1 hr).1;rw[U]at f;rcases mX i listed.size with h'|h'
    ·simp[h']at h0 f;rw[h0]at f;cases f
    ·simp[lN h']at f
   have V:∀k ok,ops[k]? =aa ok->k≠i->(listed.setIfInBounds j aq).getD k aq=av->
     (∀e∈ok.after,tQ md e=aq->e.on≠i)->oi.apart ops ok=aq:=λk ok W X I Y=>by
    refine A k ok W X ?_ Y
    by_cases B:j=k
    ·subst B;exact C
    ·rw[zg aq B]at I;exact I
   refine wpOpIn_mono (λa' K x=>?_) (agL (Le r t) t (A j g t d C Z) (λcs b=>E i oi cs b l) (λcs b=>E j g cs b t) M u f)
   have z:(listed.setIfInBounds j aq).getD s aq=av->S K:=λe=>x.2.1 (by rw[Di _ _ (dc d),zg aq G];exact e)
   refine⟨z,ih (listed.setIfInBounds j aq) a' K V (Br hr (dc d)) (q.imp (λh=>stays h p d) id) x.1 z ?_⟩;rw[Di _ _ d];exact x.2.2
def jk(i)(h:oB F n P md ops Q S s fuel (listed.setIfInBounds i aq) a' w)(hS:S w:=by assumption) (b:ops[i]? =aa oi:=by rfl)
  (g:ndB ops=aq:=by kernel_rfl) (hf:yX md ops listed i=aq:=by kernel_rfl) (hr:(eD md ops listed).contains i=aq:=by kernel_rfl) (j:i≠s:=by decide)
  (d:∀c a w,Q (.panic c) (a.put oi.dst v) w->Q (.panic c) a w:=by exact λ_ _ _ h=>h) (k:dg oi (yielded ops a.tmps)=aq:=by rfl) (f:∀w,oi.about P w a.eval=ay:=by intro _;rfl)
  (hy:∀w:az,(execOp a.eval oi).run P w=.ok (.value v) w:=by(intro l;go_simp;try with_reducible rfl))
  (e:a.put oi.dst v=a':=by(first|(simp only[Act.put,uS,nP,qL,rW,rY,rX];rfl)|rfl)):oB F n P md ops Q S s (fuel+1) listed a w:=
 Vn (T:=λ_=>True) (m:=0) b g d j (aF λ_=>trivial) fuel listed a w (Bc b hf) (by grind) (aE λ_=>trivial) ⟨aF ⟨k,λw _=>hy w⟩,f⟩ (λ_=>hS) (e▸h)
def js(i)(h:oB F n P md ops Q S s fuel (listed.setIfInBounds i aq) a' w)(hS:S w:=by assumption) (d:ops[i]? =aa oi:=by rfl)
  (t:ndB ops=aq:=by kernel_rfl) (hf:yX md ops listed i=aq:=by kernel_rfl) (hr:(eD md ops listed).contains i=aq:=by kernel_rfl) (u:i≠s:=by decide)
  (b:(heldBy md ops i 6 s&&((dH ops.size).all λk=>!(heldBy md ops i 6 k)||!(listed.getD k aq)))=aq:=by kernel_rfl)
  (j:∀c a w,Q (.panic c) (a.put oi.dst v) w->Q (.panic c) a w:=by exact λ_ _ _ h=>h) (x:dg oi (yielded ops a.tmps)=aq:=by rfl) (q:∀w,oi.about P w a.eval=ay:=by intro _;rfl)
  (hy:∀w,S w->(execOp a.eval oi).run P w=.ok (.value v) w:=by(intro y l;(try dsimp only at l);go_simp;try with_reducible rfl))
  (p:a.put oi.dst v=a':=by(first|(simp only[Act.put,uS,nP,qL,rW,rY,rX];rfl)|rfl)):oB F n P md ops Q S s (fuel+1) listed a w:=by
 rw[cE,mz]at b;refine Vn (T:=S) (m:=6) d t j u (aE ⟨λ_ h=>h,b.1⟩) fuel listed a w (Bc d hf) (by simpa using hr) (aF λk f=>?_) ⟨aF ⟨x,hy⟩,q⟩ (λ_=>hS) (p▸h)
 have r:k<ops.size:=by
  rcases Fz f with e|⟨o,e,g,_⟩
  ·subst e;exact(bq.1 d).1
  ·exact(bq.1 g).1
 have:=b.2 k (lQ.2 r);rw[f]at this;simpa using this
def jr(i)(h:∀b:Act->az->Prop,Shut (∀a w,S w->(S w->oB F n P md ops Q S s fuel (listed.setIfInBounds i aq) a w)->b a w)->if dg o (yielded ops a.tmps)=aq then IJ F n P o a w b Q else(∀f,o.about P w a.eval=aa f->F.fn f)/\b (a.put o.dst au) w)(e:ops[i]? =aa o:=by rfl) (hr:eD md ops listed=[i]:=by kernel_rfl):oB F n P md ops Q S s (fuel+1) listed a w:=by refine⟨λh0=>(by grind),?_⟩;rw[hr];intro j d;obtain rfl:=iA.1 d;unfold wpOpIn;simp only[e];exact h _ (λa w c h=>⟨λ_=>c,h c⟩)
def jz(h:∀b:Act->az->Prop,Shut (∀a w,oB F n P md ops Q S s fuel (listed.setIfInBounds s aq) a w->b a w)->if dg o (yielded ops a.tmps)=aq then IJ F n P o a w b Q else(∀f,o.about P w a.eval=aa f->F.fn f)/\b (a.put o.dst au) w)(k:ops[s]? =aa o:=by rfl) (hr:eD md ops listed=[s]:=by kernel_rfl) (g:s<listed.size:=by decide):oB F n P md ops Q S s (fuel+1) listed a w:=by
 refine⟨λh0=>(by grind),?_⟩;rw[hr];intro j d;obtain rfl:=iA.1 d;unfold wpOpIn;simp only[k];have c:(listed.setIfInBounds j aq).getD j aq≠av:=by simp[g]
 exact h _ (λa w h=>⟨λe=>absurd e c,h⟩)
def MR(hr:eD md ops listed=[])(h:Q .normal a w):∀fuel,oB F n P md ops Q S s fuel listed a w
 |0=>⟨hr,h⟩
 |_+1=>⟨λ_=>h,by rw[hr];simp⟩
def MT{id}(s)(hm:P.follows .mixedOrders=aq)(hS:S w.drew)
  (h:S w.drew->oB F n P .any ops Q S s ops.size (oF ops.size av) a w.drew):(Nh id ops aq).wpIn F n P Q a w:=
 wpIn_region_any hm (Vm _ _ _ _ (h hS))
end
section
class aP where
 ok:bC->Prop
 code:gN->Prop
 known:bC->Prop
 /-- how many frames at the bottom are walked by themselves -/
 depth:Nat
 /-- blocks that are only looked at there, and what they hold -/
 wat:Nat->aZ Obj
 /-- the program that runs -/
 prog:aY
variable [aP]
def vD(t:aQ):Prop:=∀off v,plainCell aP.prog aP.prog.depth t off=aa v->∃k,v=.int k 0
abbrev Ren:=Nat->Nat->Prop
def Ren.le(ρ c:Ren):Prop:=∀a b,ρ a b->c a b
def Ren.one(ρ:Ren):Prop:=(∀a b d,ρ a b->ρ a d->b=d)/\∀a c b,ρ a b->ρ c b->a=c
def Ren.ext(ρ:Ren)(n c:Nat):Ren:=λa b=>ρ a b\/(a=n/\b=c)
def Ren.le_refl(ρ:Ren):ρ.le ρ:=λ_ _ h=>h
def Ren.le_trans{ρ c d:Ren}(h:ρ.le c)(k:c.le d):ρ.le d:=λa b x=>k a b (h a b x)
def Ren.KP(ρ:Ren)(n a:Nat):ρ.le (ρ.ext n a):=λ_ _ h=>aF h
def AR(ρ:Ren)(a a':bZ):Prop:=ρ a.block a'.block/\a'.off=a.off/\a'.spot=a.spot
inductive FR(ρ:Ren):Fn->Fn->Prop
 |func (f:bC) (h:aP.ok f):FR ρ (.func f) (.func f)
 |yield {l l':Nat} (h:ρ l l'):FR ρ (.yield l) (.yield l')
inductive VR(ρ:Ren):aD->aD->Prop
 |bool (b:Bool):VR ρ (.bool b) (.bool b)
 |int (k:nO) (n:Int):VR ρ (.int k n) (.int k n)
 |string (s:ByteArray):VR ρ (.string s) (.string s)
 |gT:VR ρ (.pointer ay) (.pointer ay)
 |ptr {a a':bZ} (h:AR ρ a a'):VR ρ (.pointer (aa a)) (.pointer (aa a'))
 |fH (l c:Nat):VR ρ (.slice ay l c) (.slice ay l c)
 |slice {a a':bZ} (l c:Nat) (h:AR ρ a a'):VR ρ (.slice (aa a) l c) (.slice (aa a') l c)
 |mN:VR ρ (.map ay) (.map ay)
 |map {r g:Nat} (h:ρ r g):VR ρ (.map (aa r)) (.map (aa g))
 |oh:VR ρ (.chan ay) (.chan ay)
 |chan {r g:Nat} (h:ρ r g):VR ρ (.chan (aa r)) (.chan (aa g))
 |func {f f':Fn} {x e y j:aJ aD} (h:FR ρ f f') (m:e.size=x.size) (o:∀(i:Nat) v d,x[i]? =aa v->e[i]? =aa d->VR ρ v d) (hy:j.size=y.size) (p:∀(i:Nat) v d,y[i]? =aa v->j[i]? =aa d->VR ρ v d):VR ρ (.func f x y) (.func f' e j)
 |nilFunc:VR ρ .nilFunc .nilFunc
 |iface {v d:aD} (t:aQ) (h:VR ρ v d):VR ρ (.iface t v) (.iface t d)
 |nilIface:VR ρ .nilIface .nilIface
 |agg {x e:aJ aD} (m:e.size=x.size) (o:∀(i:Nat) v d,x[i]? =aa v->e[i]? =aa d->VR ρ v d):VR ρ (.agg x) (.agg e)
 |tuple {x e:aJ aD} (m:e.size=x.size) (o:∀(i:Nat) v d,x[i]? =aa v->e[i]? =aa d->VR ρ v d):VR ρ (.tuple x) (.tuple e)
def AR.mono{ρ σ}(h:ρ.le σ){a a'}(k:AR ρ a a'):AR σ a a':=⟨h _ _ k.1,k.2⟩
def FR.mono{ρ σ}(h:ρ.le σ){f f'}(k:FR ρ f f'):FR σ f f':=by
 cases k with
 |func f a=>exact .func f a
 |yield k=>exact .yield (h _ _ k)
def VR.mono{ρ σ}(h:ρ.le σ){v v'}(k:VR ρ v v'):VR σ v v':=by
 induction k with
 |bool b=>exact .bool b
 |int k n=>exact .int k n
 |string s=>exact .string s
 |gT=>exact .gT
 |ptr k=>exact .ptr (k.mono h)
 |fH l c=>exact .fH l c
 |slice l c k=>exact .slice l c (k.mono h)
 |mN=>exact .mN
 |map k=>exact .map (h _ _ k)
 |oh=>exact .oh
 |chan k=>exact .chan (h _ _ k)
 |func k a _ e _ f g=>exact .func (k.mono h) a f e g
 |nilFunc=>exact .nilFunc
 |iface t _ d=>exact .iface t d
 |nilIface=>exact .nilIface
 |agg a _ d=>exact .agg a d
 |tuple a _ d=>exact .tuple a d
def bK(ρ:Ren)(x b:aJ aD):Prop:=b.size=x.size/\∀(i:Nat) v a,x[i]? =aa v->b[i]? =aa a->VR ρ v a
def bK.mono{ρ σ}(h:ρ.le σ){x x'}(k:bK ρ x x'):bK σ x x':=⟨k.1,λi v c a b=>(k.2 i v c a b).mono h⟩
def mE(ρ:Ren)(x b:aJ IA):Prop:=b.size=x.size/\∀(i:Nat) e a,x[i]? =aa e->b[i]? =aa a->VR ρ e.key a.key/\VR ρ e.val a.val/\a.born=e.born
inductive OR(ρ:Ren):Obj->Obj->Prop
 |cells {x b:aJ aD} (t:aQ) (fz:Nat×Nat) (h:bK ρ x b):OR ρ (.cells x t fz) (.cells b t fz)
 |map {x b:aJ IA} (c:Nat) (h:mE ρ x b):OR ρ (.map x c) (.map b c)
 |chan (cap:Nat) (cl:Bool) (s r:Nat) (t:Bool):OR ρ (.chan cap #[] cl s r t) (.chan cap #[] cl s r t)
 |loop {l l':Loop} (h0:aP.known l.fn/\aP.code l.assign/\aP.code l.body/\∀c,l.pending=aa c->aP.code c) (d:l'.state=l.state) (e:l'.pending=l.pending) (f:l'.fn=l.fn) (g:bK ρ l.tmps l'.tmps) (i:l'.params=l.params) (j:l'.assign=l.assign) (k:l'.body=l.body) (m:ρ l.defers l'.defers):OR ρ (.loop l) (.loop l')
 |vO:OR ρ (.deferred ay) (.deferred ay)
 |sV:OR ρ (.deferred (aa [])) (.deferred (aa []))
 |number {a a':bZ} (l:Bool) (h:AR ρ a a'):OR ρ (.number a l) (.number a' l)
 |view {a a':bZ} (t:aQ) (n:vD t) (h:AR ρ a a'):OR ρ (.view a t) (.view a' t)
def mE.mono{ρ σ}(h:ρ.le σ){x x'}(k:mE ρ x x'):mE σ x x':=⟨k.1,λi e c a b=>⟨(k.2 i e c a b).1.mono h,(k.2 i e c a b).2.1.mono h,(k.2 i e c a b).2.2⟩⟩
def OR.mono{ρ σ}(h:ρ.le σ){o o'}(k:OR ρ o o'):OR σ o o':=by
 cases k with
 |cells t d k=>exact .cells t d (k.mono h)
 |map c k=>exact .map c (k.mono h)
 |chan a b s r t=>exact .chan a b s r t
 |loop h0 e f g i j m n p=>exact .loop h0 e f g (i.mono h) j m n (h _ _ p)
 |vO=>exact .vO
 |sV=>exact .sV
 |number l k=>exact .number l (k.mono h)
 |view t q k=>exact .view t q (k.mono h)
@[simp] def lq:Halt->Prop
 |.stuck _=>True
 |.unsupported (.initOrder _)=>False
 |.unsupported _=>True
 |_=>False
def cm:Obj:=.coro ay
def Calm(o:aZ Obj):Prop:=∃x t a,o=aa (.cells x t a)/\x.size≠0/\a.2<=a.1
structure WR(p:aY)(ρ:Ren)(w w':az):Prop where
 one:ρ.one
 lt:∀a b,ρ a b->a<w.heap.size/\b<w'.heap.size
 obj:∀a b o,ρ a b->w.heap[a]? =aa o->o=cm\/∃c,w'.heap[b]? =aa c/\OR ρ o c
 tape:∀i q,w'.tape (w'.drawn+i) q=w.tape (w.drawn+i) q
 low:∀a b,ρ a b->a<p.globals.size->b<p.globals.size
 base:p.globals.size<=w.heap.size
 calm:∀a b,ρ a b->w.heap[a]? =aa cm->Calm w'.heap[b]?
 os:w'.os=w.os/\p=aP.prog
abbrev Kn:=Nat->Prop
def Kn.and(K:Kn)(r:Nat):Kn:=λx=>K x\/x=r
def Kn.le(K L:Kn):Prop:=∀r,K r->L r
def Good(P:aY)(ρ:Ren):Prop:=ρ.one/\(∀a b,ρ a b->a<P.globals.size->b<P.globals.size)/\P=aP.prog
inductive SR(P:aY){α c:Type}(Q:Ren->α->c->Prop):Ren->Kn->Sem α->Sem c->Prop
 |pure {ρ:Ren} {K:Kn} {a:α} {b:c} (h:Q ρ a b):SR P Q ρ K (.pure a) (.pure b)
 |load {ρ:Ren} {K:Kn} {m:Mode} {a a':bZ} {k:aD->Sem α} {k':aD->Sem c} (i:AR ρ a a') (h:∀v g,VR ρ v g->SR P Q ρ (K.and a.block) (k v) (k' g)):SR P Q ρ K (.load m a k) (.load m a' k')
 |store {ρ:Ren} {K:Kn} {m:Mode} {a a':bZ} {v g:aD} {k:Sem α} {k':Sem c} (i:AR ρ a a') (hv:VR ρ v g) (h:SR P Q ρ (K.and a.block) k k'):SR P Q ρ K (.store m a v k) (.store m a' g k')
 |new {ρ:Ren} {K:Kn} {o e:Obj} {k:Nat->Sem α} {k':Nat->Sem c} (A:OR ρ o e) (h:∀n z,SR P Q (ρ.ext n z) (K.and n) (k n) (k' z)):SR P Q ρ K (.new o k) (.new e k')
 |shape {ρ:Ren} {K:Kn} {r d:Nat} {k:aZ (aQ×Nat)->Sem α} {k':aZ (aQ×Nat)->Sem c} (hr:ρ r d) (h:∀x,SR P Q ρ (K.and r) (k (aa x)) (k' (aa x))) (h0:K r->SR P Q ρ K (k ay) (k' ay)) (y:¬K r->∃x,k ay=.halt x/\lq x):SR P Q ρ K (.shape r k) (.shape d k')
 |freeze {ρ:Ren} {K:Kn} {a a':bZ} {n:Nat} {k:Sem α} {k':Sem c} (i:AR ρ a a') (p:K a.block) (h:SR P Q ρ K k k'):SR P Q ρ K (.freeze a n k) (.freeze a' n k')
 |frozen {ρ:Ren} {K:Kn} {a a':bZ} {k:Bool->Sem α} {k':Bool->Sem c} (i:AR ρ a a') (p:K a.block) (h:∀b,SR P Q ρ K (k b) (k' b)):SR P Q ρ K (.frozen a k) (.frozen a' k')
 |getObj {ρ:Ren} {K:Kn} {r d:Nat} {k:Obj->Sem α} {k':Obj->Sem c} (hr:ρ r d) (h:∀o e,OR ρ o e->SR P Q ρ (K.and r) (k o) (k' e)) (h0:∃x,k cm=.halt x/\lq x):SR P Q ρ K (.getObj r k) (.getObj d k')
 |setObj {ρ:Ren} {K:Kn} {r d:Nat} {o e:Obj} {k:Sem α} {k':Sem c} (hr:ρ r d) (p:K r) (A:OR ρ o e) (h:SR P Q ρ K k k'):SR P Q ρ K (.setObj r o k) (.setObj d e k')
 |choose {ρ:Ren} {K:Kn} {q:jS} {k:Nat->Sem α} {k':Nat->Sem c} (h:∀n,SR P Q ρ K (k n) (k' n)):SR P Q ρ K (.choose q k) (.choose q k')
 |program {ρ:Ren} {K:Kn} {k:aY->Sem α} {k':aY->Sem c} (h:SR P Q ρ K (k P) (k' P)):SR P Q ρ K (.program k) (.program k')
 |env {ρ:Ren} {K:Kn} {k:SysRet->Sem α} {k':SysRet->Sem c} (h:∀r,SR P Q ρ K (k r) (k' r)):SR P Q ρ K (.sys .env k) (.sys .env k')
 |noRoom {ρ:Ren} {K:Kn} {k:Sem α} {k':Sem c} (h:SR P Q ρ K k k'):SR P Q ρ K (.mark .noRoom k) (.mark .noRoom k')
 |panic {ρ:Ren} {K:Kn} {v g:aD} (h:VR ρ v g):SR P Q ρ K (.halt (.panic v)) (.halt (.panic g))
 |lost {ρ:Ren} {K:Kn} {x:Halt} {s:Sem c} (h:lq x):SR P Q ρ K (.halt x) s
 |vP {ρ:Ren} {K:Kn} {s:Sem α} {j:Sem c} (h:∀w,∃x B,s.run P w=.halt x B/\lq x):SR P Q ρ K s j
 |assume {ρ:Ren} {K:Kn} {s:Sem α} {j:Sem c} (h:Good P ρ->SR P Q ρ K s j):SR P Q ρ K s j
 |number {ρ:Ren} {K:Kn} {r d:Nat} {k:aZ (bZ×Bool)->Sem α} {k':aZ (bZ×Bool)->Sem c} (hr:ρ r d) (h0:SR P Q ρ K (k ay) (k' ay)) (y:∀a a' l,AR ρ a a'->SR P Q ρ (K.and r) (k (aa (a,l))) (k' (aa (a',l)))):SR P Q ρ K ((numberAt r).bind k) ((numberAt d).bind k')
 |icy {ρ:Ren} {K:Kn} {a a':bZ} {k:Bool->Sem α} {k':Bool->Sem c} (i:AR ρ a a') (h:∀b,SR P Q ρ K (k b) (k' b)):SR P Q ρ K (.frozen a k) (.frozen a' k')
 |kin {ρ:Ren} {K:Kn} {a a' b u:bZ} {k:Bool->Sem α} {k':Bool->Sem c} (i:AR ρ a a') (C:AR ρ b u) (h:∀x,SR P Q ρ K (k x) (k' x)):SR P Q ρ K ((zh a b).bind k) ((zh a' u).bind k')
 |view {ρ:Ren} {K:Kn} {r d:Nat} {k:aZ (bZ×aQ)->Sem α} {k':aZ (bZ×aQ)->Sem c} (hr:ρ r d) (h0:SR P Q ρ K (k ay) (k' ay)) (y:∀a a' t,AR ρ a a'->SR P Q ρ (K.and r) (k (aa (a,t))) (k' (aa (a',t)))):SR P Q ρ K ((viewAt r).bind k) ((viewAt d).bind k')
 |Cb {ρ:Ren} {K:Kn} {r d:Nat} {k:Obj->Sem α} {k':Obj->Sem c} (hr:ρ r d) (p:K r) (h:∀o e,OR ρ o e->SR P Q ρ K (k o) (k' e)):SR P Q ρ K (.getObj r k) (.getObj d k')
 |ext {ρ:Ren} {K:Kn} {f:bC} {k:Sem α} {k':Sem c} (h:SR P Q ρ K k k'):SR P Q ρ K (.mark (.extern f) k) (.mark (.extern f) k')
def SR.bind{P}{α F M N:Type}{Q R ρ}{K:Kn}{s:Sem α}{E:Sem F}{f:α->Sem M}{f':F->Sem N}(h:SR P Q ρ K s E)(hf:∀d L a b,ρ.le d->K.le L->Q d a b->SR P R d L (f a) (f' b)):SR P R ρ K (s.bind f) (E.bind f'):=by
 have up:∀{K L:Kn} {r:Nat},(K.and r).le L->K.le L:=λh x u=>h x (aF u);induction h with
 |pure h=>exact hf _ _ _ _ (Ren.le_refl _) (λ_ h=>h) h
 |load j _ c=>exact .load j λv I hv=>c v I hv λd L a b i k m=>hf d L a b i (up k) m
 |store j hv _ c=>exact .store j hv (c λd L a b i k m=>hf d L a b i (up k) m)
 |new q _ c=>exact .new q λn H=>c n H λd L a b i k m=>hf d L a b (Ren.le_trans (Ren.KP _ _ _) i) (up k) m
 |shape hr _ _ i c y=>
  refine .shape hr (λx=>c x λd L a b i k m=>hf d L a b i (up k) m) (λA=>y A hf) (λA=>?_);obtain⟨x,u,B⟩:=i A;exact⟨x,by rw[u];rfl,B⟩
 |freeze j p _ c=>exact .freeze j p (c hf)
 |frozen j p _ c=>exact .frozen j p λb=>c b hf
 |getObj hr _ h0 c=>
  obtain⟨x,u,B⟩:=h0;exact .getObj hr (λo D q=>c o D q λd L a b i k m=>hf d L a b i (up k) m) ⟨x,by rw[u];rfl,B⟩
 |setObj hr p q _ c=>exact .setObj hr p q (c hf)
 |choose _ c=>exact .choose λn=>c n hf
 |program _ c=>exact .program (c hf)
 |env _ c=>exact .env λr=>c r hf
 |noRoom _ c=>exact .noRoom (c hf)
 |panic h=>exact .panic h
 |lost h=>exact .lost h
 |vP h=>
  refine .vP λw=>?_;obtain⟨x,J,e,u⟩:=h w;refine⟨x,J,?_,u⟩;rw[gw,e];rfl
 |assume _ c=>exact .assume λg=>c g hf
 |number hr _ _ y C=>
  rw[Be,Be];exact .number hr (y hf) λa z l j=>C a z l j λd L a b i k m=>hf d L a b i (up k) m
 |icy j _ c=>exact .icy j λb=>c b hf
 |kin j G _ c=>
  rw[Be,Be];exact .kin j G λx=>c x hf
 |view hr _ _ y C=>
  rw[Be,Be];exact .view hr (y hf) λa z t j=>C a z t j λd L a b i k m=>hf d L a b i (up k) m
 |Cb hr p _ c=>exact .Cb hr p λo D q=>c o D q hf
 |ext _ c=>exact .ext (c hf)
end
section
variable [aP]
def VR.bytes{ρ v v'}(h:VR ρ v v'){bs}(a:v.bytes?=aa bs):v'=v:=by cases h<;>first|rfl|cases a
def VR.ofBytes{ρ v v'}(h:VR ρ v v'){bs u}(a:v.ofBytes bs=aa u):v'.ofBytes bs=aa u/\VR ρ u u:=by
 cases h<;>first|(cases a;done)|refine⟨a,?_⟩
 ·simp only[WN]at a;split at a<;>first|(cases a;done)|(cases a;exact .bool _)
 ·simp only[WN]at a;split at a
  ·cases a;exact .int _ _
  ·cases a
def bK.get{ρ x x'}(h:bK ρ x x'){i:Nat}{v:aD}(hv:x[i]? =aa v):∃b,x'[i]? =aa b/\VR ρ v b:=by
 have a:i<x'.size:=by rw[h.1];exact((bq.1 hv).1)
 exact⟨x'[i],cX a,h.2 i v _ hv (cX a)⟩
def TM{ρ}{p:aY}{c g:aJ aD}(hc:bK ρ c g)(e):∀(f x stop:Nat) {l:aB (Nat×Nat×aB UInt8)},Eh p c e f x stop=.ok l->Eh p g e f x stop=.ok l
 |0,_,_,l,h=>by cases h
 |f+1,x,stop,l,h=>by
  unfold Eh at h⊢;dsimp only at h⊢
  by_cases m:x≥stop
  ·rw[aW m]at h⊢;exact h
  rw[aK m]at h⊢
  by_cases k:p.bytesOf e=0
  ·rw[aW k]at h;cases h
  rw[aK k]at h⊢;split at h
  ·cases h
  ·rename_i i s q;split at h
   ·cases h
   ·rename_i v hv;obtain⟨t,o,hr⟩:=hc.get hv;rw[o];dsimp only;split at h
    ·cases h
    ·cases h
    ·rename_i a n j;rw[hr.bytes j,j];cases a with
     |nil=>exact absurd rfl n
     |cons b a=>
      dsimp only;cases d:Eh p c e f (s+(b::a).length) stop with
      |error y=>rw[d]at h;cases h
      |ok r=>rw[d]at h;rw[TM hc e f _ _ d];exact h
def TO{ρ:Ren}{p:aY}{w w':az}{at_ a k k':bZ}{u e:aQ}{m:Bool}{c b:aJ aD}{fz:Nat×Nat}(hc:w.heap[at_.block]? =aa (aA c e fz))(B:w'.heap[a.block]? =aa (aA b e fz))(t:a.off=at_.off/\a.spot=at_.spot)(v:k'.off=k.off/\k'.spot=k.spot)(hv:bK ρ c b)
  {r:aJ aD×aQ×(Nat×Nat)×Nat×aD×aB (Nat×Nat×aB UInt8)} (h:w.seen p at_ u k m=.ok r):r.1=c/\r.2.1=e/\r.2.2.1=fz/\plainCell p p.depth u k.off=aa r.2.2.2.2.1/\w'.seen p a u k' m=.ok (b,r.2):=by
 unfold Oi at h⊢;rw[hc]at h;rw[B,t.1,t.2,v.1,v.2];simp only[bind,Ds,pure,Dt,throw,throwThe,sB]at h⊢;have C:∀{D:Type} (s:String),(AY s:Except String D)=.error s:=λ_=>rfl;simp only[C]at h⊢
 by_cases g:(k.spot.isSome||at_.spot.isSome)=aq
 ·rw[aW g]at h;cases h
 rw[aK g]at h⊢;cases i:plainCell p p.depth u k.off with
 |none=>rw[i]at h;cases h
 |some like=>
  rw[i]at h;dsimp only at h⊢;cases j:Option.map (λx=>x.length) like.bytes? with
  |none=>rw[j]at h;cases h
  |some size=>
   rw[j]at h;dsimp only at h⊢;cases n:byteOfCell p p.depth u k.off with
   |none=>rw[n]at h;cases h
   |some z=>
    rw[n]at h;dsimp only at h⊢
    by_cases o:p.cellsOf e=0
    ·rw[aW o]at h;cases h
    rw[aK o]at h⊢;cases q:byteOfCell p p.depth e (at_.off %p.cellsOf e)with
    |none=>rw[q]at h;cases h
    |some f=>
     rw[q]at h;dsimp only at h⊢;cases d:Eh p c e (size+1) (at_.off / p.cellsOf e*p.bytesOf e+f+z) (at_.off / p.cellsOf e*p.bytesOf e+f+z+size)with
     |error y=>rw[d]at h;cases h
     |ok l=>
      rw[d]at h;rw[TM hv e _ _ _ d];dsimp only at h⊢;cases m with
      |false=>
       simp at h⊢;cases h;exact⟨rfl,rfl,rfl,rfl,rfl⟩
      |true=>
       simp only[cV]at h⊢;split at h
       ·rename_i x s E;split at h
        ·cases h
        ·rename_i A;rw[aK A];cases h;exact⟨rfl,rfl,rfl,rfl,rfl⟩
       ·cases h
def seen_cells{p:aY}{w:az}{at_ k:bZ}{u:aQ}{m:Bool}{r:aJ aD×aQ×(Nat×Nat)×Nat×aD×aB (Nat×Nat×aB UInt8)}(h:w.seen p at_ u k m=.ok r):∃c e a,w.heap[at_.block]? =aa (aA c e a):=by
 cases f:w.heap[at_.block]? with
 |some o=>
  cases o with
  |cells c e a=>exact⟨c,e,a,rfl⟩
  |_=>
   exfalso;unfold Oi at h;rw[f]at h;simp at h;have b:∀{d:Type} (s:String),(AY s:Except String d)=.error s:=λ_=>rfl;simp only[b]at h
   repeat' (split at h)
   all_goals cases h
 |none=>
  exfalso;unfold Oi at h;rw[f]at h;simp at h;have b:∀{d:Type} (s:String),(AY s:Except String d)=.error s:=λ_=>rfl;simp only[b]at h
  repeat' (split at h)
  all_goals cases h
def agm{ρ:Ren}{p:aY}{w w':az}(B:p=aP.prog){at_ a k k':bZ}{t:aQ}(C:vD t)(i:AR ρ at_ a)(n:k'.off=k.off/\k'.spot=k.spot){m:Bool}
  (u:∀o,w.heap[at_.block]? =aa o->o=cm\/∃f,w'.heap[a.block]? =aa f/\OR ρ o f) {r:aD×aB bZ} (h:w.viewLoad p at_ t k m=.ok r):
  ∃l,w'.viewLoad p a t k' m=.ok (r.1,l)/\VR ρ r.1 r.1/\(∀x∈l,x.block=a.block)/\∃o,w.heap[at_.block]? =aa o/\o≠cm:=by
 unfold World.viewLoad at h⊢;simp only[bind,Ds,pure,Dt]at h⊢;have G:∀{H:Type} (s:String),(AY s:Except String H)=.error s:=λ_=>rfl;simp only[G]at h⊢;cases b:w.seen p at_ t k m with
 |error y=>rw[b]at h;cases h
 |ok z=>
  obtain⟨c,e,J,d⟩:=seen_cells b;rcases u _ d with h0|⟨f,q,A⟩
  ·cases h0
  cases A with
  |@cells _ I _ _ hv=>
   obtain⟨_,_,_,g,j⟩:=TO d q ⟨i.2.1,i.2.2⟩ n hv b;obtain⟨K,L,M,N,O,P⟩:=z;rw[b]at h;rw[j];dsimp only at h g⊢;subst B;obtain⟨F,rfl⟩:=C _ _ g;split at h
   ·rename_i v D;cases h;refine⟨_,rfl,?_,?_,_,d,by intro e;cases e⟩
    ·exact(VR.ofBytes (.int F 0) D).2
    ·intro x E;obtain⟨y,_,rfl⟩:=ku.1 E;rfl
   ·cases h
def QU{ρ:Ren}{fz:Nat×Nat}{first:Nat}{bytes:aB UInt8}(g:aJ aD->Nat×Nat×aB UInt8->Except String (aJ aD))
  (f:∀c a y z,bK ρ c a->g c y=.ok z->∃b,g a y=.ok b/\bK ρ z b):∀(l:aB (Nat×Nat×aB UInt8)) (c a z:aJ aD),bK ρ c a->l.foldlM g c=.ok z->∃b,l.foldlM g a=.ok b/\bK ρ z b
 |[],c,a,z,h,e=>by simp only[List.foldlM_nil,pure,Dt]at e⊢;cases e;exact⟨_,rfl,h⟩
 |y::l,c,a,z,h,e=>by
  simp only[List.foldlM_cons,bind,Ds]at e⊢;cases d:g c y with
  |error w=>rw[d]at e;cases e
  |ok k=>
   rw[d]at e;obtain⟨m,i,j⟩:=f _ _ _ _ h d;rw[i];exact QU (fz:=fz) (first:=first) (bytes:=bytes) g f l _ _ _ j e
def agn{ρ:Ren}{p:aY}{w w':az}{at_ g k k':bZ}{t:aQ}{v K:aD}(E:AR ρ at_ g)(S:k'.off=k.off/\k'.spot=k.spot)(hv:VR ρ v K){m:Bool}
  (W:∀o,w.heap[at_.block]? =aa o->o=cm\/∃C,w'.heap[g.block]? =aa C/\OR ρ o C) {r:az×aB bZ} (h:w.viewStore p at_ t k v m=.ok r):
  ∃I J l,r.1={w with heap:=w.heap.setIfInBounds at_.block I}/\w'.viewStore p g t k' K m=.ok ({w' with heap:=w'.heap.setIfInBounds g.block J},l)/\OR ρ I J/\(∀x∈l,x.block=g.block)/\∃o,w.heap[at_.block]? =aa o/\o≠cm:=by
 unfold Xa at h⊢;simp only[bind,Ds,pure,Dt]at h⊢;have an:∀{α:Type} (s:String),(AY s:Except String α)=.error s:=λ_=>rfl;simp only[an]at h⊢;cases G:tight p p.depth t with
 |false=>rw[G]at h;cases h
 |true=>
  rw[G]at h;simp only[Na,eX,dQ]at h⊢;cases n:w.seen p at_ t k m with
  |error y=>rw[n]at h;cases h
  |ok z=>
   obtain⟨c,e,fz,A⟩:=seen_cells n;rcases W _ A with h0|⟨C,V,Z⟩
   ·cases h0
   cases Z with
   |@cells _ D _ _ H=>
    obtain⟨z1,z2,z3,z4,z5,z6⟩:=z;obtain⟨rfl,rfl,rfl,O,P⟩:=TO A V ⟨E.2.1,E.2.2⟩ S H n;rw[n]at h;rw[P];dsimp only at h O⊢;cases q:v.bytes? with
    |none=>rw[q]at h;cases h
    |some L=>
     obtain rfl:=hv.bytes q;rw[q]at h⊢;dsimp only at h⊢;split at h
     ·cases h
     ·rename_i T;rw[aK T];split at h
      ·cases h
      ·rename_i M Q;cases h
       obtain⟨aO,R,hr⟩:=QU (fz:=z3) (first:=z4) (bytes:=L) _ (λc D y z B a=>by
        obtain⟨i,s,b⟩:=y;dsimp only at a⊢;split at a
        ·cases a
        ·rename_i N;rw[aK N];split at a
         ·cases a
         ·rename_i g2;rw[aK g2];split at a
          ·rename_i old X;obtain⟨aP,Y,af⟩:=B.get X;rw[Y];dsimp only;split at a
           ·rename_i new U;obtain⟨n1,n2⟩:=af.ofBytes U;rw[n1];cases a;refine⟨_,rfl,by simp[B.1],λj u u' d f=>?_⟩;rw[Av]at d f
            by_cases F:i=j
            ·subst F;rw[aW rfl]at d f;split at d
             ·split at f
              ·cases d;cases f;exact n2
              ·cases f
             ·cases d
            ·rw[aK F]at d f;exact B.2 j u u' d f
           ·cases a
          ·cases a) z6 z1 D M H Q
       rw[R];refine⟨_,_,_,rfl,rfl,.cells _ _ hr,?_,_,A,by intro e;cases e⟩;intro x hx;obtain⟨y,_,rfl⟩:=ku.1 hx;rfl
end
section
variable [aP]
def Full(ρ:Ren)(w:az):Prop:=∀a o,w.heap[a]? =aa o->o≠cm->∃b,ρ a b
structure cD(p:aY)(ρ d:Ren)(w w1 w' c:az):Prop where
 le:ρ.le d
 rel:WR p d w1 c
 size:w'.heap.size<=c.heap.size
 cO:∀b,b<w'.heap.size->(∀a,¬ρ a b)->c.heap[b]? =w'.heap[b]?
 news:∀a b,d a b->ρ a b\/(w'.heap.size<=b/\w.heap.size<=a/\a+w'.heap.size=b+w.heap.size)
 os:c.os=w'.os
 output:c.output=w'.output
 tape:c.tape=w'.tape
 drawn:c.drawn+w.drawn=w'.drawn+w1.drawn
 xY:w1.heap.size+w'.heap.size=c.heap.size+w.heap.size
 base:w.heap.size<=w1.heap.size
 still:∀a b,ρ a b->w.heap[a]? =aa cm->w1.heap[a]? =aa cm/\c.heap[b]? =w'.heap[b]?
 full:Full ρ w->Full d w1
def cD.refl{p ρ w w'}(h:WR p ρ w w'):cD p ρ ρ w w w' w':=⟨Ren.le_refl _,h,bD _,λ_ _ _=>rfl,λ_ _ h=>aF h,rfl,rfl,rfl,rfl,oc _ _,bD _,λ_ _ _ h=>⟨h,rfl⟩,id⟩
def cD.trans{p ρ σ τ w w1 w2 w' Vf w2'}(h:cD p ρ σ w w1 w' Vf)(k:cD p σ τ w1 w2 Vf w2'):cD p ρ τ w w2 w' w2':=by
 refine⟨Ren.le_trans h.le k.le,k.rel,dM h.size k.size,λb g i=>?_,λa b c=>?_,k.os.trans h.os,k.output.trans h.output,k.tape.trans h.tape,?_,by(have h1:=h.xY;have e:=k.xY;omega),dM h.base k.base,λa b c d=>⟨(k.still a b (h.le _ _ c) (h.still a b c d).1).1,(k.still a b (h.le _ _ c) (h.still a b c d).1).2.trans (h.still a b c d).2⟩,λf=>k.full (h.full f)⟩
 ·rw[k.cO b (dI g h.size) (λa j=>?_),h.cO b g i];rcases h.news a b j with h1|h1
  ·exact i a h1
  ·omega
 ·rcases k.news a b c with h1|h1
  ·exact h.news a b h1
  ·have e:=h.xY;have l:=h.size;have m:=h.base;exact aE ak
 ·have h1:=h.drawn;have e:=k.drawn;omega
def Own(K:Kn)(w:az):Prop:=∀r,K r->∃o,w.heap[r]? =aa o/\o≠cm
def gq{ρ o o'}(h:OR ρ o o'):o≠cm:=by intro e;subst e;cases h
def Own.set{K w}(h:Own K w)(a v):Own K (w.setCell a v):=λr hr=>by
 obtain⟨o,c,b⟩:=h r hr;simp only[fY,lO,c];split
 ·refine⟨_,rfl,?_⟩;cases o<;>first|(intro e;cases e;done)|(intro e;exact b e)
 ·exact⟨o,rfl,b⟩
def Own.push{K w}(h:Own K w){o}(b:o≠cm):Own (K.and w.heap.size) {w with heap:=w.heap.push o}:=by
 rintro r (hr|rfl)
 ·obtain⟨x,a,c⟩:=h r hr;have:=(bq.1 a).1;exact⟨x,by show(w.heap.push o)[r]? =_;rw[fJ,aK ak];exact a,c⟩
 ·exact⟨o,by show(w.heap.push o)[w.heap.size]? =_;simp,b⟩
def Own.put{K w}(h:Own K w)(r){o}(b:o≠cm):Own K {w with heap:=w.heap.setIfInBounds r o}:=λx c=>by
 obtain⟨y,a,d⟩:=h x c;have e:=(bq.1 a).1;rw[Av];split
 ·split
  ·exact⟨o,rfl,b⟩
  ·omega
 ·exact⟨y,a,d⟩
def Own.and{K w}(h:Own K w){r o}(b:w.heap[r]? =aa o)(a:o≠cm):Own (K.and r) w:=by
 rintro x (c|rfl)
 ·exact h x c
 ·exact⟨o,b,a⟩
def rD{w:az}{a:bZ}{v:aD}(h:w.cell? a=aa v):∃o,w.heap[a.block]? =aa o/\o≠cm:=by
 unfold fC at h;split at h
 ·rename_i c t d b;exact⟨_,b,by intro e;cases e⟩
 ·cases h
def EP{p ρ w w'}(m:WR p ρ w w'){a a'}(b:AR ρ a a'){v}(h:w.cell? a=aa v):∃e,w'.cell? a'=aa e/\VR ρ v e:=by
 unfold fC at h;split at h
 ·rename_i c t n g;split at h
  ·cases h
  ·rename_i l;rcases m.obj _ _ _ b.1 g with k|⟨o,i,j⟩
   ·cases k
   ·cases j with
    |cells _ _ hv=>
     rename_i f;have d:a.off<f.size:=by rw[hv.1];exact((bq.1 h).1)
     refine⟨f[a.off],?_,hv.2 a.off v _ h (by simp[d])⟩;unfold fC;rw[i,b.2.2,b.2.1];simp[l,d]
 ·cases h
def bK.set{ρ x x'}(h:bK ρ x x'){v v'}(hv:VR ρ v v')(i):bK ρ (x.setIfInBounds i v) (x'.setIfInBounds i v'):=by
 refine⟨by simp[h.1],λj u d a b=>?_⟩;rw[Av]at a b
 by_cases c:i=j
 ·subst c;rw[aW rfl]at a b;split at a
  ·split at b
   ·cases a;cases b;exact hv
   ·cases b
  ·cases a
 ·rw[aK c]at a b;exact h.2 j u d a b
def WR.set{p:aY}{ρ:Ren}{w w':az}(b:WR p ρ w w'){a a':bZ}(g:AR ρ a a'){v j:aD}(hv:VR ρ v j){u:aD}(hc:w.cell? a=aa u):WR p ρ (w.setCell a v) (w'.setCell a' j):=by
 refine⟨b.one,λx y h=>by have:=b.lt x y h;simp[fY];exact this,λx y o i d=>?_,b.tape,b.low,by simpa[fY]using b.base,λx y i k=>?_,b.os⟩
 rotate_left
 ·by_cases f:x=a.block
  ·subst f;obtain⟨o,d,z⟩:=Own.set (K:=(·=a.block)) (w:=w) (λr hr=>by(obtain rfl:r=a.block:=hr;exact rD hc)) a v a.block rfl;rw[k]at d;cases d;exact absurd rfl z
  ·have l:y≠a'.block:=λe=>f (b.one.2 _ _ _ (e▸i) g.1);have m:(w.setCell a v).heap[x]? =w.heap[x]? :=wT w a v x f;have n:(w'.setCell a' j).heap[y]? =w'.heap[y]? :=wT w' a' j y l;rw[m]at k;rw[n];exact b.calm x y i k
 by_cases f:x=a.block
 ·subst f;have l:y=a'.block:=b.one.1 _ _ _ i g.1;subst l;unfold fC at hc;split at hc
  ·rename_i c t E q;split at hc
   ·cases hc
   ·rename_i s;rcases b.obj _ _ _ g.1 q with k|⟨F,A,B⟩
    ·cases k
    ·cases B with
     |cells _ _ D=>
      rename_i G;right;simp only[fY,lO,q]at d;simp only[fY,lO,A];have C:¬a'.spot.isSome=aq:=by rw[g.2.2];exact s
      simp only[cV,tP,s,C,dQ,WJ,eX]at d⊢;refine⟨_,rfl,?_⟩;rw[<-d,g.2.1];exact .cells _ _ (D.set hv _)
  ·cases hc
 ·have l:y≠a'.block:=λe=>f (b.one.2 _ _ _ (e▸i) g.1);have m:(w.setCell a v).heap[x]? =w.heap[x]? :=wT w a v x f;have n:(w'.setCell a' j).heap[y]? =w'.heap[y]? :=wT w' a' j y l;rw[m]at d;rw[n];exact b.obj x y o i d
def cD.set{p:aY}{ρ:Ren}{w w':az}(k:WR p ρ w w'){a a':bZ}(g:AR ρ a a'){v i:aD}(hv:VR ρ v i){u:aD}(hc:w.cell? a=aa u):cD p ρ ρ w (w.setCell a v) w' (w'.setCell a' i):=
 ⟨Ren.le_refl _,k.set g hv hc,by simp[fY],λb _ c=>wT w' a' i b (λe=>c a.block (e▸g.1)),λ_ _ h=>aF h,rfl,rfl,rfl,rfl,by(simp[fY];omega),by simp[fY],λx y m j=>by
  have f:x≠a.block:=by rintro rfl;obtain⟨o,d,c⟩:=rD hc;rw[j]at d;cases d;exact c rfl
  have n:y≠a'.block:=λe=>f (k.one.2 _ _ _ (e▸m) g.1);exact⟨(wT w a v x f).trans j,wT w' a' i y n⟩,λl x o d c=>by
  by_cases f:x=a.block
  ·exact⟨_,f▸g.1⟩
  ·rw[wT w a v x f]at d;exact l x o d c⟩
def cD.new{p ρ w w'}(c:WR p ρ w w'){o j}(n:OR ρ o j):cD p ρ (ρ.ext w.heap.size w'.heap.size) w {w with heap:=w.heap.push o} w' {w' with heap:=w'.heap.push j}:=by
 have i:=Ren.KP ρ w.heap.size w'.heap.size
 refine⟨i,⟨⟨?_,?_⟩,?_,?_,c.tape,?_,by have:=c.base;simp;omega,?_,c.os⟩,aC,?_,?_,rfl,rfl,rfl,rfl,by(simp;omega),aC,λa b s d=>by
  have f:=c.lt _ _ s;exact⟨by rw[fJ,aK ak];exact d,by rw[fJ,aK ak]⟩,λt x q r u=>by
  by_cases e:x=w.heap.size
  ·exact⟨_,aE ⟨e,rfl⟩⟩
  ·rw[fJ,aK e]at r;exact(t x q r u).imp λb m=>aF m⟩
 ·rintro a b D (h|⟨l,g⟩) (k|⟨A,B⟩)
  ·exact c.one.1 _ _ _ h k
  ·have:=(c.lt _ _ h).1;omega
  ·have:=(c.lt _ _ k).1;omega
  ·omega
 ·rintro a C b (h|⟨l,g⟩) (k|⟨A,B⟩)
  ·exact c.one.2 _ _ _ h k
  ·have:=(c.lt _ _ h).2;omega
  ·have:=(c.lt _ _ k).2;omega
  ·omega
 ·rintro a b (h|⟨l,g⟩)
  ·have:=c.lt _ _ h;simp;omega
  ·simp;omega
 ·rintro a b x (h|⟨rfl,rfl⟩) e
  ·have f:=c.lt _ _ h;rw[fJ,aK ak]at e;rw[fJ,aK ak];rcases c.obj a b x h e with d|⟨y,z,v⟩
   ·exact aF d
   ·exact aE ⟨y,z,v.mono i⟩
  ·rw[fJ,aW rfl]at e;cases e;exact aE ⟨j,aC,n.mono i⟩
 ·rintro a b (h|⟨rfl,rfl⟩) f
  ·exact c.low a b h f
  ·have:=c.base;omega
 ·rintro a b (h|⟨rfl,rfl⟩) d
  ·have f:=c.lt _ _ h;rw[fJ,aK ak]at d;rw[fJ,aK ak];exact c.calm a b h d
  ·rw[fJ,aW rfl]at d;cases d;exact absurd rfl (gq n)
 ·intro b m _;rw[fJ,aK ak]
 ·rintro a b (h|⟨_,g⟩)
  ·exact aF h
  ·exact aE ak
def cD.put{p ρ w w'}(a:WR p ρ w w'){r f}(hr:ρ r f){o l}(t:OR ρ o l)(v:∃x,w.heap[r]? =aa x/\x≠cm):cD p ρ ρ w {w with heap:=w.heap.setIfInBounds r o} w' {w' with heap:=w'.heap.setIfInBounds f l}:=by
 have s:=a.lt _ _ hr
 refine⟨Ren.le_refl _,⟨a.one,λx y h=>by have:=a.lt x y h;simp;omega,λx y q g d=>?_,a.tape,a.low,by simpa using a.base,λx y g j=>?_,a.os⟩,aC,λb _ n=>?_,λ_ _ h=>aF h,rfl,rfl,rfl,rfl,by(simp;omega),aC,λx y g j=>by
  have c:x≠r:=by rintro rfl;obtain⟨q,d,n⟩:=v;rw[j]at d;cases d;exact n rfl
  have k:y≠f:=λe=>c (a.one.2 _ _ _ (e▸g) hr);exact⟨(dO (dc c)).trans j,dO (dc k)⟩,λu x q d n=>by
  by_cases c:x=r
  ·exact⟨_,c▸hr⟩
  ·have d:(w.heap.setIfInBounds r o)[x]? =aa q:=d;rw[dO (dc c)]at d;exact u x q d n⟩
 rotate_left
 ·by_cases c:x=r
  ·subst c;have i:(w.heap.setIfInBounds x o)[x]? =aa o:=by simp[s.1]
   rw[i]at j;cases j;exact absurd rfl (gq t)
  ·have k:y≠f:=λe=>c (a.one.2 _ _ _ (e▸g) hr);have i:(w.heap.setIfInBounds r o)[x]? =w.heap[x]? :=dO (dc c);have m:(w'.heap.setIfInBounds f l)[y]? =w'.heap[y]? :=dO (dc k);rw[i]at j;rw[m];exact a.calm x y g j
 rotate_left
 ·by_cases c:x=r
  ·subst c;have k:y=f:=a.one.1 _ _ _ g hr;subst k;have i:(w.heap.setIfInBounds x o)[x]? =aa o:=by simp[s.1]
   have m:(w'.heap.setIfInBounds y l)[y]? =aa l:=by simp[s.2]
   rw[i]at d;cases d;exact aE ⟨l,m,t⟩
  ·have k:y≠f:=λe=>c (a.one.2 _ _ _ (e▸g) hr);have i:(w.heap.setIfInBounds r o)[x]? =w.heap[x]? :=dO (dc c);have m:(w'.heap.setIfInBounds f l)[y]? =w'.heap[y]? :=dO (dc k);rw[i]at d;rw[m];exact a.obj x y q g d
 ·exact dO (λe:f=b=>n r (e▸hr))
def cD.draw{p ρ w w'}(a:WR p ρ w w'):cD p ρ ρ w {w with drawn:=w.drawn+1} w' {w' with drawn:=w'.drawn+1}:=
 ⟨Ren.le_refl _,⟨a.one,a.lt,a.obj,λi q=>by have:=a.tape (1+i) q;simpa[Nat.add_assoc]using this,a.low,a.base,a.calm,a.os⟩,bD _,λ_ _ _=>rfl,λ_ _ h=>aF h,rfl,rfl,rfl,by(show w'.drawn+1+w.drawn=w'.drawn+(w.drawn+1);omega),oc _ _,bD _,λ_ _ _ h=>⟨h,rfl⟩,id⟩
def Qw{p ρ w w'}(c:WR p ρ w w'){a a'}(g:AR ρ a a')(m):(∃h,w.farLoad p a m=.error h/\lq h)\/
  ∃v t q b k o,w.farLoad p a m=.ok (v,t)/\w'.farLoad p a' m=.ok (v,q)/\VR ρ v v/\w'.cell? a'=ay/\(∀x∈q,x.block=k)/\ρ b k/\(∃o,w.heap[b]? =aa o/\o≠cm)/\w.heap[a.block]? =aa o/\o≠cm:=by
 unfold World.farLoad;split
 ·rename_i x y d;rcases c.obj _ _ _ g.1 d with j|⟨_,n,i⟩
  ·cases j
  ·cases i with
   |@view _ E _ C f=>
    cases B:w.viewLoad p x y a m with
    |error D=>exact aF ⟨_,rfl,trivial⟩
    |ok r=>
     obtain⟨l,s,u,z,A⟩:=agm c.os.2 C f g.2 (c.obj _ _ · f.1) B;refine aE ⟨r.1,r.2,l,_,_,_,rfl,by rw[n];dsimp only;rw[s],u,?_,z,f.1,A,d,by intro e;cases e⟩;unfold fC;rw[n]
 ·refine aF ⟨_,rfl,?_⟩;unfold WZ;split
  ·rename_i x y d;rcases c.obj _ _ _ g.1 d with j|⟨_,_,i⟩
   ·cases j
   ·cases i
  ·simp
  ·simp
def Qx{p ρ w w'}(q:WR p ρ w w'){a a'}(j:AR ρ a a'){v z}(hv:VR ρ v z)(m):(∃h,w.farStore p a v m=.error h/\lq h)\/
  ∃b g d f t u o,w.farStore p a v m=.ok ({w with heap:=w.heap.setIfInBounds b d},t)/\w'.farStore p a' z m=.ok ({w' with heap:=w'.heap.setIfInBounds g f},u)/\OR ρ d f/\w'.cell? a'=ay/\(∀x∈u,x.block=g)/\ρ b g/\(∃o,w.heap[b]? =aa o/\o≠cm)/\w.heap[a.block]? =aa o/\o≠cm:=by
 unfold WY;split
 ·rename_i x y c;rcases q.obj _ _ _ j.1 c with n|⟨_,s,k⟩
  ·cases n
  ·cases k with
   |@view _ J _ G i=>
    cases E:w.viewStore p x y a v m with
    |error I=>exact aF ⟨_,rfl,trivial⟩
    |ok r=>
     obtain⟨d,f,l,h0,A,B,C,D⟩:=agn i j.2 hv (q.obj _ _ · i.1) E;obtain⟨H,F⟩:=r;dsimp only at h0;subst h0;refine aE ⟨_,_,d,f,F,l,_,rfl,by rw[s];dsimp only;rw[A],B,?_,C,i.1,D,c,by intro e;cases e⟩;unfold fC;rw[s]
 ·refine aF ⟨_,rfl,?_⟩;unfold WZ;split
  ·rename_i x y c;rcases q.obj _ _ _ j.1 c with n|⟨_,_,k⟩
   ·cases n
   ·cases k
  ·simp
  ·simp
def wD{α:Type}{p w m}{a:bZ}{v:aD}{k:Sem α}(b:∀x,v≠.agg x)(c:∀x,v≠.tuple x):(sC m a v k).run p w=(match w.cell? a with
  |some _=>if w.frozen? a then .halt (.unsupported (.unsafePointer "a write to bytes that a string shares")) w else k.run p (w.setCell a v)
  |none=>match w.farStore p a v (m==.atomic)with
   |.ok (w,_)=>k.run p w
   |.error h=>.halt h w):=by
 cases v<;>first|rfl|exact absurd rfl (b _)|exact absurd rfl (c _)
def C2{p ρ w w'}(h:WR p ρ w w'){a a'}(b:AR ρ a a'){u}(hc:w.cell? a=aa u):w'.frozen? a'=w.frozen? a:=by
 unfold fC at hc;split at hc
 ·rename_i c t i d;rcases h.obj _ _ _ b.1 d with g|⟨j,e,f⟩
  ·cases g
  ·cases f;unfold oJ;rw[d,e,b.2.1]
 ·cases hc
def adb{p ρ w w'}(f:WR p ρ w w'){r r'}(hr:ρ r r'){x:aQ×Nat}(h:w.shape? r=aa x):w'.shape? r'=aa x:=by
 unfold gO at h;split at h
 ·rename_i c t g a;rcases f.obj _ _ _ hr a with e|⟨i,b,d⟩
  ·cases e
  ·cases d with
   |cells _ _ hv=>
    unfold gO;simp only[b];rw[<-h,hv.1]
 ·cases h
def QY{p ρ w w'}(i:WR p ρ w w'){a a'}(b:AR ρ a a')(d:∃o,w.heap[a.block]? =aa o/\o≠cm):w'.frozen? a'=w.frozen? a:=by
 obtain⟨o,c,e⟩:=d;rcases i.obj _ _ _ b.1 c with h|⟨j,f,g⟩
 ·exact absurd h e
 ·unfold oJ;rw[c,f];cases g<;>simp only[b.2.1]
def Own.freeze{K w}(h:Own K w)(a n):Own K (w.freeze a n):=λr hr=>by
 obtain⟨o,c,b⟩:=h r hr;unfold zb;split
 ·exact⟨o,c,b⟩
 ·simp only[lO,c];split
  ·refine⟨_,rfl,?_⟩;cases o<;>first|(intro e;cases e;done)|(intro e;exact b e)
  ·exact⟨o,rfl,b⟩
def cD.freeze{p ρ w w'}(e:WR p ρ w w'){a a'}(j:AR ρ a a')(n)(v:∃o,w.heap[a.block]? =aa o/\o≠cm):cD p ρ ρ w (w.freeze a n) w' (w'.freeze a' n):=by
 by_cases h0:n=0
 ·subst h0;simp only[zb,cV];exact cD.refl e
 ·simp only[zb,h0,dQ]
  refine⟨Ren.le_refl _,⟨e.one,λx y h=>by have:=e.lt x y h;simp;exact this,λx y q k f=>?_,e.tape,e.low,by simpa using e.base,λx y k g=>?_,e.os⟩,aC,λb _ i=>?_,λ_ _ h=>aF h,rfl,rfl,rfl,rfl,by(simp;omega),aC,λx y k g=>by
   have d:¬a.block=x:=by rintro rfl;obtain⟨q,f,i⟩:=v;rw[g]at f;cases f;exact i rfl
   have m:¬a'.block=y:=λs=>d (e.one.2 _ _ _ j.1 (s▸k));exact⟨by simp only[lO,aK d,g],by simp only[lO,aK m]⟩,λN x q f i=>by
   by_cases d:a.block=x
   ·exact⟨_,d▸j.1⟩
   ·simp only[lO,aK d]at f;exact N x q f i⟩
  rotate_left
  ·by_cases d:a.block=x
   ·obtain⟨o,u,i⟩:=Own.freeze (K:=(·=a.block)) (λr hr=>by(obtain rfl:r=a.block:=hr;exact v)) a n a.block rfl;simp only[zb,h0,dQ]at u;rw[<-d]at g;rw[g]at u;cases u;exact absurd rfl i
   ·have m:¬a'.block=y:=λs=>d (e.one.2 _ _ _ j.1 (s▸k));simp only[lO]at g⊢;rw[aK d]at g;rw[aK m];exact e.calm x y k g
  rotate_left
  ·simp only[lO]at f⊢
   by_cases d:a.block=x
   ·have m:=e.one.1 _ _ _ j.1 (d▸k);rw[aW d]at f;rw[aW m];obtain⟨o,u,i⟩:=v;rw[<-d,u]at f;rcases e.obj _ _ _ j.1 u with g|⟨S,O,P⟩
    ·exact absurd g i
    ·rw[<-m,O];simp only[tP,WJ]at f⊢;subst f;right;refine⟨_,rfl,?_⟩;cases P with
     |cells t R hv=>rw[j.2.1];exact .cells _ _ hv
     |map c h=>exact .map c h
     |chan z A B C D=>exact .chan z A B C D
     |loop h0 E F G H I J L M=>exact .loop h0 E F G H I J L M
     |vO=>exact .vO
     |sV=>exact .sV
     |number l h=>exact .number l h
     |view t Q h=>exact .view t Q h
   ·have m:¬a'.block=y:=λs=>d (e.one.2 _ _ _ j.1 (s▸k));rw[aK d]at f;rw[aK m];exact e.obj x y q k f
  ·simp only[lO];rw[aK (λs:a'.block=b=>i a.block (s▸j.1))]
def Gc{p w r o}(h:w.heap[r]? =aa o)(b:∀a l,o≠.number a l):(numberAt r).run p w=.ok ay w:=by unfold numberAt;cases o<;>first|exact absurd rfl (b _ _)|simp[shape,getObj,Sem.run,kg,cL,gO,h,kD]
def SV{p w r a l}(h:w.heap[r]? =aa (.number a l)):(numberAt r).run p w=.ok (aa (a,l)) w:=by unfold numberAt;simp[shape,getObj,Sem.run,kg,cL,gO,h,kD]
def He{p w r o}(h:w.heap[r]? =aa o)(b:∀a l,o≠.view a l):(viewAt r).run p w=.ok ay w:=by unfold viewAt;cases o<;>first|exact absurd rfl (b _ _)|simp[shape,getObj,Sem.run,kg,cL,gO,h,kD]
def Va{p w r a}{t:aQ}(h:w.heap[r]? =aa (.view a t)):(viewAt r).run p w=.ok (aa (a,t)) w:=by unfold viewAt;simp[shape,getObj,Sem.run,kg,cL,gO,h,kD]
def FG{p ρ w w'}(d:WR p ρ w w'){a a'}(b:AR ρ a a'):w'.frozen? a'=w.frozen? a:=by
 obtain⟨o,c⟩:∃o,w.heap[a.block]? =aa o:=⟨_,cX (d.lt _ _ b.1).1⟩
 by_cases e:o=cm
 ·subst e;obtain⟨x,t,f,h,_,i⟩:=d.calm _ _ b.1 c;unfold oJ;rw[h,c];obtain⟨k,j⟩:=f;simp only[cm];simp only at i
  by_cases g:k<=a'.off
  ·have:¬a'.off<j:=ak;simp[this]
  ·simp[g]
 ·exact QY d b ⟨o,c,e⟩
def rI(w:az)(x:bZ):Bool:=w.frozen? x||(match w.shape? x.block with|some (_,n)=>w.frozen? {block:=x.block,off:=n}|none=>av)
def emB(w:az)(x:bZ):Bool:=match w.shape? x.block with|some (_,0)=>aq|_=>av
def tg(w:az)(a b:bZ):Bool:=(rI w a&&rI w b)||(rI w a&&emB w a)||(rI w b&&emB w b)
end
section
variable [aP]
abbrev dG{α:Type}:Ren->α->α->Prop:=λ_ a b=>b=a
def nj(P:aY):Prop:=∀t i z,P.info? t=aa i->i.zero=aa z->∀ρ:Ren,VR ρ z z
section
variable {P:aY} {ρ:Ren} {K:Kn}
def SR.then {α e g i:Type}{Q R s}{d:Sem e}{f:α->Sem g}{f':e->Sem i}(h:SR P Q ρ K s d)(hf:∀c L a b,ρ.le c->K.le L->Q c a b->SR P R c L (f a) (f' b)):SR P R ρ K (s >>= f) (d >>= f'):=SR.bind h hf
def SR.weaken{α t:Type}{Q R}{s:Sem α}{e:Sem t}(h:SR P Q ρ K s e)(g:∀f a b,ρ.le f->Q f a b->R f a b):SR P R ρ K s e:=by
 have i:s=s.bind .pure:=by
  clear h g;induction s with
  |pure a=>rfl
  |load m a k d=>simp only[cL];congr;funext v;exact d v
  |store m a v k d=>simp only[cL];congr
  |new o k d=>simp only[cL];congr;funext v;exact d v
  |shape r k d=>simp only[cL];congr;funext v;exact d v
  |freeze a n k d=>simp only[cL];congr
  |frozen a k d=>simp only[cL];congr;funext v;exact d v
  |getObj r k d=>simp only[cL];congr;funext v;exact d v
  |setObj r o k d=>simp only[cL];congr
  |choose q k d=>simp only[cL];congr;funext v;exact d v
  |sys c k d=>simp only[cL];congr;funext v;exact d v
  |program k d=>simp only[cL];congr;funext v;exact d v
  |mark m k d=>simp only[cL];congr
  |halt h=>rfl
 have j:e=e.bind .pure:=by
  clear h g i;induction e with
  |pure a=>rfl
  |load m a k d=>simp only[cL];congr;funext v;exact d v
  |store m a v k d=>simp only[cL];congr
  |new o k d=>simp only[cL];congr;funext v;exact d v
  |shape r k d=>simp only[cL];congr;funext v;exact d v
  |freeze a n k d=>simp only[cL];congr
  |frozen a k d=>simp only[cL];congr;funext v;exact d v
  |getObj r k d=>simp only[cL];congr;funext v;exact d v
  |setObj r o k d=>simp only[cL];congr
  |choose q k d=>simp only[cL];congr;funext v;exact d v
  |sys c k d=>simp only[cL];congr;funext v;exact d v
  |program k d=>simp only[cL];congr;funext v;exact d v
  |mark m k d=>simp only[cL];congr
  |halt h=>rfl
 rw[i,j];exact SR.bind h λf L a b l _ p=>.pure (g f a b l p)
def ju{α a:Type}{Q:Ren->α->a->Prop}(b:String)(s:Sem a):SR P Q ρ K (stuck b) s:=.lost aC
def GU{α a:Type}{Q:Ren->α->a->Prop}(u:Unsupported)(s:Sem a)(h:lq (.unsupported u):=by simp):SR P Q ρ K (Jd u) s:=.lost h
def gU:SR P (λ_ a b=>a=P/\b=P) ρ K xe xe:=.program (.pure ⟨rfl,rfl⟩)
def kX(t):SR P (λ_ a b=>b=a/\P.info? t=aa a) ρ K (Ek t) (Ek t):=by
 refine SR.then gU ?_;rintro e L a b _ _ ⟨c,d⟩;rw[c,d];cases h:P.info? t with
 |none=>exact ju _ _
 |some i=>exact .pure ⟨rfl,rfl⟩
def CQ(t):SR P (λ_ a b=>b=a/\P.underlying t=aa a) ρ K (underlying t) (underlying t):=by
 refine SR.then gU ?_;rintro e L a b _ _ ⟨c,d⟩;rw[c,d];cases h:P.underlying t with
 |none=>exact ju _ _
 |some i=>exact .pure ⟨rfl,rfl⟩
def ym(c:nj P)(t):SR P VR ρ K (zeroValue t) (zeroValue t):=by
 refine SR.then (kX t) ?_;rintro e L a b _ _ ⟨rfl,d⟩;cases h:b.zero with
 |none=>exact GU _ _
 |some z=>exact .pure (c t b z d h e)
def jO(t):SR P dG ρ K (sizeOf t) (sizeOf t):=by refine SR.then (kX t) ?_;rintro c L a b _ _ ⟨rfl,_⟩;exact .pure rfl
def aeo(t):SR P dG ρ K (isAgg t) (isAgg t):=by refine SR.then (CQ t) ?_;rintro c L a b _ _ ⟨rfl,_⟩;split<;>exact .pure rfl
def AR.add{a a'}(h:AR ρ a a')(n):AR ρ (a.add n) (a'.add n):=by
 unfold Addr.add;split
 ·exact h
 ·exact⟨h.1,by simp[h.2.1],rfl⟩
def Mn{a a'}(h:AR ρ a a')(m:Mode):SR P VR ρ K (load a m) (load a' m):=.load h λ_ _ hv=>.pure hv
def aeW{a a'}(h:AR ρ a a'){v v'}(hv:VR ρ v v')(m:Mode):SR P dG ρ K (store a v m) (store a' v' m):=.store h hv (.pure rfl)
def bK.push{x x'}(h:bK ρ x x'){v v'}(hv:VR ρ v v'):bK ρ (x.push v) (x'.push v'):=by
 refine⟨by simp[h.1],λi u d b a=>?_⟩;rw[fJ]at b a;rw[h.1]at a;split at b
 ·rename_i c;rw[aW c]at a;cases b;cases a;exact hv
 ·rename_i c;rw[aK c]at a;exact h.2 i u d b a
def bK.nil:bK ρ #[] #[]:=⟨rfl,λi v a h=>by simp at h⟩
def aev{a a':bZ}(h:AR ρ a a')(n):∀(i:Nat) (x b:aJ aD) (K:Kn),bK ρ x b->SR P bK ρ K (loadCellsFrom a i n x) (loadCellsFrom a' i n b):=by
 induction n generalizing ρ with
 |zero=>exact λi x b K c=>.pure c
 |succ n e=>
  intro i x b K c;refine SR.then (Mn (h.add i) .plain) λg L v f d _ hv=>?_;exact e (h.mono d) (i+1) _ _ L ((c.mono d).push hv)
def Mo{a a'}(h:AR ρ a a')(n):SR P bK ρ K (loadCells a n) (loadCells a' n):=aev h n 0 _ _ K bK.nil
def Un{a a':bZ}(h:AR ρ a a')(t):SR P VR ρ K (loadVar t a) (loadVar t a'):=by
 refine SR.then (aeo t) λl L b c d _ i=>?_;obtain rfl:c=b:=i;cases c with
 |false=>exact Mn (h.mono d) .plain
 |true=>
  refine SR.then (jO t) λm M n f g _ j=>?_;obtain rfl:f=n:=j;refine SR.then (Mo ((h.mono d).mono g) f) λo N x k _ _ e=>?_;exact .pure (.agg e.1 e.2)
def GQ{a a':bZ}(h:AR ρ a a'):∀(c b:aB aD) (i:Nat) (K:Kn),b.length=c.length->(∀(j:Nat) v d,c[j]? =aa v->b[j]? =aa d->VR ρ v d)->SR P dG ρ K (storeCells a c i) (storeCells a' b i):=by
 intro c;induction c generalizing ρ with
 |nil=>
  intro b i K e _;obtain rfl:b=[]:=Ip e;exact .pure rfl
 |cons v c g=>
  intro b i K e hv;cases b with
  |nil=>simp at e
  |cons d b=>
   refine SR.then (aeW (h.add i) (hv 0 v d rfl rfl) .plain) λn L _ _ f _ _=>?_;exact g (h.mono f) b (i+1) L (by grind) λj u k l m=>(hv (j+1) u k (by grind) (by grind)).mono f
def VR.cells{v v'}(h:VR ρ v v'):bK ρ v.cells v'.cells:=by
 have one:∀{u g:aD},VR ρ u g->bK ρ #[u] #[g]:=λj=>⟨rfl,λi x o e f=>by
  cases i with
  |zero=>simp at e f;rw[<-e,<-f];exact j
  |succ i=>simp at e⟩
 cases h with
 |agg e m=>exact⟨e,m⟩
 |bool b=>exact one (.bool b)
 |int k n=>exact one (.int k n)
 |string s=>exact one (.string s)
 |gT=>exact one .gT
 |ptr h=>exact one (.ptr h)
 |fH l c=>exact one (.fH l c)
 |slice l c h=>exact one (.slice l c h)
 |mN=>exact one .mN
 |map h=>exact one (.map h)
 |oh=>exact one .oh
 |chan h=>exact one (.chan h)
 |func h a b c d=>exact one (.func h a b c d)
 |nilFunc=>exact one .nilFunc
 |iface t h=>exact one (.iface t h)
 |nilIface=>exact one .nilIface
 |tuple h a=>exact one (.tuple h a)
def aeY{a a'}(h:AR ρ a a'){v d:aD}(hv:VR ρ v d)(t):SR P dG ρ K (storeVar t a v) (storeVar t a' d):=by
 have f:=hv.cells;refine SR.then (jO t) λo L n c e _ g=>?_;obtain rfl:c=n:=g
 by_cases b:v.cells.size≠c
 ·rw[aW b];exact .lost aC
 ·have i:¬d.cells.size≠c:=by rw[f.1];exact b
  rw[aK b,aK i];exact GQ (h.mono e) _ _ 0 L (by grind) λj u k l m=>(f.2 j u k (by grind) (by grind)).mono e
def wB(t){x b:aJ aD}(h:bK ρ x b):SR P AR ρ K (newRow t x) (newRow t b):=by refine SR.then (Q:=λc n a=>c n a) (.new (.cells t (0,0) h) λn a=>.pure (aE ⟨rfl,rfl⟩)) λc L n a _ _ d=>?_;exact .pure ⟨d,rfl,rfl⟩
def Mt(t){v v'}(h:VR ρ v v'):SR P AR ρ K (newVar t v) (newVar t v'):=wB t h.cells
def yj{α b:Type}{Q:Ren->α->b->Prop}{v a:aD}(h:VR ρ v a):SR P Q ρ K (goPanic v) (goPanic a):=.panic h
def MM(s:String):VR ρ (strVal s) (strVal s):=.string _
def Ac{α c:Type}{Q:Ren->α->c->Prop}:SR P Q ρ K (qQ (α:=α) .nilDeref) (qQ (α:=c) .nilDeref):=by refine SR.then gU λd L a b _ _ h=>?_;rw[h.1,h.2];exact yj (.iface _ (MM _))
def Ud{α e:Type}{Q:Ren->α->e->Prop}(x y s)(c:hO):SR P Q ρ K (qQ (α:=α) (.bounds x y s c)) (qQ (α:=e) (.bounds x y s c)):=by
 refine SR.then gU λg L a b _ _ h=>?_;rw[h.1,h.2];refine yj (.iface _ (.agg rfl λi v f hv d=>?_));rw[hv]at d;cases d
 match i,hv with
 |0,hv=>cases hv;exact .int _ _
 |1,hv=>cases hv;exact .int _ _
 |2,hv=>cases hv;exact .bool _
 |3,hv=>cases hv;exact .int _ _
 |i+4,hv=>simp at hv
def wy(q:jS):SR P dG ρ K (choose q) (choose q):=.choose λ_=>.pure rfl
def GH{v a:aD}(h:VR ρ v a):SR P dG ρ K (asIntOf v) (asIntOf a):=by cases h<;>first|exact .pure rfl|exact ju _ _|exact GU _ _
def yh{v c:aD}(h:VR ρ v c):SR P dG ρ K (asInt v) (asInt c):=
 SR.then (GH h) λ_ _ a b _ _ d=>by obtain rfl:b=a:=d;exact .pure rfl
def TZ{v a:aD}(h:VR ρ v a):SR P dG ρ K (asBool v) (asBool a):=by cases h<;>first|exact .pure rfl|exact ju _ _
def adx{v a:aD}(h:VR ρ v a):SR P AR ρ K (asAddr v) (asAddr a):=by
 cases h with
 |ptr h=>exact .pure h
 |gT=>exact Ac
 |_=>exact ju _ _
end
end
section
variable [aP]
section
variable {P:aY} {ρ:Ren} {K:Kn}
def GS{v v'}(h:VR ρ v v'):SR P AR ρ K (VY v) (VY v'):=by
 cases h with
 |ptr h=>exact .pure h
 |_=>exact ju _ _
def aet{v v'}(h:VR ρ v v')(t):SR P VR ρ K (VU t v) (VU t v'):=
 SR.then (GS h) λ_ _ _ _ _ _ a=>Un a t
def aeX{v v' x x'}(h:VR ρ v v')(c:VR ρ x x')(t):SR P dG ρ K (VX t v x) (VX t v' x'):=
 SR.then (GS h) λ_ _ _ _ a _ b=>aeY b (c.mono a) t
def adE{v v'}(h:VR ρ v v')(t):SR P VR ρ K (tw t v) (tw t v'):=
 SR.then (Mt t h) λ_ _ _ _ _ _ a=>.pure (.ptr a)
def adv(a:nj P)(t):SR P VR ρ K (py t aq (.tuple #[])) (py t aq (.tuple #[])):=
 SR.then (ym a t) λ_ _ _ _ _ _ c=>SR.then (Mt t c) λ_ _ _ _ _ _ b=>.pure (.ptr b)
def aey{f f' x x' y y'}(h:FR ρ f f')(a:bK ρ x x')(hy:bK ρ y y'):SR P VR ρ K (rQ f x y) (rQ f' x' y'):=.pure (.func h a.1 a.2 hy.1 hy.2)
def aez{v v'}(h:VR ρ v v')(t):SR P VR ρ K (VV t v) (VV t v'):=by
 refine SR.then (CQ t) λe L a b c _ d=>?_;obtain rfl:b=a:=d.1;split
 ·exact ju _ _
 ·exact .pure (.iface t (h.mono c))
def aef{v v'}(h:VR ρ v v')(i):SR P VR ρ K (VT v i) (VT v' i):=by
 cases h with
 |@tuple x a f e=>
  show SR P VR ρ K (match x[i]? with|some v=>pure v|none=>stuck _) (match a[i]? with|some v=>pure v|none=>stuck _);cases c:x[i]? with
  |none=>exact ju _ _
  |some u=>
   have d:i<a.size:=by grind
   have b:a[i]? =aa a[i]:=by simp[d]
   rw[b];exact .pure (e i _ _ c b)
 |_=>exact ju _ _
def GN{α g i j:Type}{Q R s s'}(f:α->i)(f':g->j)(h:SR P Q ρ K s s')(hf:∀c a b,ρ.le c->Q c a b->R c (f a) (f' b)):SR P R ρ K (VP f s) (VP f' s'):=
 SR.then h λ_ _ _ _ d _ e=>.pure (hf _ _ _ d e)
def GJ{α e:Type}{Q}(k:nO)(x y)(c:hO):SR P Q ρ K (Oj (α:=α) k x y c) (Oj (α:=e) k x y c):=by
 unfold Oj;dsimp only;split
 ·refine SR.then (Q:=dG) (GN _ _ (wy _) λ_ a b _ d=>by rw[show b=a from d]) λf L a b _ _ d=>?_;obtain rfl:b=a:=d;exact Ud _ _ _ _
 ·exact Ud _ _ _ _
def bG{t:aQ}{d:jC}(c:P.underlying t=aa d):SR P (λ_ a b=>a=d/\b=d) ρ K (underlying t) (underlying t):=
 (CQ t).weaken λ_ a b _ h=>by grind
def aei{v v' x x'}(h:VR ρ v v')(D:VR ρ x x'){t e:aQ}(g:P.underlying t=aa (.slice e)):SR P VR ρ K (Nx t v x) (Nx t v' x'):=by
 unfold Nx;refine SR.then (GH D) λJ L a b r _ A=>?_;obtain rfl:b=a:=A;obtain⟨k,i⟩:=b;refine SR.then (bG g) λS M d I s _ B=>?_;obtain⟨rfl,rfl⟩:=B;cases ((h.mono r).mono s)with
 |fH l c=>
  refine SR.then (Q:=λ_ y f=>y=(ay,l,e)/\f=(ay,l,e)) (.pure ⟨rfl,rfl⟩) λH O z F p _ m=>?_;obtain⟨rfl,rfl⟩:=m;refine SR.then (bG g) λG N y f o _ j=>?_;obtain⟨rfl,rfl⟩:=j;exact GJ _ _ _ _
 |@slice b q l c w=>
  refine SR.then (Q:=λ_ y f=>y=(aa b,l,e)/\f=(aa q,l,e)) (.pure ⟨rfl,rfl⟩) λH O z F p _ m=>?_;obtain⟨rfl,rfl⟩:=m;refine SR.then (bG g) λG N y f o _ j=>?_;obtain⟨rfl,rfl⟩:=j;dsimp only;split
  ·refine SR.then (jO e) λT R n E u _ C=>?_;obtain rfl:E=n:=C;exact .pure (.ptr ((((w.mono p).mono o).mono u).add _))
  ·simp;exact GJ _ _ _ _
 |_=>exact .lost aC
def aeg{v v'}(h:VR ρ v v'){s:aQ}{fs n f}{i:jD}(m:P.underlying s=aa (.struct fs))(hf:fs[n]? =aa f)(q:P.info? f.type=aa i)(h0:i.size≠0):SR P VR ρ K (Nt s v n) (Nt s v' n):=by
 unfold Nt;refine SR.then (bG m) λr L a b j _ l=>?_;obtain⟨rfl,rfl⟩:=l;simp only[hf];refine SR.then (GS (h.mono j)) λt M a g p _ c=>?_;refine SR.then (Q:=AR) ?_ λo N a g _ _ c=>.pure (.ptr c);unfold fieldPlace;refine SR.then (Q:=λ_ x y=>x=i.size/\y=i.size) ?_ λo N x y k _ d=>?_
 ·refine SR.then (kX f.type) λ_ _ x y _ _ d=>?_;have e:x=i:=by grind
  exact .pure ⟨by rw[e],by rw[d.1,e]⟩
 ·obtain⟨rfl,rfl⟩:=d;rw[aK h0,aK h0];exact .pure ((c.mono k).add _)
def aej{v v' x x'}(h:VR ρ v v')(l:VR ρ x x'){t:aQ}(j:P.underlying t=aa .string):SR P VR ρ K (Nw t v x) (Nw t v' x'):=by
 unfold Nw;refine SR.then (GH l) λn L a b c _ f=>?_;obtain rfl:b=a:=f;obtain⟨k,i⟩:=b;refine SR.then (bG j) λo M d m e _ g=>?_;obtain⟨rfl,rfl⟩:=g;cases (h.mono c).mono e with
 |string s=>
  dsimp only;split
  ·exact .pure (.int _ _)
  ·exact GJ _ _ _ _
 |_=>exact .lost aC
end
end
section
variable [aP]
section
variable {P:aY} {ρ:Ren} {K:Kn}
def VO(ρ:Ren):aZ aD->aZ aD->Prop
 |none,ay=>True
 |some v,aa a=>VR ρ v a
 |_,_=>False
def VO.mono{ρ σ}(h:ρ.le σ){v a}(k:VO ρ v a):VO σ v a:=by cases v<;>cases a<;>first|exact k.elim|trivial|exact VR.mono h k
def Ad{v v'}(h:VR ρ v v')(y)(c:hO):SR P dG ρ K (ND v y c) (ND v' y c):=by
 unfold ND;refine SR.then (GH h) λf L a b e _ d=>?_;obtain rfl:b=a:=d;obtain⟨k,i⟩:=b;dsimp only;split
 ·exact .pure rfl
 ·exact GJ _ _ _ _
def qD{α:Type}(a:α):SR P (λ_ x y=>x=a/\y=a) ρ K (pure a) (pure a):=.pure ⟨rfl,rfl⟩
def GP(isS len cap){d b f c}(n:VO ρ d b)(o:VO ρ f c):SR P dG ρ K (AG isS len cap d f ay) (AG isS len cap b c ay):=by
 unfold AG;dsimp only;refine SR.then (qD cap) λr L m q i _ l=>?_;obtain⟨rfl,rfl⟩:=l;have a:=n.mono i;have g:=o.mono i;cases f with
 |none=>
  cases c with
  |none=>
   refine SR.then (qD len) λp M y k g2 _ e=>?_;obtain⟨rfl,rfl⟩:=e;cases d with
   |none=>cases b with
    |none=>exact .pure rfl
    |some v=>exact a.elim
   |some v=>cases b with
    |none=>exact a.elim
    |some j=>exact SR.then (Ad (VR.mono g2 a) _ _) λ_ _ x h _ _ e=>by(obtain rfl:h=x:=e;exact .pure rfl)
  |some v=>exact g.elim
 |some v=>
  cases c with
  |none=>exact g.elim
  |some j=>
   refine SR.then (Ad g _ _) λp M y k g2 _ e=>?_;obtain rfl:k=y:=e;cases d with
   |none=>cases b with
    |none=>exact .pure rfl
    |some v=>exact a.elim
   |some v=>cases b with
    |none=>exact a.elim
    |some j=>exact SR.then (Ad (VR.mono g2 a) _ _) λ_ _ x h _ _ e=>by(obtain rfl:h=x:=e;exact .pure rfl)
def aeV{v v'}(h:VR ρ v v'){lo lo' hi hi'}(d:VO ρ lo lo')(f:VO ρ hi hi'){t:aQ}(i:P.underlying t=aa .string):SR P VR ρ K (uO t v lo hi ay) (uO t v' lo' hi' ay):=by
 unfold uO;refine SR.then (bG i) λk L a b c _ g=>?_;obtain⟨rfl,rfl⟩:=g;cases h.mono c with
 |string s=>
  refine SR.then (GP av _ _ (d.mono c) (f.mono c)) λl M x j _ _ e=>?_;obtain rfl:j=x:=e;exact .pure (.string _)
 |_=>exact .lost aC
def GM{v v'}(h:VR ρ v v'):SR P dG ρ K (Dp v) (Dp v'):=by cases h<;>first|exact .pure rfl|exact ju _ _
def wA(size n){v v'}(h:VR ρ v v'):SR P bK ρ K (VC size n v) (VC size n v'):=by
 cases h with
 |slice l c f=>exact Mo f _
 |fH l c=>exact .pure bK.nil
 |string s=>
  refine .pure ⟨rfl,λi u g a e=>?_⟩;rw[a]at e;cases e;simp only[fV]at a;cases d:(s.extract 0 n).data[i]? with
  |none=>rw[d]at a;cases a
  |some b=>rw[d]at a;cases a;exact .int _ _
 |_=>exact ju _ _
def GI(n):SR P dG ρ K (askRoom n) (askRoom n):=by
 unfold askRoom;split
 ·exact .noRoom (.pure rfl)
 ·exact .pure rfl
end
end
section
variable [aP]
section
variable {P:aY} {ρ:Ren} {K:Kn}
def bK.append{x x' y y'}(h:bK ρ x x')(k:bK ρ y y'):bK ρ (x++y) (x'++y'):=by
 refine⟨by simp[h.1,k.1],λi u d b a=>?_⟩;rw[Hj]at b a;rw[h.1]at a;split at b
 ·rename_i c;rw[aW c]at a;exact h.2 i u d b a
 ·rename_i c;rw[aK c]at a;exact k.2 _ u d b a
def Plain(x:aJ aD):Prop:=∀(i:Nat) v,x[i]? =aa v->∀ρ:Ren,VR ρ v v
def Plain.rel{x}(h:Plain x)(ρ):bK ρ x x:=⟨rfl,λi v c a b=>by rw[a]at b;cases b;exact h i v a ρ⟩
def Gg{z}(h:∀ρ:Ren,VR ρ z z):Plain z.cells:=λi v hv ρ=>(h ρ).cells.2 i v v hv hv
def Tf{z}(h:Plain z)(n):Plain (tF z n):=by
 intro i v hv ρ;unfold tF at hv;simp only[fV]at hv;cases hr:(MX (n*z.size))[i]? with
 |none=>rw[hr]at hv;cases hv
 |some j=>
  rw[hr]at hv;cases hv;have c:j<n*z.size:=by grind
  have b:0<z.size:=by grind
  have a:j %z.size<z.size:=AZ _ b;have e:z[j %z.size]? =aa (z[j %z.size]!):=by simp[a]
  exact h _ _ e ρ
def GV(c:nj P)(t):SR P (λ_ a b=>b=a/\∀ρ:Ren,VR ρ a a) ρ K (zeroValue t) (zeroValue t):=by
 refine SR.then (kX t) ?_;rintro e L a b _ _ ⟨rfl,d⟩;cases h:b.zero with
 |none=>exact GU _ _
 |some z=>exact .pure ⟨rfl,c t b z d h⟩
def CO{α c:Type}{Q}(m:String):SR P Q ρ K (qQ (α:=α) (.error m)) (qQ (α:=c) (.error m)):=by refine SR.then gU λd L a b _ _ h=>?_;rw[h.1,h.2];exact yj (.iface _ (MM _))
def uE{α a b c:Type}{R}(m:String)(f:α->Sem b)(f':a->Sem c):SR P R ρ K (qQ (.error m) >>= f) (qQ (.error m) >>= f'):=
 SR.then (Q:=λ_ _ _=>False) (CO m) λ_ _ _ _ _ _ h=>h.elim
def Qn{α k:Type}(s:Sem α)(f:α->Sem k)(g:∀w v b,s.run P w≠.halt v b)(hf:∀a w,∃x b,(f a).run P w=.halt x b/\lq x)(w):∃x b,(s >>= f).run P w=.halt x b/\lq x:=by
 have e:(s >>= f).run P w=(s.run P w).andThen λa i=>(f a).run P i:=gw P s f w;cases h:s.run P w with
 |ok a b=>
  obtain⟨x,j,c,d⟩:=hf a b;exact⟨x,j,by rw[e,h];exact c,d⟩
 |halt x b=>exact absurd h (g w x b)
def RK(a n w):∃b,(VD a n).run P w=.ok b w:=by
 unfold VD;cases h:w.shape? a.block with
 |none=>exact⟨av,by simp[shape,Sem.run,kg,cL,h,kD]⟩
 |some x=>exact⟨_,by simp only[shape,Sem.run,kg,cL,h,kD];rfl⟩
def oQ{α:Type}(P:aY)(s:Sem α):Prop:=∀w:az,∃b,s.run P w=.ok b w
def Cw{α:Type}(a:α):oQ P (pure a:Sem α):=λ_=>⟨a,rfl⟩
def oQ.bind{α g:Type}{s}{f:α->Sem g}(h:oQ P s)(k:∀a,oQ P (f a)):oQ P (s >>= f):=λw=>by obtain⟨b,d⟩:=h w;obtain⟨c,e⟩:=k b w;exact⟨c,by rw[wU,d];exact e⟩
def T4(a):oQ P (frozen a):=λw=>⟨w.frozen? a,rfl⟩
def TW(size l n base x w):∃b,(Nf size l n base x).run P w=.ok b w:=by
 suffices h:oQ P (Nf size l n base x) from h w
 unfold Nf
 extract_lets last
 have c:∀d,oQ P (last d):=λd=>by
  dsimp only[last];split
  ·exact Cw _
  ·split
   ·exact oQ.bind (λw=>RK _ _ w) λ_=>Cw _
   ·exact Cw _
 cases base with
 |none=>exact oQ.bind (Cw _) c
 |some a=>exact oQ.bind (λw=>RK a _ w) λ_=>oQ.bind (T4 _) λ_=>oQ.bind (Cw _) c
def adw(hZ:nj P){s s' x x'}(hs:VR ρ s s')(hx:VR ρ x x'){t u e ty:aQ}{d:jC}(ht:P.underlying t=aa (.slice e))(hu:P.underlying u=aa d)(hd:d=.string\/∃e',d=.slice e'):SR P VR ρ K (oG #[t,u] ty #[s,x]) (oG #[t,u] ty #[s',x']):=by
 rcases hd with rfl|⟨e',rfl⟩
 all_goals
  unfold oG;simp only[List.getElem?_toArray,List.getElem?_cons_zero,List.getElem?_cons_succ];refine SR.then (bG ht) λσ L a b g1 _ bN=>?_;obtain⟨rfl,rfl⟩:=bN;dsimp only;have bn:=hx.mono g1;cases (hs.mono g1)with
  |@slice c c' r aN hc=>
   refine SR.then (jO e) λτ M size A g2 _ E=>?_;obtain rfl:A=size:=E;refine SR.then (bG hu) λcq M2 u u' R _ F=>?_;obtain⟨rfl,rfl⟩:=F;refine SR.then (qD av) λcr M3 z z' S _ G=>?_;obtain⟨rfl,rfl⟩:=G;simp only[eX,dQ,Dm,cV,false_or];have g5:=Ren.le_trans (Ren.le_trans g2 R) S;have m:=bn.mono g5;refine SR.then (GM m) λcu M4 n p D _ H=>?_;obtain rfl:p=n:=H;have o:=m.mono D;have W:=(hc.mono g5).mono D;split
   ·refine SR.then (wA _ _ o) λaU B w w' f _ hw=>?_;refine SR.then (GQ ((W.mono f).add _) _ _ 0 B (by simpa using hw.1) λj q q' l ru=>hw.2 j q q' (by simpa using l) (by simpa using ru)) λbt M6 _ _ i _ _=>?_;exact .pure (.slice _ _ ((W.mono f).mono i))
   ·refine SR.then (kX e) λaU B ti aP f _ Y=>?_;obtain rfl:aP=ti:=Y.1;have aj:=o.mono f;split
    ·exact uE _ _ _
    ·refine SR.then (kX e) λbt M6 tj aS i _ Z=>?_;obtain rfl:aS=tj:=Z.1;split
     ·refine SR.then (Q:=λ_ _ _=>False) (.vP λw=>Qn _ _ (λw v w1 k=>?_) (λb w=>?_) w) λ_ _ _ _ _ _ h=>h.elim
      ·obtain⟨b,V⟩:=TW (P:=P) A r p (aa c) x w;rw[V]at k;cases k
      ·cases b
       ·exact⟨_,_,rfl,aC⟩
       ·exact⟨_,_,rfl,aC⟩
     ·refine SR.then (wy _) λcv M7 nc aI T _ X=>?_;obtain rfl:aI=nc:=X;refine SR.then (kX e) λcw M8 tk aT I _ af=>?_;obtain rfl:aT=tk:=af.1;refine SR.then (GI _) λcx M9 _ _ J _ _=>?_;have C:=Ren.le_trans (Ren.le_trans (Ren.le_trans i T) I) J;refine SR.then (wA _ _ (VR.slice r aN ((W.mono f).mono C))) λb9 bu y y' N _ hy=>?_;refine SR.then (wA _ _ ((aj.mono C).mono N)) λcj bw q q' O _ l=>?_;refine SR.then (GV hZ e) λck bz zz b7 g _ aG=>?_;obtain⟨rfl,an⟩:=aG;refine SR.then (wB e (((hy.mono (Ren.le_trans O g)).append (l.mono g)).append ((Tf (Gg an) _).rel _))) λcm bA ad bL _ _ U=>?_;exact .pure (.slice _ _ U)
  |fH r aN=>
   refine SR.then (jO e) λτ M size A g2 _ E=>?_;obtain rfl:A=size:=E;refine SR.then (bG hu) λcq M2 u u' R _ F=>?_;obtain⟨rfl,rfl⟩:=F;refine SR.then (qD av) λcr M3 z z' S _ G=>?_;obtain⟨rfl,rfl⟩:=G;simp only[eX,dQ,Dm,cV,false_or];have m:=bn.mono (Ren.le_trans (Ren.le_trans g2 R) S);refine SR.then (GM m) λcu M4 n p D _ H=>?_;obtain rfl:p=n:=H;have o:=m.mono D;split
   ·refine SR.then (wA _ _ o) λaU B w w' f _ hw=>?_;exact .pure (.fH _ _)
   ·refine SR.then (kX e) λaU B ti aP f _ Y=>?_;obtain rfl:aP=ti:=Y.1;have aj:=o.mono f;split
    ·exact uE _ _ _
    ·refine SR.then (kX e) λbt M6 tj aS i _ Z=>?_;obtain rfl:aS=tj:=Z.1;split
     ·refine SR.then (Q:=λ_ _ _=>False) (.vP λw=>Qn _ _ (λw v w1 k=>?_) (λb w=>?_) w) λ_ _ _ _ _ _ h=>h.elim
      ·obtain⟨b,V⟩:=TW (P:=P) A r p ay x w;rw[V]at k;cases k
      ·cases b
       ·exact⟨_,_,rfl,aC⟩
       ·exact⟨_,_,rfl,aC⟩
     ·refine SR.then (wy _) λcv M7 nc aI T _ X=>?_;obtain rfl:aI=nc:=X;refine SR.then (kX e) λcw M8 tk aT I _ af=>?_;obtain rfl:aT=tk:=af.1;refine SR.then (GI _) λcx M9 _ _ J _ _=>?_;have C:=Ren.le_trans (Ren.le_trans (Ren.le_trans i T) I) J;refine SR.then (wA _ _ (VR.fH r aN)) λb9 bu y y' N _ hy=>?_;refine SR.then (wA _ _ ((aj.mono C).mono N)) λcj bw q q' O _ l=>?_;refine SR.then (GV hZ e) λck bz zz b7 g _ aG=>?_;obtain⟨rfl,an⟩:=aG;refine SR.then (wB e (((hy.mono (Ren.le_trans O g)).append (l.mono g)).append ((Tf (Gg an) _).rel _))) λcm bA ad bL _ _ U=>?_;exact .pure (.slice _ _ U)
  |_=>exact .lost aC
end
end
section
variable [aP]
section
variable {P:aY} {ρ:Ren} {K:Kn}
def Ul(op:kY)(k:nO)(x y):SR P VR ρ K (NQ op k x y) (NQ op k x y):=by unfold NQ;split<;>first|exact .pure (.int _ _)|exact ju _ _
def ael(op:kY)(x y):SR P VR ρ K (NU op x y) (NU op x y):=by unfold NU;split<;>first|exact .pure (.bool _)|exact ju _ _
def aem(op:kY)(k:nO)(x y):SR P VR ρ K (NV op k x y) (NV op k x y):=by
 unfold NV;split
 ·exact CO _
 ·split<;>first|exact .pure (.int _ _)|exact ju _ _
def aeR(op:kY)(k:nO)(x)(l:nO)(y):SR P VR ρ K (qv op k x l y) (qv op k x l y):=by
 unfold qv;split
 ·exact CO _
 ·dsimp only;split<;>first|exact .pure (.int _ _)|exact ju _ _
def aek(op:kY)(k:nO)(x y):SR P VR ρ K (NS op k x y) (NS op k x y):=by unfold NS;dsimp only;split<;>first|exact .pure (.int _ _)|exact ju _ _
def Uv(op:kY)(x y):SR P VR ρ K (NW op x y) (NW op x y):=by
 unfold NW;dsimp only;split
 ·split
  ·exact GU _ _
  ·exact .pure (.string _)
 all_goals first|exact .pure (.bool _)|exact ju _ _
def Mk(op:kY)(t)(k l:nO)(x y):SR P VR ρ K (fD op t (.int k x) (.int l y)) (fD op t (.int k x) (.int l y)):=by
 have a:SR P VR ρ K (stuck "BinOp: operands of different kinds") (stuck "BinOp: operands of different kinds"):=ju _ _;cases op<;>simp only[fD]
 all_goals first
  |exact aeR _ _ _ _ _
  |skip
 all_goals
  split
  ·exact a
  ·first
   |exact Ul _ _ _ _
   |exact aem _ _ _ _
   |exact aek _ _ _ _
   |exact ael _ _ _
def Ml(op:kY)(t x y):SR P VR ρ K (fD op t (.string x) (.string y)) (fD op t (.string x) (.string y)):=by cases op<;>simp only[fD]<;>exact Uv _ _ _
def aeU{v v'}(h:VR ρ v v'){lo lo' hi hi'}(j:VO ρ lo lo')(m:VO ρ hi hi'){t e:aQ}(u:P.underlying t=aa (.slice e)):SR P VR ρ K (uO t v lo hi ay) (uO t v' lo' hi' ay):=by
 unfold uO;refine SR.then (bG u) λC L a b d _ r=>?_;obtain⟨rfl,rfl⟩:=r;cases h.mono d with
 |fH l c=>
  refine SR.then (GP aq _ _ (j.mono d) (m.mono d)) λz M x f _ _ ex=>?_;obtain rfl:f=x:=ex;refine SR.then (jO e) λA N n i _ _ g=>?_;obtain rfl:i=n:=g;obtain⟨w,s,y⟩:=f;simp;exact .pure (.fH _ _)
 |@slice c B l k q=>
  refine SR.then (GP aq _ _ (j.mono d) (m.mono d)) λz M x f g2 _ ex=>?_;obtain rfl:f=x:=ex;refine SR.then (jO e) λA N n i p _ g=>?_;obtain rfl:i=n:=g;have o:=(q.mono g2).mono p;obtain⟨w,s,y⟩:=f;split
  ·exact .pure (.slice _ _ o)
  ·exact .pure (.slice _ _ (o.add _))
 |_=>exact .lost aC
def Ut{v v' lo lo' hi hi'}{t:aQ}{d:jC}(j:P.underlying t=aa d)(i:∀n e,d≠.array n e)(h:∀c L,ρ.le c->SR P VR c L (uO t v lo hi ay) (uO t v' lo' hi' ay)):SR P VR ρ K (uP t v lo hi ay) (uP t v' lo' hi' ay):=by
 unfold uP;refine SR.then (bG j) λc L a b f _ g=>?_;obtain⟨rfl,rfl⟩:=g;split
 ·exact absurd rfl (i _ _)
 ·exact h c L f
def aer{v v'}(h:VR ρ v v'){t e:aQ}(d:P.underlying t=aa (.slice e))(ty):SR P VR ρ K (Ay #[t] ty #[v]) (Ay #[t] ty #[v']):=by unfold Ay;simp;refine SR.then (bG d) λg L a b f _ c=>?_;obtain⟨rfl,rfl⟩:=c;cases h<;>first|exact .pure (.int _ _)|exact .lost aC
def aes{v v'}(h:VR ρ v v'){t:aQ}(d:P.underlying t=aa .string)(ty):SR P VR ρ K (Ay #[t] ty #[v]) (Ay #[t] ty #[v']):=by unfold Ay;simp;refine SR.then (bG d) λf L a b e _ c=>?_;obtain⟨rfl,rfl⟩:=c;cases h<;>first|exact .pure (.int _ _)|exact .lost aC
def adT{s s' x x'}(G:VR ρ s s')(I:VR ρ x x'){t u e A:aQ}(H:P.underlying t=aa (.slice e)):SR P VR ρ K (Dn #[t,u] A #[s,x]) (Dn #[t,u] A #[s',x']):=by
 unfold Dn;simp;refine SR.then (bG H) λV L a b r _ C=>?_;obtain⟨rfl,rfl⟩:=C;dsimp only;have d:=I.mono r;cases G.mono r with
 |@slice c T l k D=>
  refine SR.then (GM d) λO M n m g2 _ f=>?_;obtain rfl:m=n:=f;refine SR.then (jO e) λQ B z o h _ g=>?_;obtain rfl:o=z:=g;have v:=Ren.le_trans g2 h;refine SR.then (wA _ _ (d.mono v)) λR p w N y _ i=>?_;refine SR.then (GQ ((D.mono v).mono y) _ _ 0 p (by simpa using i.1) λj q J E F=>i.2 j q J (by simpa using E) (by simpa using F)) λW S _ _ U _ _=>?_;exact .pure (.int _ _)
 |fH l k=>
  refine SR.then (GM d) λO M n m g2 _ f=>?_;obtain rfl:m=n:=f;refine SR.then (jO e) λQ B z o h _ g=>?_;obtain rfl:o=z:=g;refine SR.then (wA _ _ (d.mono (Ren.le_trans g2 h))) λR p w N y _ i=>?_;exact .pure (.int _ _)
 |_=>exact .lost aC
end
end
section
variable [aP]
section
variable {P:aY} {ρ:Ren} {K:Kn}
inductive dh{α c:Type}(R:α->c->Prop):aB α->aB c->Prop
 |nil:dh R [] []
 |cons {a:α} {b:c} {l:aB α} {m:aB c} (h:R a b) (t:dh R l m):dh R (a::l) (b::m)
def qY(ρ:Ren)(x a:aB aD):Prop:=dh (VR ρ) x a
def bK.list{x a}(h:bK ρ x a):qY ρ x.toList a.toList:=by
 obtain⟨b,c⟩:=h;rcases x with⟨x⟩;rcases a with⟨a⟩;simp at b;simp at c;unfold qY;dsimp only;induction x generalizing a with
 |nil=>
  obtain rfl:a=[]:=Ip b;exact .nil
 |cons v x d=>
  cases a with
  |nil=>simp at b
  |cons f a=>
   refine .cons (c 0 v f rfl rfl) (d a (by grind) λi u e g j=>c (i+1) u e (by grind) (by grind))
def R4{ws ws'}(h:qY ρ ws ws')(off):∀(k:Nat) {x a:aJ aD},bK ρ x a->
  bK ρ ((ws.zipIdx k).foldl (λcs (p:aD×Nat)=>cs.setIfInBounds (off+p.2) p.1) x) ((ws'.zipIdx k).foldl (λcs (p:aD×Nat)=>cs.setIfInBounds (off+p.2) p.1) a):=by
 unfold qY at h;induction h with
 |nil=>intro k x a b;exact b
 |cons hv _ c=>intro k x a b;exact c (k+1) (b.set hv _)
def sN(ρ:Ren)(x b:aB (Nat×aD)):Prop:=dh (λp a=>a.1=p.1/\VR ρ p.2 a.2) x b
def sN.mono{σ}(g:ρ.le σ){x x'}(h:sN ρ x x'):sN σ x x':=by
 unfold sN at*;induction h with
 |nil=>exact .nil
 |cons hv _ a=>exact .cons ⟨hv.1,hv.2.mono g⟩ a
inductive Jo(ρ:Ren):aZ (aJ aD)->aZ (aJ aD)->Prop
 |none:Jo ρ ay ay
 |some {x a:aJ aD} (h:bK ρ x a):Jo ρ (aa x) (aa a)
def JR(d:Nat->aZ (Nat×Nat)){ps ps'}(h:sN ρ ps ps'):∀{x b:aJ aD},bK ρ x b->Jo ρ (uN d x ps) (uN d b ps'):=by
 unfold sN at h;induction h with
 |nil=>intro x b a;exact .some a
 |@cons p j _ _ hv _ g=>
  intro x b a;obtain⟨i,v⟩:=p;obtain⟨f,l⟩:=j;obtain⟨e,c⟩:=hv;dsimp only at e c;subst e;unfold uN;cases k:d f with
  |none=>exact .none
  |some q=>
   obtain⟨off,size⟩:=q;dsimp only;rw[c.cells.1,a.1];split
   ·exact .none
   ·refine g ?_;have:=R4 c.cells.list off 0 a;rw[<-VB,<-VB,Df,Df]at this;exact this
def aeD{α n:Type}{f:α->Sem n}(h:∀a d L,SR P dG d L (f a) (f a))(xs:aJ α):SR P dG ρ K (xs.mapM f) (xs.mapM f):=by
 rw[Aw];refine GN _ _ ?_ λ_ a b _ i=>by rw[show b=a from i]
 generalize xs.toList=l;induction l generalizing ρ K with
 |nil=>exact .pure rfl
 |cons a l m=>
  rw[uT];refine SR.then (h a _ _) λd L b e _ _ j=>?_;obtain rfl:e=b:=j;refine SR.then m λd L c g _ _ k=>?_;obtain rfl:g=c:=k;exact .pure rfl
def adF(j:nj P){t:aQ}{fs}(p:P.underlying t=aa (.struct fs)){ps d:aJ (Nat×aD)}(h:sN ρ ps.toList d.toList):SR P VR ρ K (Nq t ps) (Nq t d):=by
 unfold Nq;refine SR.then (ym j t) λv L z u i _ q=>?_;refine SR.then (bG p) λy M a b g2 _ k=>?_;obtain⟨rfl,rfl⟩:=k;refine SR.then (aeD (λf v L=>SR.then (jO f.type) λ_ _ n r _ _ l=>by(obtain rfl:r=n:=l;exact .pure rfl)) fs) λA N s c e _ m=>?_;obtain rfl:c=s:=m;have hr:=JR (c[·]?) (h.mono (Ren.le_trans (Ren.le_trans i g2) e)) (q.cells.mono (Ren.le_trans g2 e));revert hr;generalize uN (λx=>c[x]?) z.cells ps.toList=o;generalize uN (λx=>c[x]?) u.cells d.toList=w;intro hr;cases hr with
 |none=>exact .lost aC
 |some g=>exact .pure (.agg g.1 g.2)
end
end
section
variable [aP]
section
variable {P:aY} {ρ:Ren} {K:Kn}
def agu:VR ρ (default:aD) default:=by first|exact .bool _|exact .nilIface|exact .gT|exact .nilFunc|exact .tuple rfl (λi v a h=>by simp at h)
def Gh{z}(h:Plain z)(n):Plain ((MX n).map (z[· %z.size]!)):=by
 intro i v hv ρ;simp only[fV]at hv;cases hr:(MX n)[i]? with
 |none=>rw[hr]at hv;cases hv
 |some j=>
  rw[hr]at hv;cases hv
  by_cases a:j %z.size<z.size
  ·have e:z[j %z.size]? =aa (z[j %z.size]!):=by simp[a]
   exact h _ _ e ρ
  ·have e:z[j %z.size]! =default:=by
    rw[getElem!_neg];exact a
   show VR ρ (z[j %z.size]!) (z[j %z.size]!);rw[e];exact agu
def Td:Plain #[]:=λi v h=>by simp at h
def adG(q:nj P){t e:aQ}(v:P.underlying t=aa (.slice e))(len){ps d}(h:sN ρ ps.toList d.toList):SR P VR ρ K (Nr t len ps) (Nr t len d):=by
 unfold Nr;refine SR.then (bG v) λC M a b g2 _ r=>?_;obtain⟨rfl,rfl⟩:=r;dsimp only;refine SR.then (jO e) λD N n c m _ s=>?_;obtain rfl:c=n:=s;split
 ·exact .lost aC
 ·split
  ·refine SR.then (qD _) λl O z A f _ k=>?_;obtain⟨rfl,rfl⟩:=k;have hr:=JR (λi=>aa (i*c,c)) (h.mono (Ren.le_trans (Ren.le_trans g2 m) f)) ((Gh Td (len*c)).rel l);revert hr;generalize uN _ _ ps.toList=o;generalize uN _ _ d.toList=x;intro hr;cases hr with
   |none=>exact .lost aC
   |some j=>exact SR.then (wB e j) λ_ _ _ _ _ _ g=>.pure (.slice _ _ g)
  ·refine SR.then (GV q e) λE R y B p _ w=>?_;obtain⟨rfl,u⟩:=w;refine SR.then (qD _) λl O z A f _ k=>?_;obtain⟨rfl,rfl⟩:=k;have hr:=JR (λi=>aa (i*c,c)) (h.mono (Ren.le_trans (Ren.le_trans (Ren.le_trans g2 m) p) f)) ((Gh (Gg u) (len*c)).rel l);revert hr;generalize uN _ _ ps.toList=o;generalize uN _ _ d.toList=x;intro hr;cases hr with
   |none=>exact .lost aC
   |some j=>exact SR.then (wB e j) λ_ _ _ _ _ _ g=>.pure (.slice _ _ g)
def aeC(r:nj P){t e:aQ}(B:P.underlying t=aa (.slice e)){x x' y j}(C:VR ρ x x')(hy:VR ρ y j):SR P VR ρ K (Dy t x y) (Dy t x' j):=by
 unfold Dy;refine SR.then (bG B) λT L a b k _ s=>?_;obtain⟨rfl,rfl⟩:=s;dsimp only;refine SR.then (yh (C.mono k)) λW M l E g2 _ w=>?_;obtain rfl:E=l:=w;refine SR.then (yh (hy.mono (Ren.le_trans k g2))) λX N c o J _ u=>?_;obtain rfl:o=c:=u;refine SR.then (kX e) λY O i D Q _ v=>?_;obtain rfl:D=i:=v.1;split
 ·split
  ·exact uE _ _ _
  ·split
   ·exact uE _ _ _
   ·refine SR.then (wy _) λ_ _ n h _ _ f=>?_;obtain rfl:h=n:=f;exact uE _ _ _
 ·refine SR.then (GI _) λU H _ _ p _ _=>?_;refine SR.then (jO e) λV I n h S _ f=>?_;obtain rfl:h=n:=f;split
  ·refine SR.then (qD _) λG m z F q _ g=>?_;obtain⟨rfl,rfl⟩:=g;exact SR.then (wB e ((Gh Td _).rel _)) λ_ _ _ _ _ _ d=>.pure (.slice _ _ d)
  ·refine SR.then (GV r e) λZ R y j p _ hy=>?_;obtain⟨rfl,A⟩:=hy;refine SR.then (qD _) λG m z F q _ g=>?_;obtain⟨rfl,rfl⟩:=g;exact SR.then (wB e ((Gh (Gg A) _).rel _)) λ_ _ _ _ _ _ d=>.pure (.slice _ _ d)
def Ue{v v'}(h:VR ρ v v'):SR P VR ρ K (Ni v) (Ni v'):=by
 unfold Ni;cases h with
 |fH l c=>exact .pure (.string _)
 |@slice a o l c f=>
  refine SR.then (Mo f l) λq L x m _ _ i=>?_;simp only[<-Vv];have d:=i.list;revert d;generalize x.toList=y;generalize m.toList=p;intro d;refine SR.then (Q:=dG) ?_ λ_ _ b e _ _ g=>by(obtain rfl:e=b:=g;exact .pure (.string _))
  unfold qY at d;generalize ByteArray.empty=acc;induction d generalizing acc with
  |nil=>exact .pure rfl
  |cons hv _ j=>
   simp;cases hv with
   |int k n=>
    cases k
    case u8=>exact j _
    all_goals exact .lost aC
   |_=>exact .lost aC
 |_=>exact .lost aC
def adQ{s d e:aQ}(p:P.underlying s=aa (.slice e))(m:P.underlying d=aa .string)(he:P.underlying e=aa (.int .u8)){v v'}(h:VR ρ v v')(hv:∀b,v≠.string b)(o:∀k n,v≠.int k n):SR P VR ρ K (convert s d v) (convert s d v'):=by
 unfold convert;refine SR.then (bG p) λ_ _ x t i _ q=>?_;obtain⟨rfl,rfl⟩:=q;refine SR.then (bG m) λ_ _ y u g2 _ r=>?_;obtain⟨rfl,rfl⟩:=r;cases h with
 |string b=>exact absurd rfl (hv b)
 |int k n=>exact absurd rfl (o k n)
 |fH l c=>
  refine SR.then (bG he) λ_ _ z g f _ a=>?_;obtain⟨rfl,rfl⟩:=a;exact Ue (.fH l c)
 |slice l c j=>
  refine SR.then (bG he) λ_ _ z g f _ a=>?_;obtain⟨rfl,rfl⟩:=a;exact Ue (.slice l c (j.mono (Ren.le_trans (Ren.le_trans i g2) f)))
 |_=>
  refine SR.then (bG he) λ_ _ z g f _ a=>?_;obtain⟨rfl,rfl⟩:=a;exact .lost aC
end
end
section
variable [aP]
section
variable {P:aY} {ρ:Ren} {K:Kn}
def CN{k:aQ}{κ}(a:P.underlying k=aa (.int κ))(b b' v v'):SR P dG ρ K (Ns b 10000 k v) (Ns b' 10000 k v'):=by rw[show(10000:Nat)=9999+1 from rfl];unfold Ns;refine SR.then (bG a) λ_ _ x d _ _ c=>?_;obtain⟨rfl,rfl⟩:=c;exact .pure rfl
def xl(ρ:Ren)(x b:aB IA):Prop:=dh (λe a=>VR ρ e.key a.key/\VR ρ e.val a.val/\a.born=e.born) x b
def mE.list{x a}(h:mE ρ x a):xl ρ x.toList a.toList:=by
 obtain⟨b,c⟩:=h;rcases x with⟨x⟩;rcases a with⟨a⟩;simp at b;simp at c;unfold xl;dsimp only;induction x generalizing a with
 |nil=>
  obtain rfl:a=[]:=Ip b;exact .nil
 |cons v x d=>
  cases a with
  |nil=>simp at b
  |cons f a=>
   refine .cons (c 0 v f rfl rfl) (d a (by grind) λi u e g j=>c (i+1) u e (by grind) (by grind))
inductive Found(ρ:Ren):aZ (Nat×aD)->aZ (Nat×aD)->Prop
 |none:Found ρ ay ay
 |some (i:Nat) {v a:aD} (h:VR ρ v a):Found ρ (aa (i,v)) (aa (i,a))
def Found.mono{σ}(g:ρ.le σ){x x'}(h:Found ρ x x'):Found σ x x':=by
 cases h with
 |none=>exact .none
 |some i h=>exact .some i (h.mono g)
def mE.push{x x'}(h:mE ρ x x'){e e'}(he:VR ρ e.key e'.key/\VR ρ e.val e'.val/\e'.born=e.born):mE ρ (x.push e) (x'.push e'):=by
 refine⟨by simp[h.1],λi u d b a=>?_⟩;rw[fJ]at b a;rw[h.1]at a;split at b
 ·rename_i c;rw[aW c]at a;cases b;cases a;exact he
 ·rename_i c;rw[aK c]at a;exact h.2 i u d b a
def mE.modify{x g}(h:mE ρ x g){k k' v j}(n:VR ρ k k')(hv:VR ρ v j)(i):mE ρ (x.modify i λe=>{e with key:=k,val:=v}) (g.modify i λe=>{e with key:=k',val:=j}):=by
 refine⟨by simp[h.1],λl u o b a=>?_⟩;rw[lO]at b a;split at b
 ·rename_i c;rw[aW c]at a;cases d:x[l]? with
  |none=>rw[d]at b;cases b
  |some e=>
   cases f:g[l]? with
   |none=>rw[f]at a;cases a
   |some m=>
    rw[d]at b;rw[f]at a;cases b;cases a;exact⟨n,hv,(h.2 l e m d f).2.2⟩
 ·rename_i c;rw[aK c]at a;exact h.2 l u o b a
def aar{x x'}(h:mE ρ x x')(i:Nat){k k'}(d:VR ρ k k'):VR ρ (((x[i]?).map (·.key)).getD k) (((x'[i]?).map (·.key)).getD k'):=by
 cases a:x[i]? with
 |none=>
  have:x'[i]? =ay:=by rw[wH]at a⊢;rw[h.1];exact a
  rw[this];exact d
 |some e=>
  cases b:x'[i]? with
  |none=>
   rw[wH,h.1,<-wH,a]at b;cases b
  |some c=>exact(h.2 i e c a b).1
end
end
section
variable [aP]
inductive TR(ρ:Ren):Target->Target->Prop
 |fn {f f':Fn} {x b:aJ aD} (h:FR ρ f f') (c:bK ρ x b):TR ρ (.fn f x) (.fn f' b)
 |nil:TR ρ .nil .nil
 |collected {r a:Nat} (h:ρ r a):TR ρ (.collected r) (.collected a)
def DR(ρ:Ren)(d d':Deferred):Prop:=TR ρ d.target d'.target/\bK ρ d.args d'.args
def TR.mono{ρ σ}(g:ρ.le σ){t t'}(h:TR ρ t t'):TR σ t t':=by
 cases h with
 |fn h a=>exact .fn (h.mono g) (a.mono g)
 |nil=>exact .nil
 |collected h=>exact .collected (g _ _ h)
def DR.mono{ρ σ}(g:ρ.le σ){d d'}(h:DR ρ d d'):DR σ d d':=⟨h.1.mono g,h.2.mono g⟩
def CR(ρ:Ren)(c a:Hv):Prop:=VR ρ c.chan a.chan/\c.send=ay/\a.send=ay/\VR ρ c.zero a.zero
inductive NR(ρ:Ren):Next->Next->Prop
 |value {v i:aD} (h:VR ρ v i):NR ρ (.value v) (.value i)
 |skip:NR ρ .skip .skip
 |enter (f:bC) {x e:aJ aD} (hf:aP.ok f) (h:bK ρ x e):NR ρ (.enter f x) (.enter f e)
 |round {l l':Nat} (f:bC) {x e:aJ aD} (a b:gN) (h0:aP.known f/\aP.code a/\aP.code b) (j:ρ l l') (h:bK ρ x e):NR ρ (.round l f x a b) (.round l' f e a b)
 |defer {d d':Deferred} (h:DR ρ d d'):NR ρ (.defer d) (.defer d')
 |recover:NR ρ .recover .recover
 |comm {c g:Hv} (h:CR ρ c g):NR ρ (.comm #[c] av .select) (.comm #[g] av .select)
section
variable {P:aY} {ρ:Ren} {K:Kn}
def dV{s s'}(h:SR P VR ρ K s s'):SR P NR ρ K (do pure (.value (<-s))) (do pure (.value (<-s'))):=SR.then h λ_ _ _ _ _ _ hv=>.pure (.value hv)
def Uy{s s'}(h:SR P dG ρ K s s'):SR P NR ρ K (do s;pure .skip) (do s';pure .skip):=SR.then h λ_ _ _ _ _ _ _=>.pure .skip
def Ur{f f'}(h:VR ρ f f'){x x'}(a:bK ρ x x'):SR P DR ρ K (wM f x) (wM f' x'):=by
 cases h with
 |func g b c d e=>exact .pure ⟨.fn g ⟨d,e⟩,bK.append ⟨b,c⟩ a⟩
 |nilFunc=>exact .pure ⟨.nil,a⟩
 |_=>exact ju _ _
def Uf{f fn}(h0:aP.ok f)(hf:P.funcs[f]? =aa fn)(c:(fn.name== "runtime.NumGoroutine")=av)(d:fn.body.isNone=av){x x'}(e:bK ρ x x'):SR P NR ρ K (callFunc f x) (callFunc f x'):=by unfold callFunc;refine SR.then gU λi L a b g _ h=>?_;rw[h.1,h.2,hf];dsimp only;rw[c,d];exact .pure (.enter f h0 (e.mono g))
def Uk{l l'}(h:ρ l l'):SR P (λn r m=>OR n (.loop r) (.loop m)) ρ K (tI l) (tI l'):=by
 unfold tI;refine .getObj h (λo k a=>?_) ⟨_,rfl,aC⟩;refine SR.then (.pure a) λp M o k g2 _ a=>?_;cases a with
 |loop h0 b c d e f g i j=>exact .pure (.loop h0 b c d e f g i j)
 |_=>exact .lost aC
def bK.acR{y y'}(h:qY ρ y y'):∀(ps:aB Nat) {x b:aJ aD},bK ρ x b->bK ρ ((ps.zip y).foldl (λt (p:Nat×aD)=>t.setIfInBounds p.1 p.2) x) ((ps.zip y').foldl (λt (p:Nat×aD)=>t.setIfInBounds p.1 p.2) b):=by
 unfold qY at h;induction h with
 |nil=>intro ps x b a;cases ps<;>exact a
 |cons hv _ c=>
  intro ps x b a;cases ps with
  |nil=>exact a
  |cons p ps=>exact c ps (a.set hv p)
def afh{l l'}(h:ρ l l'){x x'}(a:bK ρ x x'):SR P NR ρ K (AH l x) (AH l' x'):=by
 unfold AH;refine SR.then (Uk h) λn L r m g _ hr=>?_;cases hr with
 |loop h0 i j b c d e f k=>
  rw[a.1,d,b,e,f];split
  ·exact .lost aC
  ·refine .pure (.round _ _ _ ⟨h0.1,h0.2.1,h0.2.2.1⟩ (g _ _ h) ?_);have:=bK.acR (a.mono g).list r.params.toList c;rw[<-VA,<-VA,Df,Df]at this;exact this
def adz{l l'}(h:ρ l l'):SR P dG ρ K (AF l) (AF l'):=by
 unfold AF tI;refine .getObj h (λo k j=>?_) ⟨_,rfl,aC⟩;cases j with
 |@loop r m h0 a b c d e f g i=>
  refine .setObj h (aE rfl) (.loop h0 rfl b c d e f g i) ?_;rw[a];cases r.state with
  |ready=>exact .pure rfl
  |_=>exact CO _
 |_=>exact .lost aC
def adV{l l'}(h:ρ l l')(j:aZ gN)(i:∀c,j=aa c->aP.code c):SR P VR ρ K (tH l j) (tH l' j):=by
 unfold tH tI;refine .getObj h (λo p k=>?_) ⟨_,rfl,aC⟩;cases k with
 |@loop r q h0 m n a b d e f g=>exact .setObj h (aE rfl) (.loop ⟨h0.1,h0.2.1,h0.2.2.1,i⟩ rfl rfl a b d e f g) (.pure (.bool _))
 |_=>exact .lost aC
def Mm{l l'}(h:ρ l l'):SR P (λ_ y n=>n=y/\∀c,y=aa c->aP.code c) ρ K (yH l) (yH l'):=by
 unfold yH tI;refine .getObj h (λo p k=>?_) ⟨_,rfl,aC⟩;cases k with
 |@loop r m h0 b a d e f g i j=>
  show SR P _ ρ (K.and l) (if(r.state==.busy)=aq then _ else _) (if(m.state==.busy)=aq then _ else _);rw[b];split
  ·exact uE _ _ _
  ·refine .setObj h (aE rfl) (.loop h0 rfl a d e f g i j) (.pure ?_);exact⟨a,h0.2.2.2⟩
 |_=>exact .lost aC
inductive xu(ρ:Ren):aZ Nat->aZ Nat->Prop
 |none:xu ρ ay ay
 |some {l l':Nat} (h:ρ l l'):xu ρ (aa l) (aa l')
def adW{fn}(d:aP.known fn){x x'}(h:bK ρ x x')(ps){a b}(e:aP.code a)(f:aP.code b){r r'}(hr:xu ρ r r'):SR P (λc y i=>c y.1 i.1/\dh (DR c) y.2 i.2) ρ K (yI fn x ps a b r) (yI fn x' ps a b r'):=by
 unfold yI;cases hr with
 |none=>
  refine .new .sV λn s=>?_;refine .new (.loop ⟨d,e,f,aC⟩ rfl rfl rfl (h.mono (Ren.KP _ _ _)) rfl rfl rfl (aE ⟨rfl,rfl⟩)) λm p=>?_;refine .pure ⟨aE ⟨rfl,rfl⟩,.cons ⟨.collected (aF (aE ⟨rfl,rfl⟩)),bK.nil⟩ .nil⟩
 |@some l q k=>
  refine SR.then (Uk k) λc L z t g _ o=>?_;cases o with
  |loop _ _ _ _ _ _ _ _ j=>
   refine .new (.loop ⟨d,e,f,aC⟩ rfl rfl rfl (h.mono g) rfl rfl rfl j) λm p=>?_;exact .pure ⟨aE ⟨rfl,rfl⟩,.nil⟩
def afa{l l'}(h:ρ l l'):SR P (λ_ y b=>y=[]/\b=[]) ρ K (Dz l) (Dz l'):=by
 unfold Dz;refine .getObj h (λo c a=>?_) ⟨_,rfl,aC⟩;cases a with
 |sV=>exact .setObj h (aE rfl) .vO (.pure ⟨rfl,rfl⟩)
 |_=>exact .lost aC
end
end
section
variable [aP]
section
variable {P:aY} {ρ:Ren} {K:Kn}
def Mu{a a'}(h:AR ρ a a'):SR P dG ρ K (vh a) (vh a'):=by
 unfold vh;refine SR.view h.1 ?_ λ_ _ _ _=>?_
 ·exact .pure rfl
 ·exact .lost trivial
def tC{a a'}(h:AR ρ a a'):SR P (λe x c=>AR e x.1 c.1/\c.2=x.2) ρ K (pY a) (pY a'):=by unfold pY;exact .number h.1 (.pure ⟨h,rfl⟩) λb f l d=>.pure ⟨d,rfl⟩
def CL{a a'}(h:AR ρ a a'):SR P dG ρ K (byteOf a) (byteOf a'):=by
 unfold byteOf;rw[h.2.2];cases a.spot with
 |some s=>exact .pure rfl
 |none=>
  refine SR.then gU λj L p i g _ d=>?_;rw[d.1,d.2];refine SR.then (Mu (h.mono g)) λf M _ _ g2 _ _=>?_;have c:=(h.mono g).mono g2;refine .shape c.1 (λx=>?_) (λ_=>.lost aC) λ_=>⟨_,rfl,aC⟩;obtain⟨e,n⟩:=x;show SR P dG f _ (if P.cellsOf e=0 then _ else _) (if P.cellsOf e=0 then _ else _);rw[c.2.1];split
  ·exact .pure rfl
  ·cases byteOfCell P P.depth e (a.off %P.cellsOf e)with
   |none=>exact .lost aC
   |some b=>exact .pure rfl
def Ux{a a' b b'}(h:AR ρ a a')(k:AR ρ b b'):SR P dG ρ K (NX a b) (NX a' b'):=by
 refine .assume λf=>?_;unfold NX
 by_cases d:a.block=b.block
 ·have j:=f.1.1 _ _ _ h.1 (d▸k.1);have e:(a.block !=b.block)=av:=by simp[d]
  have c:(a'.block !=b'.block)=av:=by simp[j]
  rw[e,c];simp only[MZ];refine SR.then gU λt L p s g _ i=>?_;rw[i.1,i.2]
  by_cases l:a.block<P.globals.size
  ·have r:=f.2.1 _ _ h.1 l;have e:decide (a.block≥P.globals.size)=av:=by grind
   have c:decide (a'.block≥P.globals.size)=av:=by grind
   rw[e,c];refine SR.then (CL (h.mono g)) λu M x o g2 _ m=>?_;obtain rfl:o=x:=m;refine SR.then (CL ((k.mono g).mono g2)) λ_ _ y q _ _ n=>?_;obtain rfl:q=y:=n;exact .pure rfl
  ·have e:decide (a.block≥P.globals.size)=aq:=cq;rw[e];exact .lost aC
 ·have e:(a.block !=b.block)=aq:=by simp[d]
  rw[e];simp;refine .vP λw=>⟨_,_,rfl,aC⟩
def adu(k:nO){a a' b b'}(h:AR ρ a a')(c:AR ρ b b'):SR P VR ρ K (IG k a b) (IG k a' b'):=by refine SR.then (Ux h c) λ_ _ x e _ _ d=>?_;obtain rfl:e=x:=d;exact .pure (.int _ _)
def ads(op:kY){a a' b b'}(h:AR ρ a a')(c:AR ρ b b'):SR P VR ρ K (IF op a b) (IF op a' b'):=by refine SR.then (Ux h c) λ_ _ x e _ _ d=>?_;obtain rfl:e=x:=d;cases op<;>first|exact .pure (.bool _)|exact .lost aC
def adt(k:nO){a a'}(h:AR ρ a a')(n):SR P VR ρ K (DX k a n) (DX k a' n):=by
 unfold DX;refine .shape h.1 (λx=>?_) (λ_=>.lost aC) λ_=>⟨_,rfl,aC⟩;obtain⟨e,c⟩:=x;refine SR.then (qD (aa (e,c))) λo l y d g0 _ b=>?_;obtain⟨rfl,rfl⟩:=b;refine SR.then (kX e) λm L i j f _ g=>?_;obtain rfl:j=i:=g.1;dsimp only;split
 ·exact .lost aC
 ·refine SR.then (CL (h.mono (Ren.le_trans g0 f))) λ_ _ y d _ _ b=>?_;obtain rfl:d=y:=b;exact .pure (.int _ _)
def afc{a a'}(h:AR ρ a a')(t){y f}(hy:VR ρ y f):SR P (λk v o=>∃b i,v=.pointer (aa b)/\o=.pointer (aa i)/\AR k b i) ρ K (Ht #[] t #[.pointer (aa a),y]) (Ht #[] t #[.pointer (aa a'),f]):=by
 unfold Ht;dsimp only;refine SR.then (yh hy) λk L n m g _ l=>?_;obtain rfl:m=n:=l;have d:=h.mono g;split
 ·refine SR.view d.1 ?_ λ_ _ _ _=>?_
  ·exact .pure ⟨_,_,rfl,rfl,d⟩
  ·exact .lost trivial
 ·split
  ·exact .lost aC
  ·refine .shape d.1 (λx=>?_) (λ_=>.lost aC) λ_=>⟨_,rfl,aC⟩;obtain⟨e,c⟩:=x;refine SR.then (qD (aa (e,c))) λs q y f g0 _ hy=>?_;obtain⟨rfl,rfl⟩:=hy;refine SR.then gU λu M p r g2 _ j=>?_;rw[j.1,j.2,d.2.1];split
   ·exact .pure ⟨_,_,rfl,rfl,⟨g2 _ _ (g0 _ _ d.1),rfl,d.2.2⟩⟩
   ·exact .lost aC
def ady{a a'}(h:AR ρ a a')(l):SR P VR ρ K (asNumber a l) (asNumber a' l):=by unfold asNumber;exact .new (.number l h) λn b=>.pure (.ptr ⟨aE ⟨rfl,rfl⟩,rfl,rfl⟩)
def Told(d:jC):Prop:=d=.string\/(∃a,d=.int a)\/∃m,d=.interface m
def Ms{a a'}(h:AR ρ a a'){t:aQ}{d:jC}(o:P.underlying t=aa d)(j:Told d){y y'}(hy:VR ρ y y'):SR P VR ρ K (movedNumber t (.pointer (aa a)) y) (movedNumber t (.pointer (aa a')) y'):=by unfold movedNumber;refine SR.then (bG o) λz L q w g _ k=>?_;rw[k.1,k.2];rw[aK (by rcases j with rfl|⟨p,rfl⟩|⟨m,rfl⟩<;>simp),aK (by rcases j with rfl|⟨p,rfl⟩|⟨m,rfl⟩<;>simp)];refine SR.then (tC (h.mono g)) λA M b i g2 _ f=>?_;obtain⟨b,l⟩:=b;obtain⟨i,u⟩:=i;obtain⟨f,e⟩:=f;dsimp only at f e;subst e;refine SR.then (afc f t ((hy.mono g).mono g2)) λB N v x s _ hv=>?_;obtain⟨c,r,rfl,rfl,n⟩:=hv;exact ady n _
def Uj{t:aQ}{κ}{i:jD}(V:P.underlying t=aa (.int κ))(T:P.info? t=aa i)(U:∀u,i.desc≠.named "sync.copyChecker" u){x z y A}(D:VR ρ x z)(hy:VR ρ y A):SR P dG ρ K (eN t x y) (eN t z A):=by
 unfold eN tO;rw[show(10000:Nat)=9999+1 from rfl];unfold yT;refine SR.then (bG V) λσ L d d' g _ S=>?_;obtain⟨rfl,rfl⟩:=S;have v:=hy.mono g;cases (D.mono g)with
 |int j n=>
  cases v with
  |int X m=>
   dsimp only;split
   ·exact .pure rfl
   ·exact .lost aC
  |ptr h=>
   match n with
   |.ofNat 0=>exact .pure rfl
   |.ofNat (m+1)=>exact .lost aC
   |.negSucc m=>exact .lost aC
  |_=>exact .lost aC
 |@ptr a Z Q=>
  cases v with
  |int X n=>
   match n with
   |.ofNat 0=>exact .pure rfl
   |.ofNat (m+1)=>exact .lost aC
   |.negSucc m=>exact .lost aC
  |@ptr b b' R=>
   refine SR.then (tC Q) λY M c B g2 _ k=>?_;obtain⟨c,l⟩:=c;obtain⟨B,l'⟩:=B;obtain⟨k,e⟩:=k;dsimp only at k e;refine SR.then (tC (R.mono g2)) λυ N f C I _ s=>?_;obtain⟨f,q⟩:=f;obtain⟨C,q'⟩:=C;obtain⟨s,H⟩:=s;dsimp only at s H;have k:=k.mono I;dsimp only;refine SR.then gU λφ O p p' r _ G=>?_;rw[G.1,G.2];refine .assume λF=>?_
   by_cases o:c.block=f.block/\c.block<P.globals.size
   ·have E:B.block=C.block:=F.1.1 _ _ _ (r _ _ k.1) (o.1▸r _ _ s.1);rw[aW (by simp[o.1];rw[<-o.1];exact o.2),aW (by simp[E];rw[<-E];exact(F.2.1 _ _ (r _ _ k.1) o.2))];refine SR.then (CL (k.mono r)) λY M x z J _ D=>?_;obtain rfl:z=x:=D;refine SR.then (CL ((s.mono r).mono J)) λ_ _ y A _ _ hy=>?_;obtain rfl:A=y:=hy;exact .pure rfl
   ·rw[aK (by simpa using o)];refine .vP λw=>?_
    have e:(Ek t).run P w=.ok i w:=by unfold Ek;rw[wU];show(match P.info? t with|some i=>(pure i:Sem jD)|none=>_).run P w=_;rw[T];rfl
    rw[wU,e];dsimp only[Oa];split
    ·rename_i u W;exact absurd W (U u)
    ·exact⟨_,_,rfl,aC⟩
  |_=>exact .lost aC
 |gT=>cases v<;>exact .lost aC
 |_=>cases v<;>exact .lost aC
def Mr{t:aQ}{d:jC}(e:P.underlying t=aa d)(a:Told d){y y'}(hy:VR ρ y y'):SR P VR ρ K (movedNumber t (.pointer ay) y) (movedNumber t (.pointer ay) y'):=by
 unfold movedNumber;refine SR.then (bG e) λi L q j g _ b=>?_;rw[b.1,b.2];rw[aK (by rcases a with rfl|⟨h,rfl⟩|⟨m,rfl⟩<;>simp),aK (by rcases a with rfl|⟨h,rfl⟩|⟨m,rfl⟩<;>simp)];dsimp only;unfold Ht;dsimp only;refine SR.then (yh (hy.mono g)) λi L n f g _ c=>?_;obtain rfl:f=n:=c;split
 ·exact .lost aC
 ·split
  ·exact .lost aC
  ·exact .lost aC
def Uq{x x' y y'}{t:aQ}{d:jC}(e:P.underlying t=aa d)(b:Told d)(h:∀a L,ρ.le a->SR P VR a L (movedNumber t x y) (movedNumber t x' y')):SR P VR ρ K (do if(<-underlying t) matches .unsafePointer then movedPointer t x y else movedNumber t x y) (do if(<-underlying t) matches .unsafePointer then movedPointer t x' y' else movedNumber t x' y'):=by refine SR.then (bG e) λa L q i g _ c=>?_;rw[c.1,c.2];rw[aK (by rcases b with rfl|⟨f,rfl⟩|⟨m,rfl⟩<;>simp),aK (by rcases b with rfl|⟨f,rfl⟩|⟨m,rfl⟩<;>simp)];exact h a L g
def Up(k:nO){a a'}(h:AR ρ a a')(n):SR P VR ρ K (do DX k (<-pY a).1 n) (do DX k (<-pY a').1 n):=
 SR.then (tC h) λ_ _ _ _ _ _ b=>adt _ b.1 _
def adO(op:kY){a a' b b'}(h:AR ρ a a')(k:AR ρ b b'):SR P VR ρ K (do IF op (<-pY a).1 (<-pY b).1) (do IF op (<-pY a').1 (<-pY b').1):=
 SR.then (tC h) λ_ _ _ _ g _ c=>SR.then (tC (k.mono g)) λ_ _ _ _ g2 _ d=>ads op (c.1.mono g2) d.1
def aeZ{a a' b b'}(h:AR ρ a a')(k:AR ρ b b'):SR P VR ρ K (do IG .u64 (<-pY a).1 (<-pY b).1) (do IG .u64 (<-pY a').1 (<-pY b').1):=
 SR.then (tC h) λ_ _ _ _ g _ c=>SR.then (tC (k.mono g)) λ_ _ _ _ g2 _ d=>adu _ (c.1.mono g2) d.1
def Mj(op:kY){t:aQ}{d:jC}(c:P.underlying t=aa d)(a:Told d){x x' y y'}(eq:SR P dG ρ K (eN t x y) (eN t x' y'))(l:VR ρ x x')(hy:VR ρ y y'):SR P VR ρ K (fD op t x y) (fD op t x' y'):=by
 have pos:SR P VR ρ K (do pure (.bool (<-eN t x y))) (do pure (.bool (<-eN t x' y'))):=SR.then eq λ_ _ b e _ _ f=>by(obtain rfl:e=b:=f;exact .pure (.bool _))
 have neg:SR P VR ρ K (do pure (.bool (!(<-eN t x y)))) (do pure (.bool (!(<-eN t x' y')))):=SR.then eq λ_ _ b e _ _ f=>by(obtain rfl:e=b:=f;exact .pure (.bool _))
 cases l with
 |int j n=>
  cases hy with
  |int i m=>exact Mk op t j i n m
  |ptr h=>cases op<;>simp only[fD]<;>first|exact pos|exact neg|exact .lost aC|exact Ms h c a (.int _ _)|exact Up _ h _
  |gT=>cases op<;>simp only[fD]<;>first|exact pos|exact neg|exact .lost aC|exact Mr c a (.int _ _)
  |_=>cases op<;>simp only[fD]<;>first|exact pos|exact neg|exact .lost aC
 |string s=>
  cases hy with
  |string o=>exact Ml op t s o
  |_=>cases op<;>simp only[fD]<;>first|exact pos|exact neg|exact .lost aC
 |ptr h=>
  cases hy with
  |int i m=>cases op<;>simp only[fD]<;>first|exact pos|exact neg|exact .lost aC|exact Uq c a λ_ _ g=>Ms (h.mono g) c a (.int _ _)|exact Ms h c a (.int _ _)|exact Up _ h _
  |ptr k=>cases op<;>simp only[fD]<;>first|exact pos|exact neg|exact .lost aC|exact adO _ h k|exact aeZ h k
  |_=>cases op<;>simp only[fD]<;>first|exact pos|exact neg|exact .lost aC
 |gT=>
  cases hy with
  |int i m=>cases op<;>simp only[fD]<;>first|exact pos|exact neg|exact .lost aC|exact Uq c a λ_ _ g=>Mr c a (.int _ _)|exact Mr c a (.int _ _)
  |_=>cases op<;>simp only[fD]<;>first|exact pos|exact neg|exact .lost aC
 |_=>cases hy<;>cases op<;>simp only[fD]<;>first|exact pos|exact neg|exact .lost aC
def adA(op:kY){t:aQ}{κ}{i:jD}(a:P.underlying t=aa (.int κ))(c:P.info? t=aa i)(d:∀u,i.desc≠.named "sync.copyChecker" u){x x' y y'}(b:VR ρ x x')(hy:VR ρ y y'):SR P VR ρ K (fD op t x y) (fD op t x' y'):=
 Mj op a (aE (aF ⟨κ,rfl⟩)) (Uj a c d b hy) b hy
def aee{t:aQ}(b:P.underlying t=aa .string){x x' y y'}(c:VR ρ x x')(hy:VR ρ y y'):SR P dG ρ K (eN t x y) (eN t x' y'):=by
 unfold eN tO;rw[show(10000:Nat)=9999+1 from rfl];unfold yT;refine SR.then (bG b) λf L d e g _ a=>?_;obtain⟨rfl,rfl⟩:=a;cases c with
 |string s=>cases hy<;>first|exact .pure rfl|exact .lost aC
 |_=>cases hy<;>exact .lost aC
def adD(op:kY){t:aQ}(a:P.underlying t=aa .string){x x' y y'}(b:VR ρ x x')(hy:VR ρ y y'):SR P VR ρ K (fD op t x y) (fD op t x' y'):=
 Mj op a (aF rfl) (aee a b hy) b hy
def aea{t:aQ}{m}(b:P.underlying t=aa (.interface m)){x x'}(c:VR ρ x x'):SR P dG ρ K (eN t x .nilIface) (eN t x' .nilIface):=by unfold eN tO;rw[show(10000:Nat)=9999+1 from rfl];unfold yT;refine SR.then (bG b) λf L d e g _ a=>?_;obtain⟨rfl,rfl⟩:=a;cases c<;>first|exact .pure rfl|exact .lost aC
def adB(op:kY){t:aQ}{m}(a:P.underlying t=aa (.interface m)){x x'}(b:VR ρ x x'):SR P VR ρ K (fD op t x .nilIface) (fD op t x' .nilIface):=
 Mj op a (aE (aE ⟨m,rfl⟩)) (aea a b) b .nilIface
end
end
section
variable [aP]
section
variable {P:aY} {ρ:Ren} {K:Kn}
def Vd{v v'}(h:VR ρ v v')(b):VR ρ (.tuple #[v,.bool b]) (.tuple #[v',.bool b]):=by
 refine .tuple rfl λi u d a c=>?_
 match i,a,c with
 |0,a,c=>cases a;cases c;exact h
 |1,a,c=>cases a;cases c;exact .bool _
 |i+2,a,_=>simp at a
def afb(j:nj P){v v'}(h:VR ρ v v'){e t:aQ}{d:jC}(l:P.underlying t=aa d)(c:∀m,d≠.interface m):SR P VR ρ K (DC v e t aq) (DC v' e t aq):=by
 unfold DC;refine SR.then (bG l) λf L a b g _ k=>?_;obtain⟨rfl,rfl⟩:=k;have zero:∀(i:Ren) (M:Kn),SR P VR i M (do pure (.tuple #[<-zeroValue t,.bool av])) (do pure (.tuple #[<-zeroValue t,.bool av])):=λi M=>SR.then (ym j t) λ_ _ _ _ _ _ o=>.pure (Vd o _);cases (h.mono g)with
 |nilIface=>
  cases b
  case interface m=>exact absurd rfl (c m)
  all_goals exact zero f L
 |@iface x p u n=>
  cases b
  case interface m=>exact absurd rfl (c m)
  all_goals
   dsimp only;split
   ·exact .pure (Vd n _)
   ·exact zero f L
 |_=>
  cases b
  case interface m=>exact absurd rfl (c m)
  all_goals exact .lost aC
def aeu(n):∀{ρ:Ren} {K:Kn} {a a':bZ} (_:AR ρ a a') (acc:ByteArray),SR P dG ρ K (kq a acc n) (kq a' acc n):=by
 induction n with
 |zero=>exact λ_ _=>.pure rfl
 |succ n b=>
  intro ρ K a a' h acc;unfold kq;refine SR.then (Mn h .plain) λd L v c g _ hv=>?_;cases hv with
  |int k m=>
   cases k
   case u8=>exact b ((h.mono g).add 1) _
   all_goals exact .lost aC
  |_=>exact .lost aC
def Ui(t):SR P dG ρ K (Bm t) (Bm t):=by unfold Bm;refine SR.then (CQ t) λd L a b _ _ c=>?_;obtain rfl:b=a:=c.1;cases b<;>first|exact .pure rfl|exact .lost aC
def aeJ{x x'}(h:VR ρ x x'){η jP o}(e:η o=x)(m:jP o=x'){op}(r:op.op=.nilCheck o):SR P NR ρ K (execOp η op) (execOp jP op):=by
 unfold execOp;simp only[r,e,m];cases h with
 |gT=>exact Ac
 |nilIface=>exact Ac
 |nilFunc=>exact Ac
 |@func f y a v b w p d g i j=>
  cases p with
  |func _ u=>exact .pure (.value (.func (.func _ u) d g i j))
  |yield q=>exact .pure (.value (.func (.yield q) d g i j))
 |bool b=>exact .pure (.value (.bool b))
 |int k n=>exact .pure (.value (.int k n))
 |string s=>exact .pure (.value (.string s))
 |ptr h=>exact .pure (.value (.ptr h))
 |fH l c=>exact .pure (.value (.fH l c))
 |slice l c h=>exact .pure (.value (.slice l c h))
 |mN=>exact .pure (.value .mN)
 |map h=>exact .pure (.value (.map h))
 |oh=>exact .pure (.value .oh)
 |chan h=>exact .pure (.value (.chan h))
 |iface t h=>exact .pure (.value (.iface t h))
 |agg a b=>exact .pure (.value (.agg a b))
 |tuple a b=>exact .pure (.value (.tuple a b))
end
end
section
variable [aP]
section
variable {P:aY} {ρ:Ren} {K:Kn}
def aeL{x x'}(h:VR ρ x x'):SR P VR ρ K (Ba .not x) (Ba .not x'):=by cases h<;>simp only[Ba]<;>first|exact .pure (.bool _)|exact .lost aC
def Mq{x x' y y'}(h:VR ρ x x')(k:VR ρ y y'):SR P VR ρ K (Az x y) (Az x' y'):=by
 cases h with
 |int j n=>cases k<;>simp only[Az]<;>first|exact .pure (.int _ _)|exact .lost aC
 |string s=>
  cases k with
  |string i=>
   simp only[Az];refine SR.then (Uv .leq s i) λl L a b g _ e=>?_;refine SR.then (TZ e) λm M c d g2 _ f=>?_;obtain rfl:d=c:=f;exact .pure (.string _)
  |_=>simp only[Az];exact .lost aC
 |_=>cases k<;>simp only[Az]<;>exact .lost aC
def aeH{x x' y y'}(h:VR ρ x x')(k:VR ρ y y')(ts t):SR P VR ρ K (Hs ts t #[x,y]) (Hs ts t #[x',y']):=by exact SR.then (Mq h k) λ_ _ _ _ _ _ hv=>.pure hv
def adS{s d:aQ}{j k}(e:P.underlying s=aa (.int j))(c:P.underlying d=aa (.int k)){x x'}(h:VR ρ x x'):SR P VR ρ K (convert s d x) (convert s d x'):=by unfold convert;refine SR.then (bG e) λ_ _ a b _ _ f=>?_;obtain⟨rfl,rfl⟩:=f;refine SR.then (bG c) λ_ _ a b _ _ g=>?_;obtain⟨rfl,rfl⟩:=g;cases h<;>first|exact .pure (.int _ _)|exact .lost aC
def aeP{c c' a a' b b'}(hc:VR ρ c c')(d:VR ρ a a')(e:VR ρ b b'):SR P NR ρ K (do pure (.value (if <-asBool c then a else b))) (do pure (.value (if <-asBool c' then a' else b'))):=by
 refine SR.then (TZ hc) λi L x h g _ f=>?_;obtain rfl:h=x:=f;split
 ·exact .pure (.value (d.mono g))
 ·exact .pure (.value (e.mono g))
def afe{x x' y y'}(h:VR ρ x x')(k:VR ρ y y')(pt t2 ty):SR P VR ρ K (Ng #[pt,t2] ty #[x,y]) (Ng #[pt,t2] ty #[x',y']):=by
 unfold Ng;cases h with
 |gT=>
  dsimp only;refine SR.then (yh k) λv L n b g _ i=>?_;obtain rfl:b=n:=i;simp;split
  ·exact uE _ _ _
  ·split
   ·exact .lost aC
   ·split
    ·exact .pure (.string _)
    ·exact CO _
 |@ptr a j m=>
  dsimp only;refine SR.then (yh k) λv L n b g _ i=>?_;obtain rfl:b=n:=i;simp;split
  ·exact uE _ _ _
  ·split
   ·exact .lost aC
   ·split
    ·exact .pure (.string _)
    ·refine SR.then (Ui pt) λw M e f g2 _ o=>?_;obtain rfl:f=e:=o;have d:=(m.mono g).mono g2;unfold By;refine .program (.shape d.1 (λz=>?_) (λ_=>.lost aC) λ_=>⟨_,rfl,aC⟩);obtain⟨u,c⟩:=z;have r:(M.and a.block) a.block:=aE rfl;show SR P VR w _ (if liesAt P P.depth u (c / P.cellsOf u) a.off f b.toNat=aq then _ else _) (if liesAt P P.depth u (c / P.cellsOf u) j.off f b.toNat=aq then _ else _);rw[d.2.1];split
     ·refine SR.then (aeu _ d _) λA N s t l q p=>?_;obtain rfl:t=s:=p;exact .freeze (d.mono l) (q _ r) (.pure (.string _))
     ·exact .lost aC
 |_=>exact .lost aC
end
end
section
variable [aP]
section
variable {P:aY} {ρ:Ren} {K:Kn}
def GO{α c:Type}{Q}(m:String):SR P Q ρ K (qQ (α:=α) (.plain m)) (qQ (α:=c) (.plain m)):=by refine SR.then gU λd L a b _ _ h=>?_;rw[h.1,h.2];exact yj (.iface _ (MM _))
def aeO:SR P dG ρ K NB NB:=by
 unfold NB;refine .env λr=>?_;refine SR.then (qD r) λc L a b _ _ h=>?_;obtain⟨rfl,rfl⟩:=h;cases b
 case strings=>exact SR.then gU λc L a b _ _ h=>by(rw[h.1,h.2];exact .pure rfl)
 all_goals exact .lost aC
def aeN{α e:Type}{Q}:SR P Q ρ K (qQ (α:=α) .panicNil) (qQ (α:=e) .panicNil):=by refine SR.then gU λl L a b _ _ h=>?_;rw[h.1,h.2];refine SR.then (Ui _) λf M t d _ _ c=>?_;obtain rfl:d=t:=c;refine SR.then (Mt _ (.agg rfl (λi v j hv=>by simp at hv))) λf M r g _ _ hr=>?_;exact yj (.iface _ (.ptr hr))
def aeM{x x'}(h:VR ρ x x'):SR P VR ρ K (Instr.panic x) (Instr.panic x'):=by
 unfold Instr.panic;cases h with
 |iface t h=>exact yj (.iface t h)
 |nilIface=>
  refine SR.then aeO λc L n b _ _ a=>?_;obtain rfl:b=n:=a;split
  ·exact yj .nilIface
  ·exact aeN
 |_=>exact .lost aC
def adN{x x'}(h:VR ρ x x')(ts t):SR P VR ρ K (Nc ts t #[x]) (Nc ts t #[x']):=by
 unfold Nc;cases h with
 |oh=>exact GO _
 |@chan r g hr=>
  refine .getObj hr (λo d a=>?_) ⟨_,rfl,aC⟩;have c:(K.and r) r:=aE rfl;refine SR.then (.pure a) λn M o d g2 b a=>?_;cases a with
  |chan e f s j l=>
   dsimp only;split
   ·exact SR.then (Q:=λ_ _ _=>False) (GO _) λ_ _ _ _ _ _ h=>h.elim
   ·exact .setObj (g2 _ _ hr) (b _ c) (.chan _ _ _ _ _) (.pure (.tuple rfl (λi v m hv=>by simp at hv)))
  |_=>exact .lost aC
 |_=>exact .lost aC
def Flat:jC->Prop
 |.interface _=>False
 |.struct _=>False
 |.array _ _=>False
 |_=>True
def GL(c){s s'}(h:SR P dG ρ K s s'):SR P dG ρ K (if c=aq then pure ()else s) (if c=aq then pure ()else s'):=by
 cases c
 ·exact h
 ·exact .pure rfl
def Ab(op:kY){t:aQ}{d:jC}(n:P.underlying t=aa d)(m:Flat d)(x y){a a' b c}(l:VR ρ a a')(j:VR ρ b c):SR P dG ρ K (wY op t x y a b) (wY op t x y a' c):=by
 have g:∀(f:Ren) (L:Kn) (a a' b c:aD),SR P (λ_ x y=>x=av/\y=av) f L (NP tO t a b) (NP tO t a' c):=by intro f L a a' b c;unfold tO;rw[show(10000:Nat)=9999+1 from rfl];unfold NP;refine SR.then (bG n) λ_ _ x s _ _ o=>?_;obtain⟨rfl,rfl⟩:=o;cases s<;>first|exact m.elim|exact .pure ⟨rfl,rfl⟩
 unfold wY;refine GL _ ?_
 ·cases l with
  |nilIface=>
   cases j with
   |nilIface=>
    dsimp only;refine GL _ ?_
    ·refine SR.then (g _ _ _ _ _ _) λ_ _ u r _ _ e=>?_;rw[e.1,e.2];exact .pure rfl
   |_=>exact .pure rfl
  |agg w z=>
   cases j with
   |agg A B=>
    dsimp only;refine SR.then gU λf L p C _ _ h=>?_;refine SR.then gU λE v q D _ _ i=>?_;rw[h.1,h.2,i.1,i.2];refine GL _ ?_
    ·refine SR.then (g _ _ _ _ _ _) λ_ _ u r _ _ e=>?_;rw[e.1,e.2];exact .pure rfl
   |_=>exact .pure rfl
  |_=>exact .pure rfl
def adX(op:kY)(t x){a a'}(b:VR ρ a a'):SR P dG ρ K (wY op t x (.const .nilIface) a .nilIface) (wY op t x (.const .nilIface) a' .nilIface):=by
 unfold wY;refine GL _ ?_
 ·cases b with
  |nilIface=>
   dsimp only;simp;exact .pure rfl
  |_=>exact .pure rfl
def adR{s d e:aQ}(f:P.underlying s=aa (.slice e))(c:P.underlying d=aa .string)(he:P.underlying e=aa (.int .u8)){v v'}(h:VR ρ v v'):SR P VR ρ K (convert s d v) (convert s d v'):=by
 by_cases a:(∃b,v=.string b)\/∃k n,v=.int k n
 ·unfold convert;refine SR.then (bG f) λ_ _ x l j _ g=>?_;obtain⟨rfl,rfl⟩:=g;refine SR.then (bG c) λ_ _ y m g2 _ i=>?_;obtain⟨rfl,rfl⟩:=i;rcases a with⟨b,rfl⟩|⟨k,n,rfl⟩
  ·cases h;exact .pure (.string _)
  ·cases h;exact .pure (.string _)
 ·exact adQ f c he h (λb e=>a (aF ⟨b,e⟩)) (λk n e=>a (aE ⟨k,n,e⟩))
def acz(κ:nO){k k' v v'}(a:VR ρ k k')(h:VR ρ v v'):NC (.int κ) k' v'=NC (.int κ) k v:=by cases a<;>cases h<;>rfl
def ZX(κ:nO){k k'}(c:VR ρ k k'){x x'}(h:xl ρ x x'):∀i,(Dw (.int κ) k x i=ay/\Dw (.int κ) k' x' i=ay)\/∃y a,Dw (.int κ) k x i=aa y/\Dw (.int κ) k' x' i=aa a/\Found ρ y a:=by
 unfold xl at h;induction h with
 |nil=>exact λi=>aE ⟨_,_,rfl,rfl,.none⟩
 |@cons e f _ _ hv _ d=>
  intro i;unfold Dw;rw[acz κ c hv.1];cases NC (.int κ) k e.key with
  |none=>exact aF ⟨rfl,rfl⟩
  |some b=>
   cases b with
   |true=>exact aE ⟨_,_,rfl,rfl,.some i hv.2.1⟩
   |false=>exact d (i+1)
section
variable {k:aQ} {κ:nO} {ki:jD}
def aeh(l:P.underlying k=aa (.int κ))(j:P.info? k=aa ki)(m:∀u,ki.desc≠.named "sync.copyChecker" u){y y' x x'}(h:xl ρ x x'):∀i (a:Ren) (L:Kn),ρ.le a->VR a y y'->SR P Found a L (Nu k y x i) (Nu k y' x' i):=by
 unfold xl at h;induction h with
 |nil=>exact λi a L _ _=>.pure .none
 |@cons e p _ _ hv _ n=>
  intro i a L g c;unfold Nu;refine SR.then (Uj l j m c (hv.1.mono g)) λo M b d g2 _ f=>?_;obtain rfl:d=b:=f;split
  ·exact .pure (.some i (hv.2.1.mono (Ren.le_trans g g2)))
  ·exact n (i+1) o M (Ren.le_trans g g2) (c.mono g2)
def GK(b:P.underlying k=aa (.int κ))(c:P.info? k=aa ki)(d:∀u,ki.desc≠.named "sync.copyChecker" u){y y'}(hy:VR ρ y y'){x x'}(h:xl ρ x x'):SR P Found ρ K (Nv k y x) (Nv k y' x'):=by
 unfold Nv;refine SR.then (bG b) λj L u l g _ f=>?_;obtain⟨rfl,rfl⟩:=f;rcases ZX κ hy h 0 with⟨e,a⟩|⟨z,m,e,a,i⟩
 ·rw[e,a];exact aeh b c d h 0 j L g (hy.mono g)
 ·rw[e,a];exact .pure (i.mono g)
def aew(l:P.underlying k=aa (.int κ))(A:P.info? k=aa ki)(B:∀u,ki.desc≠.named "sync.copyChecker" u)(z:nj P){t e:aQ}(Q:P.underlying t=aa (.map k e)){v v' q q'}(h:VR ρ v v')(C:VR ρ q q')(ok):SR P VR ρ K (Dx t v q ok) (Dx t v' q' ok):=by
 have m:∀{w:Ren} {x s:aD} (b:Bool),VR w x s->VR w (if ok=aq then .tuple #[x,.bool b]else x) (if ok=aq then .tuple #[s,.bool b]else s):=λb D=>by
  split
  ·refine .tuple rfl λi u X a d=>?_
   match i,a,d with
   |0,a,d=>cases a;cases d;exact D
   |1,a,d=>cases a;cases d;exact .bool _
   |i+2,a,_=>simp at a
  ·exact D
 unfold Dx;refine SR.then (bG Q) λw L y Y g _ R=>?_;obtain⟨rfl,rfl⟩:=R;dsimp only;cases h with
 |mN=>
  refine SR.then (qD _) λT M G H g2 _ O=>?_;obtain⟨rfl,rfl⟩:=O;refine SR.then (CN l _ _ _ _) λU E _ _ j _ _=>?_;refine SR.then (GK l A B (((C.mono g).mono g2).mono j) .nil) λV F f I N _ n=>?_;cases n with
  |some i hv=>exact .pure (m _ hv)
  |none=>exact SR.then (ym z e) λ_ _ _ _ _ _ r=>.pure (m _ r)
 |map hr=>
  refine .getObj (g _ _ hr) (λo S p=>?_) ⟨_,rfl,aC⟩;refine SR.then (.pure p) λT M o S g2 _ p=>?_;cases p with
  |map c hm=>
   refine SR.then (.pure hm) λZ W G H J _ hm=>?_;refine SR.then (CN l _ _ _ _) λU E _ _ j _ _=>?_;refine SR.then (GK l A B ((((C.mono g).mono g2).mono J).mono j) (hm.mono j).list) λV F f I N _ n=>?_;cases n with
   |some i hv=>exact .pure (m _ hv)
   |none=>exact SR.then (ym z e) λ_ _ _ _ _ _ r=>.pure (m _ r)
  |_=>exact .lost aC
 |_=>exact .lost aC
end
end
end
section
variable [aP]
section
variable {P:aY} {ρ:Ren} {K:Kn}
def aec{t e:aQ}(b:P.underlying t=aa (.pointer e)){x x'}(c:VR ρ x x'):SR P dG ρ K (eN t x (.pointer ay)) (eN t x' (.pointer ay)):=by unfold eN tO;rw[show(10000:Nat)=9999+1 from rfl];unfold yT;refine SR.then (bG b) λh L d f g _ a=>?_;obtain⟨rfl,rfl⟩:=a;cases c<;>first|exact .pure rfl|exact .lost aC
def aed{t e:aQ}(b:P.underlying t=aa (.slice e))(n c){x x'}(f:VR ρ x x'):SR P dG ρ K (eN t x (.slice ay n c)) (eN t x' (.slice ay n c)):=by unfold eN tO;rw[show(10000:Nat)=9999+1 from rfl];unfold yT;refine SR.then (bG b) λi L d h g _ a=>?_;obtain⟨rfl,rfl⟩:=a;cases f<;>first|exact .pure rfl|exact .lost aC
def Uc{op}(f:op=.eql\/op=.neq){t:aQ}{y}(hy:y=.pointer ay\/∃n c,y=.slice ay n c){x x'}(e:VR ρ x x')(eq:SR P dG ρ K (eN t x y) (eN t x' y)):SR P VR ρ K (fD op t x y) (fD op t x' y):=by
 have pos:SR P VR ρ K (do pure (.bool (<-eN t x y))) (do pure (.bool (<-eN t x' y))):=SR.then eq λ_ _ b a _ _ d=>by(obtain rfl:a=b:=d;exact .pure (.bool _))
 have neg:SR P VR ρ K (do pure (.bool (!(<-eN t x y)))) (do pure (.bool (!(<-eN t x' y)))):=SR.then eq λ_ _ b a _ _ d=>by(obtain rfl:a=b:=d;exact .pure (.bool _))
 rcases f with rfl|rfl
 ·rcases hy with rfl|⟨n,c,rfl⟩<;>cases e<;>simp only[fD]<;>exact pos
 ·rcases hy with rfl|⟨n,c,rfl⟩<;>cases e<;>simp only[fD]<;>exact neg
def adY{t:aQ}(b:P.underlying t=aa .bool){x x' y y'}(c:VR ρ x x')(hy:VR ρ y y'):SR P dG ρ K (eN t x y) (eN t x' y'):=by
 unfold eN tO;rw[show(10000:Nat)=9999+1 from rfl];unfold yT;refine SR.then (bG b) λf L d e g _ a=>?_;obtain⟨rfl,rfl⟩:=a;cases c with
 |bool s=>cases hy<;>first|exact .pure rfl|exact .lost aC
 |_=>cases hy<;>exact .lost aC
def Ub{op}(e:op=.eql\/op=.neq){t:aQ}{x x' y y'}(d:VR ρ x x')(hy:VR ρ y y')(eq:SR P dG ρ K (eN t x y) (eN t x' y')):SR P VR ρ K (fD op t x y) (fD op t x' y'):=by
 have pos:SR P VR ρ K (do pure (.bool (<-eN t x y))) (do pure (.bool (<-eN t x' y'))):=SR.then eq λ_ _ b a _ _ c=>by(obtain rfl:a=b:=c;exact .pure (.bool _))
 have neg:SR P VR ρ K (do pure (.bool (!(<-eN t x y)))) (do pure (.bool (!(<-eN t x' y')))):=SR.then eq λ_ _ b a _ _ c=>by(obtain rfl:a=b:=c;exact .pure (.bool _))
 rcases e with rfl|rfl
 ·cases d<;>cases hy<;>first|(simp only[fD];exact pos)|exact Mk _ _ _ _ _ _|exact Ml _ _ _ _
 ·cases d<;>cases hy<;>first|(simp only[fD];exact neg)|exact Mk _ _ _ _ _ _|exact Ml _ _ _ _
def AR.TL(c:ρ.one){a a' b b'}(h:AR ρ a a')(k:AR ρ b b'):(a'=b')↔(a=b):=by
 obtain⟨d,j,l⟩:=h;obtain⟨e,m,n⟩:=k;constructor
 ·rintro rfl;rcases a with⟨a1,f,a3⟩;rcases b with⟨b1,g,i⟩;have:=c.2 _ _ _ d e
  simp_all
 ·rintro rfl;rcases a' with⟨a1,f,a3⟩;rcases b' with⟨b1,g,i⟩;have:=c.1 _ _ _ d e
  simp_all
def AR.TJ(d:ρ.one){a a' b b'}(h:AR ρ a a')(k:AR ρ b b'):(a'==b')=(a==b):=by
 have:=AR.TL d h k
 by_cases e:a=b
 ·simp[e,this.2 e]
 ·have c:a'≠b':=λx=>e (this.1 x);rw[sG.2 e,sG.2 c]
def Sg(a b:bZ):Sem Bool:=vh a >>= λ_=>vh b >>= λ_=>zh a b >>= λz=>if z then choose (.extern "sameAddr.stringBytes" 2) >>= λn=>pure (n==1)else pure av
def aeQ{a a' b b'}(d:AR ρ a a')(f:AR ρ b b'):SR P dG ρ K (sameAddr a b) (sameAddr a' b'):=by
 refine .assume λk=>?_
 have p:(a'.block==b'.block)=(a.block==b.block):=by
  by_cases h:a.block=b.block
  ·have:a'.block=b'.block:=k.1.1 _ _ _ d.1 (h▸f.1);simp[h,this]
  ·have o:a'.block≠b'.block:=λe=>h (k.1.2 _ _ _ d.1 (e▸f.1));rw[sG.2 h,sG.2 o]
 unfold sameAddr;rw[p];cases h:(a.block==b.block)with
 |true=>
  simp only[cV,(AR.TJ k.1 d f)];exact .pure rfl
 |false=>
  simp;refine .icy d λx=>?_;refine .icy f λy=>?_
  have rest:∀(i:Ren) (L:Kn),ρ.le i->SR P dG i L (Sg a b) (Sg a' b'):=λi L g=>by
   have r:∀{c l:bZ},AR i c l->SR P dG i L (vh c) (vh l):=λq=>Mu q;refine SR.then (r (d.mono g)) λs m _ _ j _ _=>?_;refine SR.then (Mu ((f.mono g).mono j):SR P dG s m (vh b) (vh b')) λu t _ _ g2 _ _=>?_;refine .kin (((d.mono g).mono j).mono g2) (((f.mono g).mono j).mono g2) λz=>?_;cases z with
   |true=>exact .choose λn=>.pure rfl
   |false=>exact .pure rfl
  cases x<;>cases y<;>first|exact rest ρ K (Ren.le_refl _)|exact SR.lost (x:=.unsupported .addressObserved) trivial
def aeb{t e:aQ}(j:P.underlying t=aa (.pointer e)){x x' y y'}(k:VR ρ x x')(hy:VR ρ y y'):SR P dG ρ K (eN t x y) (eN t x' y'):=by
 unfold eN tO;rw[show(10000:Nat)=9999+1 from rfl];unfold yT;refine SR.then (bG j) λp L d o g _ f=>?_;obtain⟨rfl,rfl⟩:=f;cases k with
 |gT=>cases hy<;>first|exact .pure rfl|exact .lost aC
 |ptr b=>
  cases hy with
  |gT=>exact .pure rfl
  |ptr c=>
   refine SR.then (jO e) λq m n l a _ i=>?_;obtain rfl:l=n:=i;split
   ·exact aeQ ((b.mono g).mono a) ((c.mono g).mono a)
   ·refine .assume λh=>?_;rw[AR.TJ h.1 ((b.mono g).mono a) ((c.mono g).mono a)];split
    ·exact .pure rfl
    ·exact .choose λn=>.pure rfl
  |_=>exact .lost aC
 |_=>cases hy<;>exact .lost aC
def aeI{x x'}(h:VR ρ x x'):SR P VR ρ K (Ba .neg x) (Ba .neg x'):=by
 cases h with
 |int k n=>exact Ul .sub k 0 n
 |_=>simp only[Ba];exact .lost aC
def aeA(t):SR P VR ρ K (VW t ay) (VW t ay):=by exact .new (.map 0 ⟨rfl,λi e a h=>by simp at h⟩) λn b=>.pure (.map (aE ⟨rfl,rfl⟩))
def aex{t e:aQ}{d}(j:P.underlying t=aa (.chan d e)){x x'}(k:VR ρ x x'):SR P VR ρ K (Nz t x) (Nz t x'):=by
 unfold Nz;refine SR.then (yh k) λv L n a g _ f=>?_;obtain rfl:a=n:=f;refine SR.then (bG j) λw p y u g2 _ l=>?_;obtain⟨rfl,rfl⟩:=l;dsimp only;refine SR.then (kX e) λo b i r q _ c=>?_;obtain⟨rfl,_⟩:=c;split
 ·exact SR.then (Q:=λ_ _ _=>False) (GO _) λ_ _ _ _ _ _ h=>h.elim
 ·show SR P VR o b (Sem.new (.chan a.toNat #[] av 0 0 av) λn=>pure (.chan (aa n))) (Sem.new (.chan a.toNat #[] av 0 0 av) λn=>pure (.chan (aa n)));exact .new (.chan _ _ _ _ _) λm s=>.pure (.chan (aE ⟨rfl,rfl⟩))
def adK{v v'}(h:VR ρ v v'){t e:aQ}(d:P.underlying t=aa (.slice e))(ty):SR P VR ρ K (Nb #[t] ty #[v]) (Nb #[t] ty #[v']):=by unfold Nb;simp;refine SR.then (bG d) λg L a b f _ c=>?_;obtain⟨rfl,rfl⟩:=c;cases h<;>first|exact .pure (.int _ _)|exact .lost aC
def aeG{x x' y y' z z'}(h:VR ρ x x')(k:VR ρ y y')(m:VR ρ z z')(ts t):SR P VR ρ K (Hs ts t #[x,y,z]) (Hs ts t #[x',y',z']):=by exact SR.then (Mq h k) λ_ _ _ _ g _ hv=>SR.then (Mq hv (m.mono g)) λ_ _ _ _ _ _ a=>.pure a
def aaU{z z'}(h:bK ρ z z')(n):(∀(j:Nat) v a,(tF z n).toList[j]? =aa v->(tF z' n).toList[j]? =aa a->VR ρ v a)/\(tF z' n).toList.length=(tF z n).toList.length:=by
 unfold tF;constructor
 ·intro j v a b c;simp only[oC,fV]at b c;obtain⟨i,g,rfl⟩:=eV.1 b;obtain⟨m,k,rfl⟩:=eV.1 c;have o:j<n*z.size:=by grind
  have e:i=j:=by grind
  have f:m=j:=by grind
  rw[e]at g⊢;rw[f]at k⊢;have l:0<z.size:=by grind
  have hm:j %z.size<z.size:=AZ _ l;have d:j %z'.size<z'.size:=by rw[h.1];exact hm
  rw[getElem!_pos z _ hm,getElem!_pos z' _ d];exact h.2 (j %z.size) _ _ (cX hm) (by rw[<-h.1];exact cX d)
 ·simp[h.1]
def adM(k:nj P){v g}(h:VR ρ v g){t e:aQ}(p:P.underlying t=aa (.slice e))(ty):SR P VR ρ K (uL #[t] ty #[v]) (uL #[t] ty #[g]):=by
 have fin:∀(j:Ren) (L:Kn),SR P VR j L (pure (.tuple #[])) (pure (.tuple #[])):=λj L=>.pure (.tuple rfl λi v g hv=>by simp at hv);unfold uL;simp;refine SR.then (bG p) λj L a b d _ n=>?_;obtain⟨rfl,rfl⟩:=n;cases h with
 |mN=>exact fin _ _
 |@map r A hr=>
  refine .getObj (d _ _ hr) (λo u f=>?_) ⟨_,rfl,aC⟩;refine SR.then (.pure f) λx M o u g2 s f=>?_;cases f with
  |map c hm=>exact .setObj (g2 _ _ (d _ _ hr)) (s _ (aE rfl)) (.map _ ⟨rfl,λi e y h=>by simp at h⟩) (fin _ _)
  |_=>exact .lost aC
 |fH l c=>exact fin _ _
 |slice l c m=>
  cases l with
  |zero=>exact fin _ _
  |succ l=>
   refine SR.then (ym k e) λx M z B g2 _ q=>?_;obtain⟨p1,w⟩:=aaU q.cells (l+1);refine SR.then (GQ ((m.mono d).mono g2) _ _ 0 _ w p1) λ_ _ _ _ _ _ _=>fin _ _
 |_=>exact .lost aC
def Uu(isS len cap){c a hi hi' mx mx'}(g:VO ρ c a)(h:VR ρ hi hi')(i:VR ρ mx mx'):SR P dG ρ K (AG isS len cap c (aa hi) (aa mx)) (AG isS len cap a (aa hi') (aa mx')):=by
 unfold AG;dsimp only;refine SR.then (Ad i _ _) λo L m j d _ f=>?_;obtain rfl:j=m:=f;refine SR.then (Ad (h.mono d) _ _) λp M y l g2 _ e=>?_;obtain rfl:l=y:=e;have b:=(g.mono d).mono g2;cases c with
 |none=>cases a with
  |none=>exact .pure rfl
  |some v=>exact b.elim
 |some v=>cases a with
  |none=>exact b.elim
  |some n=>exact SR.then (Ad b _ _) λ_ _ x k _ _ e=>by(obtain rfl:k=x:=e;exact .pure rfl)
def aeS{v v'}(h:VR ρ v v'){lo lo' hi hi' mx mx'}(m:VO ρ lo lo')(o:VR ρ hi hi')(p:VR ρ mx mx'){t e:aQ}(r:P.underlying t=aa (.slice e)):SR P VR ρ K (uP t v lo (aa hi) (aa mx)) (uP t v' lo' (aa hi') (aa mx')):=by
 unfold uP;refine SR.then (bG r) λG D a b g0 _ i=>?_;obtain⟨rfl,rfl⟩:=i;dsimp only;unfold uO;refine SR.then (bG r) λF L a b s _ i=>?_;obtain⟨rfl,rfl⟩:=i;have d:=Ren.le_trans g0 s;cases h.mono d with
 |fH l c=>
  refine SR.then (Uu aq _ _ (m.mono d) (o.mono d) (p.mono d)) λB M x f _ _ ex=>?_;obtain rfl:f=x:=ex;refine SR.then (jO e) λC N n j _ _ g=>?_;obtain rfl:j=n:=g;obtain⟨z,y,A⟩:=f;simp;exact .pure (.fH _ _)
 |@slice c E l k w=>
  refine SR.then (Uu aq _ _ (m.mono d) (o.mono d) (p.mono d)) λB M x f g2 _ ex=>?_;obtain rfl:f=x:=ex;refine SR.then (jO e) λC N n j u _ g=>?_;obtain rfl:j=n:=g;have q:=(w.mono g2).mono u;obtain⟨z,y,A⟩:=f;split
  ·exact .pure (.slice _ _ q)
  ·exact .pure (.slice _ _ (q.add _))
 |_=>exact .lost aC
def aeT{v v'}(h:VR ρ v v'){lo lo' hi hi'}(k:VO ρ lo lo')(l:VO ρ hi hi'){t e:aQ}{n}(q:P.underlying t=aa (.array n e)):SR P VR ρ K (uP t v lo hi ay) (uP t v' lo' hi' ay):=by
 unfold uP;refine SR.then (bG q) λA L a b c _ p=>?_;obtain⟨rfl,rfl⟩:=p;dsimp only;refine SR.then (GS (h.mono c)) λB s a u g2 _ o=>?_;refine SR.then (GP av n n ((k.mono c).mono g2) ((l.mono c).mono g2)) λC M x f i _ ex=>?_;obtain rfl:f=x:=ex;refine SR.then (jO e) λD N m r j _ g=>?_;obtain rfl:r=m:=g;have d:=(o.mono i).mono j;obtain⟨y,w,z⟩:=f;dsimp only;split
 ·exact .pure (.slice _ _ d)
 ·exact .pure (.slice _ _ (d.add _))
def mE.erase{x x'}(h:mE ρ x x')(i):mE ρ (x.eraseIdxIfInBounds i) (x'.eraseIdxIfInBounds i):=by
 have c:∀y:aJ IA,(y.eraseIdxIfInBounds i).toList=y.toList.eraseIdx i:=λy=>by simp
 refine⟨?_,λj e d f a=>?_⟩
 ·rw[<-rO,<-rO,c,c,Wr,Wr];simp[h.1]
 ·rw[<-oC,c,List.getElem?_eraseIdx]at f a;split at f
  ·rename_i b;rw[aW b]at a;exact h.2 j e d (by grind) (by grind)
  ·rename_i b;rw[aK b]at a;exact h.2 (j+1) e d (by grind) (by grind)
def adU{t k e t2 x:aQ}{κ}{s:jD}(b:P.underlying k=aa (.int κ))(A:P.info? k=aa s)(B:∀u,s.desc≠.named "sync.copyChecker" u)(D:P.underlying t=aa (.map k e)){v j q q'}(h:VR ρ v j)(C:VR ρ q q'):SR P VR ρ K (Nd #[t,t2] x #[v,q]) (Nd #[t,t2] x #[j,q']):=by
 have fin:∀(l:Ren) (L:Kn),SR P VR l L (pure (.tuple #[])) (pure (.tuple #[])):=λl L=>.pure (.tuple rfl λi v j hv=>by simp at hv);unfold Nd;simp;refine SR.then (bG D) λl L y S g _ E=>?_;obtain⟨rfl,rfl⟩:=E;dsimp only;cases h with
 |mN=>exact SR.then (CN b _ _ _ _) λ_ _ _ _ _ _ _=>fin _ _
 |@map r R hr=>
  refine .getObj (g _ _ hr) (λo J d=>?_) ⟨_,rfl,aC⟩;have I:(L.and r) r:=aE rfl;refine SR.then (.pure d) λT M o J g2 F d=>?_;cases d with
  |map c hm=>
   refine SR.then (CN b _ _ _ _) λU N _ _ a G _=>?_;refine SR.then (GK b A B (((C.mono g).mono g2).mono a) (hm.mono a).list) λV O f Q m H z=>?_;have n:=Ren.le_trans (Ren.le_trans (Ren.le_trans g g2) a) m;have p:=(hm.mono a).mono m;have w:=H _ (G _ (F _ I));cases z with
   |some i hv=>exact .setObj (n _ _ hr) w (.map _ (p.erase i)) (fin _ _)
   |none=>exact .setObj (n _ _ hr) w (.map _ p) (fin _ _)
  |_=>exact .lost aC
 |_=>exact .lost aC
end
end
section
variable [aP]
section
variable {P:aY} {ρ:Ren} {K:Kn}
def AR.beq(d:ρ.one){a a' b b'}(h:AR ρ a a')(k:AR ρ b b'):(aa a'==aa b')=(aa a==aa b):=by
 have:=AR.TL d h k
 by_cases e:a=b
 ·have c:=this.2 e;subst e;subst c;simp
 ·have c:¬a'=b':=λx=>e (this.1 x);rw[sG.2 (λx=>e (dP x)),sG.2 (λx=>c (dP x))]
def Ren.beq(c:ρ.one){a a' b b'}(h:ρ a a')(k:ρ b b'):(aa a'==aa b')=(aa a==aa b):=by
 by_cases e:a=b
 ·subst e;have:=c.1 _ _ _ h k;subst this;simp
 ·have d:¬a'=b':=λx=>e (by subst x;exact c.2 _ _ _ h k);rw[sG.2 (λx=>e (dP x)),sG.2 (λx=>d (dP x))]
def Xw{f:aD->aD->Bool}(hf:∀{a a' b e:aD},VR ρ a a'->VR ρ b e->f a' e=f a b){x h:aB aD}(g:qY ρ x h):∀{y d:aB aD},qY ρ y d->((h.zip d).all λ(p:aD×aD)=>f p.1 p.2)=((x.zip y).all λ(p:aD×aD)=>f p.1 p.2):=by
 unfold qY at g;induction g with
 |nil=>intro y d _;simp
 |cons hv _ j=>
  intro y d c;unfold qY at c;cases c with
  |nil=>simp
  |cons i c=>simp;rw[hf hv i,j c]
def acy(c:ρ.one):∀(n:Nat) {a a' b e:aD},VR ρ a a'->VR ρ b e->Ih n a' e=Ih n a b:=by
 intro n;induction n with
 |zero=>
  intro a a' b e f d;cases f<;>cases d<;>first|rfl|exact AR.beq c ‹_› ‹_›|exact Ren.beq c ‹_› ‹_›
 |succ n g=>
  intro a a' b e f d;cases f with
  |ptr h=>cases d<;>first|rfl|exact AR.beq c h ‹_›
  |chan h=>cases d<;>first|rfl|exact Ren.beq c h ‹_›
  |iface t h=>
   cases d with
   |iface u k=>simp only[Ih];rw[g h k]
   |_=>rfl
  |@agg x m c j=>
   cases d with
   |@agg y o i l=>
    simp only[Ih];rw[c,i];have:=Xw g (bK.list ⟨c,j⟩) (bK.list ⟨i,l⟩);rw[this]
   |_=>rfl
  |_=>cases d<;>rfl
def aep{v v' q q'}(h:VR ρ v v')(a:VR ρ q q'):SR P VR ρ K (Ny v q) (Ny v' q'):=by
 refine .assume λg=>?_;unfold Ny;rw[acy g.1 10000 h a];split
 ·exact .pure a
 ·refine SR.then (wy _) λ_ _ c b g _ d=>?_;obtain rfl:b=c:=d;split
  ·exact .pure (a.mono g)
  ·exact .pure (h.mono g)
def aeE{t k e:aQ}{κ}{w:jD}(p:P.underlying k=aa (.int κ))(C:P.info? k=aa w)(D:∀u,w.desc≠.named "sync.copyChecker" u)(E:P.underlying t=aa (.map k e)){v v' q q' x x'}(h:VR ρ v v')(d:VR ρ q q')(s:VR ρ x x'):SR P dG ρ K (NA t v q x) (NA t v' q' x'):=by
 unfold NA;refine SR.then (bG E) λY L y W g _ F=>?_;obtain⟨rfl,rfl⟩:=F;dsimp only;cases h with
 |mN=>exact GO _
 |@map r V hr=>
  refine .getObj (g _ _ hr) (λo Q m=>?_) ⟨_,rfl,aC⟩;have O:(L.and r) r:=aE rfl;refine SR.then (.pure m) λZ M o Q g2 H m=>?_;cases m with
  |map c hm=>
   refine SR.then (CN p _ _ _ _) λaf R _ _ b I _=>?_;refine SR.then (GK p C D (((d.mono g).mono g2).mono b) (hm.mono b).list) λah S f U n J B=>?_;have a:=Ren.le_trans (Ren.le_trans (Ren.le_trans g g2) b) n;have l:=(hm.mono b).mono n;have A:=J _ (I _ (H _ O));cases B with
   |some i hv=>
    refine SR.then (aep (aar l i (d.mono a)) (d.mono a)) λaj T z X j N G=>?_;exact .setObj (j _ _ (a _ _ hr)) (N _ A) (.map _ ((l.mono j).modify G ((s.mono a).mono j) i)) (.pure rfl)
   |none=>exact .setObj (a _ _ hr) A (.map _ (l.push ⟨d.mono a,s.mono a,rfl⟩)) (.pure rfl)
  |_=>exact .lost aC
 |_=>exact .lost aC
def zm(P:aY):Prop:=∀f,aP.ok f->∃a,P.funcs[f]? =aa a/\(a.name== "runtime.NumGoroutine")=av/\a.body.isNone=av
inductive oM(P:aY):Builtin->aJ aQ->Prop
 |append {t u e:aQ} {d:jC} (b:P.underlying t=aa (.slice e)) (m:P.underlying u=aa d) (i:d=.string\/∃f,d=.slice f):oM P .append #[t,u]
 |close (a:aJ aQ):oM P .close a
 |copy {t u e:aQ} (b:P.underlying t=aa (.slice e)):oM P .copy #[t,u]
 |So {t e:aQ} (b:P.underlying t=aa (.slice e)):oM P .len #[t]
 |Sq {t:aQ} (b:P.underlying t=aa .string):oM P .len #[t]
 |min (a:aJ aQ) (h:a.size=2\/a.size=3):oM P .min a
 |cap {t e:aQ} (b:P.underlying t=aa (.slice e)):oM P .cap #[t]
 |clear {t e:aQ} (b:P.underlying t=aa (.slice e)):oM P .clear #[t]
 |delete {t t2 k e:aQ} {g:nO} {c:jD} (j:P.underlying k=aa (.int g)) (hi:P.info? k=aa c) (l:∀u,c.desc≠.named "sync.copyChecker" u) (b:P.underlying t=aa (.map k e)):oM P .delete #[t,t2]
 |recover (a:aJ aQ):oM P .recover a
 |unsafeString (t u:aQ):oM P .unsafeString #[t,u]
def yx{x b}(h:bK ρ x b)(d:x.size=1):∃a c,x=#[a]/\b=#[c]/\VR ρ a c:=by
 obtain⟨a,rfl⟩:∃a,x=#[a]:=by
  rcases x with⟨x⟩
  match x,d with
  |[a],_=>exact⟨a,rfl⟩
 obtain⟨c,rfl⟩:∃a,b=#[a]:=by
  have:=h.1;rcases b with⟨b⟩
  match b,this with
  |[a],_=>exact⟨a,rfl⟩
 exact⟨a,c,rfl,rfl,h.2 0 a c rfl rfl⟩
def Dc{x c}(h:bK ρ x c)(f:x.size=2):∃a d b e,x=#[a,b]/\c=#[d,e]/\VR ρ a d/\VR ρ b e:=by
 obtain⟨a,b,rfl⟩:∃a b,x=#[a,b]:=by
  rcases x with⟨x⟩
  match x,f with
  |[a,b],_=>exact⟨a,b,rfl⟩
 obtain⟨d,e,rfl⟩:∃a b,c=#[a,b]:=by
  have:=h.1;rcases c with⟨c⟩
  match c,this with
  |[a,b],_=>exact⟨a,b,rfl⟩
 exact⟨a,d,b,e,rfl,rfl,h.2 0 a d rfl rfl,h.2 1 b e rfl rfl⟩
def agz{x d}(h:bK ρ x d)(i:x.size=3):∃a e b f c g,x=#[a,b,c]/\d=#[e,f,g]/\VR ρ a e/\VR ρ b f/\VR ρ c g:=by
 obtain⟨a,b,c,rfl⟩:∃a b c,x=#[a,b,c]:=by
  rcases x with⟨x⟩
  match x,i with
  |[a,b,c],_=>exact⟨a,b,c,rfl⟩
 obtain⟨e,f,g,rfl⟩:∃a b c,d=#[a,b,c]:=by
  have:=h.1;rcases d with⟨d⟩
  match d,this with
  |[a,b,c],_=>exact⟨a,b,c,rfl⟩
 exact⟨a,e,b,f,c,g,rfl,rfl,h.2 0 a e rfl rfl,h.2 1 b f rfl rfl,h.2 2 c g rfl rfl⟩
def Pu(b:Builtin)(a:aJ aQ):Nat:=match b with
 |.append|.copy|.unsafeString|.delete=>2
 |.min=>a.size
 |.close|.len|.cap|.clear=>1
 |_=>0
def adH(o:nj P){b m}(h:oM P b m)(t cs){x x'}(j:bK ρ x x')(i:x.size=Pu b m):SR P NR ρ K (builtin b m t cs x) (builtin b m t cs x'):=by
 cases h with
 |append f s n=>
  obtain⟨a,k,c,l,rfl,rfl,e,g⟩:=Dc j i;exact dV (adw o e g f s n)
 |close=>
  obtain⟨a,k,rfl,rfl,e⟩:=yx j i;exact dV (adN e _ _)
 |copy f=>
  obtain⟨a,k,c,l,rfl,rfl,e,g⟩:=Dc j i;exact dV (adT e g f)
 |So f=>
  obtain⟨a,k,rfl,rfl,e⟩:=yx j i;exact dV (aer e f _)
 |Sq f=>
  obtain⟨a,k,rfl,rfl,e⟩:=yx j i;exact dV (aes e f _)
 |min m h=>
  rcases h with h|h
  ·obtain⟨a,k,c,l,rfl,rfl,e,g⟩:=Dc j (i.trans h);exact dV (aeH e g _ _)
  ·obtain⟨a,k,c,l,d,v,rfl,rfl,e,g,n⟩:=agz j (i.trans h);exact dV (aeG e g n _ _)
 |cap f=>
  obtain⟨a,k,rfl,rfl,e⟩:=yx j i;exact dV (adK e f _)
 |clear f=>
  obtain⟨a,k,rfl,rfl,e⟩:=yx j i;exact dV (adM o e f _)
 |delete q p r f=>
  obtain⟨a,k,c,l,rfl,rfl,e,g⟩:=Dc j i;exact dV (adU q p r f e g)
 |recover=>exact .pure .recover
 |unsafeString t u=>
  obtain⟨a,k,c,l,rfl,rfl,e,g⟩:=Dc j i;exact dV (afe e g _ _ _)
def Um(hF:zm P){t t'}(h:TR ρ t t'){x x'}(b:bK ρ x x'):SR P NR ρ K (invoke t x) (invoke t' x'):=by
 cases h with
 |fn i g=>
  cases i with
  |func f a=>
   obtain⟨fn,c,d,e⟩:=hF f a;exact Uf a c d e (b.append g)
  |yield j=>exact afh j b
 |nil=>exact Ac
 |collected h=>exact .lost aC
def Ug(hF:zm P){f f'}(h:VR ρ f f'){x b}(c:bK ρ x b):SR P NR ρ K (do let d <-wM f x;invoke d.target d.args) (do let d <-wM f' b;invoke d.target d.args):=
 SR.then (Ur h c) λ_ _ _ _ _ _ a=>Um hF a.1 a.2
def Et(P:aY)(name:String):Prop:=∀t i m,P.info? t=aa i->i.methods.find? (·.name==name)=aa m->∃f e,m.path=#[]/\m.func=aa (f,aq)/\aP.ok f/\P.underlying t=aa (.pointer e)
def aeF{name}(hm:Et P name)(n t){v v'}(h:VR ρ v v'):SR P (λp x d=>d.1=x.1/\aP.ok x.1/\VR p x.2 d.2) ρ K (method n t v name) (method n t v' name):=by
 cases n with
 |zero=>exact .lost aC
 |succ n=>
  unfold method;refine SR.then (kX t) λp L i o g _ c=>?_;obtain⟨rfl,c⟩:=c;cases u:o.methods.find? (·.name==name)with
  |none=>exact .lost aC
  |some m=>
   obtain⟨f,e,j,k,r,s⟩:=hm t o m c u;obtain⟨m1,m2,C,D⟩:=m;simp only at j k;subst j k;dsimp only;refine SR.then (Q:=λ_ a b=>a=(t,.val v)/\b=(t,.val v')) (by unfold follow;exact .pure ⟨rfl,rfl⟩) λF A a b q _ l=>?_;rw[l.1,l.2];dsimp only;refine SR.then ?_ λ_ _ x d _ _ w=>.pure ⟨rfl,r,w⟩;unfold receiverAt;refine SR.then (bG s) λG B y E g2 _ z=>?_;obtain⟨rfl,rfl⟩:=z;exact .pure (((h.mono g).mono q).mono g2)
def adJ(hF:zm P){name}(hm:Et P name){r r'}(h:VR ρ r r'){x x'}(l:bK ρ x x'):SR P NR ρ K (IT r name x) (IT r' name x'):=by
 unfold IT;cases h with
 |iface t hv=>
  refine SR.then gU λD L p A g _ j=>?_;rw[j.1,j.2];refine SR.then (aeF hm _ t (hv.mono g)) λE u y s g2 _ m=>?_;obtain⟨f,w⟩:=y;obtain⟨k,C⟩:=s;obtain⟨e,c,d⟩:=m;simp only at e c d;subst e;obtain⟨z,n,o,q⟩:=hF k c
  exact Uf c n o q (bK.append ⟨rfl,λi v B a b=>by
   match i,a,b with
   |0,a,b=>cases a;cases b;exact d
   |i+1,a,_=>simp at a⟩ ((l.mono g).mono g2))
 |nilIface=>exact Ac
 |_=>exact .lost aC
def aen(hF:zm P){name}(hm:Et P name){r r'}(h:VR ρ r r'){x x'}(d:bK ρ x x'):SR P NR ρ K (invoke (.fn (.method name) #[]) (#[r]++x)) (invoke (.fn (.method name) #[]) (#[r']++x')):=by
 have e:∀(a:aD) (y:aJ aD),invoke (.fn (.method name) #[]) (#[a]++y)=IT a name y:=λa y=>by
  unfold invoke;have b:(#[a]++y)[0]? =aa a:=by rw[Hl aC];rfl
  have c:(#[a]++y).extract 1 (#[a]++y).size=y:=by
   apply Array.ext
   ·simp
   ·intro i b c;simp
  simp only[b,c]
 rw[e,e];exact adJ hF hm h d
end
end
def abC{a:aQ->aZ jD}{d:jC}{i:jD}(h:Iz a d=aa i):i.methods=#[]:=by
 unfold Iz at h;cases d with
 |pointer e=>
  obtain⟨j,_,h⟩:=eO.1 h;split at h
  ·cases h
  ·split at h
   ·cases h
   ·obtain⟨s,_,h⟩:=eO.1 h;cases h;rfl
  ·obtain⟨s,_,h⟩:=eO.1 h;cases h;rfl
 |slice e=>
  obtain⟨j,_,h⟩:=eO.1 h;obtain⟨s,_,h⟩:=eO.1 h;cases h;rfl
 |map k e=>
  obtain⟨j,_,h⟩:=eO.1 h;obtain⟨s,_,h⟩:=eO.1 h;obtain⟨j,_,h⟩:=eO.1 h;obtain⟨s,_,h⟩:=eO.1 h;cases h;rfl
 |chan b e=>
  obtain⟨j,_,h⟩:=eO.1 h;obtain⟨s,_,h⟩:=eO.1 h;cases h;rfl
 |func f g v=>
  obtain⟨s,_,h⟩:=eO.1 h;cases h;rfl
 |array n e=>
  obtain⟨j,_,h⟩:=eO.1 h;obtain⟨s,_,h⟩:=eO.1 h;cases h;rfl
 |struct c=>
  unfold NL at h;obtain⟨s,_,h⟩:=eO.1 h;dsimp only at h;split at h<;>(cases h;rfl)
 |_=>cases h
def SB(P:aY)(l:aB bC)(name:String):Bool:=(dH P.types.size).all λt=>match P.types[t]? with
 |some i=>(match i.methods.find? (·.name==name)with
  |some m=>m.path.isEmpty&&(match m.func with|some (f,p)=>p&&l.contains f|none=>av)&&(match P.underlying t with|some (.pointer _)=>aq|_=>av)
  |none=>aq)
 |none=>aq
def V3[aP]{P l name}(r:∀f,l.contains f=aq->aP.ok f)(h:SB P l name=aq):Et P name:=by
 intro t i m a g;unfold WM at a
 by_cases c:t<P.types.size
 ·rw[aW c]at a;have:=mz.1 h t (lQ.2 c);simp only[a,g,cE]at this;obtain⟨⟨k,b⟩,j⟩:=this;split at b
  ·rename_i f p q;simp only[cE]at b;split at j
   ·rename_i e o;refine⟨f,e,by simpa using k,?_,r f b.2,o⟩;rw[q,b.1]
   ·cases j
  ·cases b
 ·rw[aK c]at a;unfold NJ at a;rw[show(100:Nat)=99+1 from rfl]at a;unfold NK at a;rw[aK c]at a;obtain⟨d,_,n⟩:=eO.1 a;rw[abC n]at g;simp at g
section
variable [aP]
def GB(P:aY)(t:aQ):Bool:=match P.underlying t with
 |some (.int _)=>aq
 |some (.struct a)=>a.all λf=>(match P.underlying f.type with|some (.pointer _)=>aq|some (.slice _)=>aq|_=>av)
 |_=>av
def TN{t:aQ}(h:GB aP.prog t=aq):vD t:=by
 intro off v hv;have c:aP.prog.depth=(2*(aP.prog.types.size+NJ)+1)+1:=rfl;rw[c]at hv;generalize 2*(aP.prog.types.size+NJ)+1=d at hv;unfold GB at h;split at h
 ·rename_i k j;unfold plainCell at hv;rw[j]at hv;dsimp only at hv;split at hv
  ·cases hv;exact⟨k,rfl⟩
  ·cases hv
 ·rename_i l i;unfold plainCell at hv;rw[i]at hv;dsimp only at hv;exfalso;obtain⟨f,g,hv⟩:=Array.exists_of_findSome?_eq_some hv;split at hv
  ·have b:=rN.1 h f g;cases d with
   |zero=>cases hv
   |succ d=>
    unfold plainCell at hv;split at b
    ·rename_i e a;rw[a]at hv;cases hv
    ·rename_i e a;rw[a]at hv;cases hv
    ·cases b
  ·cases hv
 ·cases h
section
variable {P:aY} {ρ:Ren} {K:Kn}
def Us{a a'}(h:AR ρ a a'):SR P AR ρ K (tG a) (tG a'):=by
 unfold tG;refine SR.view h.1 (.pure h) λb f t c=>?_;dsimp only;rw[h.2.1,h.2.2,c.2.2];split
 ·exact .pure c
 ·split
  ·exact .lost trivial
  ·refine SR.then gU λk L p i g _ d=>?_;rw[d.1,d.2];split
   ·rename_i j _;refine .shape (g _ _ c.1) (λx=>?_) (λ_=>.lost trivial) λ_=>⟨_,rfl,trivial⟩;obtain⟨e,n⟩:=x;simp only[cL];split
    ·exact .lost trivial
    ·rw[c.2.1];split
     ·exact .pure ⟨g _ _ c.1,rfl,rfl⟩
     ·exact .lost trivial
   ·exact .lost trivial
def adL{r r'}(h:ρ r r')(a:K r):SR P dG ρ K (ze r) (ze r'):=by unfold ze;refine .shape h (λx=>.pure rfl) (λ_=>?_) λb=>absurd a b;refine .Cb h a λo d c=>?_;cases c<;>exact .pure rfl
def afg{a a'}(h:AR ρ a a')(d:K a.block)(t n):SR P dG ρ K (By a t n) (By a' t n):=by unfold By;refine SR.then gU λj L p i g c b=>?_;rw[b.1,b.2];refine .shape (g _ _ h.1) (λx=>?_) (λ_=>.pure rfl) λf=>absurd (c _ d) f;obtain⟨e,n⟩:=x;rw[h.2.1];exact .pure rfl
def toRest(t:aQ)(s:bZ):Sem aD:=do
 let a:=match <-ze s.block with
  |some cells=>s.off≥cells&&s.spot.isNone
  |none=>av
 if(<-sizeOf t)=0||a then pure (aR (<-Bp (.view s t)))else
 pure (.pointer (aa s))
def zB(u:aQ)(a:bZ):Sem aD:=do
    if(<-sizeOf u)=0||(<-By a u 1)then pure (.pointer (aa a))
    else
     match <-shape a.block with
     |some (e,_)=>
      if(<-xe).holdsStoodIn (<-xe).depth e then Jd (.unsafePointer "memory that holds a struct of a package that the model stands in for, seen as another type")
     |none=>Jd (.unsafePointer "memory that has no shape (a package-level variable that still waits for its initialiser), seen as another type")
     pure (aR (<-Bp (.view a u)))
def Uw{t:aQ}(j:vD t){a a'}(h:AR ρ a a')(f:K a.block):SR P VR ρ K (toRest t a) (toRest t a'):=by
 unfold toRest;refine SR.then (adL h.1 f) λq L x e g _ k=>?_;obtain rfl:e=x:=k;refine SR.then (jO t) λo M n l g2 _ i=>?_;obtain rfl:l=n:=i;have d:=(h.mono g).mono g2;rw[h.2.1,h.2.2]
 have fin:∀b:Bool,SR P VR o M (if b=aq then do pure (aR (<-Bp (.view a t)))else pure (.pointer (aa a))) (if b=aq then do pure (aR (<-Bp (.view a' t)))else pure (.pointer (aa a'))):=λb=>by
  cases b
  ·exact .pure (VR.ptr d)
  ·exact SR.new (.view t j d) λm p=>.pure (VR.ptr ⟨aE ⟨rfl,rfl⟩,rfl,rfl⟩)
 cases e with
 |none=>exact fin _
 |some c=>exact fin _
def Ua{t:aQ}(w:vD t){a a'}(h:AR ρ a a')(j:K a.block):SR P VR ρ K (zB t a) (zB t a'):=by
 unfold zB;refine SR.then (jO t) λE L n y g i f=>?_;obtain rfl:y=n:=f;refine SR.then (afg (h.mono g) (i _ j) t 1) λH M b o g2 u v=>?_;obtain rfl:o=b:=v;have d:=(h.mono g).mono g2;split
 ·exact .pure (VR.ptr d)
 ·refine .shape d.1 (λx=>?_) (λ_=>.lost trivial) λf=>absurd (u _ (i _ j)) f;obtain⟨e,c⟩:=x;simp only[cL];refine SR.then gU λF z p C r _ k=>?_;rw[k.1,k.2];refine SR.then gU λG A q D s _ l=>?_;rw[l.1,l.2];split
  ·exact .lost trivial
  ·exact SR.new (.view t w ((d.mono r).mono s)) λm B=>.pure (VR.ptr ⟨aE ⟨rfl,rfl⟩,rfl,rfl⟩)
def afd{x x'}(h:VR ρ x x'){d e:aQ}(k:P.underlying d=aa (.pointer e))(he:vD e)(ats):SR P VR ρ K (Dq ats d #[x]) (Dq ats d #[x']):=by
 unfold Dq;cases h with
 |fH l c=>exact .pure .gT
 |@slice a f l c i=>
  show SR P VR ρ K (if c≠0 then pure (Bh (aa a))else(viewAt a.block).bind λy=>if y.isSome=aq then pure (Bh (aa a))else do pure (aR (<-Bp (.view a (<-Bm d)))))
   (if c≠0 then pure (Bh (aa f))else(viewAt f.block).bind λy=>if y.isSome=aq then pure (Bh (aa f))else do pure (aR (<-Bp (.view f (<-Bm d)))))
  split
  ·exact .pure (VR.ptr i)
  ·refine SR.view i.1 ?_ λ_ _ _ _=>?_
   ·simp;refine SR.then (Q:=λ_ y j=>y=e/\j=e) ?_ λo L y j g _ b=>?_
    ·unfold Bm;refine SR.then (bG k) λ_ _ y j _ _ b=>?_;rw[b.1,b.2];exact .pure ⟨rfl,rfl⟩
    ·rw[b.1,b.2];exact SR.new (.view e he (i.mono g)) λm n=>.pure (VR.ptr ⟨aE ⟨rfl,rfl⟩,rfl,rfl⟩)
   ·simp;exact .pure (VR.ptr i)
 |_=>exact .lost aC
def aeK{x x'}(h:bK ρ x x')(d:x.size=1):SR P VR ρ K (Hy x) (Hy x'):=by obtain⟨a,b,rfl,rfl,c⟩:=yx h d;exact .pure c
def Zg(n t):∀(acc:aJ aD),bK ρ acc acc->bK ρ (VJ n t acc) (VJ n t acc):=by
 induction n generalizing t with
 |zero=>exact λ_ h=>h
 |succ n c=>
  intro acc h;refine c _ _ ⟨rfl,λi v d a b=>?_⟩;rw[a]at b;cases b;rw[fJ]at a;split at a
  ·cases a;exact .int _ _
  ·exact h.2 i v v a a
def aeB(ps rs){x x'}(h:bK ρ x x')(s:x.size=1):SR P VR ρ K (yG ps rs x) (yG ps rs x'):=by
 have one:∀{a b:aD},VR ρ a b->SR P VR ρ K (yG ps rs #[a]) (yG ps rs #[b]):=λ{a b} f=>by
  cases f with
  |int k n=>
   cases k
   case i64=>
    unfold yG;dsimp only;split
    ·rename_i t _;refine SR.then (CQ t) λB L d w g _ r=>?_;obtain⟨rfl,_⟩:=r;split
     ·rename_i e _;split
      ·exact uE _ _ _
      ·refine SR.then (wy _) λ_ _ c l g2 _ q=>?_;obtain rfl:l=c:=q;refine SR.then (GI _) λ_ _ _ _ y _ _=>?_;refine SR.then (wy _) λ_ _ b j z _ p=>?_;obtain rfl:j=b:=p;refine SR.then (wB e (Zg _ _ #[] ⟨rfl,λi v A m _=>by simp at m⟩)) λ_ _ a u _ _ o=>?_;exact .pure (VR.slice _ _ o)
     ·exact .lost aC
    ·exact .lost aC
   all_goals exact .lost aC
  |_=>exact .lost aC
 obtain⟨a,b,rfl,rfl,f⟩:=yx h s;exact one f
def QF{fn}(d:fn.name= "internal/abi.NoEscape")(e:fn.origin= ""):Ib fn=ay/\Ia fn=aa Hy:=by have a1:(Hz.lookup "internal/abi.NoEscape").isNone=aq:=aT;have a:(Hz.lookup "").isNone=aq:=aT;have a3:(VL.lookup "internal/abi.NoEscape").isNone=aq:=aT;have b:(VM.lookup "internal/abi.NoEscape").isNone=aq:=aT;have c:Extern.allRows.lookup "internal/abi.NoEscape" =aa Hy:=aT;rw[yU]at a1 a a3 b;unfold Ib Ia;rw[d,e];simp only[a1,a,a3,b,c];exact⟨rfl,rfl⟩
def j5{fn}(c:fn.name= "internal/bytealg.MakeNoZero")(d:fn.origin= ""):Ib fn=ay/\Ia fn=aa (yG fn.params fn.resultTypes):=by have a1:(Hz.lookup "internal/bytealg.MakeNoZero").isNone=aq:=aT;have a:(Hz.lookup "").isNone=aq:=aT;have a3:(VL.lookup "internal/bytealg.MakeNoZero").isNone=aq:=aT;have b:VM.lookup "internal/bytealg.MakeNoZero" =aa yG:=aT;rw[yU]at a1 a a3;unfold Ib Ia;rw[c,d];simp only[a1,a,a3,b];exact⟨rfl,rfl⟩
def zH(P:aY)(f:bC):Bool:=match P.funcs[f]? with
 |some a=>a.body.isNone&&a.origin== "" &&(a.name== "internal/abi.NoEscape" ||a.name== "internal/bytealg.MakeNoZero")
 |none=>av
def adI{f}(h:zH P f=aq){x x'}(o:bK ρ x x')(l:x.size=1):SR P NR ρ K (callFunc f x) (callFunc f x'):=by
 unfold zH at h;split at h
 ·rename_i i n;simp at h;obtain⟨⟨j,k⟩,h3⟩:=h;unfold callFunc;refine SR.then gU λp L a b g _ h=>?_;rw[h.1,h.2,n];dsimp only;have m:=o.mono g;rcases h3 with h3|h3
  ·have c:(i.name== "runtime.NumGoroutine")=av:=by rw[h3];decide
   obtain⟨d,e⟩:=QF h3 k;rw[c,j];simp only[eX,dQ,cV,d,e];exact SR.ext (dV (aeK m l))
  ·have c:(i.name== "runtime.NumGoroutine")=av:=by rw[h3];decide
   obtain⟨d,e⟩:=j5 h3 k;rw[c,j];simp only[eX,dQ,cV,d,e];exact SR.ext (dV (aeB _ _ m l))
 ·cases h
end
end
section
def LA:aD->Bool
 |.bool _|.int _ _|.string _|.pointer ay|.slice ay _ _|.map ay|.chan ay|.nilFunc|.nilIface=>aq
 |_=>av
def cS(l:aB bC):gY->Bool
 |.tmp _=>aq
 |.const v=>LA v
 |.global _=>av
 |.func f=>l.contains f
def mK(P:aY)(t:aQ):Bool:=match P.underlying t with|some (.slice _)=>aq|_=>av
def uv(P:aY)(t:aQ):Bool:=match P.underlying t with|some .string=>aq|_=>av
def zN(P:aY)(t:aQ):Bool:=match P.underlying t with
 |some (.int _)=>(match P.info? t with|some i=>(match i.desc with|.named n _=>n != "sync.copyChecker" |_=>aq)|none=>av)
 |_=>av
def KL(P:aY)(t:aQ):Bool:=match P.underlying t with
 |some (.slice e)=>(match P.underlying e with|some (.int .u8)=>aq|_=>av)
 |_=>av
def Co(P:aY)(t:aQ):Bool:=match P.underlying t with|some (.map k _)=>zN P k|_=>av
def KO(P:aY)(t:aQ):Bool:=match P.underlying t with|some (.struct _)=>aq|_=>av
def KN(P:aY)(t:aQ):Bool:=match P.underlying t with|some (.interface _)=>aq|_=>av
def JQ(P:aY)(t:aQ)(n:Nat):Bool:=match P.underlying t with
 |some (.struct a)=>(match a[n]? with|some f=>(match P.info? f.type with|some i=>i.size !=0|none=>av)|none=>av)
 |_=>av
def PR(P:aY)(s d:aQ):Bool:=(match P.underlying s,P.underlying d with|some (.int _),aa (.int _)=>aq|_,_=>av)||(KL P s&&uv P d)
def JE(P:aY)(t:aQ):Bool:=match P.underlying t with|some (.interface _)=>av|some _=>aq|none=>av
def Jw(P:aY)(b:Builtin)(a:aJ aQ):Bool:=match b,a.toList with
 |.append,[t,u]=>mK P t&&(mK P u||uv P u)
 |.close,_=>aq
 |.copy,[t,_]=>mK P t
 |.len,[t]=>mK P t||uv P t
 |.min,a=>a.length==2||a.length==3
 |.cap,[t]=>mK P t
 |.clear,[t]=>mK P t
 |.delete,[t,_]=>Co P t
 |.recover,_=>aq
 |.unsafeString,[_,_]=>aq
 |_,_=>av
def PC(P:aY)(l:aB bC)(c:Call):Bool:=c.args.all (cS l)&&(match c.callee with
 |.value f=>cS l f
 |.builtin b=>Jw P b c.argTypes&&c.args.size==Pu b c.argTypes
 |.invoke r name=>cS l r&&SB P l name)
def PF(l:aB bC)(c:Call):Bool:=c.args.all (cS l)&&(match c.callee with
 |.value f=>cS l f
 |_=>av)
def Ge(l:aB bC):aZ gY->Bool
 |none=>aq
 |some x=>cS l x
def FJ(P:aY)(t:aQ):Bool:=match P.underlying t with|some (.pointer _)=>aq|_=>av
def KI(P:aY)(t:aQ):Bool:=match P.underlying t with|some (.array _ _)=>aq|_=>av
def KJ(P:aY)(t:aQ):Bool:=match P.underlying t with|some .bool=>aq|_=>av
def KM(P:aY)(t:aQ):Bool:=match P.underlying t with|some (.chan _ _)=>aq|_=>av
def eqB:kY->Bool
 |.eql|.neq=>aq
 |_=>av
def SP(P:aY)(op:kY)(t:aQ):gY->Bool
 |.const .nilIface=>KN P t
 |.const (.pointer ay)=>FJ P t&&eqB op
 |.const (.slice ay _ _)=>mK P t&&eqB op
 |_=>av
def okB(P:aY)(l:aB bC)(o:Op):Bool:=match o with
 |.move x|.assign x=>cS l x
 |.pick c a b=>cS l c&&cS l a&&cS l b
 |.alloc _=>aq
 |.box _ x=>cS l x
 |.build t h=>KO P t&&h.all λp=>cS l p.2
 |.buildSlice t _ h=>mK P t&&h.all λp=>cS l p.2
 |.load _ a=>cS l a
 |.store _ a x=>cS l a&&cS l x
 |.nilCheck x=>cS l x
 |.binOp op t x y _=>cS l x&&cS l y&&(zN P t||uv P t||(KJ P t&&eqB op)||(FJ P t&&eqB op)||SP P op t y)
 |.unOp .not _ x=>cS l x
 |.unOp .neg _ x=>cS l x
 |.makeMap _ ay=>aq
 |.makeChan t x=>KM P t&&cS l x
 |.slice t x g (aa e) (aa j)=>mK P t&&cS l x&&Ge l g&&cS l e&&cS l j
 |.convert s d x=>PR P s d&&cS l x
 |.makeInterface _ x=>cS l x
 |.makeFunc (.func f) q r=>l.contains f&&q.all (cS l)&&r.all (cS l)
 |.makeSlice t a b=>mK P t&&cS l a&&cS l b
 |.slice t x g e ay=>(mK P t||uv P t||KI P t)&&cS l x&&Ge l g&&Ge l e
 |.fieldAddr t x n=>JQ P t n&&cS l x
 |.indexAddr t x i=>mK P t&&cS l x&&cS l i
 |.index t x i=>uv P t&&cS l x&&cS l i
 |.lookup t x i _=>Co P t&&cS l x&&cS l i
 |.mapUpdate t m k x=>Co P t&&cS l m&&cS l k&&cS l x
 |.typeAssert x _ t aq=>JE P t&&cS l x
 |.extract x _=>cS l x
 |.call c=>PC P l c
 |.defer c=>PF l c
 |.panic x=>cS l x
 |.select cs bl=>!bl&&(match cs.toList with|[s]=>s.send.isNone&&cS l s.chan|_=>av)
 |_=>av
abbrev A5(l:aB bC)(c:gN->Prop)(k:bC->Prop)(d:Nat)(t:Nat->aZ Obj)(P:aY):aP:=⟨λf=>l.contains f=aq,c,k,d,t,P⟩
def pO{P}{t:aQ}(h:mK P t=aq):∃e,P.underlying t=aa (.slice e):=by
 unfold mK at h;split at h
 ·rename_i e a;exact⟨e,a⟩
 ·cases h
def yq{P}{t:aQ}(h:uv P t=aq):P.underlying t=aa .string:=by
 unfold uv at h;split at h
 ·assumption
 ·cases h
def FH{P}{t:aQ}(h:zN P t=aq):∃a i,P.underlying t=aa (.int a)/\P.info? t=aa i/\∀u,i.desc≠.named "sync.copyChecker" u:=by
 unfold zN at h;split at h
 ·rename_i a d;split at h
  ·rename_i i b;refine⟨a,i,d,b,λu c=>?_⟩;rw[c]at h;simp at h
  ·cases h
 ·cases h
def Yd{P}{t:aQ}(h:KL P t=aq):∃e,P.underlying t=aa (.slice e)/\P.underlying e=aa (.int .u8):=by
 unfold KL at h;split at h
 ·rename_i e a;split at h
  ·exact⟨e,a,by assumption⟩
  ·cases h
 ·cases h
def KW{P}{t:aQ}(h:Co P t=aq):∃k e,P.underlying t=aa (.map k e)/\zN P k=aq:=by
 unfold Co at h;split at h
 ·rename_i k e a;exact⟨k,e,a,h⟩
 ·cases h
def afs{P}{t:aQ}(h:KO P t=aq):∃a,P.underlying t=aa (.struct a):=by
 unfold KO at h;split at h
 ·rename_i e b;exact⟨e,b⟩
 ·cases h
def N9{P}{t:aQ}(h:KN P t=aq):∃m,P.underlying t=aa (.interface m):=by
 unfold KN at h;split at h
 ·rename_i e a;exact⟨e,a⟩
 ·cases h
def YD{P}{t:aQ}(h:JE P t=aq):∃d,P.underlying t=aa d/\∀m,d≠.interface m:=by
 unfold JE at h;split at h
 ·cases h
 ·rename_i d a b;exact⟨d,b,λm hm=>a m (by rw[<-hm])⟩
 ·cases h
def Tg{P}{t:aQ}(h:FJ P t=aq):∃e,P.underlying t=aa (.pointer e):=by
 unfold FJ at h;split at h
 ·rename_i e a;exact⟨e,a⟩
 ·cases h
def XM{P}{t:aQ}(h:KI P t=aq):∃n e,P.underlying t=aa (.array n e):=by
 unfold KI at h;split at h
 ·rename_i n e a;exact⟨n,e,a⟩
 ·cases h
def XZ{P}{t:aQ}(h:KJ P t=aq):P.underlying t=aa .bool:=by
 unfold KJ at h;split at h
 ·assumption
 ·cases h
def Yn{P}{t:aQ}(h:KM P t=aq):∃d e,P.underlying t=aa (.chan d e):=by
 unfold KM at h;split at h
 ·rename_i d e a;exact⟨d,e,a⟩
 ·cases h
def Fc{op}(h:eqB op=aq):op=.eql\/op=.neq:=by cases op<;>first|exact aF rfl|exact aE rfl|cases h
def ZU{P}{t:aQ}{n}(h:JQ P t n=aq):∃a f i,P.underlying t=aa (.struct a)/\a[n]? =aa f/\P.info? f.type=aa i/\i.size≠0:=by
 unfold JQ at h;split at h
 ·rename_i a c;split at h
  ·rename_i f b;split at h
   ·rename_i i d;exact⟨a,f,i,c,b,d,by simpa using h⟩
   ·cases h
  ·cases h
 ·cases h
def XY{P b c}(h:Jw P b c=aq):oM P b c:=by
 rcases c with⟨c⟩;unfold Jw at h;dsimp only at h;split at h
 ·simp at h;obtain⟨e,a⟩:=pO h.1;rcases h.2 with h2|h2
  ·obtain⟨d,l⟩:=pO h2;exact .append a l (aE ⟨d,rfl⟩)
  ·exact .append a (yq h2) (aF rfl)
 ·exact .close _
 ·obtain⟨e,a⟩:=pO h;exact .copy a
 ·rw[pR]at h;rcases h with h|h
  ·obtain⟨e,a⟩:=pO h;exact .So a
  ·exact .Sq (yq h)
 ·refine .min _ ?_;simpa[pR,wW]using h
 ·obtain⟨e,a⟩:=pO h;exact .cap a
 ·obtain⟨e,a⟩:=pO h;exact .clear a
 ·obtain⟨k,e,f,h2⟩:=KW h;obtain⟨n,m,g,i,j⟩:=FH h2;exact .delete g i j f
 ·exact .recover _
 ·exact .unsafeString _ _
 ·cases h
variable [aP]
def Reads(l:aB bC)(ρ:Ren)(a b:gY->aD):Prop:=∀x,cS l x=aq->VR ρ (a x) (b x)
def Te{v}(h:LA v=aq)(ρ):VR ρ v v:=by
 unfold LA at h;split at h
 ·exact .bool _
 ·exact .int _ _
 ·exact .string _
 ·exact .gT
 ·exact .fH _ _
 ·exact .mN
 ·exact .oh
 ·exact .nilFunc
 ·exact .nilIface
 ·cases h
def Reads.args{l ρ}{d e:gY->aD}(h:Reads l ρ d e){xs:aJ gY}(c:xs.all (cS l)=aq):bK ρ (xs.map d) (xs.map e):=by
 refine⟨aC,λi v f hv b=>?_⟩;rw[fV]at hv b;cases a:xs[i]? with
 |none=>rw[a]at hv;cases hv
 |some x=>
  rw[a]at hv b;cases hv;cases b;refine h x ?_;rw[rN]at c;exact c x (mw a)
def Reads.parts{l ρ}{c d:gY->aD}(h:Reads l ρ c d){ps:aJ (Nat×gY)}(a:(ps.all λp=>cS l p.2)=aq):sN ρ (ps.map λ(i,x)=>(i,c x)).toList (ps.map λ(i,x)=>(i,d x)).toList:=by
 rw[rN]at a;rcases ps with⟨ps⟩;simp;have b:∀p∈ps,cS l p.2=aq:=λp g=>a p (by grind);clear a;unfold sN;induction ps with
 |nil=>exact .nil
 |cons p ps f=>exact .cons ⟨rfl,h _ (b p aC)⟩ (f λq e=>b q (by simp[e]))
def Reads.opt{l ρ η jP}(h:Reads l ρ η jP){x}(a:Ge l x=aq):VO ρ (x.map η) (x.map jP):=by
 cases x with
 |none=>trivial
 |some x=>exact h x a
end
section
variable [aP]
section
variable {P:aY} {ρ:Ren} {K:Kn} {l:aB bC} {η jP:gY->aD}
def adC{t:aQ}(op:kY){x y}(e:zN P t=aq\/uv P t=aq)(b:VR ρ (η x) (jP x))(hy:VR ρ (η y) (jP y)):SR P VR ρ K (do wY op t x y (η x) (η y);fD op t (η x) (η y)) (do wY op t x y (jP x) (jP y);fD op t (jP x) (jP y)):=by
 rcases e with h|h
 ·obtain⟨f,i,a,c,d⟩:=FH h;exact SR.then (Ab op a trivial x y b hy) λ_ _ _ _ g _ _=>adA op a c d (b.mono g) (hy.mono g)
 ·have a:=yq h;exact SR.then (Ab op a trivial x y b hy) λ_ _ _ _ g _ _=>adD op a (b.mono g) (hy.mono g)
def adP{s:SelectCase}(i:nj P)(h:s.send=ay)(hc:VR ρ (η s.chan) (jP s.chan)):SR P NR ρ K (do
   let cases <-#[s].mapM λs=>do pure {chan:=η s.chan,send:=s.send.map η,zero:=<-zeroValue s.elem:Hv}
   pure (.comm cases av .select)) (do
   let cases <-#[s].mapM λs=>do pure {chan:=jP s.chan,send:=s.send.map jP,zero:=<-zeroValue s.elem:Hv}
   pure (.comm cases av .select)):=by
 refine SR.then (Q:=λf y e=>∃c d,y=#[c]/\e=#[d]/\CR f c d) ?_ λ_ _ y e _ _ k=>?_
 ·rw[Aw,Aw];refine GN _ _ (Q:=λf y e=>∃c d,y=[c]/\e=[d]/\CR f c d) ?_ λ_ a b _ j=>?_
  ·simp only[uT,AS];refine SR.then (Q:=CR) ?_ λ_ _ c d _ _ hc=>?_
   ·refine SR.then (ym i s.elem) λ_ _ z n g _ m=>?_;exact .pure ⟨hc.mono g,by simp[h],by simp[h],m⟩
   ·exact .pure ⟨c,d,rfl,rfl,hc⟩
  ·obtain⟨c,d,rfl,rfl,hc⟩:=j;exact⟨c,d,rfl,rfl,hc⟩
 ·obtain⟨c,d,rfl,rfl,hc⟩:=k;exact .pure (.comm hc)
def CP(z:nj P)(hF:zm P)(N:∀f,l.contains f=aq->aP.ok f)(hR:Reads l ρ η jP)(V:∀F:gY->aD,F=η->∀v,F (.const v)=v)(W:∀F:gY->aD,F=jP->∀v,F (.const v)=v){o:dK}(j:okB P l o.op=aq):SR P NR ρ K (execOp η o) (execOp jP o):=by
 obtain⟨R,op,ty,pos,O,U⟩:=o;have B:∀{α:Prop},okB P l op=av->α:=λh=>by grind
 replace j:=j
 unfold execOp;cases op with
 |move x=>exact .pure (.value (hR x j))
 |assign x=>exact .pure (.value (hR x j))
 |pick c a b=>
  simp only[okB,cE]at j;exact aeP (hR _ j.1.1) (hR _ j.1.2) (hR _ j.2)
 |alloc t=>exact dV (adv z t)
 |box t x=>exact dV (adE (hR x j) t)
 |build t ps=>
  simp only[okB,cE]at j;obtain⟨T,Y⟩:=afs j.1;exact dV (adF z Y (hR.parts j.2))
 |buildSlice t n ps=>
  simp only[okB,cE]at j;obtain⟨e,q⟩:=pO j.1;exact dV (adG z q n (hR.parts j.2))
 |load t a=>exact dV (aet (hR a j) t)
 |store t a x=>
  simp only[okB,cE]at j;exact Uy (aeX (hR _ j.1) (hR _ j.2) t)
 |nilCheck x=>exact aeJ (hR x j) (op:=⟨R,.nilCheck x,ty,pos,O,U⟩) rfl rfl rfl
 |binOp op t x y yt=>
  simp only[okB,cE,pR]at j;obtain⟨⟨w,A⟩,h⟩:=j;rcases h with((h|h)|h)|h
  ·exact dV (adC op h (hR _ w) (hR _ A))
  ·have E:=XZ h.1;exact dV (SR.then (Ab op E trivial x y (hR _ w) (hR _ A)) λ_ _ _ _ g _ _=>Ub (Fc h.2) ((hR _ w).mono g) ((hR _ A).mono g) (adY E ((hR _ w).mono g) ((hR _ A).mono g)))
  ·obtain⟨e,E⟩:=Tg h.1;exact dV (SR.then (Ab op E trivial x y (hR _ w) (hR _ A)) λ_ _ _ _ g _ _=>Ub (Fc h.2) ((hR _ w).mono g) ((hR _ A).mono g) (aeb E ((hR _ w).mono g) ((hR _ A).mono g)))
  ·have p:=hR x w;have I:=V η rfl;have J:=W jP rfl;have aI:=hR y A;dsimp only;unfold SP at h;split at h
   ·obtain⟨m,hm⟩:=N9 h;rw[I,J];exact dV (SR.then (adX op t x p) λ_ _ _ _ g _ _=>adB op hm (p.mono g))
   ·simp only[cE]at h;obtain⟨e,q⟩:=Tg h.1;rw[I,J];exact dV (SR.then (Ab op q trivial x _ p .gT) λ_ _ _ _ g _ _=>Uc (Fc h.2) (aF rfl) (p.mono g) (aec q (p.mono g)))
   ·simp only[cE]at h;obtain⟨e,q⟩:=pO h.1;rw[I,J];exact dV (SR.then (Ab op q trivial x _ p (.fH _ _)) λ_ _ _ _ g _ _=>Uc (Fc h.2) (aE ⟨_,_,rfl⟩) (p.mono g) (aed q _ _ (p.mono g)))
   ·cases h
 |unOp op t x=>
  cases op
  case not=>exact dV (aeL (hR x j))
  case neg=>exact dV (aeI (hR x j))
  all_goals exact B rfl
 |convert s d x=>
  simp only[okB,PR,cE,pR]at j;rcases j.1 with h|h
  ·split at h
   ·rename_i p u;exact dV (adS p u (hR x j.2))
   ·cases h
  ·obtain⟨e,q,Z⟩:=Yd h.1;exact dV (adR q (yq h.2) Z (hR x j.2))
 |makeInterface t x=>exact dV (aez (hR x j) t)
 |makeFunc S xs ys=>
  cases S
  case func f=>
   simp only[okB,cE]at j;exact dV (aey (.func f (N f j.1.1)) (hR.args j.1.2) (hR.args j.2))
  all_goals exact B rfl
 |makeSlice t a b=>
  simp only[okB,cE]at j;obtain⟨e,q⟩:=pO j.1.1;exact dV (aeC z q (hR _ j.1.2) (hR _ j.2))
 |slice t x lo M mx=>
  cases mx with
  |some m=>
   cases M with
   |none=>exact B rfl
   |some M=>
    simp only[okB,cE]at j;obtain⟨e,q⟩:=pO j.1.1.1.1;exact dV (aeS (hR _ j.1.1.1.2) (hR.opt j.1.1.2) (hR _ j.1.2) (hR _ j.2) q)
  |none=>
   simp only[okB,cE,pR]at j;have w:=hR _ j.1.1.2;have p:=hR.opt j.1.2;have u:=hR.opt j.2;rcases j.1.1.1 with(h|h)|h
   ·obtain⟨e,q⟩:=pO h;exact dV (Ut q aC λσ L g=>aeU (w.mono g) (p.mono g) (u.mono g) q)
   ·exact dV (Ut (yq h) aC λσ L g=>aeV (w.mono g) (p.mono g) (u.mono g) (yq h))
   ·obtain⟨n,e,q⟩:=XM h;exact dV (aeT w p u q)
 |makeMap t r=>
  cases r with
  |none=>exact dV (aeA t)
  |some r=>exact B rfl
 |makeChan t x=>
  simp only[okB,cE]at j;obtain⟨d,e,q⟩:=Yn j.1;exact dV (aex q (hR _ j.2))
 |fieldAddr t x n=>
  simp only[okB,cE]at j;obtain⟨T,f,i,p,u,C,D⟩:=ZU j.1;exact dV (aeg (hR _ j.2) p u C D)
 |indexAddr t x i=>
  simp only[okB,cE]at j;obtain⟨e,q⟩:=pO j.1.1;exact dV (aei (hR _ j.1.2) (hR _ j.2) q)
 |index t x i=>
  simp only[okB,cE]at j;exact dV (aej (hR _ j.1.2) (hR _ j.2) (yq j.1.1))
 |lookup t x i ok=>
  simp only[okB,cE]at j;obtain⟨k,e,p,u⟩:=KW j.1.1;obtain⟨κ,ki,C,D,H⟩:=FH u;exact dV (aew C D H z p (hR _ j.1.2) (hR _ j.2) ok)
 |mapUpdate t m k x=>
  simp only[okB,cE]at j;obtain⟨kt,e,p,u⟩:=KW j.1.1.1;obtain⟨κ,ki,C,D,H⟩:=FH u;exact Uy (aeE C D H p (hR _ j.1.1.2) (hR _ j.1.2) (hR _ j.2))
 |typeAssert x xt t ok=>
  cases ok with
  |false=>exact B rfl
  |true=>
   simp only[okB,cE]at j;obtain⟨d,p,u⟩:=YD j.1;exact dV (afb z (hR _ j.2) p u)
 |extract x n=>exact dV (aef (hR x j) n)
 |call c=>
  obtain⟨G,args,Q⟩:=c;simp only[okB,PC,cE]at j;cases G with
  |value f=>exact Ug hF (hR f j.2) (hR.args j.1)
  |builtin b=>
   simp only[cE,wW]at j;exact adH z (XY j.2.1) _ _ (hR.args j.1) (by grind)
  |invoke r m=>
   simp only[cE]at j;show SR P NR ρ K (invoke (.fn (.method m) #[]) (#[η r]++args.map η)) (invoke (.fn (.method m) #[]) (#[jP r]++args.map jP));exact aen hF (V3 N j.2.2) (hR _ j.2.1) (hR.args j.1)
 |defer c=>
  obtain⟨G,args,Q⟩:=c;simp only[okB,PF,cE]at j;cases G with
  |value f=>exact SR.then (Ur (hR f j.2) (hR.args j.1)) λ_ _ _ _ _ _ X=>.pure (.defer X)
  |builtin b=>cases j.2
  |invoke r m=>cases j.2
 |panic x=>exact dV (aeM (hR x j))
 |select cs bl=>
  cases bl with
  |true=>exact B rfl
  |false=>
   rcases cs with⟨cs⟩
   match cs,j with
   |[s],j=>
    have j:(s.send.isNone&&cS l s.chan)=aq:=j;simp only[cE,yU]at j;exact adP z j.1 (hR _ j.2)
 |_=>exact B rfl
end
end
section
variable [aP] {S:Nat->Prop}
abbrev Whole(S:Nat->Prop)(ρ:Ren)(w:az):Prop:=(∀a b,ρ a b->(¬S b/\∃o,w.heap[a]? =aa o/\o≠cm)\/(S b/\w.heap[a]? =aa cm))/\∀b,S b->∃a,ρ a b
def Whole.all{ρ w}(h:Whole S ρ w):∀a b,ρ a b->(¬S b/\∃o,w.heap[a]? =aa o/\o≠cm)\/(S b/\w.heap[a]? =aa cm):=h.1
def Whole.has{ρ w}(h:Whole S ρ w):∀b,S b->∃a,ρ a b:=h.2
def Whole.own{ρ w}(h:Whole S ρ w){a b}(d:ρ a b){o}(f:w.heap[a]? =aa o)(e:o≠cm):¬S b:=by
 rcases h.all a b d with c|⟨_,c⟩
 ·exact c.1
 ·rw[f]at c;cases c;exact absurd rfl e
def gP(S:Nat->Prop)(ρ:Ren)(e:jw):Prop:=match e.loc with
 |.cell a=>∃x,ρ x a.block/\¬S a.block
 |.obj r=>∃x,ρ x r/\¬S r
 |.mark .noRoom=>True
 |.mark (.extern _)=>True
 |.output=>True
 |_=>False
def gP.mono{ρ σ}(h:ρ.le σ){e}(k:gP S ρ e):gP S σ e:=by
 unfold gP at k⊢;split
 ·rename_i a;rw[a]at k;exact k.imp λx b=>⟨h _ _ b.1,b.2⟩
 ·rename_i a;rw[a]at k;exact k.imp λx b=>⟨h _ _ b.1,b.2⟩
 ·trivial
 ·trivial
 ·trivial
 ·rename_i c d f g i;split at k
  ·rename_i a;exact c _ a
  ·rename_i a;exact d _ a
  ·rename_i a;exact f a
  ·rename_i a;exact g _ a
  ·rename_i a;exact i a
  ·exact k
def gA(S:Nat->Prop)(ρ:Ren)(es a:aJ jw):Prop:=∃x,a=es++x/\∀e∈x,gP S ρ e
def gA.refl{ρ}(es):gA S ρ es es:=⟨#[],aC,aC⟩
def gA.push{ρ es e}(h:gP S ρ e):gA S ρ es (es.push e):=⟨#[e],aC,by simp;exact h⟩
def gA.cell{ρ es x a u v}(h:ρ x a.block)(b:¬S a.block):gA S ρ es (es.push ⟨.cell a,u,v⟩):=.push ⟨x,h,b⟩
def gA.obj{ρ es x r u v}(h:ρ x r)(a:¬S r):gA S ρ es (es.push ⟨.obj r,u,v⟩):=.push ⟨x,h,a⟩
def gA.room{ρ es u v}:gA S ρ es (es.push ⟨.mark .noRoom,u,v⟩):=.push trivial
def gA.ext{ρ es f u v}:gA S ρ es (es.push ⟨.mark (.extern f),u,v⟩):=.push trivial
def gA.many{ρ es}{x b:Nat}{t:aB bZ}{u v:Bool}(h:ρ x b)(c:¬S b)(d:∀y∈t,y.block=b):gA S ρ es (es++t.toArray.map (⟨.cell ·,u,v⟩)):=⟨_,rfl,λe a=>by obtain⟨y,f,rfl⟩:=nM.1 a;have:=d y (by simpa using f);exact⟨x,by rw[this];exact h,by rw[this];exact c⟩⟩
def gA.out{ρ es u v}:gA S ρ es (es.push ⟨.output,u,v⟩):=.push trivial
def gA.trans{ρ σ}(g:ρ.le σ){a b c}(h:gA S ρ a b)(k:gA S σ b c):gA S σ a c:=by
 obtain⟨x,rfl,f⟩:=h;obtain⟨y,rfl,i⟩:=k;refine⟨x++y,aC,λe d=>?_⟩;rcases uI.1 d with h|h
 ·exact(f e h).mono g
 ·exact i e h
def cW{α j:Type}(S:Nat->Prop)(p:aY)(Q:Ren->α->j->Prop)(ρ:Ren)(w w':az)(f:aJ jw)(r:sx α)(g:sx j×aJ jw):Prop:=
 match r with
  |.ok a d=>∃c b e x,g=(.ok b e,x)/\Q c a b/\cD p ρ c w d w' e/\Whole S c d/\gA S c f x
  |.halt (.panic v) d=>∃c i e x,g=(.halt (.panic i) e,x)/\VR c v i/\cD p ρ c w d w' e/\Whole S c d/\gA S c f x
  |.halt h _=>lq h
def Xk{α c:Type}(S:Nat->Prop)(p:aY)(Q:Ren->α->c->Prop)(ρ:Ren)(K:Kn)(s:Sem α)(d:Sem c):Prop:=
 ∀w a b,WR p ρ w a->Own K w->Whole S ρ w->cW S p Q ρ w a b (s.run p w) (d.runT p a b)
def cW.lost{α d:Type}{p Q ρ}{w w':az}{b:aJ jw}{c:sx d×aJ jw}{h:Halt}(a:lq h)(w1):cW S p Q ρ w w' b (.halt h w1:sx α) c:=by unfold cW;cases h<;>first|exact a|exact a.elim
def cW.step{α u:Type}{p Q ρ σ}{w w1 w' g:az}{d f:aJ jw}{s s1:Sem α}{q s1':Sem u}(hm:cD p ρ σ w w1 w' g)(o:gA S σ d f)(e:s.run p w=s1.run p w1)(r:q.runT p w' d=s1'.runT p g f)(h:cW S p Q σ w1 g f (s1.run p w1) (s1'.runT p g f)):cW S p Q ρ w w' d (s.run p w) (q.runT p w' d):=by
 rw[e,r];revert h;unfold cW;cases s1.run p w1 with
 |ok a t=>rintro⟨n,b,m,x,i,j,c,k,l⟩;exact⟨n,b,m,x,i,j,hm.trans c,k,o.trans c.le l⟩
 |halt h t=>
  cases h with
  |panic v=>rintro⟨n,b,m,x,i,j,c,k,l⟩;exact⟨n,b,m,x,i,j,hm.trans c,k,o.trans c.le l⟩
  |_=>intro h;exact h
def Whole.set{ρ w}(h:Whole S ρ w)(a v):Whole S ρ (w.setCell a v):=⟨λx y d=>by
 rcases h.all x y d with⟨b,c⟩|⟨b,c⟩
 ·exact aF ⟨b,Own.set (K:=(·=x)) (λr hr=>by(obtain rfl:r=x:=hr;exact c)) a v x rfl⟩
 ·refine aE ⟨b,?_⟩;simp only[fY,lO,c];split<;>rfl,h.has⟩
def Whole.freeze{ρ w}(h:Whole S ρ w)(a n):Whole S ρ (w.freeze a n):=⟨λx y d=>by
 rcases h.all x y d with⟨c,b⟩|⟨c,b⟩
 ·exact aF ⟨c,Own.freeze (K:=(·=x)) (λr hr=>by(obtain rfl:r=x:=hr;exact b)) a n x rfl⟩
 ·refine aE ⟨c,?_⟩;unfold zb;split
  ·exact b
  ·simp only[lO,b];split<;>rfl,h.has⟩
def Whole.put{ρ w}(h:Whole S ρ w){r}(e:∃x,w.heap[r]? =aa x/\x≠cm){o}(c:o≠cm):Whole S ρ {w with heap:=w.heap.setIfInBounds r o}:=⟨λx y g=>by
 rcases h.all x y g with⟨b,a⟩|⟨b,a⟩
 ·exact aF ⟨b,Own.put (K:=(·=x)) (λr hr=>by(obtain rfl:r=x:=hr;exact a)) r c x rfl⟩
 ·refine aE ⟨b,?_⟩
  have f:x≠r:=by rintro rfl;obtain⟨q,d,c⟩:=e;rw[a]at d;cases d;exact c rfl
  exact(dO (dc f)).trans a,h.has⟩
def Whole.push{ρ w w' p}(h:Whole S ρ w)(e:WR p ρ w w'){o}(g:o≠cm):Whole S (ρ.ext w.heap.size w'.heap.size) {w with heap:=w.heap.push o}:=by
 have hS:¬S w'.heap.size:=λi=>by obtain⟨a,c⟩:=h.has _ i;have:=(e.lt _ _ c).2;omega
 refine⟨?_,λb f=>(h.has b f).imp λa c=>aF c⟩;rintro a b (d|⟨rfl,rfl⟩)
 ·have j:=(e.lt _ _ d).1;rw[fJ,aK ak];exact h.all a b d
 ·exact aF ⟨hS,o,by show(w.heap.push o)[w.heap.size]? =_;simp,g⟩
def wC{α:Type}{p w m}{a:bZ}{v:aD}{k:Sem α}{es:aJ jw}(b:∀x,v≠.agg x)(c:∀x,v≠.tuple x):(sC m a v k).runT p w es=(match w.cell? a with
  |some _=>if w.frozen? a then(.halt (.unsupported (.unsafePointer "a write to bytes that a string shares")) w,es)else k.runT p (w.setCell a v) (es.push ⟨.cell a,aq,m==.atomic⟩)
  |none=>match w.farStore p a v (m==.atomic)with
   |.ok (w,d)=>k.runT p w (es++d.toArray.map (⟨.cell ·,aq,m==.atomic⟩))
   |.error h=>(.halt h w,es)):=by
 cases v<;>first|rfl|exact absurd rfl (b _)|exact absurd rfl (c _)
def dN{α j:Type}{p}{f:α->Sem j}(s:Sem α):∀(w:az) (es:aJ jw),(s.bind f).runT p w es=(match s.runT p w es with
  |(.ok a i,x)=>(f a).runT p i x
  |(.halt h i,x)=>(.halt h i,x)):=by
 induction s with
 |pure a=>intro w es;rfl
 |load m a k b=>
  intro w es;simp only[cL,dx];cases w.cell? a with
  |some v=>exact b v w _
  |none=>
   dsimp only;cases w.farLoad p a (m==.atomic)with
   |ok r=>exact b _ w _
   |error h=>rfl
 |store m a v k b=>
  intro w es
  by_cases g:(∃x,v=.agg x)\/∃x,v=.tuple x
  ·rcases g with⟨x,rfl⟩|⟨x,rfl⟩<;>rfl
  ·have d:(∀x,v≠.agg x)/\∀x,v≠.tuple x:=⟨λx e=>g (aF ⟨x,e⟩),λx e=>g (aE ⟨x,e⟩)⟩;rw[show(sC m a v k).bind f=sC m a v (k.bind f) from rfl,wC d.1 d.2,wC d.1 d.2];cases w.cell? a with
   |some u=>
    dsimp only;split
    ·rfl
    ·exact b _ _
   |none=>
    dsimp only;cases w.farStore p a v (m==.atomic)with
    |ok r=>exact b _ _
    |error h=>rfl
 |new o k b=>intro w es;exact b _ _ _
 |shape r k b=>intro w es;exact b _ _ _
 |freeze a n k b=>intro w es;exact b _ _
 |frozen a k b=>intro w es;exact b _ _ _
 |getObj r k b=>
  intro w es;simp only[cL,dx];cases w.heap[r]? with
  |none=>rfl
  |some o=>cases o<;>first|rfl|exact b _ _ _
 |setObj r o k b=>
  intro w es;simp only[cL,dx];cases w.heap[r]? with
  |none=>rfl
  |some o=>cases o<;>first|rfl|exact b _ _
 |choose q k b=>
  intro w es;simp only[cL,dx];split
  ·exact b _ _ _
  ·exact b _ _ _
 |sys c k b=>intro w es;exact b _ _ _
 |program k b=>intro w es;exact b _ _ _
 |mark m k b=>intro w es;exact b _ _
 |halt h=>intro w es;rfl
def UA{p}(w a es):(Jc a).runT p w es=(.ok (rI w a) w,es):=by
 unfold Jc rI;show(Sem.frozen a _).runT p w es=_;unfold dx;cases b:w.frozen? a with
 |true=>rfl
 |false=>
  show(IN a.block _).runT p w es=_;unfold dx;cases c:w.shape? a.block with
  |none=>rfl
  |some x=>rfl
def Cx{p:aY}(w a b es):(zh a b).runT p w es=(.ok (tg w a b) w,es):=by
 unfold zh;show(cL (Jc a) _).runT p w es=_;rw[dN,UA];show(cL (Jc b) _).runT p w es=_;rw[dN,UA];show(IN a.block _).runT p w es=_;unfold dx;show(IN b.block _).runT p w es=_;unfold dx;unfold tg emB;generalize rI w a=sa;generalize rI w b=d;cases w.shape? a.block with
 |none=>
  cases w.shape? b.block with
  |none=>rfl
  |some y=>obtain⟨t,n⟩:=y;cases n<;>rfl
 |some x=>
  obtain⟨t,n⟩:=x;cases w.shape? b.block with
  |none=>cases n<;>rfl
  |some y=>obtain⟨e,c⟩:=y;cases n<;>cases c<;>rfl
def U7{p ρ w w'}(d:WR p ρ w w'){a a' b b'}(c:AR ρ a a')(g:AR ρ b b'):tg w' a' b'=tg w a b:=by
 have key:∀{a a':bZ},AR ρ a a'->rI w' a'=rI w a/\emB w' a'=emB w a:=λ{a a'} c=>by
  unfold rI emB;rw[FG d c];obtain⟨o,f⟩:∃o,w.heap[a.block]? =aa o:=⟨_,cX (d.lt _ _ c.1).1⟩;rcases d.obj _ _ _ c.1 f with rfl|⟨v,q,r⟩
  ·obtain⟨x,t,m,h,s,u⟩:=d.calm _ _ c.1 f;have j:w'.shape? a'.block=aa (t,x.size):=by unfold gO;rw[h]
   have k:w.shape? a.block=ay:=by unfold gO;rw[f];rfl
   have l:∀n,w'.frozen? {block:=a'.block,off:=n}=av:=λn=>by have:=FG d (a:={block:=a.block,off:=n}) (a':={block:=a'.block,off:=n}) ⟨c.1,rfl,rfl⟩;rw[this];unfold oJ;rw[f];rfl
   rw[j,k];refine⟨by simp only[l],?_⟩;cases i:x.size with
   |zero=>exact absurd i s
   |succ n=>rfl
  ·have e:w'.shape? a'.block=w.shape? a.block:=by
    unfold gO;rw[f,q];cases r with
    |cells t m h=>simp only[h.1]
    |_=>rfl
   rw[e];refine⟨?_,rfl⟩;cases i:w.shape? a.block with
   |none=>rfl
   |some y=>
    obtain⟨t,n⟩:=y;simp only;rw[FG d (a:={block:=a.block,off:=n}) (a':={block:=a'.block,off:=n}) ⟨c.1,rfl,rfl⟩]
 unfold tg;rw[(key c).1,(key g).1,(key c).2,(key g).2]
def aal{p w r o}(h:w.heap[r]? =aa o)(d:∀a l,o≠.number a l){ρ}(hr:∃x,ρ x r/\¬S r)(es):∃y,(numberAt r).runT p w es=(.ok ay w,y)/\gA S ρ es y:=by
 by_cases c:∃x t b,o=aA x t b
 ·obtain⟨x,t,b,rfl⟩:=c;exact⟨es,by simp only[numberAt,shape,dx,kg,cL,gO,h,kD,yV,cV],.refl es⟩
 ·refine⟨es.push ⟨.obj r,av,o.isChan⟩,?_,.push hr⟩;cases o<;>first|exact absurd rfl (d _ _)|exact absurd ⟨_,_,_,rfl⟩ c|simp only[numberAt,shape,getObj,dx,kg,cL,gO,h,kD,ve,eX,dQ]
def aam{p w r a l}(h:w.heap[r]? =aa (.number a l)){ρ}(hr:∃x,ρ x r/\¬S r)(es):∃y,(numberAt r).runT p w es=(.ok (aa (a,l)) w,y)/\gA S ρ es y:=
 ⟨es.push ⟨.obj r,av,av⟩,by simp only[numberAt,shape,getObj,dx,kg,cL,gO,h,kD,IE,ve,eX,dQ],.push hr⟩
def agp{p w r o}(h:w.heap[r]? =aa o)(d:∀a l,o≠.view a l){ρ}(hr:∃x,ρ x r/\¬S r)(es):∃y,(viewAt r).runT p w es=(.ok ay w,y)/\gA S ρ es y:=by
 by_cases c:∃x t b,o=aA x t b
 ·obtain⟨x,t,b,rfl⟩:=c;exact⟨es,by simp only[viewAt,shape,dx,kg,cL,gO,h,kD,yV,cV],.refl es⟩
 ·refine⟨es.push ⟨.obj r,av,o.isChan⟩,?_,.push hr⟩;cases o<;>first|exact absurd rfl (d _ _)|exact absurd ⟨_,_,_,rfl⟩ c|simp only[viewAt,shape,getObj,dx,kg,cL,gO,h,kD,ve,eX,dQ]
def agr{p w r a}{t:aQ}(h:w.heap[r]? =aa (.view a t)){ρ}(hr:∃x,ρ x r/\¬S r)(es):∃y,(viewAt r).runT p w es=(.ok (aa (a,t)) w,y)/\gA S ρ es y:=
 ⟨es.push ⟨.obj r,av,av⟩,by simp only[viewAt,shape,getObj,dx,kg,cL,gO,h,kD,IE,ve,eX,dQ],.push hr⟩
def aak{p w r}(h:Calm w.heap[r]?)(es):(numberAt r).runT p w es=(.ok ay w,es):=by obtain⟨x,t,a,h,_⟩:=h;simp only[numberAt,shape,dx,kg,cL,gO,h,kD,yV,cV]
def ago{p w r}(h:Calm w.heap[r]?)(es):(viewAt r).runT p w es=(.ok ay w,es):=by obtain⟨x,t,a,h,_⟩:=h;simp only[viewAt,shape,dx,kg,cL,gO,h,kD,yV,cV]
def SR.uA{α β:Type}{p Q ρ}{K:Kn}{s:Sem α}{s':Sem β}(h:SR p Q ρ K s s'):Xk S p Q ρ K s s':=by
 induction h with
 |pure h=>exact λw g B d _ j=>⟨_,_,_,_,rfl,h,cD.refl d,j,.refl _⟩
 |@load ρ K m a I k A E _ C=>
  intro w g B d z i;cases H:w.cell? a with
  |some v=>
   obtain⟨v',W,hv⟩:=EP d E H;obtain⟨o,j,D⟩:=rD H;exact cW.step (cD.refl d) (.cell (u:=av) (v:=m==.atomic) E.1 (i.own E.1 j D)) (by simp only[Sem.run,H]) (by simp only[dx,W]) (C v v' hv w g _ d (z.and j D) i)
  |none=>
   rcases Qw d E (m==.atomic)with⟨x,G,Z⟩|⟨v,t,t',b,b',o,G,aC,hv,W,ht,V,⟨ob,pG,uq⟩,j,xN⟩
   ·have e:(Sem.load m a k).run p w=.halt x w:=by simp only[Sem.run,H,G]
    rw[e];exact cW.lost Z w
   ·exact cW.step (cD.refl d) (.many (u:=av) (v:=m==.atomic) V (i.own V pG uq) ht) (by simp only[Sem.run,H,G]) (by simp only[dx,W,aC]) (C v v hv w g _ d (z.and j xN) i)
 |@store ρ K m a I v v' k A E hv _ C=>
  intro w g B d z i
  by_cases h1:(∃x,v=.agg x)\/∃x,v=.tuple x
  ·have e:∃P,(sC m a v k).run p w=.halt (.stuck P) w:=by
    rcases h1 with⟨x,rfl⟩|⟨x,rfl⟩<;>exact⟨_,rfl⟩
   obtain⟨P,e⟩:=e;rw[e];trivial
  ·have D:(∀x,v≠.agg x)/\∀x,v≠.tuple x:=⟨λx e=>h1 (aF ⟨x,e⟩),λx e=>h1 (aE ⟨x,e⟩)⟩
   have aG:(∀x,v'≠.agg x)/\∀x,v'≠.tuple x:=by
    constructor
    ·rintro x rfl;cases hv;exact D.1 _ rfl
    ·rintro x rfl;cases hv;exact D.2 _ rfl
   cases H:w.cell? a with
   |some u=>
    obtain⟨u',W,_⟩:=EP d E H;obtain⟨o,j,N⟩:=rD H;have aU:g.frozen? I=w.frozen? a:=C2 d E H;cases hf:w.frozen? a with
    |true=>
     have e:(sC m a v k).run p w=.halt (.unsupported (.unsafePointer "a write to bytes that a string shares")) w:=by rw[wD D.1 D.2,H];simp only[hf,cV]
     rw[e];trivial
    |false=>
     have e:(sC m a v k).run p w=k.run p (w.setCell a v):=by rw[wD D.1 D.2,H];simp[hf]
     have R:(sC m I v' A).runT p g B=A.runT p (g.setCell I v') (B.push ⟨.cell I,aq,m==.atomic⟩):=by rw[wC aG.1 aG.2,W];simp[aU,hf]
     exact cW.step (cD.set d E hv H) (.cell E.1 (i.own E.1 j N)) e R (C _ _ _ (d.set E hv H) ((z.and j N).set a v) (i.set a v))
   |none=>
    rcases Qx d E hv (m==.atomic)with⟨x,G,Z⟩|⟨b,b',o1,SW,t,t',o,G,aC,F,W,ht,V,⟨ob,pG,uq⟩,j,xN⟩
    ·have e:(sC m a v k).run p w=.halt x w:=by rw[wD D.1 D.2,H];simp only[G]
     rw[e];exact cW.lost Z w
    ·have hm:=cD.put d V F ⟨ob,pG,uq⟩;have e:(sC m a v k).run p w=k.run p {w with heap:=w.heap.setIfInBounds b o1}:=by rw[wD D.1 D.2,H];simp only[G]
     have R:(sC m I v' A).runT p g B=A.runT p {g with heap:=g.heap.setIfInBounds b' SW} (B++t'.toArray.map (⟨.cell ·,aq,m==.atomic⟩)):=by rw[wC aG.1 aG.2,W];simp only[aC]
     exact cW.step hm (.many V (i.own V pG uq) ht) e R (C _ _ _ hm.rel ((z.and j xN).put b (gq F)) (i.put ⟨ob,pG,uq⟩ (gq F)))
 |@new ρ K o J k A j _ C=>
  intro w g B d z i;have hm:=cD.new d j;exact cW.step hm (.refl _) rfl rfl (C _ _ _ _ _ hm.rel (z.push (gq j)) (i.push d (gq j)))
 |@shape ρ K r L k A hr _ _ h1 C xQ=>
  intro w g B d z i;cases U:w.shape? r with
  |none=>
   by_cases aL:K r
   ·have aO:g.shape? L=ay:=by
     obtain⟨o,j,D⟩:=z r aL;rcases d.obj _ _ _ hr j with hp|⟨J,O,F⟩
     ·exact absurd hp D
     ·unfold gO at U⊢;rw[j]at U;rw[O];cases F<;>simp_all
    exact cW.step (s1:=k ay) (s1':=A ay) (cD.refl d) (.refl _) (by simp only[Sem.run,U]) (by simp only[dx,aO]) (xQ aL w g _ d z i)
   ·obtain⟨x,G,Z⟩:=h1 aL;have e:(IN r k).run p w=.halt x w:=by simp only[Sem.run,U,G]
    rw[e];exact cW.lost Z w
  |some x=>
   have aO:g.shape? L=aa x:=adb d hr U
   have j:∃o,w.heap[r]? =aa o/\o≠cm:=by
    unfold gO at U;split at U
    ·rename_i c t T H;exact⟨_,H,by intro e;cases e⟩
    ·cases U
   obtain⟨o,j,D⟩:=j;exact cW.step (s1:=k (aa x)) (s1':=A (aa x)) (cD.refl d) (.refl _) (by simp only[Sem.run,U]) (by simp only[dx,aO]) (C x w g _ d (z.and j D) i)
 |@freeze ρ K a I n k A E X _ C=>
  intro w g B d z i;have hm:=cD.freeze d E n (z _ X);exact cW.step hm (.refl _) rfl rfl (C _ _ _ hm.rel (z.freeze a n) (i.freeze a n))
 |@frozen ρ K a I k A E X _ C=>
  intro w g B d z i;have hf:=QY d E (z _ X);exact cW.step (s1:=k (w.frozen? a)) (s1':=A (w.frozen? a)) (cD.refl d) (.refl _) rfl (by simp only[dx,hf]) (C _ w g _ d z i)
 |@getObj ρ K r L k A hr _ h0 C=>
  intro w g B d z i;obtain⟨o,j⟩:∃o,w.heap[r]? =aa o:=⟨_,cX (d.lt _ _ hr).1⟩
  by_cases M:∃x t T,o=aA x t T
  ·obtain⟨x,t,T,rfl⟩:=M;have e:∃P,(Bf r k).run p w=.halt (.stuck P) w:=⟨ "getObj: a row of cells",by simp only[Sem.run,j]⟩;obtain⟨P,e⟩:=e;rw[e];trivial
  ·have e:(Bf r k).run p w=(k o).run p w:=by
    simp only[Sem.run,j];cases o<;>first|rfl|exact absurd ⟨_,_,_,rfl⟩ M
   rcases d.obj _ _ _ hr j with rfl|⟨J,O,F⟩
   ·obtain⟨x,G,Z⟩:=h0;rw[e,G];exact cW.lost Z w
   ·have R:(Bf L A).runT p g B=(A J).runT p g (B.push ⟨.obj L,av,J.isChan⟩):=by
     simp only[dx,O];cases F<;>first|rfl|exact absurd ⟨_,_,_,rfl⟩ M
    exact cW.step (cD.refl d) (.obj hr (i.own hr j (gq F))) e R (C o J F w g _ d (z.and j (gq F)) i)
 |@setObj ρ K r L o J k A hr X j _ C=>
  intro w g B d z i;obtain⟨x,G,xP⟩:=z r X;rcases d.obj _ _ _ hr G with hp|⟨x',aC,F⟩
  ·exact absurd hp xP
  ·have hm:=cD.put d hr j ⟨x,G,xP⟩
   by_cases M:∃y t T,x=aA y t T
   ·obtain⟨y,t,T,rfl⟩:=M;have e:∃P,(Od r o k).run p w=.halt (.stuck P) w:=⟨ "setObj: a row of cells",by simp only[Sem.run,G]⟩;obtain⟨P,e⟩:=e;rw[e];trivial
   ·have e:(Od r o k).run p w=k.run p {w with heap:=w.heap.setIfInBounds r o}:=by
     simp only[Sem.run,G];cases x<;>first|rfl|exact absurd ⟨_,_,_,rfl⟩ M
    have R:(Od L J A).runT p g B=A.runT p {g with heap:=g.heap.setIfInBounds L J} (B.push ⟨.obj L,aq,J.isChan⟩):=by simp only[dx,aC];cases F<;>first|rfl|exact absurd ⟨_,_,_,rfl⟩ M
    exact cW.step hm (.obj hr (i.own hr G xP)) e R (C _ _ _ hm.rel (z.put r (gq j)) (i.put ⟨x,G,xP⟩ (gq j)))
 |@choose ρ K q k A _ C=>
  intro w g B d z i
  by_cases hq:q.forced=aq
  ·exact cW.step (s1:=k 0) (s1':=A 0) (cD.refl d) (.refl _) (by simp only[Sem.run,hq,cV]) (by simp only[dx,hq,cV]) (C 0 w g _ d z i)
  ·have ht:g.tape g.drawn q=w.tape w.drawn q:=d.tape 0 q;have hm:=cD.draw d;exact cW.step (s1:=k (q.cut (w.tape w.drawn q))) (s1':=A (q.cut (w.tape w.drawn q))) hm (.refl _) (by simp only[Sem.run,hq,dQ,eX]) (by simp only[dx,hq,dQ,ht,eX]) (C _ _ _ _ hm.rel z i)
 |@program ρ K k A _ C=>
  intro w g B d z i;exact cW.step (cD.refl d) (.refl _) rfl rfl (C w g _ d z i)
 |@env ρ K k A _ C=>
  intro w g B d z i;exact cW.step (s1:=k (.strings w.os.env)) (s1':=A (.strings w.os.env)) (cD.refl d) (.out (u:=aq) (v:=av)) rfl (by rw[<-d.os.1];rfl) (C _ w g _ d z i)
 |@noRoom ρ K k A _ C=>
  intro w g B d z i;exact cW.step (cD.refl d) .room rfl rfl (C w g _ d z i)
 |panic h=>exact λw g B d _ i=>⟨_,_,_,_,rfl,h,cD.refl d,i,.refl _⟩
 |lost h=>exact λw g B _ _ _=>cW.lost h w
 |vP h=>
  intro w g B _ _ _;obtain⟨x,w1,e,G⟩:=h w;rw[e];exact cW.lost G w1
 |assume _ C=>exact λw g B d z i=>C ⟨d.one,d.low,d.os.2⟩ w g B d z i
 |@number ρ K r L k A hr _ _ xQ aP=>
  intro w g B d z i;obtain⟨o,j⟩:∃o,w.heap[r]? =aa o:=⟨_,cX (d.lt _ _ hr).1⟩;rcases d.obj _ _ _ hr j with rfl|⟨J,O,F⟩
  ·have e:(numberAt r).run p w=.ok ay w:=Gc j (λa l e=>by cases e);exact cW.step (s1:=k ay) (s1':=A ay) (cD.refl d) (.refl _) (by rw[gw,e];rfl) (by rw[dN,aak (d.calm _ _ hr j)]) (xQ w g _ d z i)
  ·have N:=gq F
   by_cases D:∃a l,o=.number a l
   ·obtain⟨a,l,rfl⟩:=D;cases F with
    |@number _ I _ E=>
     obtain⟨y,hy,Y⟩:=aam (p:=p) O ⟨_,hr,i.own hr j N⟩ B;exact cW.step (s1:=k (aa (a,l))) (s1':=A (aa (I,l))) (cD.refl d) Y (by rw[gw,SV j];rfl) (by rw[dN,hy]) (aP a I l E w g _ d (z.and j (by intro e;cases e)) i)
   ·have e:(numberAt r).run p w=.ok ay w:=Gc j (λa l e=>D ⟨a,l,e⟩);obtain⟨y,hy,Y⟩:=aal (p:=p) O (λa l e=>by subst e;cases F;exact D ⟨_,_,rfl⟩) ⟨_,hr,i.own hr j N⟩ B;exact cW.step (s1:=k ay) (s1':=A ay) (cD.refl d) Y (by rw[gw,e];rfl) (by rw[dN,hy]) (xQ w g _ d z i)
 |@icy ρ K a I k A E _ C=>
  intro w g B d z i;exact cW.step (s1:=k (w.frozen? a)) (s1':=A (w.frozen? a)) (cD.refl d) (.refl _) rfl (by simp only[dx,(FG d E)]) (C _ w g _ d z i)
 |@kin ρ K a I b b' k A E V _ C=>
  intro w g B d z i;have e:(zh a b).run p w=.ok (tg w a b) w:=by rw[<-ji p _ w #[],Cx]
  exact cW.step (s1:=k (tg w a b)) (s1':=A (tg w a b)) (cD.refl d) (.refl _) (by rw[gw,e];rfl) (by rw[dN,Cx,U7 d E V]) (C _ w g _ d z i)
 |@Cb ρ K r L k A hr X _ C=>
  intro w g B d z i;obtain⟨o,j,N⟩:=z r X
  by_cases M:∃x t T,o=aA x t T
  ·obtain⟨x,t,T,rfl⟩:=M;have e:∃P,(Bf r k).run p w=.halt (.stuck P) w:=⟨ "getObj: a row of cells",by simp only[Sem.run,j]⟩;obtain⟨P,e⟩:=e;rw[e];trivial
  ·have e:(Bf r k).run p w=(k o).run p w:=by
    simp only[Sem.run,j];cases o<;>first|rfl|exact absurd ⟨_,_,_,rfl⟩ M
   rcases d.obj _ _ _ hr j with rfl|⟨J,O,F⟩
   ·exact absurd rfl N
   ·have R:(Bf L A).runT p g B=(A J).runT p g (B.push ⟨.obj L,av,J.isChan⟩):=by
     simp only[dx,O];cases F<;>first|rfl|exact absurd ⟨_,_,_,rfl⟩ M
    exact cW.step (cD.refl d) (.obj hr (i.own hr j N)) e R (C o J F w g _ d z i)
 |@ext ρ K f k A _ C=>
  intro w g B d z i;exact cW.step (cD.refl d) .ext rfl rfl (C w g _ d z i)
 |@view ρ K r L k A hr _ _ xQ aP=>
  intro w g B d z i;obtain⟨o,j⟩:∃o,w.heap[r]? =aa o:=⟨_,cX (d.lt _ _ hr).1⟩;rcases d.obj _ _ _ hr j with rfl|⟨J,O,F⟩
  ·have e:(viewAt r).run p w=.ok ay w:=He j (λa t e=>by cases e);exact cW.step (s1:=k ay) (s1':=A ay) (cD.refl d) (.refl _) (by rw[gw,e];rfl) (by rw[dN,ago (d.calm _ _ hr j)]) (xQ w g _ d z i)
  ·have N:=gq F
   by_cases D:∃a t,o=.view a t
   ·obtain⟨a,t,rfl⟩:=D;cases F with
    |@view _ I _ _ E=>
     obtain⟨y,hy,Y⟩:=agr (p:=p) O ⟨_,hr,i.own hr j N⟩ B;exact cW.step (s1:=k (aa (a,t))) (s1':=A (aa (I,t))) (cD.refl d) Y (by rw[gw,Va j];rfl) (by rw[dN,hy]) (aP a I t E w g _ d (z.and j (by intro e;cases e)) i)
   have e:(viewAt r).run p w=.ok ay w:=He j (λa t e=>D ⟨a,t,e⟩);obtain⟨y,hy,Y⟩:=agp (p:=p) O (λa t e=>by subst e;cases F;exact D ⟨_,_,rfl⟩) ⟨_,hr,i.own hr j N⟩ B;exact cW.step (s1:=k ay) (s1':=A ay) (cD.refl d) Y (by rw[gw,e];rfl) (by rw[dN,hy]) (xQ w g _ d z i)
end
abbrev _root_.Go.World.tp(w:az)(a:Nat->jS->Nat):az:={w with tape:=a}
def kE(d c:Nat->jS->Nat)(a b:Nat):Prop:=∀i q,a<=i->i<b->d i q=c i q
def kE.sub{τ σ a b a' b'}(h:kE τ σ a b)(e:a<=a')(f:b'<=b):kE τ σ a' b':=λi q c d=>h i q (dM e c) (dI d f)
def _root_.Go.Result.world{α:Type}:sx α->az
 |.ok _ w=>w
 |.halt _ w=>w
def _root_.Go.Result.tp{α:Type}(b:Nat->jS->Nat):sx α->sx α
 |.ok a w=>.ok a (w.tp b)
 |.halt h w=>.halt h (w.tp b)
structure kK(w w1:az):Prop where
 drawn:w.drawn<=w1.drawn
 tape:w1.tape=w.tape
def kK.refl(w):kK w w:=⟨bD _,rfl⟩
def kK.trans{a b c}(h:kK a b)(k:kK b c):kK a c:=⟨dM h.drawn k.drawn,k.tape.trans h.tape⟩
def ed{α:Type}(p:aY)(s:Sem α)(w:az):Prop:=
 (∃x c,s.run p w=.halt x c/\lq x)\/(kK w (s.run p w).world/\∀a b,kE b w.tape w.drawn (s.run p w).world.drawn->s.runT p (w.tp b) a=((s.runT p w a).1.tp b,(s.runT p w a).2))
def ed.step{α:Type}{p}{s s1:Sem α}{w w1:az}(f:kK w w1)(e:s.run p w=s1.run p w1)
  (h:∀b,∃c,s.runT p w b=s1.runT p w1 c/\∀a,kE a w.tape w.drawn (s1.run p w1).world.drawn->kK w1 (s1.run p w1).world->s.runT p (w.tp a) b=s1.runT p (w1.tp a) c) (k:ed p s1 w1):ed p s w:=by
 rcases k with⟨x,o,m,l⟩|⟨g,n⟩
 ·exact aF ⟨x,o,e.trans m,l⟩
 ·refine aE ⟨by rw[e];exact f.trans g,λb a d=>?_⟩;rw[e]at d;obtain⟨c,i,j⟩:=h b;rw[j a d g,i];exact n c a (by rw[f.tape];exact d.sub f.drawn (bD _))
def Mc(w:az)(b:Nat->jS->Nat)(a:bZ)(v:aD):(w.tp b).setCell a v=(w.setCell a v).tp b:=rfl
def B9(w:az)(b:Nat->jS->Nat)(a:bZ)(n:Nat):(w.tp b).freeze a n=(w.freeze a n).tp b:=by unfold zb;split<;>rfl
def B8(w a n):kK w (w.freeze a n):=by
 unfold zb;split
 ·exact .refl w
 ·exact⟨bD _,rfl⟩
def ZP{p}(w:az)(b:Nat->jS->Nat)(a:bZ)(v:aD)(m:Bool):(w.tp b).farStore p a v m=match w.farStore p a v m with|.ok (d,t)=>.ok (d.tp b,t)|.error h=>.error h:=by
 have hv:∀at_ u,(w.tp b).viewStore p at_ u a v m=match w.viewStore p at_ u a v m with|.ok (d,t)=>.ok (d.tp b,t)|.error h=>.error h:=λat_ u=>by
  unfold Xa;have e:(w.tp b).seen p at_ u a m=w.seen p at_ u a m:=rfl;simp only[bind,Ds,pure,Dt,e];have f:∀{g:Type} (s:String),(AY s:Except String g)=.error s:=λ_=>rfl;simp only[f]
  repeat' (split<;>try rfl)
  all_goals simp_all
 unfold WY;split
 ·rename_i x y c;have c:=c;rw[c];dsimp only;rw[hv];cases w.viewStore p x y a v m<;>rfl
 ·rename_i o c;split
  ·rename_i h;cases h
  ·rename_i h;rw[<-h];rfl
def aan{p r a l}(es):∃y,∀v:az,v.heap[r]? =aa (.number a l)->(numberAt r).runT p v es=(.ok (aa (a,l)) v,y):=
 ⟨es.push ⟨.obj r,av,av⟩,λv hv=>by simp only[numberAt,shape,getObj,dx,kg,cL,gO,hv,kD,ve,eX,dQ,IE]⟩
def SU{p r o}(d:∀a l,o≠.number a l)(es):∃y,∀v:az,v.heap[r]? =aa o->(numberAt r).runT p v es=(.ok ay v,y):=by
 by_cases c:∃x t b,o=aA x t b
 ·obtain⟨x,t,b,rfl⟩:=c;exact⟨es,λv hv=>by simp only[numberAt,shape,dx,kg,cL,gO,hv,kD,yV,cV]⟩
 ·refine⟨es.push ⟨.obj r,av,o.isChan⟩,λv hv=>?_⟩;cases o<;>first|exact absurd rfl (d _ _)|exact absurd ⟨_,_,_,rfl⟩ c|simp only[numberAt,shape,getObj,dx,kg,cL,gO,hv,kD,ve,eX,dQ]
def ags{p r a}{t:aQ}(es):∃y,∀v:az,v.heap[r]? =aa (.view a t)->(viewAt r).runT p v es=(.ok (aa (a,t)) v,y):=
 ⟨es.push ⟨.obj r,av,av⟩,λv hv=>by simp only[viewAt,shape,getObj,dx,kg,cL,gO,hv,kD,ve,eX,dQ,IE]⟩
def agq{p r o}(d:∀a l,o≠.view a l)(es):∃y,∀v:az,v.heap[r]? =aa o->(viewAt r).runT p v es=(.ok ay v,y):=by
 by_cases c:∃x t b,o=aA x t b
 ·obtain⟨x,t,b,rfl⟩:=c;exact⟨es,λv hv=>by simp only[viewAt,shape,dx,kg,cL,gO,hv,kD,yV,cV]⟩
 ·refine⟨es.push ⟨.obj r,av,o.isChan⟩,λv hv=>?_⟩;cases o<;>first|exact absurd rfl (d _ _)|exact absurd ⟨_,_,_,rfl⟩ c|simp only[viewAt,shape,getObj,dx,kg,cL,gO,hv,kD,ve,eX,dQ]
section
variable [aP] {S:Nat->Prop}
def SR.loc{α β:Type}{p Q ρ}{K:Kn}{s:Sem α}{s':Sem β}(h:SR p Q ρ K s s'):∀w A,WR p ρ w A->Own K w->Whole S ρ w->ed p s w:=by
 induction h with
 |pure h=>exact λw A _ _ _=>aE ⟨.refl w,λ_ _ _=>rfl⟩
 |@load ρ K m a N k G H _ C=>
  intro w A d i z;cases F:w.cell? a with
  |some v=>
   obtain⟨v',Ko,hv⟩:=EP d H F;obtain⟨o,g,D⟩:=rD F;refine ed.step (s1:=k v) (.refl w) (by simp only[Sem.run,F]) (λj=>⟨_,by simp only[dx,F];rfl,λB _ _=>?_⟩) (C v v' hv w A d (i.and g D) z);have P:(w.tp B).cell? a=aa v:=F;simp only[dx,P]
  |none=>
   rcases Qw d H (m==.atomic)with⟨x,E,R⟩|⟨v,t,t',b,b',o,E,aR,hv,Ko,ht,hb,⟨ob,pG,uq⟩,g,xN⟩
   ·exact aF ⟨x,w,by simp only[Sem.run,F,E],R⟩
   ·refine ed.step (s1:=k v) (.refl w) (by simp only[Sem.run,F,E]) (λj=>⟨_,by simp only[dx,F,E];rfl,λB _ _=>?_⟩) (C v v hv w A d (i.and g xN) z);have P:(w.tp B).cell? a=ay:=F;have KG:(w.tp B).farLoad p a (m==.atomic)=.ok (v,t):=E;simp only[dx,P,KG]
 |@store ρ K m a N v v' k G H hv _ C=>
  intro w A d i z
  by_cases X:(∃x,v=.agg x)\/∃x,v=.tuple x
  ·rcases X with⟨x,rfl⟩|⟨x,rfl⟩<;>exact aF ⟨_,w,rfl,trivial⟩
  ·have D:(∀x,v≠.agg x)/\∀x,v≠.tuple x:=⟨λx e=>X (aF ⟨x,e⟩),λx e=>X (aE ⟨x,e⟩)⟩;cases F:w.cell? a with
   |some u=>
    obtain⟨u',Ko,_⟩:=EP d H F;obtain⟨o,g,aj⟩:=rD F;cases hf:w.frozen? a with
    |true=>exact aF ⟨.unsupported (.unsafePointer "a write to bytes that a string shares"),w,by rw[wD D.1 D.2,F];simp only[hf,cV],trivial⟩
    |false=>
     refine ed.step (s1:=k) (w1:=w.setCell a v) ⟨bD _,rfl⟩ (by rw[wD D.1 D.2,F];simp[hf]) (λj=>⟨j.push ⟨.cell a,aq,m==.atomic⟩,by rw[wC D.1 D.2,F];simp[hf],λB _ _=>?_⟩) (C _ _ (d.set H hv F) ((i.and g aj).set a v) (z.set a v));have P:(w.tp B).cell? a=aa u:=F;have aO:(w.tp B).frozen? a=av:=hf;rw[wC D.1 D.2,P];simp only[aO,eX,dQ];rfl
   |none=>
    rcases Qx d H hv (m==.atomic)with⟨x,E,R⟩|⟨b,b',o1,SW,t,t',o,E,aR,L,Ko,ht,hb,⟨ob,pG,uq⟩,g,xN⟩
    ·exact aF ⟨x,w,by rw[wD D.1 D.2,F];simp only[E],R⟩
    ·have hm:=cD.put d hb L ⟨ob,pG,uq⟩;refine ed.step (s1:=k) (w1:={w with heap:=w.heap.setIfInBounds b o1}) ⟨bD _,rfl⟩ (by rw[wD D.1 D.2,F];simp only[E]) (λj=>⟨j++t.toArray.map (⟨.cell ·,aq,m==.atomic⟩),by rw[wC D.1 D.2,F];simp only[E],λB _ _=>?_⟩) (C _ _ hm.rel ((i.and g xN).put b (gq L)) (z.put ⟨ob,pG,uq⟩ (gq L)));have P:(w.tp B).cell? a=ay:=F
     have KG:(w.tp B).farStore p a v (m==.atomic)=.ok ({w.tp B with heap:=w.heap.setIfInBounds b o1},t):=by have e:=ZP (p:=p) w B a v (m==.atomic);rw[E]at e;exact e
     rw[wC D.1 D.2,P];simp only[KG]
 |@new ρ K o T k G g _ C=>
  intro w A d i z;have hm:=cD.new d g;exact ed.step (s1:=k w.heap.size) (w1:={w with heap:=w.heap.push o}) ⟨bD _,rfl⟩ rfl (λj=>⟨j,rfl,λB _ _=>rfl⟩) (C _ _ _ _ hm.rel (i.push (gq g)) (z.push d (gq g)))
 |@shape ρ K r Z k G hr _ _ X C W=>
  intro w A d i z;cases M:w.shape? r with
  |none=>
   by_cases aH:K r
   ·refine ed.step (s1:=k ay) (.refl w) (by simp only[Sem.run,M]) (λj=>⟨j,by simp only[dx,M],λB _ _=>?_⟩) (W aH w A d i z);have iN:(w.tp B).shape? r=ay:=M;simp only[dx,iN]
   ·obtain⟨x,E,R⟩:=X aH;exact aF ⟨x,w,by simp only[Sem.run,M,E],R⟩
  |some x=>
   have g:∃o,w.heap[r]? =aa o/\o≠cm:=by
    unfold gO at M;split at M
    ·rename_i c t O F;exact⟨_,F,by intro e;cases e⟩
    ·cases M
   obtain⟨o,g,D⟩:=g;refine ed.step (s1:=k (aa x)) (.refl w) (by simp only[Sem.run,M]) (λj=>⟨j,by simp only[dx,M],λB _ _=>?_⟩) (C x w A d (i.and g D) z);have iN:(w.tp B).shape? r=aa x:=M;simp only[dx,iN]
 |@freeze ρ K a N n k G H U _ C=>
  intro w A d i z;have hm:=cD.freeze d H n (i _ U);exact ed.step (s1:=k) (w1:=w.freeze a n) (B8 w a n) rfl (λj=>⟨j,rfl,λB _ _=>by rw[<-B9];rfl⟩) (C _ _ hm.rel (i.freeze a n) (z.freeze a n))
 |@frozen ρ K a N k G H U _ C=>
  intro w A d i z;exact ed.step (s1:=k (w.frozen? a)) (.refl w) rfl (λj=>⟨j,rfl,λB _ _=>rfl⟩) (C _ w A d i z)
 |@getObj ρ K r Z k G hr _ h0 C=>
  intro w A d i z;obtain⟨o,g⟩:∃o,w.heap[r]? =aa o:=⟨_,cX (d.lt _ _ hr).1⟩
  by_cases I:∃x t O,o=aA x t O
  ·obtain⟨x,t,O,rfl⟩:=I;exact aF ⟨.stuck "getObj: a row of cells",w,by simp only[Sem.run,g],trivial⟩
  ·rcases d.obj _ _ _ hr g with rfl|⟨T,ak,L⟩
   ·obtain⟨x,E,R⟩:=h0;refine aF ⟨x,w,?_,R⟩;simp only[Sem.run,g,cm];rw[<-cm,E];rfl
   ·refine ed.step (s1:=k o) (.refl w) ?_ (λj=>⟨j.push ⟨.obj r,av,o.isChan⟩,?_,λB _ _=>?_⟩) (C o T L w A d (i.and g (gq L)) z)
    ·simp only[Sem.run,g];cases o<;>first|rfl|exact absurd ⟨_,_,_,rfl⟩ I
    ·simp only[dx,g];cases o<;>first|rfl|exact absurd ⟨_,_,_,rfl⟩ I
    ·have Y:(w.tp B).heap[r]? =aa o:=g;simp only[dx,Y];cases o<;>first|rfl|exact absurd ⟨_,_,_,rfl⟩ I
 |@setObj ρ K r Z o T k G hr U g _ C=>
  intro w A d i z;obtain⟨x,E,xP⟩:=i r U;have hm:=cD.put d hr g ⟨x,E,xP⟩
  by_cases I:∃y t O,x=aA y t O
  ·obtain⟨y,t,O,rfl⟩:=I;exact aF ⟨.stuck "setObj: a row of cells",w,by simp only[Sem.run,E],trivial⟩
  ·refine ed.step (s1:=k) (w1:={w with heap:=w.heap.setIfInBounds r o}) ⟨bD _,rfl⟩ ?_ (λj=>⟨j.push ⟨.obj r,aq,o.isChan⟩,?_,λB _ _=>?_⟩) (C _ _ hm.rel (i.put r (gq g)) (z.put ⟨x,E,xP⟩ (gq g)))
   ·simp only[Sem.run,E];cases x<;>first|rfl|exact absurd ⟨_,_,_,rfl⟩ I
   ·simp only[dx,E];cases x<;>first|rfl|exact absurd ⟨_,_,_,rfl⟩ I
   ·have Y:(w.tp B).heap[r]? =aa x:=E;simp only[dx,Y];cases x<;>first|rfl|exact absurd ⟨_,_,_,rfl⟩ I
 |@choose ρ K q k G _ C=>
  intro w A d i z
  by_cases V:q.forced=aq
  ·exact ed.step (s1:=k 0) (.refl w) (by simp only[Sem.run,V,cV]) (λj=>⟨j,by simp only[dx,V,cV],λB _ _=>by simp only[dx,V,cV]⟩) (C 0 w A d i z)
  ·have hm:=cD.draw d;refine ed.step (s1:=k (q.cut (w.tape w.drawn q))) (w1:={w with drawn:=w.drawn+1}) ⟨kB _,rfl⟩ (by simp only[Sem.run,V,dQ,eX]) (λj=>⟨j,by simp only[dx,V,dQ,eX],λB hA g=>?_⟩) (C _ _ _ hm.rel i z);have e:B w.drawn q=w.tape w.drawn q:=hA _ _ (bD _) (dI (yS _) g.drawn);simp only[dx,V,dQ,eX,e]
 |@program ρ K k G _ C=>
  intro w A d i z;exact ed.step (s1:=k p) (.refl w) rfl (λj=>⟨j,rfl,λB _ _=>rfl⟩) (C w A d i z)
 |@env ρ K k G _ C=>
  intro w A d i z;exact ed.step (s1:=k (.strings w.os.env)) (.refl w) rfl (λj=>⟨_,rfl,λB _ _=>rfl⟩) (C _ w A d i z)
 |@noRoom ρ K k G _ C=>
  intro w A d i z;exact ed.step (s1:=k) (.refl w) rfl (λj=>⟨_,rfl,λB _ _=>rfl⟩) (C w A d i z)
 |panic h=>exact λw A _ _ _=>aE ⟨.refl w,λ_ _ _=>rfl⟩
 |lost h=>exact λw A _ _ _=>aF ⟨_,w,rfl,h⟩
 |vP h=>
  intro w A _ _ _;obtain⟨x,w1,e,E⟩:=h w;exact aF ⟨x,w1,e,E⟩
 |assume _ C=>exact λw A d i z=>C ⟨d.one,d.low,d.os.2⟩ w A d i z
 |@number ρ K r Z k G hr _ _ W an=>
  intro w A d i z;obtain⟨o,g⟩:∃o,w.heap[r]? =aa o:=⟨_,cX (d.lt _ _ hr).1⟩;rcases d.obj _ _ _ hr g with rfl|⟨T,ak,L⟩
  ·have D:∀a l,cm≠.number a l:=λa l e=>by cases e
   refine ed.step (s1:=k ay) (.refl w) (by rw[gw,Gc g D];rfl) (λj=>?_) (W w A d i z);obtain⟨y,J⟩:=SU (p:=p) (r:=r) D j;exact⟨y,by rw[dN,J w g],λB _ _=>by rw[dN,J (w.tp B) g]⟩
  ·by_cases D:∃a l,o=.number a l
   ·obtain⟨a,l,rfl⟩:=D;cases L with
    |@number _ N _ H=>
     refine ed.step (s1:=k (aa (a,l))) (.refl w) (by rw[gw,SV g];rfl) (λj=>?_) (an a N l H w A d (i.and g (by intro e;cases e)) z);obtain⟨y,J⟩:=aan (p:=p) (r:=r) (a:=a) (l:=l) j;exact⟨y,by rw[dN,J w g],λB _ _=>by rw[dN,J (w.tp B) g]⟩
   ·refine ed.step (s1:=k ay) (.refl w) (by rw[gw,Gc g (λa l e=>D ⟨a,l,e⟩)];rfl) (λj=>?_) (W w A d i z);obtain⟨y,J⟩:=SU (p:=p) (r:=r) (λa l e=>D ⟨a,l,e⟩) j;exact⟨y,by rw[dN,J w g],λB _ _=>by rw[dN,J (w.tp B) g]⟩
 |@icy ρ K a N k G H _ C=>
  intro w A d i z;exact ed.step (s1:=k (w.frozen? a)) (.refl w) rfl (λj=>⟨j,rfl,λB _ _=>rfl⟩) (C _ w A d i z)
 |@kin ρ K a N b b' k G H hb _ C=>
  intro w A d i z;have e:(zh a b).run p w=.ok (tg w a b) w:=by rw[<-ji p _ w #[],Cx]
  exact ed.step (s1:=k (tg w a b)) (.refl w) (by rw[gw,e];rfl) (λj=>⟨j,by rw[dN,Cx],λB _ _=>by rw[dN,Cx];rfl⟩) (C _ w A d i z)
 |@Cb ρ K r Z k G hr U _ C=>
  intro w A d i z;obtain⟨o,g,aj⟩:=i r U
  by_cases I:∃x t O,o=aA x t O
  ·obtain⟨x,t,O,rfl⟩:=I;exact aF ⟨.stuck "getObj: a row of cells",w,by simp only[Sem.run,g],trivial⟩
  ·rcases d.obj _ _ _ hr g with rfl|⟨T,ak,L⟩
   ·exact absurd rfl aj
   ·refine ed.step (s1:=k o) (.refl w) ?_ (λj=>⟨j.push ⟨.obj r,av,o.isChan⟩,?_,λB _ _=>?_⟩) (C o T L w A d i z)
    ·simp only[Sem.run,g];cases o<;>first|rfl|exact absurd ⟨_,_,_,rfl⟩ I
    ·simp only[dx,g];cases o<;>first|rfl|exact absurd ⟨_,_,_,rfl⟩ I
    ·have Y:(w.tp B).heap[r]? =aa o:=g;simp only[dx,Y];cases o<;>first|rfl|exact absurd ⟨_,_,_,rfl⟩ I
 |@ext ρ K f k G _ C=>
  intro w A d i z;exact ed.step (s1:=k) (.refl w) rfl (λj=>⟨_,rfl,λB _ _=>rfl⟩) (C w A d i z)
 |@view ρ K r Z k G hr _ _ W an=>
  intro w A d i z;obtain⟨o,g⟩:∃o,w.heap[r]? =aa o:=⟨_,cX (d.lt _ _ hr).1⟩
  by_cases hv:∃a t,o=.view a t
  ·obtain⟨a,t,rfl⟩:=hv;rcases d.obj _ _ _ hr g with h|⟨T,ak,L⟩
   ·cases h
   ·cases L with
    |@view _ N _ _ H=>
     refine ed.step (s1:=k (aa (a,t))) (.refl w) (by rw[gw,Va g];rfl) (λj=>?_) (an a N t H w A d (i.and g (by intro e;cases e)) z);obtain⟨y,J⟩:=ags (p:=p) (r:=r) (a:=a) (t:=t) j;exact⟨y,by rw[dN,J w g],λB _ _=>by rw[dN,J (w.tp B) g]⟩
  have D:∀a t,o≠.view a t:=λa t e=>hv ⟨a,t,e⟩
  ·refine ed.step (s1:=k ay) (.refl w) (by rw[gw,He g D];rfl) (λj=>?_) (W w A d i z);obtain⟨y,J⟩:=agq (p:=p) (r:=r) D j;exact⟨y,by rw[dN,J w g],λB _ _=>by rw[dN,J (w.tp B) g]⟩
end
section
variable [aP]
def qS(v:aD):Prop:=∀a:Ren,VR a v v
def zR:Nat->aD->Bool
 |_,.bool _|_,.int _ _|_,.string _|_,.pointer ay|_,.slice ay _ _|_,.map ay|_,.chan ay|_,.nilFunc|_,.nilIface=>aq
 |n+1,.agg a=>a.all (zR n)
 |n+1,.tuple a=>a.all (zR n)
 |_,_=>av
def EF{xs}(h:∀v∈xs,qS v):qS (.agg xs):=λc=>.agg rfl λi v d a b=>by rw[a]at b;cases b;exact h v (mw a) c
def XP{xs}(h:∀v∈xs,qS v):qS (.tuple xs):=λc=>.tuple rfl λi v d a b=>by rw[a]at b;cases b;exact h v (mw a) c
def aaT:∀(n:Nat) (v:aD),zR n v=aq->qS v:=by
 intro n;induction n with
 |zero=>
  intro v h a;unfold zR at h;split at h<;>first|exact .bool _|exact .int _ _|exact .string _|exact .gT|exact .fH _ _|exact .mN|exact .oh|exact .nilFunc|exact .nilIface|cases h|contradiction
 |succ n b=>
  intro v h;unfold zR at h;split at h
  all_goals first
   |exact λa=>.bool _
   |exact λa=>.int _ _
   |exact λa=>.string _
   |exact λa=>.gT
   |exact λa=>.fH _ _
   |exact λa=>.mN
   |exact λa=>.oh
   |exact λa=>.nilFunc
   |exact λa=>.nilIface
   |(rename_i e;cases e;exact EF λv hv=>b v (rN.1 h v hv))
   |(rename_i e;cases e;exact XP λv hv=>b v (rN.1 h v hv))
   |cases h
def Pw{v}(h:qS v):∀x∈v.cells,qS x:=λx b c=>by obtain⟨i,a⟩:=Array.mem_iff_getElem?.1 b;exact(h c).cells.2 i x x a a
def xz(i:jD):Prop:=∀z,i.zero=aa z->qS z
def Aq(d:jC)(s:String)(c n){z}(h:qS z):xz (Made.word d s z c n):=λa e=>by cases e;exact h
def QV{α c:Type}{Inv:c->Prop}{f:α->c->aZ (ForInStep c)}(hf:∀a s r,Inv s->f a s=aa r->Inv r.value):∀(xs:aB α) (s r:c),Inv s->forIn xs s f=aa r->Inv r
 |[],s,r,d,h=>by simp only[List.forIn_nil]at h;cases h;exact d
 |a::xs,s,r,d,h=>by
  rw[List.forIn_cons]at h;obtain⟨x,g,e⟩:=eO.1 h;have:=hf a s x d g;cases x with
  |done b=>cases e;exact this
  |yield b=>exact QV hf xs b r this e
def afu{k:aQ->aZ jD}{f:aJ Field}{i:jD}(m:∀t j,k t=aa j->xz j)(h:NL k f=aa i):xz i:=by
 unfold NL at h;obtain⟨s,g,h⟩:=eO.1 h;rw[<-Vv]at g;have o:=QV (Inv:=λs=>∀d:aJ aD,s.2.2.2.2.2.2.2.1=aa d->∀v∈d,qS v) (λa s r hI b=>?_) f.toList _ s (λd e v hv=>by cases e;simp at hv) g
 ·dsimp only at h;split at h
  all_goals
   cases h;intro z e;obtain⟨d,b,rfl⟩:=eV.1 e;exact EF (o d b)
 ·obtain⟨j,n,b⟩:=eO.1 b
  have fin:∀{c:Nat} {d:aJ aD},(if c>Made.mostCells then ay else do pure ((<-s.2.2.2.2.2.2.2.1)++(<-j.zero).cells))=aa d->∀v∈d,qS v:=λ{c d} e v hv=>by
   split at e
   ·cases e
   ·obtain⟨q,h0,e⟩:=eO.1 e;obtain⟨u,l,e⟩:=eO.1 e;cases e;rcases uI.1 hv with hv|hv
    ·exact hI q h0 v hv
    ·exact Pw (m _ _ n u l) v hv
  dsimp only at b;split at b
  ·cases b
  ·split at b
   ·cases b
   ·split at b
    ·obtain⟨p,_,b⟩:=eO.1 b;split at b<;>(cases b;exact λd e=>fin e)
    ·obtain⟨p,_,b⟩:=eO.1 b;split at b<;>(cases b;exact λd e=>fin e)
def abD{c:aQ->aZ jD}(b:∀t j,c t=aa j->xz j){d:jC}{i:jD}(h:Iz c d=aa i):xz i:=by
 unfold Iz at h;cases d with
 |pointer e=>
  obtain⟨j,_,h⟩:=eO.1 h;split at h
  ·cases h
  ·split at h
   ·cases h
   ·obtain⟨s,_,h⟩:=eO.1 h;cases h;exact Aq _ _ _ _ λ_=>.gT
  ·obtain⟨s,_,h⟩:=eO.1 h;cases h;exact Aq _ _ _ _ λ_=>.gT
 |slice e=>
  obtain⟨j,_,h⟩:=eO.1 h;obtain⟨s,_,h⟩:=eO.1 h;cases h;exact Aq _ _ _ _ λ_=>.fH _ _
 |map k e=>
  obtain⟨j,_,h⟩:=eO.1 h;obtain⟨s,_,h⟩:=eO.1 h;obtain⟨j,_,h⟩:=eO.1 h;obtain⟨s,_,h⟩:=eO.1 h;cases h;exact Aq _ _ _ _ λ_=>.mN
 |chan m e=>
  obtain⟨j,_,h⟩:=eO.1 h;obtain⟨s,_,h⟩:=eO.1 h;cases h;exact Aq _ _ _ _ λ_=>.oh
 |func p q v=>
  obtain⟨s,_,h⟩:=eO.1 h;cases h;exact Aq _ _ _ _ λ_=>.nilFunc
 |array n e=>
  obtain⟨j,f,h⟩:=eO.1 h;obtain⟨s,_,h⟩:=eO.1 h;cases h;intro z a;dsimp only at a;split at a
  ·cases a
  ·split at a
   ·cases a;exact EF λv hv=>by simp at hv
   ·obtain⟨l,h0,rfl⟩:=eV.1 a;refine EF λv hv=>?_;obtain⟨x,g,hv⟩:=Array.mem_flatten.1 hv;obtain rfl:=Array.eq_of_mem_replicate g;exact Pw (b _ _ f l h0) v hv
 |struct o=>exact afu b h
 |_=>cases h
def MV(P:aY):Bool:=P.types.all λi=>match i.zero with|some z=>zR 16 z|none=>aq
def ahg{P}(h:MV P=aq):nj P:=by
 have c:∀{t:aQ} {i:jD},P.types[t]? =aa i->xz i:=λ{t i} k z b=>by have:=rN.1 h i (mw k);rw[b]at this;exact aaT 16 z this
 have m:∀(n:Nat) (t:aQ) (i:jD),NK P.toTables n t=aa i->xz i:=by
  intro n;induction n with
  |zero=>intro t i h;cases h
  |succ n l=>
   intro t i h;unfold NK at h;split at h
   ·exact c h
   ·obtain⟨d,_,f⟩:=eO.1 h;exact abD (λt j g=>l t j g) f
 intro t i z a b e;unfold WM at a;split at a
 ·exact c a z b e
 ·exact m _ _ _ a z b e
end
end
section
open Go.Conc
def zO:Op->Bool
 |.defer _=>av
 |_=>aq
def rC(P:aY)(l:aB bC)(r:Bool)(o:Op):Bool:=okB P l o&&(!r||zO o)
def Al(P:aY)(l:aB bC)(o:dK):Bool:=match o.op with
 |.call c=>(match c.callee,c.args.toList with
  |.builtin .unsafeSliceData,[x]=>cS l x&&(match P.underlying o.type with|some (.pointer e)=>GB P e|_=>av)
  |.value (.func f),[x]=>cS l x&&zH P f
  |_,_=>av)
 |_=>av
def tr(P:aY)(l:aB bC)(r:Bool)(o:dK):Bool:=rC P l r o.op||Al P l o
def UR(P:aY)(l:aB bC)(h j k:dK):Bool:=match h.op,j.op,k.op with
 |.convert s d x,.call c,.convert m o y=>(match c.callee,c.args.toList,h.dst,j.dst,y with
   |.value (.func f),[.tmp a],aa b,aa e,.tmp g=>a==b&&e==g&&zH P f&&(match P.funcs[f]? with|some n=>n.name== "internal/abi.NoEscape" |none=>av)
   |_,_,_,_,_=>av)
  &&d==m&&s==o&&cS l x&&(match P.underlying s,P.underlying d with|some (.pointer t),aa .unsafePointer=>GB P t&&(match P.info? t with|some i=>i.size !=0|none=>av)|_,_=>av)
  &&h.guard.isNone&&j.guard.isNone&&k.guard.isNone
 |_,_,_=>av
def spB(P:aY)(l:aB bC)(ops:aJ dK):Bool:=match ops.toList with
 |[a,b,c,d,e,f,g,h]=>rC P l aq a.op&&rC P l aq b.op&&rC P l aq f.op&&rC P l aq g.op&&rC P l aq h.op&&UR P l c d e
 |_=>av
def KX(s:String):Bool:=match s.toList with
 |[]=>aq
 |c::_=>c.toNat==120
def eK(P:aY)(l:aB bC):Bool->gN->Bool
 |_,.skip|_,.exit _|_,.ret=>aq
 |r,.region _ d dr=>(d.all (tr P l r))||(!dr&&spB P l d)
 |r,.seq a b=>eK P l r a&&eK P l r b
 |r,.cond c a b=>cS l c&&eK P l r a&&eK P l r b
 |r,.block _ b=>eK P l r b
 |r,.loop b=>eK P l r b
 |_,.rangeFunc f _ a b=>cS l f&&eK P l aq a&&eK P l aq b
 |_,.refuse s=>!KX s
 |_,.scope _|_,.label _|_,.goto _=>av
def zQ{P l r o}(h:rC P l aq o=aq):rC P l r o=aq:=by
 unfold rC at h⊢;cases r
 ·simp at h;simp[h.1]
 ·exact h
def aax{P l r o}(h:tr P l aq o=aq):tr P l r o=aq:=by unfold tr at h⊢;rw[pR]at h⊢;exact h.imp zQ id
def xW{P l r}:∀{c:gN},eK P l aq c=aq->eK P l r c=aq
 |.skip,_|.exit _,_|.ret,_=>by cases r<;>rfl
 |.refuse _,h=>h
 |.region _ d dr,h=>by
  have h:(d.all (tr P l aq)||(!dr&&spB P l d))=aq:=h;show(d.all (tr P l r)||(!dr&&spB P l d))=aq;rw[pR]at h⊢;rcases h with h|h
  ·left;rw[rN]at h⊢;exact λo e=>aax (h o e)
  ·exact aE h
 |.seq a b,h=>by simp only[eK,cE]at h⊢;exact⟨xW h.1,xW h.2⟩
 |.cond c a b,h=>by simp only[eK,cE]at h⊢;exact⟨⟨h.1.1,xW h.1.2⟩,xW h.2⟩
 |.block _ b,h=>by simp only[eK]at h⊢;exact xW h
 |.loop b,h=>by simp only[eK]at h⊢;exact xW h
 |.rangeFunc f _ a b,h=>by simp only[eK]at h⊢;exact h
 |.scope _,h|.label _,h|.goto _,h=>by simp[eK]at h
class bw where
 wall:String->fW
 good:∀s,(∃c,wall s=.code c)\/∃c,wall s=.inLoop c
section
variable [aP] [bw]
structure Fit(P:aY)(l:aB bC):Prop where
 zeros:nj P
 fns:zm P
 ok:∀f,aP.ok f↔l.contains f=aq
 code:∀c,aP.code c↔eK P l aq c=aq
 body:∀f,l.contains f=aq->∃fn c,P.funcs[f]? =aa fn/\fn.body=aa c/\eK P l av c=aq
 inits:∀f,aP.known f->P.inits.idxOf? f=ay
 known:∀f,aP.known f->∃fn c,P.funcs[f]? =aa fn/\fn.body=aa c
 aaq:∀f,aP.ok f->aP.known f
 prog:P=aP.prog
inductive IR(P:aY)(l:aB bC)(ρ:Ren)(r:Bool):fW->fW->Prop
 |code {c:gN} (h:eK P l r c=aq):IR P l ρ r (.code c) (.code c)
 |inBlock (id:Nat):IR P l ρ r (.inBlock id) (.inBlock id)
 |inLoop {b:gN} (h:eK P l r b=aq):IR P l ρ r (.inLoop b) (.inLoop b)
 |inRegion {ops:aJ dK} (todo:aB Nat) (h:ops.all (tr P l r)=aq):IR P l ρ r (.inRegion ops todo) (.inRegion ops todo)
 |spec {ops:aJ dK} (n:Nat) (h:spB P l ops=aq):IR P l ρ r (.inRegion ops ((dH ops.size).drop n)) (.inRegion ops ((dH ops.size).drop n))
 |inRangeFunc {n a:Nat} (h:ρ n a):IR P l ρ r (.inRangeFunc n) (.inRangeFunc a)
 |endRangeFunc {n a:Nat} (h:ρ n a):IR P l ρ r (.endRangeFunc n) (.endRangeFunc a)
 |beginRound:IR P l ρ r .beginRound .beginRound
 |stop (s:String):IR P l ρ r (.code (.refuse s)) (bw.wall s)
def sO(ρ:Ren)(e a:ia):Prop:=VR ρ e.v a.v/\a.recovered=e.recovered/\e.goexit=av/\a.goexit=av
inductive qi(ρ:Ren):Ie->Ie->Prop
 |run:qi ρ .run .run
 |returning:qi ρ .returning .returning
 |panicking {c a:aB ia} (h:dh (sO ρ) c a):qi ρ (.panicking c) (.panicking a)
structure cy(P:aY)(l:aB bC)(ρ:Ren)(fr a:aV):Prop where
 fn:a.fn=fr.fn
 ok:aP.known fr.fn
 tmps:bK ρ fr.tmps a.tmps
 todo:dh (IR P l ρ fr.roundOf.isSome) fr.todo a.todo
 defers:dh (DR ρ) fr.defers a.defers
 mode:qi ρ fr.mode a.mode
 kind:a.kind=fr.kind
 kinds:fr.kind=.normal\/fr.kind=.deferred
 round:xu ρ fr.roundOf a.roundOf
def dh.mono{α e:Type}{R S}(h:∀a b,R a b->S a b){x:aB α}{y:aB e}(k:dh R x y):dh S x y:=by
 induction k with
 |nil=>exact .nil
 |cons c _ d=>exact .cons (h _ _ c) d
def dh.append{α c:Type}{R x}{y:aB c}{a:aB α}{b:aB c}(k:dh R x y)(f:dh R a b):dh R (x++a) (y++b):=by
 induction k with
 |nil=>exact f
 |cons d _ e=>exact .cons d e
def IR.mono{P l ρ σ r}(g:ρ.le σ){a b}(h:IR P l ρ r a b):IR P l σ r a b:=by
 cases h with
 |code h=>exact .code h
 |inBlock id=>exact .inBlock id
 |inLoop h=>exact .inLoop h
 |inRegion t h=>exact .inRegion t h
 |spec n h=>exact .spec n h
 |inRangeFunc h=>exact .inRangeFunc (g _ _ h)
 |endRangeFunc h=>exact .endRangeFunc (g _ _ h)
 |beginRound=>exact .beginRound
 |stop s=>exact .stop s
def sO.mono{ρ σ}(g:ρ.le σ){a b}(h:sO ρ a b):sO σ a b:=⟨h.1.mono g,h.2⟩
def qi.mono{ρ σ}(g:ρ.le σ){a b:Ie}(h:qi ρ a b):qi σ a b:=by
 cases h with
 |run=>exact .run
 |returning=>exact .returning
 |panicking h=>exact .panicking (h.mono λ_ _=>sO.mono g)
def xu.mono{ρ σ}(g:ρ.le σ){a b}(h:xu ρ a b):xu σ a b:=by
 cases h with
 |none=>exact .none
 |some h=>exact .some (g _ _ h)
def cy.mono{P l}{ρ c:Ren}(g:ρ.le c){a b:aV}(h:cy P l ρ a b):cy P l c a b:=
 ⟨h.fn,h.ok,h.tmps.mono g,h.todo.mono λ_ _=>IR.mono g,h.defers.mono λ_ _=>DR.mono g,h.mode.mono g,h.kind,h.kinds,h.round.mono g⟩
def cy.eval{P l ρ fr fr'}(h:cy P l ρ fr fr')(e:∀f,l.contains f=aq->aP.ok f):Reads l ρ fr.eval fr'.eval:=by
 intro x c;cases x with
 |tmp t=>
  show VR ρ (fr.tmps.getD t au) (fr'.tmps.getD t au)
  by_cases a:t<fr.tmps.size
  ·have b:t<fr'.tmps.size:=by rw[h.tmps.1];exact a
   simp;exact h.tmps.2 t _ _ (by simp[a]) (by simp[b])
  ·have b:¬t<fr'.tmps.size:=by rw[h.tmps.1];exact a
   simp only[pQ,a,b,gK,IX];exact .tuple rfl (λi v d hv=>by simp at hv)
 |const v=>exact Te c ρ
 |global g=>cases c
 |func f=>exact .func (.func f (e f c)) rfl (λi v d hv=>by simp at hv) rfl (λi v d hv=>by simp at hv)
def uH(ρ):VR ρ au au:=.tuple rfl (λi v a hv=>by simp at hv)
def cy.finish{P l ρ fr fr'}(h:cy P l ρ fr fr'){v v'}(hv:VR ρ v v'):cy P l ρ (fr.finish v) (fr'.finish v'):=by
 have h0:=h;obtain⟨m,o,g,b,p,q,r,t,u⟩:=h;unfold Frame.finish;revert b;cases E:fr.todo with
 |nil=>intro b;cases z:fr'.todo with
  |nil=>exact h0
  |cons a k=>rw[z]at b;cases b
 |cons i k=>
  intro b;cases y:fr'.todo with
  |nil=>rw[y]at b;cases b
  |cons F G=>
   rw[y]at b;cases b with
   |cons B w=>
    cases B with
    |@inRegion f D x=>
     cases D with
     |nil=>exact h0
     |cons j rest=>
      refine⟨m,o,?_,.cons (.inRegion rest x) w,p,q,r,t,u⟩;show bK ρ (match(f[j]?).bind (·.dst)with|some d=>fr.tmps.setIfInBounds d v|none=>fr.tmps) (match(f[j]?).bind (·.dst)with|some d=>fr'.tmps.setIfInBounds d v'|none=>fr'.tmps);cases (f[j]?).bind (·.dst)with
      |none=>exact g
      |some d=>exact g.set hv d
    |@spec f n x=>
     cases A:(dH f.size).drop n with
     |nil=>exact h0
     |cons j rest=>
      have hr:rest=(dH f.size).drop (n+1):=by rw[<-List.tail_drop,A];rfl
      refine⟨m,o,?_,.cons (by rw[hr];exact .spec (n+1) x) w,p,q,r,t,u⟩;show bK ρ (match(f[j]?).bind (·.dst)with|some d=>fr.tmps.setIfInBounds d v|none=>fr.tmps) (match(f[j]?).bind (·.dst)with|some d=>fr'.tmps.setIfInBounds d v'|none=>fr'.tmps);cases (f[j]?).bind (·.dst)with
      |none=>exact g
      |some d=>exact g.set hv d
    |inRangeFunc C=>exact⟨m,o,g,.cons (.endRangeFunc C) w,p,q,r,t,u⟩
    |beginRound=>exact⟨m,o,g,w,p,q,r,t,u⟩
    |stop s=>rcases bw.good s with⟨c,e⟩|⟨c,e⟩<;>(rw[e];exact h0)
    |_=>exact h0
def cy.raise{P l}{ρ:Ren}{fr a:aV}(h:cy P l ρ fr a){c m:aB ia}(hc:dh (sO ρ) c m):cy P l ρ (fr.raise c) (a.raise m):=by
 obtain⟨f1,f2,f3,f4,f5,f6,f7⟩:=fr;obtain⟨o,p,q,r,s,t,u⟩:=a;obtain⟨b,d,e,f,g,n,i,j,k⟩:=h;unfold Frame.raise;simp only at n⊢;cases n with
 |run=>exact⟨b,d,e,f,g,.panicking hc,i,j,k⟩
 |returning=>exact⟨b,d,e,f,g,.panicking hc,i,j,k⟩
 |panicking hm=>exact⟨b,d,e,f,g,.panicking (hc.append hm),i,j,k⟩
end
section
variable [aP] [bw] {S:Nat->Prop}
def Still(base:aB aV):Prop:=∀b∈base,b.mode=.run\/b.mode=.panicking [Bn]
def afr:Still []:=λ_ h=>by cases h
def Still.recover:∀{base:aB aV},Still base->∀a,tryRecover a base=ay
 |[],_,a=>by unfold tryRecover;cases a.kind<;>rfl
 |b::rest,h,a=>by
  unfold tryRecover;have hr:Still rest:=λx c=>h x (by simp[c]);cases a.kind with
  |deferred=>rcases h b aC with hm|hm<;>simp only[hm,Bn]
  |wrapped=>simp only[Still.recover hr b];rfl
  |_=>rfl
def Still.loop:∀{base:aB aV},Still base->∀n,tryRecoverLoop n base=ay
 |[],_,_=>rfl
 |b::rest,h,n=>by
  have hr:Still rest:=λx a=>h x (by simp[a]);unfold tryRecoverLoop;split
  ·simp only[Still.loop hr];rfl
  ·split
   ·simp only[Still.recover hr];rfl
   ·simp only[Still.loop hr];rfl
  ·simp only[Still.loop hr];rfl
def OV(bl:aB aV)(g:bM):Prop:=∃b rest,bl=b::rest/\(g=G b rest\/(∃v,g=G (b.finish v) rest)\/∃c,g=G (b.raise c) rest)
def oT(fr:aV):Prop:=fr.mode=.run/\∃a j rest k,fr.todo=.inRegion a (j::rest)::k
def El(P:aY)(bl:aB aV)(g:bM)(u:az):Prop:=OV bl g\/∀n a cs w,runN P n (solo g u)=.next (lone a (cs++bl) w)->oT a
def BJ(u:az)(sL:(Nat->jS->Nat)->lg)(mk:az->lg)(u1:az):Prop:=kK u u1/\∀a,kE a u.tape u.drawn u1.drawn->sL a=mk (u1.tp a)
def SG(S:Nat->Prop)(P:aY)(l:aB bC)(ρ:Ren)(bl base:aB aV)(u w:az)(s:lg)(sL:(Nat->jS->Nat)->lg)(s':lg):Prop:=
 match s with
 |.go a u1 j=>El P bl a u1\/∃h d σ i f w1 g,a=G h (d++bl)/\s'=.go (G i (f++base)) w1 g/\cy P l σ h i/\dh (cy P l σ) d f/\cD P ρ σ u u1 w w1/\Whole S σ u1/\(∀e∈g,gP S σ e)/\BJ u sL (λx=>.go a x j) u1
 |.comm a cs b sh u1 j=>∃h d σ i f c k w1 g,a=G h (d++bl)/\cs=#[c]/\b=av/\sh=.select/\s'=.comm (G i (f++base)) #[k] av .select w1 g/\CR σ c k/\cy P l σ h i/\dh (cy P l σ) d f/\cD P ρ σ u u1 w w1/\Whole S σ u1/\(∀e∈g,gP S σ e)/\BJ u sL (λx=>.comm a cs b sh x j) u1
 |.ended _ _ _=>True
 |_=>False
section
variable {P:aY} {l:aB bC} {ρ σ:Ren} {bl base:aB aV} {u w u1 w1:az} {s s':lg} {sL sL1:(Nat->jS->Nat)->lg}
def BJ.trans{mk u2}(b:kK u u1)(d:∀a,kE a u.tape u.drawn u1.drawn->sL a=sL1 a)(h:BJ u1 sL1 mk u2):BJ u sL mk u2:=
 ⟨b.trans h.1,λa c=>(d a (c.sub (bD _) h.1.drawn)).trans (h.2 a (by rw[b.tape];exact c.sub b.drawn (bD _)))⟩
def acZ(hm:cD P ρ σ u u1 w w1)(B:kK u u1)(C:∀a,kE a u.tape u.drawn u1.drawn->sL a=sL1 a)(h:SG S P l σ bl base u1 w1 s sL1 s'):SG S P l ρ bl base u w s sL s':=by
 cases s with
 |go g v e=>
  rcases h with h|h
  ·exact aF h
  obtain⟨j,d,a,k,f,A,i,m,n,p,q,r,t,y,z⟩:=h;exact aE ⟨j,d,a,k,f,A,i,m,n,p,q,hm.trans r,t,y,z.trans B C⟩
 |comm g x b sh v e=>
  obtain⟨j,d,a,k,f,c,D,A,i,m,n,p,q,r,t,y,z,H,E,F,G⟩:=h;exact⟨j,d,a,k,f,c,D,A,i,m,n,p,q,r,t,y,z,hm.trans H,E,F,G.trans B C⟩
 |ended o v e=>trivial
 |_=>exact h
def acU(es d)(he:∀e∈d,gP S ρ e)(h:SG S P l ρ bl base u w s sL s'):SG S P l ρ bl base u w (jy es s) (λa=>jy es (sL a)) (jy d s'):=by
 cases s with
 |go g v e=>
  rcases h with h|h
  ·exact aF h
  obtain⟨m,j,a,n,k,B,x,p,q,r,t,f,y,z,i⟩:=h;subst q;refine aE ⟨m,j,a,n,k,B,d++x,p,rfl,r,t,f,y,λe hx=>?_,i.1,λa A=>by(simp only[i.2 a A];rfl)⟩;rcases uI.1 hx with hx|hx
  ·exact(he e hx).mono f.le
  ·exact z e hx
 |comm g x b sh v e=>
  obtain⟨m,j,a,n,k,c,E,B,x,p,q,r,t,f,y,z,i,D,F,G,C⟩:=h;subst f;refine⟨m,j,a,n,k,c,E,B,d++x,p,q,r,t,rfl,y,z,i,D,F,λe hx=>?_,C.1,λa A=>by(simp only[C.2 a A];rfl)⟩;rcases uI.1 hx with hx|hx
  ·exact(he e hx).mono D.le
  ·exact G e hx
 |ended o v e=>trivial
 |_=>exact h.elim
def TS{gI vQ iY sU}(es a)(he:∀e∈a,gP S σ e)(c:cy P l σ gI vQ)(d:dh (cy P l σ) iY sU)(f:cD P ρ σ u u1 w w1)(g:Whole S σ u1)(h:kK u u1)(i:∀b,kE b u.tape u.drawn u1.drawn->sL b=.go (G gI (iY++bl)) (u1.tp b) es):
  SG S P l ρ bl base u w (.go (G gI (iY++bl)) u1 es) sL (.go (G vQ (sU++base)) w1 a):=aE ⟨gI,iY,σ,vQ,sU,w1,a,rfl,rfl,c,d,f,g,he,h,i⟩
def dD{gI vQ iY sU}(f:WR P ρ u w)(d:Whole S ρ u)(b:cy P l ρ gI vQ)(c:dh (cy P l ρ) iY sU)(e:∀a,sL a=.go (G gI (iY++bl)) (u.tp a)):
  SG S P l ρ bl base u w (.go (G gI (iY++bl)) u) sL (.go (G vQ (sU++base)) w):=TS #[] #[] aC b c (cD.refl f) d (.refl u) (λa _=>e a)
def xT{σ x}(h:gA S σ #[] x):∀e∈x,gP S σ e:=by obtain⟨y,rfl,a⟩:=h;simpa using a
def GC{σ x}(f)(h:∀e∈x,gP S σ e):∀e∈seen P f x,gP S σ e:=λe a=>h e (mem_seen a)
def Fb(a:Fit P l){f}(hf:aP.ok f){x x'}(d:bK ρ x x'){k}(j:k=.normal\/k=.deferred):cy P l ρ (Frame.enter P f x k) (Frame.enter P f x' k):=by
 obtain⟨m,c,e,g,h⟩:=a.body f ((a.ok f).1 hf);refine⟨rfl,a.aaq f hf,?_,?_,.nil,.run,rfl,j,.none⟩
 ·show bK ρ (x++_) (x'++_);rw[d.1];refine d.append ⟨rfl,λi v n hv b=>?_⟩;rw[hv]at b;cases b;rw[Dg]at hv;split at hv
  ·cases hv;exact uH ρ
  ·cases hv
 ·show dh _ [_] [_];simp only[e,WH,g,mY];exact .cons (.code h) .nil
def TA(c:Fit P l){n n'}(e:ρ n n'){f a b}(h0:aP.known f/\aP.code a/\aP.code b){x x'}(g:bK ρ x x'){k}(d:k=.normal\/k=.deferred):cy P l ρ (so n f x a b k) (so n' f x' a b k):=
 ⟨rfl,h0.1,g,.cons (.code ((c.code a).1 h0.2.1)) (.cons .beginRound (.cons (.code ((c.code b).1 h0.2.2)) .nil)),.nil,.run,rfl,d,.some e⟩
def Gn{fr fr' cs cs'}(h:cy P l ρ fr fr')(I:dh (cy P l ρ) cs cs')(F:Still bl)(H:Still base):
  (tryRecover fr (cs++bl)=ay/\tryRecover fr' (cs'++base)=ay)\/∃v n c f,tryRecover fr (cs++bl)=aa (v,c++bl)/\tryRecover fr' (cs'++base)=aa (n,f++base)/\VR ρ v n/\dh (cy P l ρ) c f:=by
 have d:=h.kind;rcases h.kinds with h1|h1
 ·rw[h1]at d;refine aF ⟨?_,?_⟩
  ·unfold tryRecover;rw[h1]
  ·unfold tryRecover;rw[d]
 ·rw[h1]at d;cases I with
  |nil=>exact aF ⟨F.recover fr,H.recover fr'⟩
  |@cons a b x y G L=>
   obtain⟨a1,o,a3,p,X,q,r⟩:=a;obtain⟨b1,z,A,B,Y,C,D⟩:=b;obtain⟨M,N,O,Q,R,i,T,U,V⟩:=G;simp only at i;cases i with
   |run=>exact aF ⟨by unfold tryRecover;rw[h1];rfl,by unfold tryRecover;rw[d];rfl⟩
   |returning=>exact aF ⟨by unfold tryRecover;rw[h1];rfl,by unfold tryRecover;rw[d];rfl⟩
   |panicking hm=>
    cases hm with
    |nil=>exact aF ⟨by unfold tryRecover;rw[h1];rfl,by unfold tryRecover;rw[d];rfl⟩
    |@cons e E t W J K=>
     obtain⟨g,Z,e3⟩:=e;obtain⟨d1,d2,d3⟩:=E;obtain⟨p1,j,k,m⟩:=J;simp only at p1 j k m;subst j k m;cases d2 with
     |true=>exact aF ⟨by unfold tryRecover;rw[h1];rfl,by unfold tryRecover;rw[d];rfl⟩
     |false=>
      refine aE ⟨g,d1,⟨a1,o,a3,p,.panicking (⟨g,aq,av⟩::t),q,r⟩::x,⟨b1,z,A,B,.panicking (⟨d1,aq,av⟩::W),C,D⟩::y,by unfold tryRecover;rw[h1];rfl,by unfold tryRecover;rw[d];rfl,p1,.cons ⟨M,N,O,Q,R,.panicking (.cons ⟨p1,rfl,rfl,rfl⟩ K),T,U,V⟩ L⟩
def abE(C:ρ.one){cs cs'}(H:dh (cy P l ρ) cs cs')(D:Still bl)(E:Still base):∀{n q:Nat},ρ n q->
  (tryRecoverLoop n (cs++bl)=ay/\tryRecoverLoop q (cs'++base)=ay)\/∃v f c d,tryRecoverLoop n (cs++bl)=aa (v,c++bl)/\tryRecoverLoop q (cs'++base)=aa (f,d++base)/\VR ρ v f/\dh (cy P l ρ) c d:=by
 induction H with
 |nil=>exact λ_=>aF ⟨D.loop _,E.loop _⟩
 |@cons a b x y B K p=>
  intro n q h
  have j:∀{r t:aZ (aD×aB aV)},((r=ay/\t=ay)\/∃v f c d,r=aa (v,c++bl)/\t=aa (f,d++base)/\VR ρ v f/\dh (cy P l ρ) c d)->
    ((r.map λ(v,rest)=>(v,a::rest))=ay/\(t.map λ(v,rest)=>(v,b::rest))=ay)\/∃v f c d,(r.map λ(v,rest)=>(v,a::rest))=aa (v,c++bl)/\(t.map λ(v,rest)=>(v,b::rest))=aa (f,d++base)/\VR ρ v f/\dh (cy P l ρ) c d:=by
   rintro r t (⟨rfl,rfl⟩|⟨v,f,c,d,rfl,rfl,hv,G⟩)
   ·exact aF ⟨rfl,rfl⟩
   ·exact aE ⟨v,f,a::c,b::d,rfl,rfl,hv,.cons B G⟩
  rw[ld,ld];unfold tryRecoverLoop;obtain⟨T,U,V,g,W,X,Y,Z,L⟩:=id B;have hr:=L;revert g;cases N:a.todo with
  |nil=>
   intro g;cases A:b.todo with
   |nil=>exact j (p h)
   |cons i k=>rw[A]at g;cases g
  |cons i k=>
   intro g;cases A:b.todo with
   |nil=>rw[A]at g;cases g
   |cons Q R=>
    rw[A]at g;cases g with
    |cons I O=>
     cases I with
     |@inRangeFunc m M hm=>
      have F:(M==q)=(m==n):=by
       rw[yE,wW,wW];constructor
       ·rintro rfl;exact C.2 _ _ _ hm h
       ·rintro rfl;exact C.1 _ _ _ hm h
      revert hr;cases a.roundOf with
      |none=>
       intro hr;cases z:b.roundOf with
       |some _=>rw[z]at hr;cases hr
       |none=>
        simp only;rw[F];split
        ·exact j (Gn B K D E)
        ·exact j (p h)
      |some o=>
       intro hr;cases z:b.roundOf with
       |none=>rw[z]at hr;cases hr
       |some o'=>
        rw[z]at hr;cases hr with
        |some J=>
         simp only;rw[F];split
         ·exact j (p J)
         ·exact j (p h)
     |stop s=>rcases bw.good s with⟨c,e⟩|⟨c,e⟩<;>(rw[e];exact j (p h))
     |_=>exact j (p h)
end
end
section
variable [aP] [bw] {S:Nat->Prop}
section
variable {P:aY} {l:aB bC} {ρ σ:Ren} {bl base:aB aV} {u w u1 w1:az} {K:Kn}
def gv{s s' sL sL1}(hm:cD P ρ σ u u1 w w1)(c:kK u u1)(es a)(d:∀b,kE b u.tape u.drawn u1.drawn->sL b=jy es (sL1 b))(he:∀e∈a,gP S σ e)(h:SG S P l σ bl base u1 w1 s sL1 s'):SG S P l ρ bl base u w (jy es s) sL (jy a s'):=
 acZ hm c d (acU es a he h)
def Gw{α k:Type}{Q s}{j:Sem k}(h:SR P Q ρ K s j)(e:Own K u)(i:WR P ρ u w)(f:Whole S ρ u){r:sx α}(hr:s.run P u=r)(g:∀x v,r=.halt x v->¬lq x):
  kK u r.world/\∀a,kE a u.tape u.drawn r.world.drawn->s.runT P (u.tp a) #[]=(r.tp a,(s.runT P u #[]).2):=by
 rcases h.loc u w i e f with⟨x,v,b,c⟩|⟨b,c⟩
 ·exact absurd c (g x v (hr.symm.trans b))
 ·rw[hr]at b c;refine⟨b,λa d=>?_⟩;rw[c #[] a d,ji,hr]
def Qt{x}(f b)(h:∀e∈x,gP S σ e):∀e∈seen P f (if b=aq then #[]else x),gP S σ e:=by
 intro e a;have:=mem_seen a;split at this
 ·simp at this
 ·exact h e this
def mq{α:Type}(s:Sem α)(u):s.runT P u #[]=(s.run P u,(s.runT P u #[]).2):=by rw[<-ji P s u #[]]
def aab{r x y}(h:dh (IR P l ρ r) x y):(∀d b n s k,x≠.call d b n s::k)/\∀d b n s k,y≠.call d b n s::k:=by
 cases h with
 |nil=>exact⟨λ_ _ _ _ _ e=>(by cases e),λ_ _ _ _ _ e=>(by cases e)⟩
 |cons f _=>
  cases f with
  |stop s=>exact⟨λ_ _ _ _ _ e=>(by cases e),λ_ _ _ _ _ e=>by rcases bw.good s with⟨c,a⟩|⟨c,a⟩<;>(rw[a]at e;cases e)⟩
  |_=>exact⟨λ_ _ _ _ _ e=>(by cases e),λ_ _ _ _ _ e=>(by cases e)⟩
def Rj{c c'}(h:dh (sO ρ) c c'):c.dropWhile (!·.goexit)=[]/\c'.dropWhile (!·.goexit)=[]:=by
 induction h with
 |nil=>exact⟨rfl,rfl⟩
 |cons a _ b=>exact⟨by simp only[Wn,a.2.2.1,Dm,cV,b.1],by simp only[Wn,a.2.2.2,Dm,cV,b.2]⟩
def Ey(S:Nat->Prop)(P:aY)(ρ:Ren)(u w:az)(s a:Sem Next):Prop:=cW S P NR ρ u w #[] (s.run P u) (a.runT P w #[])/\ed P s u
def SR.adh{s s'}(c:SR P NR ρ K s s')(a:Own K u)(d:WR P ρ u w)(b:Whole S ρ u):Ey S P ρ u w s s':=⟨c.uA u w #[] d a b,c.loc u w d a b⟩
def S9{s}(f:ed P s u){r:sx Next}(hr:s.run P u=r)(e:∀x v,r=.halt x v->¬lq x):
  kK u r.world/\∀a,kE a u.tape u.drawn r.world.drawn->s.runT P (u.tp a) #[]=(r.tp a,(s.runT P u #[]).2):=by
 rcases f with⟨x,v,b,c⟩|⟨b,c⟩
 ·exact absurd c (e x v (hr.symm.trans b))
 ·rw[hr]at b c;refine⟨b,λa d=>?_⟩;rw[c #[] a d,ji,hr]
def Mg(R:Fit P l)(J:Still bl)(L:Still base){s s'}(V:Ey S P ρ u w s s'){fr k:aV}{cs D:aB aV}(h:cy P l ρ fr k)(T:dh (cy P l ρ) cs D):
  SG S P l ρ bl base u w (stepG.apply P aq fr (cs++bl) ay s u) (λd=>stepG.apply P aq fr (cs++bl) ay s (u.tp d)) (stepG.apply P aq k (D++base) ay s' w):=by
 have hr:=V.1;have U:=λ{r:sx Next}=>S9 V.2 (r:=r);obtain⟨hk,ah⟩:=aab h.todo;generalize A:(λd=>stepG.apply P aq fr (cs++bl) ay s (u.tp d))=sL;unfold stepG.apply;simp only[cV];unfold cW at hr;cases z:s.run P u with
 |ok n u1=>
  obtain⟨p,C⟩:=U z (λx v e=>by cases e);rw[mq s u,z];generalize (s.runT P u #[]).2=H at C;have j:∀d,kE d u.tape u.drawn u1.drawn->s.runT P (u.tp d) #[]=(.ok n (u1.tp d),H):=C;rw[z]at hr;obtain⟨σ,n',w1,x,I,O,hm,m,N⟩:=hr;rw[I];have B:=λ(b:Bool)=>Qt (P:=P) k.fn b (xT N);have g:=h.mono hm.le;have o:=T.mono λ_ _=>cy.mono hm.le;cases O with
  |value hv=>exact gv hm p _ _ (λd i=>by rw[<-A];unfold stepG.apply;simp only[cV];rw[j d i];rfl) (B _) (dD hm.rel m (g.finish hv) o λ_=>rfl)
  |skip=>exact gv hm p _ _ (λd i=>by rw[<-A];unfold stepG.apply;simp only[cV];rw[j d i];rfl) (B _) (dD hm.rel m (g.finish (uH σ)) o λ_=>rfl)
  |@enter f x x' Z Q=>
   have Y:cy P l σ (Frame.enter P f x (match fr.todo with|.call _ aq _ _::_=>.wrapped|_=>.normal)) (Frame.enter P f x' (match k.todo with|.call _ aq _ _::_=>.wrapped|_=>.normal)):=by
    split
    ·exact absurd ‹fr.todo=_› (hk _ _ _ _ _)
    ·split
     ·exact absurd ‹k.todo=_› (ah _ _ _ _ _)
     ·exact Fb R Z Q (aF rfl)
   exact gv hm p _ _ (λd i=>by rw[<-A];unfold stepG.apply;simp only[cV];rw[j d i];rfl) (B _) (dD (iY:=_::_) (sU:=_::_) hm.rel m Y (.cons g o) λ_=>rfl)
  |round f a b h0 hl Q=>
   exact gv hm p _ _ (λd i=>by rw[<-A];unfold stepG.apply;simp only[cV];rw[j d i];rfl) (B _) (dD (iY:=_::_) (sU:=_::_) hm.rel m (TA R hl h0 Q (aF rfl)) (.cons g o) λ_=>rfl)
  |defer W=>
   refine gv hm p _ _ (λd i=>by rw[<-A];unfold stepG.apply;simp only[cV];rw[j d i];rfl) (B _) (dD hm.rel m (cy.finish ?_ (uH σ)) o λ_=>rfl);exact⟨g.fn,g.ok,g.tmps,g.todo,.cons W g.defers,g.mode,g.kind,g.kinds,g.round⟩
  |recover=>
   have key:∀{r E:aZ (aD×aB aV)},((r=ay/\E=ay)\/∃v F c G,r=aa (v,c++bl)/\E=aa (F,G++base)/\VR σ v F/\dh (cy P l σ) c G)->
     SG S P l σ bl base u1 w1 (match r with|some (v,callers)=>.go {frame:=fr.finish v,callers,status:=.running,dying:=ay} u1|none=>.go {frame:=fr.finish .nilIface,callers:=cs++bl,status:=.running,dying:=ay} u1)
      (λd=>match r with|some (v,callers)=>.go {frame:=fr.finish v,callers,status:=.running,dying:=ay} (u1.tp d)|none=>.go {frame:=fr.finish .nilIface,callers:=cs++bl,status:=.running,dying:=ay} (u1.tp d))
      (match E with|some (v,callers)=>.go {frame:=k.finish v,callers,status:=.running,dying:=ay} w1|none=>.go {frame:=k.finish .nilIface,callers:=D++base,status:=.running,dying:=ay} w1):=by
    rintro r E (⟨rfl,rfl⟩|⟨v,F,c,G,rfl,rfl,hv,M⟩)
    ·exact dD hm.rel m (g.finish .nilIface) o λ_=>rfl
    ·exact dD hm.rel m (g.finish hv) M λ_=>rfl
   refine gv hm p _ _ (λd i=>by rw[<-A];unfold stepG.apply;simp only[cV];rw[j d i];rfl) (B _) (key ?_);have t:=g.round;revert t;cases fr.roundOf with
   |none=>
    intro t;cases j:k.roundOf with
    |none=>exact Gn g o J L
    |some _=>rw[j]at t;cases t
   |some n=>
    intro t;cases j:k.roundOf with
    |none=>rw[j]at t;cases t
    |some n'=>
     rw[j]at t;cases t with
     |some O=>
      simp only;split
      ·exact Gn g o J L
      ·exact abE hm.rel.one o J L O
  |comm M=>exact⟨fr,cs,σ,k,D,_,_,w1,_,rfl,rfl,rfl,rfl,rfl,M,g,o,hm,m,λe X=>B (k.kind==.early) e (by simpa using X),p,λd i=>by rw[<-A];unfold stepG.apply;simp only[cV];rw[j d i];rfl⟩
 |halt x u1=>
  rw[z]at hr;cases x with
  |panic v=>
   obtain⟨p,C⟩:=U z (λx v e=>by cases e;exact id);rw[mq s u,z];generalize (s.runT P u #[]).2=H at C;have j:∀d,kE d u.tape u.drawn u1.drawn->s.runT P (u.tp d) #[]=(.halt (.panic v) (u1.tp d),H):=C;obtain⟨σ,F,w1,y,I,hv,hm,m,N⟩:=hr;rw[I];exact gv hm p _ _ (λd i=>by rw[<-A];unfold stepG.apply;simp only[cV];rw[j d i];rfl) (Qt (P:=P) k.fn _ (xT N)) (dD hm.rel m ((h.mono hm.le).raise (.cons ⟨hv,rfl,rfl,rfl⟩ .nil)) (T.mono λ_ _=>cy.mono hm.le) λ_=>rfl)
  |stuck _=>rw[mq s u,z];trivial
  |unsupported q=>
   rw[mq s u,z];cases q with
   |initOrder _=>exact hr.elim
   |_=>trivial
  |_=>exact hr.elim
def zZ(b:Fit P l)(d:Still bl)(e:Still base){s s'}(g:SR P NR ρ K s s')(a:Own K u)(i:WR P ρ u w)(c:Whole S ρ u){fr fr' cs cs'}(h:cy P l ρ fr fr')(f:dh (cy P l ρ) cs cs'):
  SG S P l ρ bl base u w (stepG.apply P aq fr (cs++bl) ay s u) (λj=>stepG.apply P aq fr (cs++bl) ay s (u.tp j)) (stepG.apply P aq fr' (cs'++base) ay s' w):=
 Mg b d e (g.adh a i c) h f
def TU{main}(E:bl≠[])(D:Still bl)(s:WR P ρ u w)(p:Whole S ρ u){fr fr' cs cs'}(h:cy P l ρ fr fr')(F:dh (cy P l ρ) cs cs'){v v'}(hv:VR ρ v v'):
  SG S P l ρ bl base u w (qN P aq fr (cs++bl) ay v u) (λJ=>qN P aq fr (cs++bl) ay v (u.tp J)) (qN P main fr' (cs'++base) ay v' w):=by
 cases F with
 |nil=>
  cases bl with
  |nil=>exact absurd rfl E
  |cons b rest=>
   have hm:=D b aC;unfold qN;rcases h.kinds with hk|hk
   ·simp only[pV,hk];exact aF (aF ⟨b,rest,rfl,aE (aF ⟨v,rfl⟩)⟩)
   ·rcases hm with hm|hm<;>simp only[pV,hk,hm,Bn]<;>exact aF (aF ⟨b,rest,rfl,aF rfl⟩)
 |@cons a b x y q z=>
  unfold qN;have n:=h.kind;rcases h.kinds with hk|hk
  ·rw[hk]at n;simp only[ld,hk,n];exact dD s p (q.finish hv) z λ_=>rfl
  ·rw[hk]at n;simp only[ld,hk,n];refine dD s p ?_ z λ_=>rfl;obtain⟨a1,L,a3,M,N,O,Q⟩:=a;obtain⟨b1,R,T,U,V,W,X⟩:=b;obtain⟨c,d,f,g,i,A,j,k,m⟩:=q;simp only at A⊢;cases A with
   |run=>exact⟨c,d,f,g,i,.run,j,k,m⟩
   |returning=>exact⟨c,d,f,g,i,.returning,j,k,m⟩
   |panicking hm=>
    cases hm with
    |nil=>exact⟨c,d,f,g,i,.panicking .nil,j,k,m⟩
    |@cons e C t t' r o=>
     obtain⟨Y,Z,e3⟩:=e;obtain⟨d1,d2,d3⟩:=C;have G:=r;obtain⟨p1,B,H,I⟩:=r;simp only at p1 B H I;subst B;cases d2 with
     |false=>exact⟨c,d,f,g,i,.panicking (.cons G o),j,k,m⟩
     |true=>
      simp only[(Rj o).1,(Rj o).2];exact⟨c,d,f,g,i,.returning,j,k,m⟩
def Uo{α:Type}{f f'}(h:∀x σ L,ρ.le σ->SR P VR σ L (f x) (f' x)):∀(xs:aB α) (σ:Ren) (L:Kn),ρ.le σ->SR P (λa y b=>dh (VR a) y b) σ L (xs.mapM f) (xs.mapM f')
 |[],σ,L,_=>.pure .nil
 |x::xs,σ,L,g=>by rw[uT,uT];refine SR.then (h x σ L g) λa M v e g2 _ hv=>?_;refine SR.then (Uo h xs a M (Ren.le_trans g g2)) λi N y b c _ d=>?_;exact .pure (.cons (hv.mono c) d)
def agA{x y}(h:dh (VR ρ) x y):bK ρ x.toArray y.toArray:=by
 have c:y.length=x.length:=by
  induction h with
  |nil=>rfl
  |cons _ _ b=>simp[b]
 refine⟨by simpa using c,?_⟩;induction h with
 |nil=>intro i v d hv;simp at hv
 |cons e _ b=>
  intro i v d hv a;cases i with
  |zero=>simp at hv a;subst hv a;exact e
  |succ i=>exact b (by simpa using c) i v d (by simpa using hv) (by simpa using a)
def Ke{x x'}(h:bK ρ x x')(t):VR ρ (x.getD t au) (x'.getD t au):=by
 by_cases a:t<x.size
 ·have b:t<x'.size:=by rw[h.1];exact a
  simp;exact h.2 t _ _ (by simp[a]) (by simp[b])
 ·have b:¬t<x'.size:=by rw[h.1];exact a
  simp only[pQ,a,b,gK,IX];exact uH ρ
def yl(fn){x x'}(f:bK ρ x x'):SR P VR ρ K (results fn x) (results fn x'):=by
 unfold results;rw[Aw,Aw];refine SR.then (Q:=bK) ?_ λσ L y h _ _ d=>?_
 ·refine GN _ _ (Uo (λr σ L g=>?_) _ ρ K (Ren.le_refl _)) λ_ a b _ i=>agA i;cases r with
  |tmp t=>exact .pure ((Ke f t).mono g)
  |cell a t=>exact SR.then (adx ((Ke f a).mono g)) λm M b k _ _ j=>Un j t
 ·refine .pure ?_
  by_cases c:y.size=1
  ·have e:h.size=1:=by rw[d.1];exact c
   simp only[c,e,tS];exact d.2 0 _ _ (by simp[c]) (by simp[e])
  ·have e:¬h.size=1:=by rw[d.1];exact c
   simp only[c,e,gK,IX];exact .tuple d.1 d.2
end
end
section
variable [aP] [bw] {S:Nat->Prop}
section
variable {P:aY} {ρ σ:Ren} {u w u1 w1:az} {es x:aJ jw}
def cW.bind{α n p q:Type}{Q:Ren->α->n->Prop}{R:Ren->p->q->Prop}{s:Sem α}{o:Sem n}{f:α->Sem p}{f':n->Sem q}(h:cW S P Q ρ u w es (s.run P u) (o.runT P w es))
  (k:∀a u1 σ b w1 x,s.run P u=.ok a u1->Q σ a b->cD P ρ σ u u1 w w1->Whole S σ u1->cW S P R σ u1 w1 x ((f a).run P u1) ((f' b).runT P w1 x)):cW S P R ρ u w es ((s.bind f).run P u) ((o.bind f').runT P w es):=by
 cases hr:s.run P u with
 |ok a u1=>
  have h0:=h;rw[hr]at h0;obtain⟨σ,b,w1,x,g,j,c,l,m⟩:=h0;exact cW.step (s1:=f a) (s1':=f' b) c m (by rw[gw,hr];rfl) (by rw[dN,g]) (k a u1 σ b w1 x hr j c l)
 |halt z u1=>
  rw[hr]at h;have e:(s.bind f).run P u=.halt z u1:=by rw[gw,hr];rfl
  rw[e];cases z with
  |panic v=>
   obtain⟨σ,r,w1,x,g,j,c,l,m⟩:=h;exact⟨σ,r,w1,x,by rw[dN,g],j,c,l,m⟩
  |_=>exact h
def ed.bind{α l:Type}{s}{f:α->Sem l}(h:ed P s u)(k:∀a u1,s.run P u=.ok a u1->ed P (f a) u1):ed P (s.bind f) u:=by
 rcases h with⟨x,w1,b,c⟩|⟨b,c⟩
 ·exact aF ⟨x,w1,by rw[gw,b];rfl,c⟩
 ·cases hr:s.run P u with
  |ok a u1=>
   rw[hr]at b c;refine ed.step b (by rw[gw,hr];rfl) (λes=>⟨(s.runT P u es).2,?_,λg e j=>?_⟩) (k a u1 hr)
   ·rw[dN];have:(s.runT P u es).1=.ok a u1:=by rw[ji,hr]
    revert this;cases s.runT P u es with
    |mk r y=>intro this;simp only at this;subst this;rfl
   ·rw[dN,c es g (e.sub (bD _) j.drawn),ji,hr];rfl
  |halt z u1=>
   rw[hr]at b c;refine aE ⟨by rw[gw,hr];exact b,λes g e=>?_⟩;rw[gw,hr]at e;rw[dN,dN,c es g e];have:(s.runT P u es).1=.halt z u1:=by rw[ji,hr]
   revert this;cases s.runT P u es with
   |mk r y=>intro this;simp only at this;subst this;rfl
def yw{t:aQ}{d:jC}(h:P.underlying t=aa d)(u es):(underlying t).runT P u es=(.ok d u,es):=by simp only[underlying,xe,bind,cL,dx,h,pure]
def EV{s d t:aQ}(g:P.underlying s=aa (.pointer t))(c:P.underlying d=aa .unsafePointer)(a u es):(convert s d (.pointer (aa a))).runT P u es=((tG a).bind (toRest t)).runT P u es:=by
 have e:∀(f:jC->Sem aD) (u:az) (es:aJ jw),((underlying s) >>= f).runT P u es=(f (.pointer t)).runT P u es:=λf u es=>by show((underlying s).bind f).runT P u es=_;rw[dN,yw g]
 have b:∀(f:jC->Sem aD) (u:az) (es:aJ jw),((underlying d) >>= f).runT P u es=(f .unsafePointer).runT P u es:=λf u es=>by show((underlying d).bind f).runT P u es=_;rw[dN,yw c]
 unfold convert;rw[e,b];unfold AA;rw[e,b];rfl
def EU{s d t:aQ}(g:P.underlying s=aa (.pointer t))(c:P.underlying d=aa .unsafePointer)(a u es):(convert d s (.pointer (aa a))).runT P u es=((tG a).bind (zB t)).runT P u es:=by
 have e:∀(f:jC->Sem aD) (u:az) (es:aJ jw),((underlying s) >>= f).runT P u es=(f (.pointer t)).runT P u es:=λf u es=>by show((underlying s).bind f).runT P u es=_;rw[dN,yw g]
 have b:∀(f:jC->Sem aD) (u:az) (es:aJ jw),((underlying d) >>= f).runT P u es=(f .unsafePointer).runT P u es:=λf u es=>by show((underlying d).bind f).runT P u es=_;rw[dN,yw c]
 unfold convert;rw[b,e];unfold AA;rw[b,e];rfl
def TV{r}(h:u.heap[r]? =aa cm):u.shape? r=ay:=by unfold gO;rw[h];rfl
def TX{t:aQ}{i:jD}(h:P.info? t=aa i)(u):(sizeOf t).run P u=.ok i.size u:=by simp only[sizeOf,Ek,xe,bind,cL,Sem.run,h,pure]
def toRest_poison{t:aQ}{i:jD}(h:P.info? t=aa i)(e:i.size≠0){a}(b:u.heap[a.block]? =aa cm):(toRest t a).run P u=.ok (.pointer (aa a)) u:=by
 have c:(ze a.block).run P u=.ok ay u:=by simp only[ze,shape,getObj,bind,cL,Sem.run,(TV b),b,cm,pure]
 unfold toRest;show((ze a.block).bind _).run P u=_;rw[gw,c];show((sizeOf t).bind _).run P u=_;rw[gw,TX h];simp only[Oa,e,decide_false,MZ,eX,dQ,pure,Sem.run]
def Jy{t:aQ}{i:jD}(h:P.info? t=aa i)(b:i.size≠0){a}(c:u.heap[a.block]? =aa cm):∃x,(zB t a).run P u=.halt x u/\lq x:=by unfold zB;refine⟨.unsupported (.unsafePointer "memory that has no shape (a package-level variable that still waits for its initialiser), seen as another type"),?_,trivial⟩;show((sizeOf t).bind _).run P u=_;rw[gw,TX h];simp only[By,xe,shape,Jd,Oa,bind,cL,Sem.run,(TV c),pure,b,decide_false,MZ,eX,dQ]
def acH{a}(b:u.heap[a.block]? =aa cm):(tG a).run P u=.ok a u:=by have hv:(viewAt a.block).run P u=.ok ay u:=He b (λ_ _ e=>by cases e);unfold tG;show((viewAt a.block).bind _).run P u=_;rw[gw,hv];rfl
section
variable {s d t:aQ} {i:jD}
def EW{s:Sem aD}{s1:Sem aD}(h:∀u es,s.runT P u es=s1.runT P u es):(∀u,s.run P u=s1.run P u):=λu=>by rw[<-ji P s u #[],h,ji]
def ed.congr{α:Type}{s s1:Sem α}(h:∀u es,s.runT P u es=s1.runT P u es)(k:ed P s1 u):ed P s u:=by
 have e:s.run P u=s1.run P u:=by rw[<-ji P s u #[],h,ji]
 rcases k with⟨x,w1,a,b⟩|⟨a,b⟩
 ·exact aF ⟨x,w1,e.trans a,b⟩
 ·exact aE ⟨by rw[e];exact a,λes f c=>by rw[h,h];exact b es f (by rw[<-e];exact c)⟩
def adi(n:P.underlying s=aa (.pointer t))(m:P.underlying d=aa .unsafePointer)(A:vD t)(y:P.info? t=aa i)(B:i.size≠0)(q:WR P ρ u w)(l:Whole S ρ u){a a':bZ}(D:AR ρ a a'):
  Ey S P ρ u w (do pure (.value (<-convert d s (.pointer (aa a))))) (do pure (.value (<-convert d s (.pointer (aa a'))))):=by
 have p:=(Us (P:=P) (K:=λ_=>False) D);constructor
 ·refine cW.bind (Q:=VR) ?_ λv u1 σ E w1 x _ hv hm c=>⟨σ,_,w1,x,rfl,.value hv,cD.refl hm.rel,c,.refl _⟩;rw[EW (EU n m a),EU n m a'];refine cW.bind (p.uA u w #[] q (λ_ h=>h.elim) l) λb u1 σ C w1 x _ e hm c=>?_;obtain⟨o,f⟩:∃o,u1.heap[b.block]? =aa o:=⟨_,cX (hm.rel.lt _ _ e.1).1⟩
  by_cases g:o=cm
  ·subst g;obtain⟨z,j,k⟩:=Jy y B f;rw[j];exact cW.lost k u1
  ·exact(Ua (K:=λr=>r=b.block) A e rfl).uA u1 w1 x hm.rel (λr hr=>by cases hr;exact⟨o,f,g⟩) c
 ·refine ed.bind (ed.congr (EU n m a) (ed.bind (p.loc u w q (λ_ h=>h.elim) l) λb u1 hr=>?_)) λv u1 _=>aE ⟨.refl u1,λ_ _ _=>rfl⟩;have h0:=p.uA u w #[] q (λ_ h=>h.elim) l;rw[hr]at h0;obtain⟨σ,C,w1,x,j,e,hm,c,_⟩:=h0;obtain⟨o,f⟩:∃o,u1.heap[b.block]? =aa o:=⟨_,cX (hm.rel.lt _ _ e.1).1⟩
  by_cases g:o=cm
  ·subst g;obtain⟨z,j,k⟩:=Jy y B f;exact aF ⟨z,u1,j,k⟩
  ·exact(Ua (K:=λr=>r=b.block) A e rfl).loc u1 w1 hm.rel (λr hr=>by cases hr;exact⟨o,f,g⟩) c
def adj(m:P.underlying s=aa (.pointer t))(l:P.underlying d=aa .unsafePointer)(y:vD t)(D:P.info? t=aa i)(E:i.size≠0)(z:WR P ρ u w)(p:Whole S ρ u){a a':bZ}(C:AR ρ a a'):
  Ey S P ρ u w (do pure (.value (<-convert s d (.pointer (aa a))))) (do pure (.value (<-convert s d (.pointer (aa a')))))\/
   ∃b u1,(do pure (Next.value (<-convert s d (.pointer (aa a)))):Sem Next).run P u=.ok (.value (.pointer (aa b))) u1/\u1.heap[b.block]? =aa cm:=by
 have q:=(Us (P:=P) (K:=λ_=>False) C);have h0:=q.uA u w #[] z (λ_ h=>h.elim) p
 have B:(∃b u1,(tG a).run P u=.ok b u1/\u1.heap[b.block]? =aa cm)\/∀b u1,(tG a).run P u=.ok b u1->u1.heap[b.block]? ≠aa cm:=by
  by_cases h:∃b u1,(tG a).run P u=.ok b u1/\u1.heap[b.block]? =aa cm
  ·exact aF h
  ·exact aE λb u1 j k=>h ⟨b,u1,j,k⟩
 rcases B with⟨b,u1,j,k⟩|good
 ·refine aE ⟨b,u1,?_,k⟩
  have e:(convert s d (.pointer (aa a))).run P u=.ok (.pointer (aa b)) u1:=by rw[EW (EV m l a),gw,j];exact toRest_poison D E k
  show((convert s d (.pointer (aa a))).bind _).run P u=_;rw[gw,e];rfl
 ·left;constructor
  ·refine cW.bind (Q:=VR) ?_ λv u1 σ F w1 x _ hv hm c=>⟨σ,_,w1,x,rfl,.value hv,cD.refl hm.rel,c,.refl _⟩;rw[EW (EV m l a),EV m l a'];refine cW.bind h0 λb u1 σ A w1 x hr f hm c=>?_;obtain⟨o,g⟩:∃o,u1.heap[b.block]? =aa o:=⟨_,cX (hm.rel.lt _ _ f.1).1⟩;exact(Uw (K:=λr=>r=b.block) y f rfl).uA u1 w1 x hm.rel (λr n=>by cases n;exact⟨o,g,λe=>good b u1 hr (e▸g)⟩) c
  ·refine ed.bind (ed.congr (EV m l a) (ed.bind (q.loc u w z (λ_ h=>h.elim) p) λb u1 hr=>?_)) λv u1 _=>aE ⟨.refl u1,λ_ _ _=>rfl⟩;have h0:=h0;rw[hr]at h0;obtain⟨σ,A,w1,x,j,f,hm,c,_⟩:=h0;obtain⟨o,g⟩:∃o,u1.heap[b.block]? =aa o:=⟨_,cX (hm.rel.lt _ _ f.1).1⟩;exact(Uw (K:=λr=>r=b.block) y f rfl).loc u1 w1 hm.rel (λr n=>by cases n;exact⟨o,g,λe=>good b u1 hr (e▸g)⟩) c
def Uh{K}(f:P.underlying s=aa (.pointer t))(e:P.underlying d=aa .unsafePointer){x x'}(h:VR ρ x x')(j:∀a,x≠.pointer (aa a)):SR P VR ρ K (convert s d x) (convert s d x')/\SR P VR ρ K (convert d s x) (convert d s x'):=by
 constructor
 ·unfold convert;refine SR.then (bG f) λ_ _ p q g _ b=>?_;obtain⟨rfl,rfl⟩:=b;refine SR.then (bG e) λ_ _ p q g2 _ c=>?_;obtain⟨rfl,rfl⟩:=c;have h:=(h.mono g).mono g2;unfold AA;cases h with
  |ptr k=>exact absurd rfl (j _)
  |gT=>
   refine SR.then (bG f) λ_ _ p q g _ b=>?_;obtain⟨rfl,rfl⟩:=b;refine SR.then (bG e) λ_ _ p q g2 _ c=>?_;obtain⟨rfl,rfl⟩:=c;exact .pure .gT
  |_=>
   refine SR.then (bG f) λ_ _ p q g _ b=>?_;obtain⟨rfl,rfl⟩:=b;refine SR.then (bG e) λ_ _ p q g2 _ c=>?_;obtain⟨rfl,rfl⟩:=c;exact .lost aC
 ·unfold convert;refine SR.then (bG e) λ_ _ p q g _ b=>?_;obtain⟨rfl,rfl⟩:=b;refine SR.then (bG f) λ_ _ p q g2 _ c=>?_;obtain⟨rfl,rfl⟩:=c;unfold AA;cases ((h.mono g).mono g2)with
  |ptr k=>exact absurd rfl (j _)
  |gT=>
   refine SR.then (bG e) λ_ _ p q g _ b=>?_;obtain⟨rfl,rfl⟩:=b;refine SR.then (bG f) λ_ _ p q g2 _ c=>?_;obtain⟨rfl,rfl⟩:=c;exact .pure .gT
  |_=>
   refine SR.then (bG e) λ_ _ p q g _ b=>?_;obtain⟨rfl,rfl⟩:=b;refine SR.then (bG f) λ_ _ p q g2 _ c=>?_;obtain⟨rfl,rfl⟩:=c;exact .lost aC
end
end
end
section
variable [aP] [bw] {S:Nat->Prop}
section
variable {P:aY} {l:aB bC} {ρ σ:Ren} {bl base:aB aV} {u w u1 w1:az} {main:Bool}
def rB{α k:Type}{Q:Ren->α->k->Prop}{s:Sem α}{j:Sem k}{K:Kn}(g:SR P Q ρ K s j)(d:Own K u)(i:WR P ρ u w)(f:Whole S ρ u){a:α}{u1:az}(h:s.run P u=.ok a u1):
  (kK u u1/\∀c,kE c u.tape u.drawn u1.drawn->s.runT P (u.tp c) #[]=(.ok a (u1.tp c),(s.runT P u #[]).2))/\
  ∃σ b w1 x,j.runT P w #[]=(.ok b w1,x)/\Q σ a b/\cD P ρ σ u u1 w w1/\Whole S σ u1/\∀e∈x,gP S σ e:=by
 refine⟨Gw g d i f h (λx v e=>by cases e),?_⟩;have hr:=g.uA u w #[] i d f;unfold cW at hr;rw[h]at hr;obtain⟨σ,b,w1,x,m,n,o,p,q⟩:=hr;exact⟨σ,b,w1,x,m,n,o,p,xT q⟩
def iy(u):Own (λ_=>False) u:=λ_ h=>h.elim
def ZL{r}(id){x y}(h:dh (IR P l ρ r) x y):(exitTo id x=ay/\exitTo id y=ay)\/∃k b,exitTo id x=aa k/\exitTo id y=aa b/\dh (IR P l ρ r) k b:=by
 induction h with
 |nil=>exact aF ⟨rfl,rfl⟩
 |cons d t a=>
  cases d with
  |inBlock i=>
   unfold exitTo;split
   ·exact aE ⟨_,_,rfl,rfl,t⟩
   ·exact a
  |stop s=>rcases bw.good s with⟨c,e⟩|⟨c,e⟩<;>(rw[e];exact a)
  |_=>exact a
def ahe{x a}(h:bK ρ x a)(ops):yielded ops a=yielded ops x:=by
 funext j
 unfold yielded;cases (ops[j]?).bind (·.dst)with
 |none=>rfl
 |some d=>
  simp;cases b:x[d]? with
  |none=>
   have:a[d]? =ay:=by rw[wH]at b⊢;rw[h.1];exact b
   rw[this]
  |some v=>
   obtain⟨e,_⟩:=bq.1 b;have f:d<a.size:=by rw[h.1];exact e
   have c:=cX f;rw[c];have hv:=h.2 d v _ b c;generalize a[d]=g at hv;cases hv<;>rfl
def Mh(I:bl≠[])(H:Still bl)(z:WR P ρ u w)(s:Whole S ρ u){fr b:aV}{cs j:aB aV}(h:cy P l ρ fr b)(t:dh (cy P l ρ) cs j)(d:aZ gN)(J:∀c,d=aa c->aP.code c)(q){k B:aB fW}(y:dh (IR P l ρ fr.roundOf.isSome) k B)(m o:String)(p p' A O:String):
  SG S P l ρ bl base u w
   (match fr.roundOf with
    |none=>if q=aq then .go {frame:={fr with todo:=k,mode:=.returning},callers:=cs++bl,status:=.running,dying:=ay} u else .ended (.stuck m p) u
    |some n=>match(tH n d).runT P u #[]with
     |(r,e)=>jy (seen P fr.fn e) (match r with
      |.ok v w=>qN P aq fr (cs++bl) ay v w
      |.halt _ w=>.ended (.stuck o A) w))
   (λf=>match fr.roundOf with
    |none=>if q=aq then .go {frame:={fr with todo:=k,mode:=.returning},callers:=cs++bl,status:=.running,dying:=ay} (u.tp f)else .ended (.stuck m p) (u.tp f)
    |some n=>match(tH n d).runT P (u.tp f) #[]with
     |(r,e)=>jy (seen P fr.fn e) (match r with
      |.ok v w=>qN P aq fr (cs++bl) ay v w
      |.halt _ w=>.ended (.stuck o A) w))
   (match b.roundOf with
    |none=>if q=aq then .go {frame:={b with todo:=B,mode:=.returning},callers:=j++base,status:=.running,dying:=ay} w else .ended (.stuck m p') w
    |some n=>match(tH n d).runT P w #[]with
     |(r,e)=>jy (seen P b.fn e) (match r with
      |.ok v w=>qN P main b (j++base) ay v w
      |.halt _ w=>.ended (.stuck o O) w)):=by
 have a:=h.round;revert a;cases N:fr.roundOf with
 |none=>
  intro a;cases i:b.roundOf with
  |some _=>rw[i]at a;cases a
  |none=>
   cases q with
   |true=>
    refine dD z s ⟨h.fn,h.ok,h.tmps,?_,h.defers,.returning,h.kind,h.kinds,.none⟩ t λ_=>rfl;rw[N]at y;exact y
   |false=>trivial
 |some n=>
  intro a;cases i:b.roundOf with
  |none=>rw[i]at a;cases a
  |some Q=>
   rw[i]at a;cases a with
   |some L=>
    simp only;rw[mq (tH n d) u];cases hr:(tH n d).run P u with
    |halt x v=>trivial
    |ok v u1=>
     obtain⟨⟨M,K⟩,σ,R,w1,x,C,D,g,E,F⟩:=rB (adV L d J) (iy u) z s hr;rw[C];exact gv g M _ _ (λf G=>by rw[K f G]) (GC _ F) (TU I H g.rel E (h.mono g.le) (t.mono λ_ _=>cy.mono g.le) D)
def Ae{fr cs}(h:fr.mode=.run):stepG P main (G fr cs) w=gZ P main aq fr cs ay w:=by unfold stepG G;simp only[h]
def GW{fr cs}(h:fr.mode≠.run):stepG P main (G fr cs) w=qR P main fr cs ay w:=by
 unfold stepG G;cases hm:fr.mode with
 |run=>exact absurd hm h
 |returning=>simp only[hm]
 |panicking c=>simp only[hm]
def Ss{fr C ops j rest k o}(hm:fr.mode=.run)(c:fr.todo=.inRegion ops (j::rest)::k)(b:ops[j]? =aa o)(e:dg o (yielded ops fr.tmps)=aq)(a:zO o.op=aq)(u):
  stepG P aq (G fr C) u=stepG.apply P aq fr C ay (execOp fr.eval o) u:=by
 rw[Ae hm];unfold gZ;rw[c];simp only[b,tP,mY,e,cV];unfold td sw;rw[c];simp only[b];split
 ·rename_i f d;rw[d]at a;cases a
 ·rfl
def Po{fr C s v u u1}(h:s.run P u=.ok (.value v) u1):∃a,stepG.apply P aq fr C ay s u=.go (G (fr.finish v) C) u1 a:=by unfold stepG.apply;simp only[cV];rw[mq s u,h];exact⟨_,rfl⟩
def XL{fr C s x u u1}(h:s.run P u=.halt x u1)(a:lq x):∃o w b,stepG.apply P aq fr C ay s u=.ended o w b:=by
 unfold stepG.apply;simp only[cV];rw[mq s u,h];cases x with
 |stuck _=>exact⟨_,_,_,rfl⟩
 |unsupported q=>
  cases q with
  |initOrder _=>exact a.elim
  |_=>exact⟨_,_,_,rfl⟩
 |_=>exact a.elim
def afp{g w w1 o es}(a:g.status=.running)(h:stepG P aq g w=.ended o w1 es):step P (solo g w)=.ended o w1:=by rw[step,Bv a];simp[runT,solo,Dl,Dj,h]
def TY{fr gI C cs bl u w}(h:solo (G fr C) u=lone gI (cs++bl) w):gI=fr:=by have a:=dZ Machine.gs h;simp[lone,solo,G]at a;exact a.1.symm
def QG{fr:aV}{ops:aJ dK}{j:Nat}{rest:aB Nat}{k:aB fW}(a:fr.todo=.inRegion ops (j::rest)::k)(v):(fr.finish v).todo=.inRegion ops rest::k/\(fr.finish v).mode=fr.mode/\(fr.finish v).tmps=(match(ops[j]?).bind (·.dst)with|some d=>fr.tmps.setIfInBounds d v|none=>fr.tmps):=by unfold Frame.finish;rw[a];exact⟨rfl,rfl,rfl⟩
def Rc(x:aJ aD)(d:Nat)(v:aD):(x.setIfInBounds d v).getD d au=v\/(x.setIfInBounds d v).getD d au=au:=by
 by_cases h:d<x.size
 ·left;simp[pQ,h]
 ·right;simp[pQ,h]
def XN{fr:aV}{C:aB aV}{ops:aJ dK}{rest:aB Nat}{k:aB fW}{h j:dK}{f:bC}{d e:Nat}{s t dt:aQ}{i:jD}{K:aJ aQ}(hm:fr.mode=.run)(r:fr.todo=.inRegion ops (3::4::rest)::k)
  (A:ops[3]? =aa h) (N:ops[4]? =aa j) (T:h.guard=ay) (U:j.guard=ay) (H:h.op=.call {callee:=.value (.func f),args:=#[.tmp d],argTypes:=K}) (O:h.dst=aa e) (I:j.op=.convert dt s (.tmp e))
  (hf:zH P f=aq) (W:∃m,P.funcs[f]? =aa m/\m.name= "internal/abi.NoEscape") (q:P.underlying s=aa (.pointer t)) (D:P.underlying dt=aa .unsafePointer) (V:P.info? t=aa i) (Y:i.size≠0)
  {u:az} (hv:(∃b,fr.eval (.tmp d)=.pointer (aa b)/\u.heap[b.block]? =aa cm)\/fr.eval (.tmp d)=au):∀n p cs w,runN P n (solo (G fr C) u)=.next (lone p (cs++bl) w)->oT p:=by
 have w3:dg h (yielded ops fr.tmps)=aq:=by unfold dg;rw[T]
 obtain⟨m,E,F⟩:=W
 have r3:(execOp fr.eval h).run P u=.ok (.value (fr.eval (.tmp d))) u:=by
  unfold zH at hf;rw[E]at hf;simp only[cE,wW]at hf;obtain⟨Z,k2⟩:=QF F hf.1.2;unfold execOp;rw[H];have c:(m.name== "runtime.NumGoroutine")=av:=by rw[F];decide
  show(callFunc f ((#[]++#[IK d].map fr.eval)++#[])).run P u=_;rw[show(#[]++#[IK d].map fr.eval)++#[]=#[fr.eval (.tmp d)] by simp];unfold callFunc;simp only[xe,bind,cL,Sem.run,E,c,hf.1.1,eX,dQ,cV,Z,k2,mark,pure];rfl
 obtain⟨aI,s1⟩:=Po (fr:=fr) (C:=C) r3;have J:step P (solo (G fr C) u)=.next (solo (G (fr.finish (fr.eval (.tmp d))) C) u):=step_solo_go rfl ((Ss hm r A w3 (by rw[H];rfl) u).trans s1)
 obtain⟨t1,t2,t3⟩:=QG r (fr.eval (.tmp d));have w4:dg j (yielded ops (fr.finish (fr.eval (.tmp d))).tmps)=aq:=by unfold dg;rw[U]
 have X:(∃b,(fr.finish (fr.eval (.tmp d))).eval (.tmp e)=.pointer (aa b)/\u.heap[b.block]? =aa cm)\/(fr.finish (fr.eval (.tmp d))).eval (.tmp e)=au:=by
  have R:(fr.finish (fr.eval (.tmp d))).eval (.tmp e)=(fr.finish (fr.eval (.tmp d))).tmps.getD e au:=rfl;rw[R,t3];simp only[A,WH,O];rcases Rc fr.tmps e (fr.eval (.tmp d))with g|g
  ·rw[g];exact hv
  ·exact aE g
 have y:∃x,(execOp (fr.finish (fr.eval (.tmp d))).eval j).run P u=.halt x u/\lq x:=by
  unfold execOp;rw[I]
  have key:∀v:aD,((∃b,v=.pointer (aa b)/\u.heap[b.block]? =aa cm)\/v=au)->∃x,(convert dt s v).run P u=.halt x u/\lq x:=by
   rintro v (⟨b,rfl,B⟩|rfl)
   ·rw[EW (EU q D b),gw,acH B];exact Jy V Y B
   ·refine⟨.stuck ?_,?_,trivial⟩;rotate_left;have u1:=λa=>yw q u a;rw[<-ji P _ u #[]];have e:∀(f:jC->Sem aD) (u:az) (a:aJ jw),((underlying s) >>= f).runT P u a=(f (.pointer t)).runT P u a:=λf u a=>by show((underlying s).bind f).runT P u a=_;rw[dN,yw q]
    have z:∀(f:jC->Sem aD) (u:az) (a:aJ jw),((underlying dt) >>= f).runT P u a=(f .unsafePointer).runT P u a:=λf u a=>by show((underlying dt).bind f).runT P u a=_;rw[dN,yw D]
    unfold convert;rw[z,e];show((AA dt s au).runT P u #[]).1=_;unfold AA;rw[z,e];rfl
  obtain⟨x,L,M⟩:=key _ X;refine⟨x,?_,M⟩;show((convert dt s _).bind _).run P u=_;rw[gw,L];rfl
 obtain⟨x,y,Q⟩:=y;obtain⟨o,w2,aL,s2⟩:=XL (fr:=fr.finish (fr.eval (.tmp d))) (C:=C) y Q;have an:step P (solo (G (fr.finish (fr.eval (.tmp d))) C) u)=.ended o w2:=afp rfl ((Ss (t2.trans hm) t1 N w4 (by rw[I];rfl) u).trans s2);intro n p cs w c
 match n with
 |0=>
  simp only[runN]at c;obtain rfl:=TY (vf c);exact⟨hm,_,_,_,_,r⟩
 |1=>
  simp only[runN,J]at c;obtain rfl:=TY (vf c);exact⟨t2.trans hm,_,_,_,_,t1⟩
 |n+2=>
  simp only[runN,J,an]at c;cases c
def TT{fr fr' cs cs'}(q:WR P ρ u w)(g:Whole S ρ u)(h:cy P l ρ fr fr')(i:dh (cy P l ρ) cs cs'){ops j rest k k'}(r:fr.todo=.inRegion ops (j::rest)::k)(hy:fr'.todo=.inRegion ops (j::rest)::k')(v:∀o,ops[j]? =aa o->(fr.roundOf.isSome=aq->zO o.op=aq)/\(dg o (yielded ops fr.tmps)=aq->SG S P l ρ bl base u w (stepG.apply P aq fr (cs++bl) ay (execOp fr.eval o) u) (λf=>stepG.apply P aq fr (cs++bl) ay (execOp fr.eval o) (u.tp f)) (stepG.apply P aq fr' (cs'++base) ay (execOp fr'.eval o) w))):
  SG S P l ρ bl base u w (gZ P aq aq fr (cs++bl) ay u) (λf=>gZ P aq aq fr (cs++bl) ay (u.tp f)) (gZ P main aq fr' (cs'++base) ay w):=by
 have m:=h.finish (uH ρ);unfold gZ;rw[r,hy];simp only;rw[ahe h.tmps];cases p:ops[j]? with
 |none=>exact dD q g m i λ_=>rfl
 |some o=>
  obtain⟨t,main⟩:=v o p;simp
  by_cases e:dg o (yielded ops fr.tmps)=aq
  ·have main:=main e;simp only[e,cV];unfold td sw;rw[r,hy];simp only[p];have a:=h.round;revert a;cases x:fr.roundOf with
   |none=>
    intro a;cases d:fr'.roundOf with
    |some _=>rw[d]at a;cases a
    |none=>exact main
   |some n=>
    intro a;cases d:fr'.roundOf with
    |none=>rw[d]at a;cases a
    |some y=>
     have b:zO o.op=aq:=t (by rw[x];rfl)
     try simp only
     split
     ·rename_i s c;rw[c]at b;cases b
     ·split
      ·rename_i s c;rw[c]at b;cases b
      ·exact main
  ·simp only[e,dQ];exact dD q g m i λ_=>rfl
def aff{g h}(hR:Reads l ρ g h)(t:∀f,g (.func f)=.func (.func f) #[] #[])(y:∀f,h (.func f)=.func (.func f) #[] #[]){o}(j:Al P l o=aq){K}:SR P NR ρ K (execOp g o) (execOp h o):=by
 obtain⟨E,op,r,pos,C,F⟩:=o;unfold Al at j;split at j
 ·rename_i c q;simp only at q;subst q;obtain⟨D,args,p⟩:=c;split at j
  ·rename_i x m k;simp only at m k;subst m;obtain rfl:args=#[x]:=by rw[<-k]
   simp at j;obtain⟨s,n⟩:=j;split at n
   ·rename_i e A;refine .assume λz=>?_;rw[z.2.2]at n;show SR P NR ρ K (do pure (.value (<-Dq p r (#[x].map g)))) (do pure (.value (<-Dq p r (#[x].map h))));rw[show #[x].map g=#[g x] by simp,show #[x].map h=#[h x] by simp];exact dV (afd (hR x s) A (TN n) p)
   ·cases n
  ·rename_i f x m k;simp only at m k;subst m;obtain rfl:args=#[x]:=by rw[<-k]
   simp at j;show SR P NR ρ K (do let d <-wM (g (.func f)) (#[x].map g);invoke d.target d.args) (do let d <-wM (h (.func f)) (#[x].map h);invoke d.target d.args);rw[t,y,show #[x].map g=#[g x] by simp,show #[x].map h=#[h x] by simp];show SR P NR ρ K (callFunc f ((#[]++#[g x])++#[])) (callFunc f ((#[]++#[h x])++#[]));rw[show(#[]++#[g x])++#[]=#[g x] by simp,show(#[]++#[h x])++#[]=#[h x] by simp]
   have B:bK ρ #[g x] #[h x]:=⟨rfl,λi v G a b=>by
    match i,a,b with
    |0,a,b=>cases a;cases b;exact hR x j.1
    |i+1,a,_=>simp at a⟩
   exact adI j.2 B rfl
  ·cases j
 ·cases j
def acX(A:Fit P l)(I:Still bl)(J:Still base)(B:WR P ρ u w)(D:Whole S ρ u){fr z:aV}{cs U:aB aV}(h:cy P l ρ fr z)(E:dh (cy P l ρ) cs U)(bI:fr.mode=.run){ops:aJ dK}{j:Nat}{rest:aB Nat}{k:aB fW}(X:fr.todo=.inRegion ops (j::rest)::k):
  SG S P l ρ bl base u w (gZ P aq aq fr (cs++bl) ay u) (λT=>gZ P aq aq fr (cs++bl) ay (u.tp T)) (gZ P main aq z (U++base) ay w):=by
 have hl:∀f,l.contains f=aq->aP.ok f:=λf hf=>(A.ok f).2 hf;have W:=h.eval hl;have xO:=h.todo
 have norm:∀{o:dK},rC P l fr.roundOf.isSome o.op=aq->(fr.roundOf.isSome=aq->zO o.op=aq)/\(dg o (yielded ops fr.tmps)=aq->SG S P l ρ bl base u w (stepG.apply P aq fr (cs++bl) ay (execOp fr.eval o) u) (λT=>stepG.apply P aq fr (cs++bl) ay (execOp fr.eval o) (u.tp T)) (stepG.apply P aq z (U++base) ay (execOp z.eval o) w)):=λ{o} p=>by simp only[rC,cE]at p;exact⟨λhr=>by simpa[hr]using p.2,λ_=>zZ A I J (CP A.zeros A.fns hl W (λζ G v=>by(subst G;rfl)) (λζ G v=>by(subst G;rfl)) p.1) (iy u) B D h E⟩
 have bk:∀{o:dK},Al P l o=aq->(fr.roundOf.isSome=aq->zO o.op=aq)/\(dg o (yielded ops fr.tmps)=aq->SG S P l ρ bl base u w (stepG.apply P aq fr (cs++bl) ay (execOp fr.eval o) u) (λT=>stepG.apply P aq fr (cs++bl) ay (execOp fr.eval o) (u.tp T)) (stepG.apply P aq z (U++base) ay (execOp z.eval o) w)):=λ{o} p=>by
  refine⟨λ_=>?_,λ_=>zZ A I J (aff W (λ_=>rfl) (λ_=>rfl) p) (iy u) B D h E⟩;unfold Al at p;split at p
  ·rename_i hc;rw[hc];rfl
  ·cases p
 rw[X]at xO;generalize hy:z.todo=y at xO;cases xO with
 |@cons _ i' _ k' q hk=>
  revert q;generalize aG:Item.inRegion ops (j::rest)=it;intro q;cases q with
  |@inRegion bT cw F=>
   cases aG;refine TT B D h E X hy λo m=>?_;have p:=rN.1 F o (mw m);unfold tr at p;rw[pR]at p;exact p.elim norm bk
  |@spec bT n F=>
   injection aG with e1 L;subst e1;rw[<-L]at hy
   have hn:n<ops.size:=by
    rcases mX n ops.size with h|h
    ·exact h
    ·rw[List.drop_eq_nil_of_le (by simpa using h)]at L;cases L
   have hj:j=n/\rest=(dH ops.size).drop (n+1):=by rw[DK (by simpa using hn)]at L;injection L with a b;exact⟨by simpa using a,b⟩
   obtain⟨rfl,K9⟩:=hj;refine TT B D h E X hy λo m=>?_;unfold spB at F;split at F
   ·rename_i Z o1 Q o3 R o5 o6 o7 bH;obtain rfl:ops=#[Z,o1,Q,o3,R,o5,o6,o7]:=by rw[<-bH]
    simp only[cE]at F;obtain⟨⟨⟨⟨⟨p0,p1⟩,p5⟩,p6⟩,p7⟩,pt⟩:=F;unfold UR at pt;split at pt
    ·rename_i s d x c d' s' y q2 q3 q4;simp only[cE]at pt;obtain⟨⟨⟨⟨⟨⟨⟨m1,m2⟩,m3⟩,m4⟩,Y⟩,m6⟩,m7⟩,m8⟩:=pt;obtain rfl:d=d':=by simpa using m2
     obtain rfl:s=s':=by simpa using m3
     rw[yU]at m6 m7 m8;split at m1
     ·rename_i f a b e g c1 c2 c3 c4;simp only[cE,wW]at m1;obtain⟨⟨⟨rfl,rfl⟩,aU⟩,aI⟩:=m1
      have bK:∃V,P.funcs[f]? =aa V/\V.name= "internal/abi.NoEscape" :=by
       split at aI
       ·rename_i V bF;exact⟨V,bF,by simpa using aI⟩
       ·cases aI
      obtain⟨ck,args,cj⟩:=c;simp only at c1 c2;subst c1;obtain rfl:args=#[.tmp a]:=by rw[<-c2]
      split at Y
      ·rename_i t O M;simp only[cE]at Y;obtain⟨bR,aL⟩:=Y
       have q:∃i,P.info? t=aa i/\i.size≠0:=by
        split at aL
        ·rename_i i q;exact⟨i,q,by simpa using aL⟩
        ·cases aL
       obtain⟨i,q,G⟩:=q;have ht:=TN (by rw[<-B.os.2];exact bR)
       match j,m with
       |0,m=>
        obtain rfl:Z=o:=by simpa using m
        exact norm (zQ p0)
       |1,m=>
        obtain rfl:o1=o:=by simpa using m
        exact norm (zQ p1)
       |2,m=>
        obtain rfl:Q=o:=by simpa using m
        refine⟨λ_=>by rw[q2];rfl,λ_=>?_⟩;have C:=W x m4;have ex:∀H:gY->aD,execOp H Q=(do pure (.value (<-convert s d (H x)))):=λH=>by unfold execOp;rw[q2]
        rw[ex,ex];revert C;generalize fr.eval x=v;generalize z.eval x=v';intro C
        by_cases N:∃r,v=.pointer (aa r)
        ·obtain⟨r,rfl⟩:=N;cases C with
         |@ptr _ bn hA=>
          rcases adj O M ht q G B D hA with bO|⟨b,u1,bN,bL⟩
          ·exact Mg A I J bO h E
          ·obtain⟨cm,s1⟩:=Po bN;rw[s1];obtain⟨t1,t2,t3⟩:=QG X (.pointer (aa b));refine aF (aE (XN (ops:=#[Z,o1,Q,o3,R,o5,o6,o7]) (t2.trans bI) (by rw[t1,K9];rfl) rfl rfl m7 m8 q3 c4 q4 aU bK O M q G ?_));have he:(fr.finish (.pointer (aa b))).eval (.tmp a)=(fr.finish (.pointer (aa b))).tmps.getD a au:=rfl;rw[he,t3];have bA:(#[Z,o1,Q,o3,R,o5,o6,o7][2]?).bind (·.dst)=aa a:=c3;rw[bA];rcases Rc fr.tmps a (.pointer (aa b))with g|g
           ·exact aF ⟨b,g,bL⟩
           ·exact aE g
        ·exact zZ A I J (K:=λ_=>False) (dV (Uh O M C λr e=>N ⟨r,e⟩).1) (iy u) B D h E
       |3,m=>
        obtain rfl:o3=o:=by simpa using m
        refine bk ?_;unfold Al;rw[q3];simp only[cE];exact⟨rfl,aU⟩
       |4,m=>
        obtain rfl:R=o:=by simpa using m
        refine⟨λ_=>by rw[q4];rfl,λ_=>?_⟩;have C:=W (.tmp e) rfl;have ex:∀H:gY->aD,execOp H R=(do pure (.value (<-convert d s (H (.tmp e))))):=λH=>by unfold execOp;rw[q4]
        rw[ex,ex];revert C;generalize fr.eval (.tmp e)=v;generalize z.eval (.tmp e)=v';intro C
        by_cases N:∃r,v=.pointer (aa r)
        ·obtain⟨r,rfl⟩:=N;cases C with
         |@ptr _ bn hA=>exact Mg A I J (adi O M ht q G B D hA) h E
        ·exact zZ A I J (K:=λ_=>False) (dV (Uh O M C λr e=>N ⟨r,e⟩).2) (iy u) B D h E
       |5,m=>
        obtain rfl:o5=o:=by simpa using m
        exact norm (zQ p5)
       |6,m=>
        obtain rfl:o6=o:=by simpa using m
        exact norm (zQ p6)
       |7,m=>
        obtain rfl:o7=o:=by simpa using m
        exact norm (zQ p7)
       |n+8,m=>simp at m
      ·cases Y
     ·cases m1
    ·cases pt
   ·cases F
  |_=>cases aG
def acV(D:Fit P l)(xK:bl≠[])(N:Still bl)(Z:Still base)(o:WR P ρ u w)(g:Whole S ρ u){fr C:aV}{cs ak:aB aV}(h:cy P l ρ fr C)(p:dh (cy P l ρ) cs ak)(bg:fr.mode=.run):
  SG S P l ρ bl base u w (gZ P aq aq fr (cs++bl) ay u) (λB=>gZ P aq aq fr (cs++bl) ay (u.tp B)) (gZ P main aq C (ak++base) ay w):=by
 have hl:∀f,l.contains f=aq->aP.ok f:=λf hf=>(D.ok f).2 hf;have an:=h.eval hl;have xO:=h.todo;have aG:=h.fn;have A:∀{k V:aB fW},dh (IR P l ρ fr.roundOf.isSome) k V->cy P l ρ {fr with todo:=k} {C with todo:=V}:=λq=>⟨h.fn,h.ok,h.tmps,q,h.defers,h.mode,h.kind,h.kinds,h.round⟩
 by_cases KC:∃r j rest k,fr.todo=.inRegion r (j::rest)::k
 ·obtain⟨r,j,rest,k,U⟩:=KC;exact acX D N Z o g h p bg U
 unfold gZ;revert xO;generalize U:fr.todo=x;generalize hy:C.todo=y;intro xO;cases xO with
 |nil=>exact Mh xK N o g h p ay aC _ .nil _ _ _ _ _ _
 |@cons i i' k V hi q=>
  cases hi with
  |stop s=>trivial
  |inBlock id=>exact dD o g (A q) p λ_=>rfl
  |inLoop hc=>exact dD o g (A (.cons (.code hc) (.cons (.inLoop hc) q))) p λ_=>rfl
  |inRangeFunc O=>trivial
  |@endRangeFunc n n' O=>
   simp only;rw[mq (yH n) u];have hr:=(Mm O).uA u w #[] o (iy u) g;unfold cW at hr;cases T:(yH n).run P u with
   |ok j u1=>
    rw[T]at hr;obtain⟨σ,j',w1,x,G,⟨E,aO⟩,d,H,M⟩:=hr;obtain⟨L,J⟩:=Gw (Mm O) (iy u) o g T (λx v e=>by cases e);subst E;rw[G];refine gv d L _ _ (λB I=>by rw[J B I];rfl) (GC _ (xT M)) (dD d.rel H ?_ (p.mono λ_ _=>cy.mono d.le) λ_=>rfl);have hm:=h.mono d.le;refine⟨hm.fn,hm.ok,hm.tmps,?_,hm.defers,hm.mode,hm.kind,hm.kinds,hm.round⟩;refine dh.append ?_ (q.mono λ_ _=>IR.mono d.le);cases j' with
    |none=>exact .nil
    |some c=>exact .cons (.code (xW ((D.code c).1 (aO c rfl)))) .nil
   |halt z u1=>
    rw[T]at hr;cases z with
    |panic v=>
     obtain⟨σ,W,w1,y,G,E,d,H,M⟩:=hr;obtain⟨L,J⟩:=Gw (Mm (P:=P) (K:=λ_=>False) O) (iy u) o g T (λx v e=>by cases e;exact id);rw[G];exact gv d L _ _ (λB I=>by rw[J B I];rfl) (GC _ (xT M)) (dD d.rel H ((h.mono d.le).raise (.cons ⟨E,rfl,rfl,rfl⟩ .nil)) (p.mono λ_ _=>cy.mono d.le) λ_=>rfl)
    |_=>trivial
  |beginRound=>
   simp only;refine zZ D N Z (K:=λ_=>False) ?_ (iy u) o g h p;have F:=h.round;revert F;cases fr.roundOf with
   |none=>
    intro F;cases R:C.roundOf with
    |some _=>rw[R]at F;cases F
    |none=>exact SR.then (Q:=dG) (ju _ _) λ_ _ _ _ _ _ _=>.pure .skip
   |some n=>
    intro F;cases R:C.roundOf with
    |none=>rw[R]at F;cases F
    |some n'=>
     rw[R]at F;cases F with
     |some O=>exact SR.then (adz O) λ_ _ _ _ _ _ _=>.pure .skip
  |@inRegion r todo bh=>
   cases todo with
   |nil=>exact dD o g (A q) p λ_=>rfl
   |cons j rest=>exact absurd ⟨r,j,rest,k,U⟩ KC
  |@spec r n bh=>
   cases hd:(dH r.size).drop n with
   |nil=>exact dD o g (A q) p λ_=>rfl
   |cons j rest=>exact absurd ⟨r,j,rest,k,by rw[U,hd]⟩ KC
  |@code c hc=>
   cases c with
   |skip=>exact dD o g (A q) p λ_=>rfl
   |region id r draw=>
    simp only;cases draw with
    |false=>
     have hc:(r.all (tr P l fr.roundOf.isSome)||(!av&&spB P l r))=aq:=hc;rw[pR]at hc;rcases hc with hc|hc
     ·exact dD o g (A (.cons (.inRegion _ hc) q)) p λ_=>rfl
     ·exact dD o g (A (.cons (.spec 0 hc) q)) p λ_=>rfl
    |true=>
     simp only[Na,eX,dQ];have hc:(r.all (tr P l fr.roundOf.isSome)||(!aq&&spB P l r))=aq:=hc;simp only[Na,Bool.false_and,Bool.or_false]at hc;rw[aG];cases hr:(choose (.order fr.fn id)).run P u with
     |halt z v=>trivial
     |ok t u1=>
      obtain⟨⟨L,J⟩,σ,t',w1,x,G,E,d,H,M⟩:=rB (wy (P:=P) (K:=λ_=>False) (.order fr.fn id)) (iy u) o g hr;have aN:(choose (.order fr.fn id)).run P w=.ok t' w1:=by rw[<-ji P _ w #[],G]
      obtain rfl:t'=t:=E;rw[aN];have hm:=h.mono d.le;refine TS _ _ aC ⟨rfl,hm.ok,hm.tmps,.cons (.inRegion _ hc) (q.mono λ_ _=>IR.mono d.le),hm.defers,hm.mode,hm.kind,hm.kinds,hm.round⟩ (p.mono λ_ _=>cy.mono d.le) d H L λB I=>?_;have hL:(choose (.order fr.fn id)).run P (u.tp B)=.ok t' (u1.tp B):=by rw[<-ji P _ (u.tp B) #[],J B I]
      rw[hL];rfl
   |seq a b=>
    simp only[eK,cE]at hc;exact dD o g (A (.cons (.code hc.1) (.cons (.code hc.2) q))) p λ_=>rfl
   |cond c a b=>
    simp only[eK,cE]at hc;have hv:=an c hc.1.1;simp only;generalize fr.eval c=v at hv;generalize C.eval c=W at hv;cases hv with
    |bool t=>
     refine dD o g (A (.cons (.code ?_) q)) p λ_=>rfl;cases t
     ·exact hc.2
     ·exact hc.1.2
    |_=>trivial
   |block id b=>exact dD o g (A (.cons (.code hc) (.cons (.inBlock id) q))) p λ_=>rfl
   |loop b=>exact dD o g (A (.cons (.code hc) (.cons (.inLoop hc) q))) p λ_=>rfl
   |rangeFunc f ps a b=>
    simp only[eK,cE]at hc;simp only;rw[mq (yI fr.fn fr.tmps ps a b fr.roundOf) u,aG];cases hr:(yI fr.fn fr.tmps ps a b fr.roundOf).run P u with
    |halt z v=>trivial
    |ok y u1=>
     obtain⟨⟨L,J⟩,σ,y',w1,x,G,E,d,H,M⟩:=rB (adW (P:=P) (K:=λ_=>False) h.ok h.tmps ps ((D.code a).2 hc.1.2) ((D.code b).2 hc.2) h.round) (iy u) o g hr;rw[G];obtain⟨n,ds⟩:=y;obtain⟨n',aL⟩:=y';have hm:=h.mono d.le
     have aU:cy P l σ {fr with todo:=.inRangeFunc n::k,defers:=ds++fr.defers} {C with fn:=fr.fn,todo:=.inRangeFunc n'::V,defers:=aL++C.defers}:=
      ⟨rfl,hm.ok,hm.tmps,.cons (.inRangeFunc E.1) (q.mono λ_ _=>IR.mono d.le),E.2.append hm.defers,hm.mode,hm.kind,hm.kinds,hm.round⟩
     refine gv d L _ _ (λB I=>by rw[J B I]) (GC _ M) (zZ D N Z (K:=λ_=>False) ?_ (iy u1) d.rel H aU (p.mono λ_ _=>cy.mono d.le));have hv:VR σ (fr.eval f) (C.eval f):=(an f hc.1.1).mono d.le
     exact Ug D.fns hv ⟨aC,λi v W hv aH=>by
      cases i with
      |zero=>
       simp[Frame.eval]at hv aH;subst hv aH;exact .func (.yield E.1) rfl (λi v W hv=>by simp at hv) rfl (λi v W hv=>by simp at hv)
      |succ i=>simp at hv⟩
   |exit id=>
    simp only;rcases ZL id q with⟨X,Y⟩|⟨m,m',X,Y,hm⟩
    ·rw[X,Y];exact Mh xK N o g h p (aa (.exit id)) (λc e=>by cases e;exact(D.code _).2 rfl) _ (.cons (.code hc) q) _ _ _ _ _ _
    ·rw[X,Y];exact dD o g (A hm) p λ_=>rfl
   |scope b=>simp[eK]at hc
   |label n=>simp[eK]at hc
   |goto n=>simp[eK]at hc
   |ret=>exact Mh xK N o g h p (aa .ret) (λc e=>by cases e;exact(D.code _).2 rfl) _ (.cons (.code hc) q) _ _ _ _ _ _
   |refuse bw=>trivial
end
end
section
variable [aP] [bw] {S:Nat->Prop}
section
variable {P:aY} {l:aB bC} {ρ σ:Ren} {bl base:aB aV} {u w u1 w1:az} {main:Bool}
def Fe{x}(f)(h:∀e∈x,gP S σ e):∀e∈seen P f x,gP S σ e:=λe a=>h e (mem_seen a)
def V9:∀{t b:Target} {m a:Ie},TR ρ t b->qi ρ m a->((b matches .nil)&&(a matches .panicking _))=((t matches .nil)&&(m matches .panicking _)):=by intro t b m a c hm;cases c<;>cases hm<;>rfl
def acW{b a}(d:a=b){x x' s s' xL sL}(f:SG S P l ρ bl base u w x xL x')(e:SG S P l ρ bl base u w s sL s'):SG S P l ρ bl base u w (if b=aq then x else s) (λc=>if b=aq then xL c else sL c) (if a=aq then x' else s'):=by
 subst d;cases a
 ·exact e
 ·exact f
def TQ(F:Fit P l)(R:Still bl)(T:Still base)(Q:WR P ρ u w)(L:Whole S ρ u){fr z cs cs'}(h:cy P l ρ fr z)(M:dh (cy P l ρ) cs cs'){d d'}(G:DR ρ d d'):
  SG S P l ρ bl base u w (IS P fr (cs++bl) ay d u) (λg=>IS P fr (cs++bl) ay d (u.tp g)) (IS P z (cs'++base) ay d' w):=by
 have O:=Um (P:=P) (K:=λ_=>False) F.fns G.1 G.2;have hr:=O.uA u w #[] Q (iy u) L;have N:=λ{r:sx Next}=>Gw O (iy u) Q L (r:=r);unfold IS;refine acW (xL:=λg=>.ended (.unsupported (.noEntry "machine/Return: a deferred call of a nil function value, made while the frame is unwinding") (fr.pos P)) (u.tp g)) (V9 G.1 h.mode) trivial ?_;unfold cW at hr;cases s:(invoke d.target d.args).run P u with
 |ok n u1=>
  obtain⟨o,A⟩:=N s (λx v e=>by cases e);rw[mq (invoke d.target d.args) u,s];generalize ((invoke d.target d.args).runT P u #[]).2=B at A;have p:∀g,kE g u.tape u.drawn u1.drawn->(invoke d.target d.args).runT P (u.tp g) #[]=(.ok n (u1.tp g),B):=A;rw[s]at hr;obtain⟨σ,n',w1,x,E,X,hm,j,H⟩:=hr;rw[E];have t:=Fe (P:=P) z.fn (xT H);have k:=h.mono hm.le;have m:=M.mono λ_ _=>cy.mono hm.le;cases X with
  |enter f V J=>exact gv hm o _ _ (λg i=>by rw[p g i]<;>rfl) t (dD (iY:=_::_) (sU:=_::_) hm.rel j (Fb F V J (aE rfl)) (.cons k m) λ_=>rfl)
  |round f a b h0 W J=>exact gv hm o _ _ (λg i=>by rw[p g i]<;>rfl) t (dD (iY:=_::_) (sU:=_::_) hm.rel j (TA F W h0 J (aE rfl)) (.cons k m) λ_=>rfl)
  |value hv=>exact gv hm o _ _ (λg i=>by rw[p g i]<;>rfl) t (dD hm.rel j k m λ_=>rfl)
  |skip=>exact gv hm o _ _ (λg i=>by rw[p g i]<;>rfl) t (dD hm.rel j k m λ_=>rfl)
  |defer _=>exact gv hm o _ _ (λg i=>by rw[p g i]<;>rfl) t (dD hm.rel j k m λ_=>rfl)
  |comm _=>exact gv hm o _ _ (λg i=>by rw[p g i]<;>rfl) t (dD hm.rel j k m λ_=>rfl)
  |recover=>
   have I:=k.mode;refine gv hm o _ _ (λg i=>by rw[p g i]<;>rfl) t ?_;simp only;revert I;generalize fr.mode=mo;generalize z.mode=ah;intro I;cases I with
   |returning=>
    rcases(Gn k m R T)with⟨C,D⟩|⟨v,Y,c,Z,C,D,_,U⟩
    ·rw[C,D];exact dD hm.rel j k m λ_=>rfl
    ·rw[C,D];exact dD hm.rel j k U λ_=>rfl
   |run=>exact dD hm.rel j k m λ_=>rfl
   |panicking _=>exact dD hm.rel j k m λ_=>rfl
 |halt x u1=>
  rw[s]at hr;cases x with
  |panic v=>
   obtain⟨o,A⟩:=N s (λx v e=>by cases e;exact id);rw[mq (invoke d.target d.args) u,s];generalize ((invoke d.target d.args).runT P u #[]).2=B at A;have p:∀g,kE g u.tape u.drawn u1.drawn->(invoke d.target d.args).runT P (u.tp g) #[]=(.halt (.panic v) (u1.tp g),B):=A;obtain⟨σ,Y,w1,y,E,hv,hm,j,H⟩:=hr;rw[E];exact gv hm o _ _ (λg i=>by rw[p g i]<;>rfl) (Fe (P:=P) z.fn (xT H)) (dD hm.rel j ((h.mono hm.le).raise (.cons ⟨hv,rfl,rfl,rfl⟩ .nil)) (M.mono λ_ _=>cy.mono hm.le) λ_=>rfl)
  |stuck _=>rw[mq (invoke d.target d.args) u,s];trivial
  |unsupported q=>rw[mq (invoke d.target d.args) u,s];trivial
  |_=>exact hr.elim
def ada(p:Fit P l)(K:bl≠[])(q:Still bl)(J:Still base)(k:WR P ρ u w)(i:Whole S ρ u){fr a cs cs'}(h:cy P l ρ fr a)(j:dh (cy P l ρ) cs cs'):
  SG S P l ρ bl base u w (qR P aq fr (cs++bl) ay u) (λm=>qR P aq fr (cs++bl) ay (u.tp m)) (qR P main a (cs'++base) ay w):=by
 have B:=h.defers;have N:∀{x O:aB Deferred},dh (DR ρ) x O->cy P l ρ {fr with defers:=x} {a with defers:=O}:=λM=>⟨h.fn,h.ok,h.tmps,h.todo,M,h.mode,h.kind,h.kinds,h.round⟩;unfold qR;revert B;generalize M:fr.defers=x;generalize hy:a.defers=y;intro B;cases B with
 |@cons d T ds aL X C=>
  obtain⟨t,args⟩:=d;obtain⟨t',an⟩:=T;obtain⟨L,s⟩:=X;simp only at L s;cases L with
  |@fn f f' c c' Y A=>exact TQ p q J k i (N C) j ⟨.fn Y A,s⟩
  |nil=>exact TQ p q J k i (N C) j ⟨.nil,s⟩
  |@collected r r' hr=>
   simp only;rw[mq (Dz r) u];cases G:(Dz r).run P u with
   |halt z v=>trivial
   |ok cl u1=>
    obtain⟨⟨F,D⟩,σ,aH,w1,z,e,I,g,U,V⟩:=rB (afa hr) (iy u) k i G;rw[e];obtain⟨rfl,rfl⟩:=I;have hm:=h.mono g.le;exact gv g F _ _ (λm o=>by rw[D m o]<;>rfl) (Fe _ V) (dD g.rel U ⟨hm.fn,hm.ok,hm.tmps,hm.todo,C.mono λ_ _=>DR.mono g.le,hm.mode,hm.kind,hm.kinds,hm.round⟩ (j.mono λ_ _=>cy.mono g.le) λ_=>rfl)
 |nil=>
  simp only;obtain⟨fn,c,e,I⟩:=p.known _ h.ok;have H:P.funcs[a.fn]? =aa fn:=by rw[h.fn];exact e
  have Q:fr.catches P=av:=by unfold Ic;rw[e]
  have R:a.catches P=av:=by unfold Ic;rw[H]
  have E:=h.mode;revert E;generalize hq:fr.mode=mo;generalize a.mode=aS;intro E;cases E with
  |run=>trivial
  |panicking A=>
   simp only[Q,R,eX,dQ];cases j with
   |nil=>
    cases bl with
    |nil=>exact absurd rfl K
    |cons b rest=>exact aF (aF ⟨b,rest,rfl,aE (aE ⟨_,rfl⟩)⟩)
   |cons W Z=>exact dD k i (W.raise A) Z λ_=>rfl
  |returning=>
   simp only[e,H];rw[mq (results fn fr.tmps) u];cases G:(results fn fr.tmps).run P u with
   |halt z v=>
    cases z<;>trivial
   |ok v u1=>
    obtain⟨⟨F,D⟩,σ,v',w1,z,k1,k2,n,k4,k5⟩:=rB (yl fn h.tmps) (iy u) k i G;rw[k1];exact gv n F _ _ (λm o=>by rw[D m o]<;>rfl) (Fe _ k5) (TU K q n.rel k4 (h.mono n.le) (j.mono λ_ _=>cy.mono n.le) k2)
def acY(d:Fit P l)(j:bl≠[])(g:Still bl)(i:Still base)(n:WR P ρ u w)(f:Whole S ρ u){fr b cs cs'}(h:cy P l ρ fr b)(k:dh (cy P l ρ) cs cs'):
  SG S P l ρ bl base u w (stepG P aq (G fr (cs++bl)) u) (λa=>stepG P aq (G fr (cs++bl)) (u.tp a)) (stepG P main (G b (cs'++base)) w):=by
 by_cases hr:fr.mode=.run
 ·have c:b.mode=.run:=by
   have:=h.mode;rw[hr]at this;generalize b.mode=m at this;cases this;rfl
  rw[Ae hr,Ae c,show(λa=>stepG P aq (G fr (cs++bl)) (u.tp a))=λa=>gZ P aq aq fr (cs++bl) ay (u.tp a) from funext λa=>Ae hr];exact acV d j g i n f h k hr
 ·have c:b.mode≠.run:=by
   intro e;have:=h.mode;rw[e]at this;generalize hm:fr.mode=m at this;cases this;exact hr hm
  rw[GW hr,GW c,show(λa=>stepG P aq (G fr (cs++bl)) (u.tp a))=λa=>qR P aq fr (cs++bl) ay (u.tp a) from funext λa=>GW hr];exact ada d j g i n f h k
end
end
inductive jm(P:aY)(main:Bool)(g:bM)(w:az):bM->az->aJ MemAct->Prop
 |go {b:bM} {w1:az} {es:aJ jw} (h:stepG P main g w=.go b w1 es):jm P main g w b w1 (es.map .ofEvent)
 |shut {fr:aV} {cs:aB aV} {r:Nat} {z:aD} {w1:az} {es:aJ jw} {cap s a:Nat} {tm:Bool} (h:stepG P main g w=.comm (G fr cs) #[sA r z] av .select w1 es) (hc:w1.heap[r]? =aa (.chan cap #[] aq s a tm)):
   jm P main g w (G (fr.finish (.tuple #[goInt 0,.bool av,z])) cs) w1 ((es.map .ofEvent).push (.recvClosed r))
 |rm {fr:aV} {cs:aB aV} {r:Nat} {z:aD} {w1:az} {es:aJ jw} {cap s a:Nat} {tm:Bool} (h:stepG P main g w=.comm (G fr cs) #[sA r z] av .select w1 es) (hc:w1.heap[r]? =aa (.chan cap #[] av s a tm)):
   jm P main g w (G (fr.finish (.tuple #[goInt (-1),.bool av,z])) cs) w1 (es.map .ofEvent)
 |rq {fr:aV} {cs:aB aV} {z:aD} {w1:az} {es:aJ jw} (h:stepG P main g w=.comm (G fr cs) #[rcaseNil z] av .select w1 es):
   jm P main g w (G (fr.finish (.tuple #[goInt (-1),.bool av,z])) cs) w1 (es.map .ofEvent)
section
variable {P:aY} {l:aB bC} {S:Nat->Prop}
def wF{g g1 w w1 bT}(a:g.status=.running)(h:jm P aq g w g1 w1 bT):step P (solo g w)=.next (solo g1 w1):=by
 cases h with
 |go h=>exact step_solo_go a h
 |@shut e cs r z w1 d f s j k h b=>
  have i:=partners_alone (c:=r) aq;rw[step,Bv a];simp[runT,solo,G,Dl,Dj,h,Nl,wX,ways,sA,b,i,choose,Sem.run,WK,bind,cL,pure,AE,Bj]at h⊢
 |@rm e cs r z w1 d f s j k h b=>
  rw[step,Bv a];simp[runT,solo,G,Dl,Dj,h,Nl,wX,ways,sA,b,(partners_alone (c:=r) aq),AE,Bj]at h⊢
 |@rq e cs z w1 d h=>
  rw[step,Bv a];simp[runT,solo,G,Dl,Dj,h,Nl,wX,ways,rcaseNil,AE,Bj]at h⊢
def UN{gs i g g1 w w1 sl bT}(d:gs[i]? =aa g)(p:∀(j:Nat) h,gs[j]? =aa h->h.status=.blocked->h.offers=ay)(h:jm P (i==0) g w g1 w1 bT):
  ∃f k,runT P (crowd gs w sl) i=(.next (crowd ((gs.map f).setIfInBounds i g1) w1 sl),k)/\(f=woken P g g1 w1\/f=id)/\k.map (·.act)=bT/\∀op∈k,op.g=i:=by
 have n:∀r,partners (gs.setIfInBounds i ph) r aq=[]:=λr=>partners_nil λj x b=>by
  have t:x.status=.blocked->x.offers=ay:=by
   by_cases m:i=j
   ·subst m;rw[Av]at b;simp only[cV]at b;split at b
    ·cases b;exact λ_=>rfl
    ·cases b
   ·rw[dO m]at b;exact p j x b
  unfold offersAt;cases q:x.status with
  |blocked=>rw[t q]
  |_=>rfl
 have hm:∀(a:aJ jw) (fn:bC) (pos:String),(kA i fn pos a).map (·.act)=a.map .ofEvent/\∀op∈kA i fn pos a,op.g=i:=λa fn pos=>by exact⟨by rw[ofEvents_eq];simp[Dh,Dv],MemOp.ofEvents_g i fn pos a⟩
 cases h with
 |go h=>exact⟨_,_,runT_crowd_go d h,aF rfl,(hm _ _ _).1,(hm _ _ _).2⟩
 |@shut c cs r z w1 a o s u v h e=>
  refine⟨id,kA i g.frame.fn g.frame.place a++#[{g:=i,fn:=c.fn,pos:=c.place,act:=.recvClosed r}],?_,aE rfl,?_,λop hop=>?_⟩
  ·rw[IY d h,MW];simp[wX,ways,sA,e,n,choose,Sem.run,WK,bind,cL,pure,AE,Bj,G,crowd]
  ·rw[Array.map_append,(hm _ _ _).1];simp
  ·rcases uI.1 hop with hop|hop
   ·exact(hm _ _ _).2 op hop
   ·simp at hop;subst hop;rfl
 |@rm c cs r z w1 a o s u v h e=>
  refine⟨id,kA i g.frame.fn g.frame.place a,?_,aE rfl,(hm _ _ _).1,(hm _ _ _).2⟩;rw[IY d h,MW];simp[wX,ways,sA,e,n,AE,Bj,G,crowd]
 |@rq c cs z w1 a h=>
  refine⟨id,kA i g.frame.fn g.frame.place a,?_,aE rfl,(hm _ _ _).1,(hm _ _ _).2⟩;rw[IY d h,MW];simp[wX,ways,rcaseNil,AE,Bj,G,crowd]
def afq{g g1 w w1 c es}(b:g.status=.running)(h:stepG P aq g w=.comm g1 #[c] av .select w1 es)(hc:Bo w1 c=aq):∃o d,step P (solo g w)=.ended o d:=by
 refine⟨.stuck "a communication at a channel whose block is no channel's" (g1.frame.pos P),w1,?_⟩;rw[step,Bv b,solo_eq_crowd,IY (i:=0) rfl h];show(wX P _ _ 0 g1 #[c] av .select w1).1=_;unfold wX;have a:(#[c].any (Bo w1))=aq:=by simp[hc]
 show(if(#[c].any (Bo w1))=aq then _ else _:Stepped×aJ MemOp).1=_;rw[aW a]
def Ma[aP]{σ z z'}(d:VR σ z z')(n):∀(i:Nat) v c,(#[goInt n,.bool av,z]:aJ aD)[i]? =aa v->(#[goInt n,.bool av,z']:aJ aD)[i]? =aa c->VR σ v c:=by
 intro i v c a b
 match i with
 |0=>simp at a b;subst a b;exact .int _ _
 |1=>simp at a b;subst a b;exact .bool _
 |2=>simp at a b;subst a b;exact d
 |n+3=>simp at a
def tT(S:Nat->Prop)(b:Ren)(a:MemAct):Prop:=(∃e,a=.ofEvent e/\gP S b e)\/∃r x,a=.recvClosed r/\b x r/\¬S r
def BN{σ}{es:aJ jw}(h:∀e∈es,gP S σ e):∀a∈es.map MemAct.ofEvent,tT S σ a:=λa b=>by obtain⟨e,c,rfl⟩:=nM.1 b;exact aF ⟨e,rfl,h e c⟩
variable [aP] [bw]
structure GR(P:aY)(l:aB bC)(ρ:Ren)(base:aB aV)(fr:aV)(cs:aB aV)(g':bM):Prop where
 of:∃b a,g'=G b (a++base)/\cy P l ρ fr b/\dh (cy P l ρ) cs a
def KY(hT:Fit P l){bl base}(xK:bl≠[])(I:Still bl)(hb:Still base){ρ u w}(hw:WR P ρ u w)(hW:Whole S ρ u){fr:aV}{cs:aB aV}{g':bM}(h:GR P l ρ base fr cs g'){m:Machine}(f:step P (lone fr (cs++bl) u)=.next m)(main):
  (∃C d,m=solo C d/\El P bl C d)\/∃x k d j Q q N,m=lone x (k++bl) d/\jm P main g' w Q q N/\GR P l j base x k Q/\cD P ρ j u d w q/\Whole S j d/\(∀a∈N,tT S j a)/\
   kK u d/\∀g,kE g u.tape u.drawn d.drawn->step P (lone fr (cs++bl) (u.tp g))=.next (lone x (k++bl) (d.tp g)):=by
 obtain⟨aP,aO,rfl,aG,aC⟩:=h.of;have A:=acY (main:=main) hT xK I hb hw hW aG aC;rw[lone_eq_solo]at f;cases i:stepG P aq (G fr (cs++bl)) u with
 |go C d O=>
  rw[i]at A;rw[(wF rfl (.go i))]at f;cases f;rcases A with L|⟨x,k,j,vQ,Z,q,af,rfl,D,E,F,t,y,H,n⟩
  ·exact aF ⟨C,d,rfl,L⟩
  exact aE ⟨x,k,d,j,_,q,_,rfl,.go D,⟨_,_,rfl,E,F⟩,t,y,BN H,n.1,λg v=>wF rfl (.go (n.2 g v))⟩
 |comm C aN b sh d O=>
  rw[i]at A;obtain⟨x,k,j,vQ,Z,c,W,q,af,rfl,rfl,rfl,rfl,D,hc,E,F,t,y,H,n⟩:=A;obtain⟨X,c2,B⟩:=c;obtain⟨d1,d2,d3⟩:=W;obtain⟨T,U,V,J⟩:=hc;simp only at T U V J;subst U V
  have K:Bo d ⟨X,ay,B⟩=aq->False:=λI6=>by have:=afq (P:=P) rfl i I6;obtain⟨o,u2,e⟩:=this;rw[e]at f;cases f
  cases T with
  |oh=>
   have:=wF rfl (.rq i);rw[this]at f;cases f;exact aE ⟨_,k,d,j,_,q,_,rfl,.rq D,⟨_,_,rfl,E.finish (.tuple rfl (Ma J _)),F⟩,t,y,BN H,n.1,λg v=>wF rfl (.rq (n.2 g v))⟩
  |@chan r M hr=>
   obtain⟨o,p⟩:∃o,d.heap[r]? =aa o:=⟨_,cX (t.rel.lt _ _ hr).1⟩;rcases t.rel.obj _ _ _ hr p with L|⟨o',R,Ce⟩
   ·subst L;exact(K (by simp[Bo,p,cm])).elim
   ·cases Ce with
    |chan aL Y s rc tm=>
     cases Y with
     |true=>
      have:=wF rfl (.shut (r:=r) (z:=B) i p);rw[this]at f;cases f;refine aE ⟨_,k,d,j,_,q,_,rfl,.shut (r:=M) (z:=d3) D R,⟨_,_,rfl,E.finish (.tuple rfl (Ma J _)),F⟩,t,y,λa I=>?_,n.1,λg v=>wF rfl (.shut (r:=r) (z:=B) (n.2 g v) p)⟩;rcases Array.mem_push.1 I with I|rfl
      ·exact BN H a I
      ·exact aE ⟨M,r,rfl,hr,y.own hr p (by intro e;cases e)⟩
     |false=>
      have:=wF rfl (.rm (r:=r) (z:=B) i p);rw[this]at f;cases f;exact aE ⟨_,k,d,j,_,q,_,rfl,.rm (r:=M) (z:=d3) D R,⟨_,_,rfl,E.finish (.tuple rfl (Ma J _)),F⟩,t,y,BN H,n.1,λg v=>wF rfl (.rm (r:=r) (z:=B) (n.2 g v) p)⟩
    |_=>exact(K (by simp[Bo,p])).elim
  |_=>exact(K rfl).elim
 |ended o d O=>
  have:step P (solo (G fr (cs++bl)) u)=.ended o d:=by rw[step,Bv rfl];simp[runT,solo,G,Dl,Dj,i]at i⊢
  rw[this]at f;cases f
 |_=>rw[i]at A;exact A.elim
end
end
end Go.Proofs.YtpobhljcainmdaaGreat
