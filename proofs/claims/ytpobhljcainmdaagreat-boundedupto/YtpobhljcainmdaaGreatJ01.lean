/- Parts of the proof. -/
import Derived.Below
import Derived.Conc.Beside
import Derived.Conc.CrowdComm
import Derived.Conc.Holds
import Derived.Conc.Listed
import Derived.Conc.LoneSelect
import Derived.Deep.RegionHeld
import Derived.Deep.RegionHeld3
import Derived.JoinedCond
import Derived.OrdersHeld
import Derived.OrdersIn
import Derived.OwnWalkIn
import Derived.WalkKit
import GoSem.Dispatch
set_option maxRecDepth 100000
set_option maxHeartbeats 8000000
set_option linter.all false
namespace Go.Proofs.YtpobhljcainmdaaGreat
abbrev bp:=@Array.getElem?_eq_some_iff
abbrev cL:=@Array.getElem?_eq_getElem
abbrev dP:=@Array.getElem?_setIfInBounds_ne
abbrev bC:=@Nat.le_refl
abbrev aQ:=@if_neg
abbrev ef:=@List.getElem?_eq_getElem
abbrev cM:=@Bool.and_eq_true
abbrev dy:=@Nat.lt_of_lt_of_le
abbrev eL:=@List.getElem?_eq_some_iff
abbrev eN:=@Option.bind_eq_some_iff
abbrev eI:=@Option.map_eq_some_iff
abbrev aX:=@if_pos
abbrev dM:=@Option.some.inj
abbrev dm:=@Nat.le_trans
abbrev eR:=@Bool.false_eq_true
abbrev fG:=@Array.getElem?_push
abbrev eT:=@List.length_cons
abbrev fT:=@Array.getElem?_map
abbrev gS:=@List.mem_of_getElem?
abbrev gG:=@List.mem_cons_self
abbrev gR:=@List.length_append
abbrev eo:=@Nat.zero_le
abbrev jG:=@List.mem_cons_of_mem
abbrev qw:=@Array.all_eq_true_iff_forall_mem
abbrev iV:=@List.size_toArray
abbrev iT:=@List.getElem?_map
abbrev lB:=@Array.getElem?_modify
abbrev lC:=@Array.getElem?_toList
abbrev cS:=@if_true
abbrev lV:=@Array.mem_of_getElem?
abbrev mI:=@ByteArray.size_extract
abbrev fU:=@Nat.zero_add
abbrev jF:=@List.getElem?_set
abbrev og:=@Classical.byContradiction
abbrev dQ:=@if_false
abbrev iY:=@decide_eq_false
abbrev iU:=@List.length_nil
abbrev dX:=@congrArg
abbrev dF:=@Ne.symm
abbrev jY:=@List.cons_append
abbrev qz:=@List.getElem?_append_right
abbrev lX:=@List.mem_singleton
abbrev oq:=@List.mem_iff_getElem?
abbrev jZ:=@List.mem_append
abbrev rI:=@List.setIfInBounds_toArray
abbrev mM:=@Nat.eq_zero_or_pos
abbrev jI:=@decide_eq_true
abbrev mK:=@List.getElem?_take
abbrev pK:=@List.take_append_drop
abbrev ya:=@Array.getElem?_setIfInBounds_self_of_lt
abbrev pH:=@List.mem_of_mem_take
abbrev mO:=@Option.getD_some
abbrev kg:=@List.mem_cons
abbrev qy:=@ByteArray.size_append
abbrev rE:=@List.getElem_cons_zero
abbrev rA:=@Array.getElem?_eq_none
abbrev jH:=@List.mem_map
abbrev uh:=@Array.getD_eq_getD_getElem?
abbrev rD:=@List.getElem?_set_self
abbrev nF:=@List.all_eq_true
abbrev ot:=@of_decide_eq_true
abbrev sS:=@List.getElem_cons_succ
abbrev mL:=@List.mem_range
abbrev sY:=@List.take_of_length_le
abbrev kr:=@Nat.le_succ
abbrev rC:=@List.flatMap_append
abbrev oo:=@List.length_set
abbrev uz:=@Nat.add_sub_cancel_left
abbrev pF:=@List.any_eq_true
abbrev sJ:=@Array.replicate_succ
abbrev sK:=@Array.replicate_zero
abbrev kT:=@Int.le_refl
abbrev rK:=@List.set_cons_zero
abbrev rJ:=@List.set_cons_succ
abbrev lZ:=@Nat.lt_or_ge
abbrev pI:=@List.nil_append
abbrev pL:=@Nat.min_eq_left
abbrev pG:=@List.length_map
abbrev nE:=@Array.mem_map
abbrev tE:=@beq_eq_false_iff_ne
abbrev sQ:=@List.append_toArray
abbrev mN:=@Nat.le_of_lt
abbrev wD:=@List.length_eq_zero_iff
abbrev uw:=@List.getElem_toArray
abbrev xZ:=@Array.getElem?_eq_none_iff
abbrev uk:=@Array.mem_toList_iff
abbrev sV:=@List.pairwise_cons
abbrev qx:=@Bool.or_eq_true
abbrev rG:=@List.map_toArray
abbrev wq:=@ByteArray.data_extract
abbrev rF:=@List.length_take
abbrev yB:=@Option.isNone_iff_eq_none
abbrev ym:=@List.getElem?_append_left
abbrev sX:=@List.take_add_one
abbrev sW:=@List.push_toArray
abbrev Ai:=@Int.mul_le_mul_of_nonneg_left
abbrev wo:=@Array.mem_iff_getElem
abbrev zW:=@Array.getElem?_setIfInBounds
abbrev rM:=@Nat.not_lt_zero
abbrev uA:=@Option.isSome_none
abbrev wG:=@List.mem_of_mem_drop
abbrev uD:=@decide_eq_true_eq
abbrev wm:=@Array.length_toList
abbrev sR:=@List.foldl_cons
abbrev tr:=@Option.map_some
abbrev zX:=@Array.mapM_eq_mapM_toList
abbrev An:=@List.drop_eq_getElem_cons
abbrev yw:=@Nat.eq_of_beq_eq_true
abbrev yp:=@List.getElem?_eq_none
abbrev uj:=@Array.mem_append
abbrev uy:=@List.take_length
abbrev rL:=@Nat.lt_irrefl
abbrev yz:=@Nat.mul_le_mul_right
abbrev wB:=@List.ext_getElem?
abbrev wC:=@List.flatMap_cons
abbrev um:=@Bool.eq_iff_iff
abbrev rN:=@Nat.zero_mul
abbrev sU:=@List.map_cons
abbrev ux:=@List.mapM_cons
abbrev yC:=@Option.isSome_some
abbrev Cr:=@Array.toList_setIfInBounds
abbrev Am:=@List.contains_iff_mem
abbrev Gx:=@Array.getElem?_setIfInBounds_self
abbrev wF:=@List.mem_filter
abbrev yc:=@Bool.not_eq_true'
abbrev Co:=@Array.setIfInBounds_comm
abbrev Cm:=@Array.getElem?_replicate
abbrev yx:=@Nat.lt_succ_self
abbrev Gu:=@Array.eq_empty_of_size_eq_zero
abbrev CL:=@List.getElem?_replicate
abbrev GX:=@List.eq_nil_of_length_eq_zero
abbrev yl:=@List.append_nil
abbrev yq:=@List.range_succ
abbrev wu:=@ByteArray.ext
abbrev Ao:=@List.foldl_append
abbrev Gw:=@Array.getElem?_append_left
abbrev GU:=@Int.tmod_eq_emod_of_nonneg
abbrev CN:=@List.getElem?_set_ne
abbrev CK:=@List.getElem?_of_mem
abbrev wE:=@List.map_nil
abbrev Hg:=@List.mem_or_eq_of_mem_set
abbrev Cp:=@Array.toList_append
abbrev Hr:=@Option.isSome_iff_exists
abbrev om:=@Iff.rfl
abbrev Aj:=@Int.tmod_nonneg
abbrev Cj:=@Array.foldl_toList
abbrev CE:=@Int.tmod_lt_of_pos
abbrev Ci:=@Array.ext_getElem?
abbrev Cw:=@Function.comp_def
abbrev Da:=@Nat.lt_succ_of_lt
abbrev CI:=@List.append_assoc
abbrev CV:=@List.pairwise_map
abbrev CO:=@List.mapM_toArray
abbrev Gv:=@Array.getElem?_append
abbrev GB:=@Classical.choose_spec
abbrev wJ:=@beq_iff_eq
abbrev CU:=@List.not_mem_nil
abbrev Cq:=@Array.toList_map
abbrev CS:=@List.mem_flatMap
abbrev Ap:=@List.mapM_nil
abbrev qA:=@dif_pos
abbrev CP:=@List.map_append
abbrev GY:=@List.filter_eq_self
abbrev cN:=@Array.getElem?_append_right
abbrev Aq:=@List.set_set
abbrev yy:=@Nat.mod_lt
abbrev Cs:=@Bool.not_false
abbrev xY:=@Array.ext'
abbrev Hf:=@List.mem_filterMap
abbrev GZ:=@List.find?_eq_none
abbrev He:=@List.getElem?_drop
abbrev Ig:=@not_false_eq_true
abbrev GW:=@List.any_eq_false
abbrev Cn:=@Array.map_map
abbrev xX:=@Array.ext
abbrev gx:=@List.mem_toArray
abbrev UY:=@List.getElem_mem
abbrev MN:=@Nat.mod_eq_of_lt
abbrev CZ:=@Nat.add_zero
abbrev CQ:=@List.map_set
abbrev Mg:=@Array.size_push
abbrev Vr:=@Option.map_none
abbrev MK:=@List.set_append
abbrev gK:=@Nat.add_mul
abbrev hO:=@dif_neg
abbrev aB:=@List
abbrev aK:=@Array
abbrev aY:=@Option
abbrev an(n:Int):Value:=.int .i64 n
abbrev aj(b n:Nat):Addr:=⟨b,n,none⟩
abbrev aR(b:Nat):Value:=.pointer (some ⟨b,0,none⟩)
theorem bf{w:World}{o:Obj}:RowKit.Below w.heap.size w (w.alloc o):=(RowKit.Below.refl _ _).alloc (Nat.le_refl _) _
theorem aT{p:Prop}(h:p):RowKit.Hid p:=h
abbrev aL(w v:World):Prop:=RowKit.Below w.heap.size w v
theorem ak{p:Prop}(h:p:=by omega):p:=h
theorem aC{p:Prop}(h:p:=by simp):p:=h
theorem bY{p:Prop}(h:p:=by (simp;omega)):p:=h
theorem aS{p:Prop}(h:p:=by kernel_rfl):p:=h
theorem bJ{p:Prop}(h:p:=by decide):p:=h
theorem iC{p:Prop}(h:p:=by (intro _ _;unfold execOp;simp[go_sem,Act.put,Act.eval])):p:=h
theorem iD{p:Prop}(h:p:=by (intro _ _ _ h;unfold execOp at h;simp[go_sem,Act.put,Act.eval]at h)):p:=h
open Go renaming TypeId->aW,Program->aZ,Value->aE,World->az,FuncId->bN,TypeDesc->lF,TypeInfo->kv,behindNumber->pQ,runtimePanic->qC,Frame->aU,binOp->fo,Addr->fS,IntKind->pE,communicate->wK,Question->lE,Event->iR,Operand->me,getD_set_ne->yH,BinOp->kQ,Oper->kU,variablesAt->Dq,Goroutine->bQ,ready_mono->AJ,doReturn->Di,commResult->AD,Result->tB,mayBeOne->Ic,program->jf,eqGuard->wL,callDeferred->Hy,unsupported->jv,noView->uF,mem_ready->Dm,seenCells->Dn,cellsIn->kS,callMethod->Hz,typeInfo->oc,stringish->Il,FrameMode->py,boundsPanic->Nh,goexitEntry->AG,MapEntry->tw,BoundsCode->xa,CommCase->GD,elemOf->AE,newObj->AI,PanicEntry->zL,unwind->yK,about_put->BX,loadBytes->HK,GStep->HL,Code->jV,Item->ir
open Go.Sem renaming bind->cV,run_bind'->iu,runT->dD,runT_fst->iW,bind_assoc'->Aw,store->tC,getObj->Ay,run_bind->Df,shape->Ht,setObj->MZ
open Go.World renaming shape?->gN,setCell->gm,freeze->yG,cell?->fH,frozen?->pO,viewStore->td,seen->Ng,farStore->vn,noCell->VG
open Go.Region renaming ready->eB,wanted->dw,noSelect_spec->Dd,free_spec->Au,binds->tA,noSelect->Av,free->yE,Mode->yD
open Go.Op renaming equal->eM,maxDepth->th,equalIn->yA,addrMod->Db,unary->As,addrSub->Hl,addrCmp->Hj,twoPlaces->MV,eqGuardIn->MO,intArith->MP,stringOp->MU,intBits->MQ,intCmp->MR,intDiv->MT,shift->NT
open Go.Extern.BytealgMakeNoZero renaming makeNoZero->yf,digits->UD
open Go.RowKit.Below renaming heap_setCell->wI
open _root_.Bind renaming bind->jU
open _root_.Pure renaming pure->ku
open Go.stepG renaming exec->gV
open Go.Builtin renaming unsafeSliceData_->Ct,zeroCells->mH,unsafeAdd_->Gz,len_->Aa,min2->Ab,unsafeString_->Ml,mayShare->Mk,min_->Gy,append_->nY,delete_->Mj,close_->Mi,clear_->uo,copy_->sM,firstCells->Uy,holdsCells->Uz,cap_->Mh,lenOf->UA
open Go.Goroutine renaming finishComm->Ae
open Go.Instr renaming sliceAt->uv,endRound->sO,sliceBounds->Ag,slice->uu,takeDeferred->CB,fill->uq,getLoop->ur,enterLoop->yj,endLoop->yh,findNow->Cx,sameBits->GQ,keyThatStays->ME,sliceBound->MJ,buildSlice->Mx,beginRound->Af,typeAssert->CC,findAsking->MA,makeSlice->Cz,mapUpdate->MG,checkKey->My,panicnil->MH,makeChan->MF,makeInterface->UK,indexAt->MD,fieldAt->Mz,sameNow->MI,findKey->MB,lookup->Cy,index->MC,build->Mw,yield->Ah,sureAddr->GS,makeFunc->sP,storeAt->UM,extract->UJ,makeMap->UL,loadAt->GP,alloc->Im
open Go.Conv renaming unsafePointer->Ac,seenAt->sN,bytesToString->Mo
open _root_.MonadExcept renaming throw->CY
open Go.Deferred renaming ofValue->wA
open Go.Extern.AbiNoEscape renaming same->GJ
open Go.GStep renaming after->jX,es->Mt
open _root_.List renaming range->eF,length_eraseIdx->UZ,dropWhile_cons->UU
open Go.Act renaming put_comm->xW
open Go.Extern renaming allNextRows->GK,findNext->GM,allGenericRows->UF,find->GL,allTypedRows->UG
open Go.MemOp renaming ofEvents->ko
open _root_.Array renaming swapAt!->zZ,swapAt->zY,getD->wj,replicate->sI,toList_zipIdx->Uv,forIn_toList->lg,map_id->Mf,toList_zip->Uu,range->so
open Go.Conc renaming runT_crowd_comm->Ii,stepT_solo->yJ,illMade->AH
open _root_.Except renaming bind->GG,pure->GH
open Go.Made renaming reckonStruct->Vi,reckon->kq,infoAt->sw,depth->MM
open Go.Value renaming pointer->AA,ofBytes->Vx
open Go.Oper renaming semAt_plain->MW,wpIn->Hq,uponIn->MX,wp->Ho
open Go.Result renaming andThen->Vv
open _root_.Bool renaming not_true->Ux,false_or->Uw
open Go.Obj renaming isChan->Hi
open _root_.Option.some renaming injEq->Vs
open _root_.Option renaming bind_some->qv
open Go.Stepped.next renaming inj->uB
open Go.Code renaming region->Mn
open Go.OpenClaim renaming world->Vo
open Go.Question renaming forced->Vt
open Go.Frame renaming catches->Ms,round->Vp,oper?->Wx
open _root_.Nat renaming add_comm->HO
open Go.Tables renaming info?->HS
open _root_.UInt8 renaming ofNat->HV
open _root_.Functor renaming map->UH
open Go.Operand renaming tmp->Vq
open Go renaming undef->au
open Go.Obj renaming cells->aA
open _root_.Bool renaming false->av,true->aq
open _root_.Option renaming none->ay,some->aa
open _root_.Or renaming inl->aF,inr->aD
section
structure bh where
 wh:Int
 nm:ByteArray
 kd:Int
 fl:Int
 ck:Int
 of:Int
 ln:Int
 dt:ByteArray
 er:Int
def bh.zero:bh:=⟨0,⟨#[]⟩,0,0,0,0,0,⟨#[]⟩,0⟩
def bh.closing:bh:=⟨4,⟨#[]⟩,0,0,0,0,0,⟨#[]⟩,0⟩
def bt(s:ByteArray)(i:Nat):Int:=((s.data.getD i 0).toNat:Int)
def ve(s i)(h:i<s.size):(s[i].toNat:Int)=bt s i:=by unfold bt;rw[show s[i]=s.data[i] from rfl];simp[wj,h]
def oO(s i):0<=bt s i/\bt s i<=255:=by unfold bt;have:=(s.data.getD i 0).toNat_lt;omega
def two(s:ByteArray)(i:Nat):Int:=bt s i+256*bt s (i+1)
abbrev nx(s d:ByteArray)(e:Int):bh:=⟨3,⟨#[]⟩,bt s 1,bt s 2,two s 3,two s 5,two s 7,d,e⟩
def lA(s i):0<=two s i/\two s i<=65535:=by have a:=oO s i;have b:=oO s (i+1);unfold two;omega
def verdict(sz a fl of ln:Int):Int:=
 if 5<a\/1<fl then 22
 else if fl=1/\a≠3/\a≠1/\a≠4 then 22
 else if a≠0/\a≠3/\a≠1/\a≠4 then(if of≠0\/ln≠0 then 22 else 0)
 else if ln=0\/ln %4≠0\/of %4≠0 then 22
 else if sz<of+ln then(if a=1\/a=4 then 28 else 22)
 else 0
def vu(i:Nat):Int:=if i=0 then 70 else if i=1 then 69 else if i=2 then 82 else if i=3 then 82 else 89
def dN(s:ByteArray):Nat->Nat->bh×Int
 |0,_=>if s.size<6 then(.zero,0)else(⟨1,s.extract 5 6,0,0,0,0,0,⟨#[]⟩,0⟩,6)
 |f+1,i=>if s.size<=i then(.zero,0)else if bt s i=vu i then dN s f (i+1)else(.closing,i+1)
def mZ(s:ByteArray):bh×Int:=dN s 5 0
def opt(s:ByteArray):bh×Int:=
 if s.size=0 then(.zero,0)else if bt s 0<97\/122<bt s 0 then(.closing,1)else(⟨2,s.extract 0 1,0,0,0,0,0,⟨#[]⟩,0⟩,1)
def lU(sz a:Int)(b:aB Int)(s:ByteArray):bh×Int:=
 if s.size<9 then(.zero,0)
 else if bt s 0≠81\/a<two s 7\/two s 3∈b then(.closing,9)
 else if bt s 1=1 then
  (if(s.size:Int)<9+two s 7 then(.zero,0)
   else((nx s (s.extract 9 (9+two s 7).toNat) (verdict sz (bt s 1) (bt s 2) (two s 5) (two s 7))),9+two s 7))
 else(⟨3,⟨#[]⟩,bt s 1,bt s 2,two s 3,two s 5,two s 7,⟨#[]⟩,verdict sz (bt s 1) (bt s 2) (two s 5) (two s 7)⟩,9)
def first(sz a ph:Int)(b:aB Int)(s:ByteArray):bh×Int:=
 if ph=0 then mZ s else if ph=1 then opt s else if ph=2 then lU sz a b s else(.zero,0)
def after(ph:Int)(m:bh):Int:=
 if m.wh=1/\(m.nm.toList==[97])=aq then 1 else if m.wh=2/\(m.nm.toList==[103])=aq then 2 else if m.wh=3/\m.kd=5/\m.er=0 then 3 else if m.wh=4 then 4 else ph
def accepted(m:bh):Bool:=decide (m.wh=3/\m.er=0/\m.kd≠5)
abbrev Key:=Int×Int
def dU(a b:Key):Bool:=decide (a.1<b.1)||(decide (a.1=b.1)&&decide (a.2<b.2))
def ig(a b:Key):Prop:=a.1<b.1\/(a.1=b.1/\a.2<=b.2)
def DN(a b:Key):dU a b=aq↔¬ig b a:=by unfold dU ig;simp;omega
def Bx{a b}(h:dU a b=aq):ig a b:=by rw[DN]at h;unfold ig at*;omega
def By{a b}(h:dU a b=av):ig b a:=by
 have:¬dU a b=aq:=by rw[h];simp
 rw[DN]at this;exact Classical.not_not.1 this
def ig.trans{a b c}(h:ig a b)(k:ig b c):ig a c:=by unfold ig at*;omega
def ig.refl(a:Key):ig a a:=by unfold ig;omega
def gF{α:Type}(f:Nat->α)(i k:Nat):Nat->α:=λx=>if x=i then f k else if x=k then f i else f x
abbrev par(i:Nat):Nat:=(i-1) / 2
def Hp(n:Nat)(f:Nat->Key):Prop:=∀j,0<j->j<n->ig (f (par j)) (f j)
structure uP(n:Nat)(f:Nat->Key)(i:Nat):Prop where
 rest:∀j,0<j->j<n->j≠i->ig (f (par j)) (f j)
 over:0<i->∀c,0<c->c<n->par c=i->ig (f (par i)) (f c)
structure uO(n:Nat)(f:Nat->Key)(i:Nat):Prop where
 rest:∀j,0<j->j<n->par j≠i->ig (f (par j)) (f j)
 over:0<i->∀c,0<c->c<n->par c=i->ig (f (par i)) (f c)
def uP.done{n f i}(h:uP n f i)(hi:i=0\/dU (f i) (f (par i))=av):Hp n f:=λj h0 a=>by
 by_cases e:j=i
 ·subst e;rcases hi with hi|hi
  ·omega
  ·exact By hi
 ·exact h.rest j h0 a e
def uP.step{n f i}(h:uP n f i)(h0:0<i)(t:i<n)(o:dU (f i) (f (par i))=aq):uP n (gF f i (par i)) (par i):=by
 have u:par i<i:=by grind
 have l:=Bx o;refine⟨λj d g s=>?_,λm c p q r=>?_⟩
 ·unfold gF
  by_cases e:j=i
  ·subst e;rw[aQ ak,aX rfl,aX rfl];exact l
  ·rw[aQ e,aQ s]
   by_cases a:par j=i
   ·rw[aX a];exact h.over h0 j d g a
   ·rw[aQ a]
    by_cases b:par j=par i
    ·rw[aX b];exact l.trans (b▸h.rest j d g e)
    ·rw[aQ b];exact h.rest j d g e
 ·have v:par (par i)<par i:=by simp only[par]at m⊢;omega
  have k:=h.rest (par i) m ak ak;unfold gF;rw[aQ ak,aQ ak]
  by_cases e:c=i
  ·rw[aX e];exact k
  ·rw[aQ e,aQ (by grind)];have:=h.rest c p q e;rw[r]at this;exact k.trans this
def jy(n:Nat)(f:Nat->Key)(i c:Nat)(m:Nat):Nat:=if c<n/\dU (f c) (f m)=aq then c else m
def uO.done{n f i}(h:uO n f i)(hm:jy n f i (2*i+2) (jy n f i (2*i+1) i)=i):Hp n f:=λj h0 g=>by
 by_cases e:par j=i
 ·have l:j=2*i+1\/j=2*i+2:=by simp only[par]at e;omega
  have b:jy n f i (2*i+1) i=i:=by
   by_cases c:jy n f i (2*i+1) i=i
   ·exact c
   ·exfalso
    have k:jy n f i (2*i+1) i=2*i+1:=by
     unfold jy at c⊢;split at c
     ·rw[aX (by assumption)]
     ·exact absurd rfl c
    rw[k]at hm;unfold jy at hm;split at hm<;>omega
  rw[b]at hm;rw[e];rcases l with rfl|rfl
  ·unfold jy at b;split at b
   ·omega
   ·rename_i d;cases a:dU (f (2*i+1)) (f i)with
    |true=>exact absurd ⟨g,a⟩ d
    |false=>exact By a
  ·unfold jy at hm;split at hm
   ·omega
   ·rename_i d;cases a:dU (f (2*i+2)) (f i)with
    |true=>exact absurd ⟨g,a⟩ d
    |false=>exact By a
 ·exact h.rest j h0 g e
def PE{n f i m}(hm:jy n f i (2*i+2) (jy n f i (2*i+1) i)=m)(k:m≠i):(m=2*i+1\/m=2*i+2)/\m<n/\dU (f m) (f i)=aq/\∀c,c<n->(c=2*i+1\/c=2*i+2)->ig (f m) (f c):=by
 unfold jy at hm
 by_cases e:2*i+1<n/\dU (f (2*i+1)) (f i)=aq
 ·rw[aX e]at hm
  by_cases d:2*i+2<n/\dU (f (2*i+2)) (f (2*i+1))=aq
  ·rw[aX d]at hm;subst hm;have a:=Bx e.2;have b:=Bx d.2;refine⟨aD rfl,d.1,?_,λc j h=>?_⟩
   ·have:=e.2;have:=d.2;rw[DN]at*;unfold ig at*;omega
   ·rcases h with rfl|rfl
    ·exact b
    ·exact ig.refl _
  ·rw[aQ d]at hm;subst hm;refine⟨aF rfl,e.1,e.2,λc j h=>?_⟩;rcases h with rfl|rfl
   ·exact ig.refl _
   ·cases g:dU (f (2*i+2)) (f (2*i+1))with
    |true=>exact absurd ⟨j,g⟩ d
    |false=>exact By g
 ·rw[aQ e]at hm
  by_cases d:2*i+2<n/\dU (f (2*i+2)) (f i)=aq
  ·rw[aX d]at hm;subst hm;refine⟨aD rfl,d.1,d.2,λc j h=>?_⟩;rcases h with rfl|rfl
   ·cases g:dU (f (2*i+1)) (f i)with
    |true=>exact absurd ⟨j,g⟩ e
    |false=>exact(Bx d.2).trans (By g)
   ·exact ig.refl _
  ·rw[aQ d]at hm;exact absurd hm.symm k
def uO.step{n f i m}(h:uO n f i)(hm:jy n f i (2*i+2) (jy n f i (2*i+1) i)=m)(w:m≠i):uO n (gF f i m) m:=by
 obtain⟨y,o,p,q⟩:=PE hm w;have d:par m=i:=by grind
 refine⟨λj k l x=>?_,λz c r u g=>?_⟩
 ·unfold gF
  by_cases e:par j=i
  ·rw[aX e];have v:j≠i:=by grind
   rw[aQ v]
   by_cases a:j=m
   ·rw[aX a];exact(Bx p)
   ·rw[aQ a];exact q j l (by grind)
  ·rw[aQ e,aQ x]
   by_cases a:j=i
   ·subst a;rw[aX rfl];exact h.over k m ak o d
   ·rw[aQ a];have b:j≠m:=λb=>e (b▸d);rw[aQ b];exact h.rest j k l e
 ·have t:c≠m:=by simp only[par]at g;omega
  have s:c≠i:=by grind
  unfold gF;rw[d,aX rfl,aQ s,aQ t];exact g▸h.rest c r u ak
def Hp.top{n f}(h:Hp n f):∀j,j<n->ig (f 0) (f j):=by
 intro j;induction j using Nat.strongRecOn with
 |ind j b=>
  intro a
  by_cases e:j=0
  ·subst e;exact ig.refl _
  ·exact(b (par j) (by grind) (by grind)).trans (h j ak a)
structure St where
 ph:Int
 used:aB Int
 pos:Nat
def St.step(st:St)(x:bh×Int):St:=⟨after st.ph x.1,if accepted x.1 then st.used++[x.1.ck]else st.used,st.pos+x.2.toNat⟩
def St.run(st:St)(xs:aB (bh×Int)):St:=xs.foldl St.step st
def St.KY(st:St)(xs:aB (bh×Int))(x:bh×Int):st.run (xs++[x])=(st.run xs).step x:=by simp[St.run,Ao]
def St.next(sz a:Int)(s:ByteArray)(st:St):bh×Int:=first sz a st.ph st.used (s.extract st.pos s.size)
def mq(sz a:Int)(s:ByteArray):St->aB (bh×Int)->Prop
 |_,[]=>True
 |st,x::b=>st.next sz a s=x/\x.2≠0/\mq sz a s (st.step x) b
def SD(sz mx s)(st:St)(xs:aB (bh×Int))(x:bh×Int):mq sz mx s st (xs++[x])↔mq sz mx s st xs/\(st.run xs).next sz mx s=x/\x.2≠0:=by
 induction xs generalizing st with
 |nil=>simp[mq,St.run]
 |cons y g f=>
  simp only[jY,mq,f];simp;constructor
  ·rintro⟨a,b,c,d,e⟩;exact⟨⟨a,b,c⟩,d,e⟩
  ·rintro⟨⟨a,b,c⟩,d,e⟩;exact⟨a,b,c,d,e⟩
def l9(s f i):0<=(dN s f i).2/\(dN s f i).2<=s.size:=by
 induction f generalizing i with
 |zero=>unfold dN;split<;>simp<;>omega
 |succ f a=>
  unfold dN;split
  ·simp
  ·split
   ·exact a (i+1)
   ·simp;omega
def Jf(sz mx ph used s):0<=(first sz mx ph used s).2/\(first sz mx ph used s).2<=s.size:=by
 have a:=lA s 7;unfold first
 split
 ·exact l9 s 5 0
 ·split
  ·unfold opt;repeat' split
   all_goals simp
   all_goals omega
  ·split
   ·unfold lU;repeat' split
    all_goals simp
    all_goals omega
   ·simp
def RB(sz mx s)(st:St):0<=(st.next sz mx s).2/\(st.next sz mx s).2<=(s.size-st.pos:Nat):=by
 have h:=Jf sz mx st.ph st.used (s.extract st.pos s.size);have e:(s.extract st.pos s.size).size=s.size-st.pos:=by simp[mI]
 rw[e]at h;exact h
def KZ(sz mx s)(st:St)(xs:aB (bh×Int))(h0:st.pos<=s.size)(h:mq sz mx s st xs):st.pos+xs.length<=(st.run xs).pos/\(st.run xs).pos<=s.size:=by
 induction xs generalizing st with
 |nil=>simp[St.run];omega
 |cons x xs d=>
  obtain⟨a,f,b⟩:=h;have c:=RB sz mx s st;rw[a]at c;have e:(st.step x).pos=st.pos+x.2.toNat:=rfl;have:=d (st.step x) ak b;simp only[St.run,sR,eT]at this⊢;omega
def jQ(n:Int):aB UInt8:=[HV (n %256).toNat,HV (n / 256).toNat]
def answer(sz a:Int)(m:bh):ByteArray:=
 if m.wh=1 then(if(m.nm.toList==[97])=aq then⟨#[89]⟩else⟨#[78]⟩)
 else if m.wh=2 then(if(m.nm.toList==[105])=aq then⟨#[73]⟩++⟨(jQ sz).toArray⟩++⟨(jQ a).toArray⟩else if(m.nm.toList==[103])=aq then⟨#[71]⟩else⟨#[85]⟩++m.nm)
 else⟨#[]⟩
structure Cl where
 no:Int
 wt:Int
 ph:Int
 bg:ByteArray
 out:ByteArray
 tok:Int
def x8(s f i):(dN s f i).1.wh=0/\(dN s f i).2=0\/(dN s f i).1.wh=1\/(dN s f i).1=.closing:=by
 induction f generalizing i with
 |zero=>unfold dN;split<;>simp[bh.zero]
 |succ f a=>
  unfold dN;split
  ·simp[bh.zero]
  ·split
   ·exact a (i+1)
   ·simp
def XQ(s:ByteArray)(p n:Nat)(_h:p+n<=s.size):(s.extract p s.size).extract n (s.extract p s.size).size=s.extract (p+n) s.size:=by
 apply wu;simp[mI]
 congr 1
 omega
def n9(s f i):(dN s f i).1.nm.size<=1:=by
 induction f generalizing i with
 |zero=>unfold dN;split
        ·exact(by decide:(0:Nat)<=1)
        ·show(s.extract 5 6).size<=1;simp[mI];omega
 |succ f a=>
  unfold dN;split
  ·exact(by decide:(0:Nat)<=1)
  ·split
   ·exact a (i+1)
   ·exact(by decide:(0:Nat)<=1)
def Pr(sz mx ph us s):(first sz mx ph us s).1.nm.size<=1:=by
 unfold first
 split
 ·exact n9 s 5 0
 ·split
  ·unfold opt;split
   ·exact(by decide:(0:Nat)<=1)
   ·split
    ·exact(by decide:(0:Nat)<=1)
    ·show(s.extract 0 1).size<=1;simp[mI];omega
  ·split
   ·unfold lU
    repeat' split
    all_goals exact(by decide:(0:Nat)<=1)
   ·exact(by decide:(0:Nat)<=1)
def tk{P ops Q md S oi v fuel listed a a' w}(i)(h:wpAnyH P md ops Q S fuel (listed.setIfInBounds i aq) a' w)(hS:S w:=by assumption) (f:ops[i]? =aa oi:=by rfl) (g:Av ops=aq:=by kernel_rfl) (hf:yE md ops listed i=aq:=by kernel_rfl) (hr:(eB md ops listed).contains i=aq:=by kernel_rfl) (b:∀c a w,Q (.panic c) (a.put oi.dst v) w->Q (.panic c) a w:=by exact λ_ _ _ h=>h) (j:dw oi (yielded ops a.tmps)=aq:=by rfl) (k:∀w,S w->(execOp a.eval oi).run P w=.ok (.value v) w:=by(intro l d;(try dsimp only at d);go_simp;try with_reducible rfl)) (e:a.put oi.dst v=a':=by(first|(simp only[Act.put,uw,rE,sS,rI,rK,rJ];rfl)|rfl)):wpAnyH P md ops Q S (fuel+1) listed a w:=
 wpAnyH_take f g hf hr b (aF ⟨j,k⟩) hS (e▸h)
section
variable {P:aZ} {ops:aK kU} {Q:Exit->Act->az->Prop} {md:yD} {S:az->Prop} {fuel:Nat} {listed:aK Bool} {a:Act} {w:az} {o:kU}
def rH(i)(h:∀b:Act->az->Prop,Shut (∀a w,S w->(S w->wpAnyH P md ops Q S fuel (listed.setIfInBounds i aq) a w)->b a w)->if dw o (yielded ops a.tmps)=aq then Ho P o a w b Q else b (a.put o.dst au) w)(c:ops[i]? =aa o:=by rfl) (hr:eB md ops listed=[i]:=by kernel_rfl):wpAnyH P md ops Q S (fuel+1) listed a w:=wpAnyH_ready hr aC (.cons c h .nil)
def aH(rs)(h:AllReadyH P md ops Q S fuel listed a w rs)(hr:eB md ops listed=rs:=by kernel_rfl) (b:rs≠[]:=by simp):wpAnyH P md ops Q S (fuel+1) listed a w:=wpAnyH_ready hr b h
end
def eD{P:aZ}{ops:aK kU}{Q:Exit->Act->az->Prop}{S:az->Prop}{id:Nat}{a:Act}{w:az}(hS:S w.drew)(h:S w.drew->wpAnyH P .any ops (NoPanic Q) S ops.size (sI ops.size av) a w.drew)(hm:P.follows .mixedOrders=aq:=by kernel_rfl):(Mn id ops aq).wp P Q a w:=wp_region_noPanic (wp_region_held_drew hm hS h)
def dc{P:aZ}{ops:aK kU}{Q:Exit->Act->az->Prop}{S:az->Prop}{md:yD}{listed:aK Bool}{a:Act}{w:az}{fuel:Nat}(h:Q .normal a w)(hr:eB md ops listed=[]:=by kernel_rfl):wpAnyH P md ops (NoPanic Q) S fuel listed a w:=wpAnyH_done hr (NoPanic.normal h) _
def heldBy(md:yD)(ops:aK kU)(i:Nat):Nat->Nat->Bool
 |0,j=>j==i
 |n+1,j=>heldBy md ops i n j||(match ops[j]? with|some o=>o.after.any λe=>tA md e&&heldBy md ops i n e.on|none=>av)
section
variable {P:aZ} {ops:aK kU} {Q:Exit->Act->az->Prop} {md:yD} {S:az->Prop} {s:Nat}
def ED{i j}:∀{n:Nat},heldBy md ops i n j=aq->j=i\/∃o e,ops[j]? =aa o/\e∈o.after/\tA md e=aq/\heldBy md ops i n e.on=aq
 |0,h=>aF (by simpa[heldBy]using h)
 |n+1,h=>by
  simp only[heldBy,qx]at h;rcases h with h|h
  ·rcases ED h with e|⟨o,e,b,c,d,f⟩
   ·exact aF e
   ·exact aD ⟨o,e,b,c,d,by simp[heldBy,f]⟩
  ·cases a:ops[j]? with
   |none=>rw[a]at h;cases h
   |some o=>
    rw[a]at h;simp only[Array.any_eq_true']at h;obtain⟨e,g,h⟩:=h;rw[cM]at h;exact aD ⟨o,e,rfl,g,h.1,by simp[heldBy,h.2]⟩
def stays{i j n listed}(h:∀k,heldBy md ops i n k=aq->listed.getD k aq=av)(p:j∈eB md ops listed)(q:j≠i):
  ∀k,heldBy md ops i n k=aq->(listed.setIfInBounds j aq).getD k aq=av:=λk b=>by
 by_cases e:j=k
 ·subst e;rcases ED b with e|⟨o,e,d,f,g,l⟩
  ·exact absurd e q
  ·obtain⟨_,r,c,m⟩:=Dm.1 p;rw[d]at c;cases c;have a1:=m e f g;have a:=h _ l;rcases lZ e.on listed.size with h'|h'
   ·simp[h']at a1 a;rw[a1]at a;cases a
   ·simp[rA h']at a
 ·rw[yH aq e];exact h k b
def jT(P:aZ)(md:yD)(ops:aK kU)(Q:Exit->Act->az->Prop)(S:az->Prop)(s:Nat):Nat->aK Bool->Act->az->Prop
 |0,listed,a,w=>eB md ops listed=[]/\Q .normal a w
 |fuel+1,listed,a,w=>
  (eB md ops listed=[]->Q .normal a w)/\
  ∀i∈eB md ops listed,wpOp P ops Q i (λc b=>((listed.setIfInBounds i aq).getD s aq=av->S b)/\jT P md ops Q S s fuel (listed.setIfInBounds i aq) c b) a w
def Uk:∀(fuel:Nat) (listed:aK Bool) (a:Act) (w:az),jT P md ops Q S s fuel listed a w->wpAny P md ops Q fuel listed a w
 |0,_,_,_,h=>h
 |fuel+1,_,_,_,h=>⟨h.1,λi d=>wpOp_mono (λb e c=>Uk fuel _ b e c.2) (h.2 i d)⟩
def Gt{T i n oi v}(t:ops[i]? =aa oi)(C:∀(j:Nat) (o:kU) cs b,ops[j]? =aa o->o.op≠.select cs b)(K:∀c a w,Q (.panic c) (a.put oi.dst v) w->Q (.panic c) a w)(D:i≠s)(r:(∀w,T w)\/((∀w,S w->T w)/\heldBy md ops i n s=aq)):
  ∀(fuel:Nat) (listed:aK Bool) (a:Act) (w:az),
   (∀j g,ops[j]? =aa g->j≠i->listed.getD j aq=av->(∀e∈g.after,tA md e=aq->e.on≠i)->oi.apart ops g=aq)->
   i∈eB md ops listed->((∀k,heldBy md ops i n k=aq->listed.getD k aq=av)\/∀w,T w)->YieldsIf P ops T oi v a->(listed.getD s aq=av->S w)->
   jT P md ops Q S s fuel (listed.setIfInBounds i aq) (a.put oi.dst v) w->jT P md ops Q S s (fuel+1) listed a w:=by
 have F:∀{listed:aK Bool} {w:az},((∀k,heldBy md ops i n k=aq->listed.getD k aq=av)\/(∀w,T w))->(listed.getD s aq=av->S w)->T w:=λh hS=>by
  rcases h with h|h
  ·rcases r with r|⟨f,J⟩
   ·exact r _
   ·exact f _ (hS (h s J))
  ·exact h _
 have B:∀{listed:aK Bool} {w:az},(listed.getD s aq=av->S w)->(listed.setIfInBounds i aq).getD s aq=av->S w:=λh e=>h (by rw[yH aq D]at e;exact e);intro fuel;induction fuel with
 |zero=>
  intro listed a w _ hr m p hS H;refine⟨λh=>(by rw[h]at hr;cases hr),λj l=>?_⟩
  by_cases d:j=i
  ·subst d;exact p.wpOp t (F m hS) ⟨B hS,H⟩
  ·have:=AJ l d;rw[H.1]at this;cases this
 |succ fuel Y=>
  intro listed a w y hr m p hS H;refine⟨λh=>(by rw[h]at hr;cases hr),λj l=>?_⟩
  by_cases d:j=i
  ·subst d;exact p.wpOp t (F m hS) ⟨B hS,H⟩
  ·have f:=H.2 j (AJ l d);obtain⟨A,g,u,L⟩:=Dm.1 l
   have X:∀e∈g.after,tA md e=aq->e.on≠i:=λe N M O=>by
    have f:=L e N M;have h0:=(Dm.1 hr).1;rw[O]at f;rcases lZ i listed.size with h'|h'
    ·simp[h']at h0 f;rw[h0]at f;cases f
    ·simp[rA h']at f
   have R:∀k ok,ops[k]? =aa ok->k≠i->(listed.setIfInBounds j aq).getD k aq=av->
     (∀e∈ok.after,tA md e=aq->e.on≠i)->oi.apart ops ok=aq:=λk ok U V E W=>by
    refine y k ok U V ?_ W
    by_cases z:j=k
    ·subst z;exact A
    ·rw[yH aq z]at E;exact E
   refine wpOp_mono (λI G q=>?_) (wpOp_putIf u (y j g u d A X) (λcs b=>C i oi cs b t) (λcs b=>C j g cs b u) K p f)
   have x:(listed.setIfInBounds j aq).getD s aq=av->S G:=λe=>q.2.1 (by rw[Co _ _ (dF d),yH aq D];exact e)
   refine⟨x,Y (listed.setIfInBounds j aq) I G R (AJ hr (dF d)) (m.imp (λh=>stays h l d) id) q.1 x ?_⟩;rw[Co _ _ d];exact q.2.2
def gk{oi v fuel listed a a' w}(i)(h:jT P md ops Q S s fuel (listed.setIfInBounds i aq) a' w)(hS:S w:=by assumption) (b:ops[i]? =aa oi:=by rfl) (f:Av ops=aq:=by kernel_rfl) (hf:yE md ops listed i=aq:=by kernel_rfl) (hr:(eB md ops listed).contains i=aq:=by kernel_rfl) (g:i≠s:=by decide) (d:∀c a w,Q (.panic c) (a.put oi.dst v) w->Q (.panic c) a w:=by exact λ_ _ _ h=>h) (j:dw oi (yielded ops a.tmps)=aq:=by rfl) (k:∀w:az,(execOp a.eval oi).run P w=.ok (.value v) w:=by(intro l;go_simp;try with_reducible rfl)) (e:a.put oi.dst v=a':=by(first|(simp only[Act.put,uw,rE,sS,rI,rK,rJ];rfl)|rfl)):jT P md ops Q S s (fuel+1) listed a w:=
 Gt (T:=λ_=>True) (n:=0) b (Dd f) d g (aF λ_=>trivial) fuel listed a w (Au b hf) (by grind) (aD λ_=>trivial) (aF ⟨j,λw _=>k w⟩) (λ_=>hS) (e▸h)
def gs{oi v fuel listed a a' w}(i)(h:jT P md ops Q S s fuel (listed.setIfInBounds i aq) a' w)(hS:S w:=by assumption) (d:ops[i]? =aa oi:=by rfl) (q:Av ops=aq:=by kernel_rfl) (hf:yE md ops listed i=aq:=by kernel_rfl) (hr:(eB md ops listed).contains i=aq:=by kernel_rfl) (r:i≠s:=by decide) (b:(heldBy md ops i 6 s&&((eF ops.size).all λk=>!(heldBy md ops i 6 k)||!(listed.getD k aq)))=aq:=by kernel_rfl) (j:∀c a w,Q (.panic c) (a.put oi.dst v) w->Q (.panic c) a w:=by exact λ_ _ _ h=>h) (t:dw oi (yielded ops a.tmps)=aq:=by rfl) (u:∀w,S w->(execOp a.eval oi).run P w=.ok (.value v) w:=by(intro x l;(try dsimp only at l);go_simp;try with_reducible rfl)) (m:a.put oi.dst v=a':=by(first|(simp only[Act.put,uw,rE,sS,rI,rK,rJ];rfl)|rfl)):jT P md ops Q S s (fuel+1) listed a w:=by
 rw[cM,nF]at b;refine Gt (T:=S) (n:=6) d (Dd q) j r (aD ⟨λ_ h=>h,b.1⟩) fuel listed a w (Au d hf) (by simpa using hr) (aF λk f=>?_) (aF ⟨t,u⟩) (λ_=>hS) (m▸h)
 have p:k<ops.size:=by
  rcases ED f with e|⟨o,e,g,_⟩
  ·subst e;exact(bp.1 d).1
  ·exact(bp.1 g).1
 have:=b.2 k (mL.2 p);rw[f]at this;simpa using this
def g0{oi fuel listed a a' w}(i)(h:jT P md ops Q S s fuel (listed.setIfInBounds i aq) a' w)(hS:S w:=by assumption) (b:ops[i]? =aa oi:=by rfl) (f:Av ops=aq:=by kernel_rfl) (hf:yE md ops listed i=aq:=by kernel_rfl) (hr:(eB md ops listed).contains i=aq:=by kernel_rfl) (g:i≠s:=by decide) (d:∀c a w,Q (.panic c) (a.put oi.dst au) w->Q (.panic c) a w:=by exact λ_ _ _ h=>h) (j:dw oi (yielded ops a.tmps)=av:=by rfl) (e:a.put oi.dst au=a':=by(first|(simp only[Act.put,uw,rE,sS,rI,rK,rJ];rfl)|rfl)):jT P md ops Q S s (fuel+1) listed a w:=
 Gt (T:=λ_=>True) (n:=0) b (Dd f) d g (aF λ_=>trivial) fuel listed a w (Au b hf) (by grind) (aD λ_=>trivial) (aD ⟨j,rfl⟩) (λ_=>hS) (e▸h)
def ga{oi v fuel listed a a' w}(i)(h:jT P md ops Q S s fuel (listed.setIfInBounds i aq) a' w)(m:listed.getD s aq=aq:=by kernel_rfl) (b:ops[i]? =aa oi:=by rfl) (g:Av ops=aq:=by kernel_rfl) (hf:yE md ops listed i=aq:=by kernel_rfl) (hr:(eB md ops listed).contains i=aq:=by kernel_rfl) (j:i≠s:=by decide) (d:∀c a w,Q (.panic c) (a.put oi.dst v) w->Q (.panic c) a w:=by exact λ_ _ _ h=>h) (k:dw oi (yielded ops a.tmps)=aq:=by rfl) (l:∀w:az,(execOp a.eval oi).run P w=.ok (.value v) w:=by(intro o;go_simp;try with_reducible rfl)) (f:a.put oi.dst v=a':=by(first|(simp only[Act.put,uw,rE,sS,rI,rK,rJ];rfl)|rfl)):jT P md ops Q S s (fuel+1) listed a w:=
 Gt (T:=λ_=>True) (n:=0) b (Dd g) d j (aF λ_=>trivial) fuel listed a w (Au b hf) (by grind) (aD λ_=>trivial) (aF ⟨k,λw _=>l w⟩) (λe=>by rw[m]at e;cases e) (f▸h)
def gr{o fuel listed a w}(i)(h:∀b:Act->az->Prop,Shut (∀a w,S w->(S w->jT P md ops Q S s fuel (listed.setIfInBounds i aq) a w)->b a w)->if dw o (yielded ops a.tmps)=aq then Ho P o a w b Q else b (a.put o.dst au) w)(k:ops[i]? =aa o:=by rfl) (hr:eB md ops listed=[i]:=by kernel_rfl):jT P md ops Q S s (fuel+1) listed a w:=by
 refine⟨λh0=>(by grind),?_⟩;rw[hr];intro j g;obtain rfl:=lX.1 g;unfold wpOp;simp only[k];have:=h (λf d=>((listed.setIfInBounds j aq).getD s aq=av->S d)/\jT P md ops Q S s fuel (listed.setIfInBounds j aq) f d) (λa w c h=>⟨λ_=>c,h c⟩);split
 ·rename_i e;rw[aX e]at this;exact aF this
 ·rename_i e;rw[aQ e]at this;exact this
def gz{o fuel listed a w}(h:∀b:Act->az->Prop,Shut (∀a w,jT P md ops Q S s fuel (listed.setIfInBounds s aq) a w->b a w)->if dw o (yielded ops a.tmps)=aq then Ho P o a w b Q else b (a.put o.dst au) w)(k:ops[s]? =aa o:=by rfl) (hr:eB md ops listed=[s]:=by kernel_rfl) (i:s<listed.size:=by decide):jT P md ops Q S s (fuel+1) listed a w:=by
 refine⟨λh0=>(by grind),?_⟩;rw[hr];intro j g;obtain rfl:=lX.1 g;unfold wpOp;simp only[k];have f:(listed.setIfInBounds j aq).getD j aq≠av:=by simp[i]
 have:=h (λd c=>((listed.setIfInBounds j aq).getD j aq=av->S c)/\jT P md ops Q S j fuel (listed.setIfInBounds j aq) d c) (λa w h=>⟨λe=>absurd e f,h⟩);split
 ·rename_i e;rw[aX e]at this;exact aF this
 ·rename_i e;rw[aQ e]at this;exact this
def eu{listed a w}(hr:eB md ops listed=[])(h:Q .normal a w):
  ∀fuel,jT P md ops Q S s fuel listed a w
 |0=>⟨hr,h⟩
 |_+1=>⟨λ_=>h,by rw[hr];simp⟩
def dB{id a w}(s)(hm:P.follows .mixedOrders=aq)(hS:S w.drew)(h:S w.drew->jT P .any ops Q S s ops.size (sI ops.size av) a w.drew):(Mn id ops aq).wp P Q a w:=
 wp_region_any hm (Uk _ _ _ _ (h hS))
end
section
variable {F:Fence} {n:Nat} {P:aZ} {ops:aK kU} {Q:Exit->Act->az->Prop} {md:yD} {S T:az->Prop} {s i:Nat} {o oi:kU} {v:aE} {fuel:Nat} {listed:aK Bool} {a a':Act} {w:az}
def uW(P:aZ)(ops:aK kU)(T:az->Prop)(o:kU)(v:aE)(a:Act):Prop:=YieldsIf P ops T o v a/\∀w,o.about P w a.eval=ay
def uW.wpOpIn(l:∀c,o.op≠.defer c)(k:ops[i]? =aa o)(g:uW P ops T o v a){K}(j:T w)(h:K (a.put o.dst v) w):wpOpIn F n P ops Q i K a w:=by
 unfold Go.wpOpIn;simp only[k];have d:∀f,o.about P w a.eval=aa f->F.fn f:=λf e=>by rw[g.2 w]at e;cases e
 rcases g.1 with⟨b,hv⟩|⟨b,rfl⟩
 ·simp only[b,cS,Hq,MW F _ _ l,hv w j,MX];exact⟨d,h⟩
 ·simp only[b,eR,dQ];exact⟨d,h⟩
def afJ{j g}(B:∀c,g.op≠.defer c)(E:ops[j]? =aa g)(D:oi.apart ops g=aq)(G:∀cs b,oi.op≠.select cs b)(H:∀cs b,g.op≠.select cs b)(y:∀c a w,Q (.panic c) (a.put oi.dst v) w->Q (.panic c) a w){K}(k:uW P ops T oi v a)(h:wpOpIn F n P ops Q j K (a.put oi.dst v) w):
  wpOpIn F n P ops Q j (λa' A=>uW P ops T oi v a'/\K (a'.put oi.dst v) A) a w:=by
 obtain⟨q,p,t⟩:=Oper.apart_spec D
 have keep:∀(a:Act),uW P ops T oi v a->∀u,uW P ops T oi v (a.put g.dst u):=λa k u=>
  ⟨k.1.of_same (execOp_put oi G a g.dst u t) (wanted_put oi a g.dst u t),λw=>by rw[BX oi w a g.dst u t];exact k.2 w⟩
 have I:∀d,uW P ops T oi v {a with defers:=d::a.defers}:=λd=>k;unfold wpOpIn at*;simp only[E]at*;rw[wanted_put g a oi.dst v q,BX g w a oi.dst v q]at h;split
 ·rename_i z;simp only[z,cS]at h;unfold Hq at*;rw[BX g w a oi.dst v q]at h;refine⟨h.1,?_⟩;have h:=h.2;rw[MW F _ _ B,execOp_put g H a oi.dst v q]at h;rw[MW F _ _ B];generalize (execOp a.eval g).run P w=r at*;cases r with
  |ok x A=>
   cases x<;>simp only[MX]at h⊢
   case value u=>exact⟨keep a k u,by rw[<-xW a v u p];exact h⟩
   case skip=>exact⟨keep a k _,by rw[<-xW a v au p];exact h⟩
   case defer d=>
    refine⟨keep _ (I d) _,?_⟩;rw[<-xW _ v au p,<-Act.put_defers];exact h
   case enter f args=>
    refine⟨h.1,CallsIn.mono h.2 λe C m=>?_⟩;cases e with
    |returned u=>exact⟨keep a k u,by rw[<-xW a v u p];exact m⟩
    |panicked c=>exact y _ _ _ m
    |outgrown=>exact m
   case row row args=>exact⟨h.1,RowsIn.mono h.2 λu C m=>⟨keep a k u,by rw[<-xW a v u p];exact m⟩⟩
   case round l f tmps assign body=>
    refine⟨h.1,RoundIn.mono h.2 λe C m=>?_⟩;cases e with
    |returned u=>exact⟨keep a k u,by rw[<-xW a v u p];exact m⟩
    |panicked c=>exact y _ _ _ m
    |outgrown=>exact m
  |halt x A=>
   cases x<;>simp only[MX]at h⊢
   case panic u=>exact y _ _ _ h
 ·rename_i z;simp only[z]at h;exact⟨h.1,keep a k _,by rw[<-xW a v au p];exact h.2⟩
def nX(F:Fence)(n:Nat)(P:aZ)(md:yD)(ops:aK kU)(Q:Exit->Act->az->Prop)(S:az->Prop)(s:Nat):Nat->aK Bool->Act->az->Prop
 |0,listed,a,w=>eB md ops listed=[]/\Q .normal a w
 |fuel+1,listed,a,w=>
  (eB md ops listed=[]->Q .normal a w)/\
  ∀i∈eB md ops listed,wpOpIn F n P ops Q i (λa' b=>((listed.setIfInBounds i aq).getD s aq=av->S b)/\nX F n P md ops Q S s fuel (listed.setIfInBounds i aq) a' b) a w
def Ui:∀(fuel:Nat) (listed:aK Bool) (a:Act) (w:az),nX F n P md ops Q S s fuel listed a w->wpAnyIn F n P md ops Q fuel listed a w
 |0,_,_,_,h=>h
 |fuel+1,_,_,_,h=>⟨h.1,λi c=>wpOpIn_mono (λa' d b=>Ui fuel _ a' d b.2) (h.2 i c)⟩
def ndB(ops:aK kU):Bool:=Av ops&&ops.all λo=>match o.op with|.defer _=>av|_=>aq
def Km(h:ndB ops=aq){j:Nat}{o:kU}(b:ops[j]? =aa o):∀c,o.op≠.defer c:=λc e=>by unfold ndB at h;rw[cM,qw]at h;have:=h.2 o (lV b);rw[e]at this;cases this
def Uj{m:Nat}(l:ops[i]? =aa oi)(r:ndB ops=aq)
  (M:∀c a w,Q (.panic c) (a.put oi.dst v) w->Q (.panic c) a w) (G:i≠s) (y:(∀w,T w)\/((∀w,S w->T w)/\heldBy md ops i m s=aq)):
  ∀(fuel:Nat) (listed:aK Bool) (a:Act) (w:az),
   (∀j g,ops[j]? =aa g->j≠i->listed.getD j aq=av->(∀e∈g.after,tA md e=aq->e.on≠i)->oi.apart ops g=aq)->
   i∈eB md ops listed->((∀k,heldBy md ops i m k=aq->listed.getD k aq=av)\/∀w,T w)->uW P ops T oi v a->(listed.getD s aq=av->S w)->
   nX F n P md ops Q S s fuel (listed.setIfInBounds i aq) (a.put oi.dst v) w->nX F n P md ops Q S s (fuel+1) listed a w:=by
 have E:=Dd ((cM _ _).mp r).1
 have J:∀{listed:aK Bool} {w:az},((∀k,heldBy md ops i m k=aq->listed.getD k aq=av)\/(∀w,T w))->(listed.getD s aq=av->S w)->T w:=λh hS=>by
  rcases h with h|h
  ·rcases y with y|⟨f,L⟩
   ·exact y _
   ·exact f _ (hS (h s L))
  ·exact h _
 have D:∀{listed:aK Bool} {w:az},(listed.getD s aq=av->S w)->(listed.setIfInBounds i aq).getD s aq=av->S w:=λh e=>h (by rw[yH aq G]at e;exact e);intro fuel;induction fuel with
 |zero=>
  intro listed a w _ hr q u hS H;refine⟨λh=>(by rw[h]at hr;cases hr),λj p=>?_⟩
  by_cases d:j=i
  ·subst d;exact u.wpOpIn (Km r l) l (J q hS) ⟨D hS,H⟩
  ·have:=AJ p d;rw[H.1]at this;cases this
 |succ fuel ih=>
  intro listed a w A hr q u hS H;refine⟨λh=>(by rw[h]at hr;cases hr),λj p=>?_⟩
  by_cases d:j=i
  ·subst d;exact u.wpOpIn (Km r l) l (J q hS) ⟨D hS,H⟩
  ·have f:=H.2 j (AJ p d);obtain⟨C,g,t,N⟩:=Dm.1 p
   have Z:∀e∈g.after,tA md e=aq->e.on≠i:=λe R O U=>by
    have f:=N e R O;have h0:=(Dm.1 hr).1;rw[U]at f;rcases lZ i listed.size with h'|h'
    ·simp[h']at h0 f;rw[h0]at f;cases f
    ·simp[rA h']at f
   have V:∀k ok,ops[k]? =aa ok->k≠i->(listed.setIfInBounds j aq).getD k aq=av->
     (∀e∈ok.after,tA md e=aq->e.on≠i)->oi.apart ops ok=aq:=λk ok W X I Y=>by
    refine A k ok W X ?_ Y
    by_cases B:j=k
    ·subst B;exact C
    ·rw[yH aq B]at I;exact I
   refine wpOpIn_mono (λa' K x=>?_) (afJ (Km r t) t (A j g t d C Z) (λcs b=>E i oi cs b l) (λcs b=>E j g cs b t) M u f)
   have z:(listed.setIfInBounds j aq).getD s aq=av->S K:=λe=>x.2.1 (by rw[Co _ _ (dF d),yH aq G];exact e)
   refine⟨z,ih (listed.setIfInBounds j aq) a' K V (AJ hr (dF d)) (q.imp (λh=>stays h p d) id) x.1 z ?_⟩;rw[Co _ _ d];exact x.2.2
def jk(i)(h:nX F n P md ops Q S s fuel (listed.setIfInBounds i aq) a' w)(hS:S w:=by assumption) (b:ops[i]? =aa oi:=by rfl)
  (g:ndB ops=aq:=by kernel_rfl) (hf:yE md ops listed i=aq:=by kernel_rfl) (hr:(eB md ops listed).contains i=aq:=by kernel_rfl) (j:i≠s:=by decide)
  (d:∀c a w,Q (.panic c) (a.put oi.dst v) w->Q (.panic c) a w:=by exact λ_ _ _ h=>h) (k:dw oi (yielded ops a.tmps)=aq:=by rfl) (f:∀w,oi.about P w a.eval=ay:=by intro _;rfl)
  (l:∀w:az,(execOp a.eval oi).run P w=.ok (.value v) w:=by(intro p;go_simp;try with_reducible rfl))
  (e:a.put oi.dst v=a':=by(first|(simp only[Act.put,uw,rE,sS,rI,rK,rJ];rfl)|rfl)):nX F n P md ops Q S s (fuel+1) listed a w:=
 Uj (T:=λ_=>True) (m:=0) b g d j (aF λ_=>trivial) fuel listed a w (Au b hf) (by grind) (aD λ_=>trivial) ⟨aF ⟨k,λw _=>l w⟩,f⟩ (λ_=>hS) (e▸h)
def js(i)(h:nX F n P md ops Q S s fuel (listed.setIfInBounds i aq) a' w)(hS:S w:=by assumption) (d:ops[i]? =aa oi:=by rfl)
  (t:ndB ops=aq:=by kernel_rfl) (hf:yE md ops listed i=aq:=by kernel_rfl) (hr:(eB md ops listed).contains i=aq:=by kernel_rfl) (u:i≠s:=by decide)
  (b:(heldBy md ops i 6 s&&((eF ops.size).all λk=>!(heldBy md ops i 6 k)||!(listed.getD k aq)))=aq:=by kernel_rfl)
  (j:∀c a w,Q (.panic c) (a.put oi.dst v) w->Q (.panic c) a w:=by exact λ_ _ _ h=>h) (x:dw oi (yielded ops a.tmps)=aq:=by rfl) (q:∀w,oi.about P w a.eval=ay:=by intro _;rfl)
  (y:∀w,S w->(execOp a.eval oi).run P w=.ok (.value v) w:=by(intro z l;(try dsimp only at l);go_simp;try with_reducible rfl))
  (p:a.put oi.dst v=a':=by(first|(simp only[Act.put,uw,rE,sS,rI,rK,rJ];rfl)|rfl)):nX F n P md ops Q S s (fuel+1) listed a w:=by
 rw[cM,nF]at b;refine Uj (T:=S) (m:=6) d t j u (aD ⟨λ_ h=>h,b.1⟩) fuel listed a w (Au d hf) (by simpa using hr) (aF λk f=>?_) ⟨aF ⟨x,y⟩,q⟩ (λ_=>hS) (p▸h)
 have r:k<ops.size:=by
  rcases ED f with e|⟨o,e,g,_⟩
  ·subst e;exact(bp.1 d).1
  ·exact(bp.1 g).1
 have:=b.2 k (mL.2 r);rw[f]at this;simpa using this
def jr(i)(h:∀b:Act->az->Prop,Shut (∀a w,S w->(S w->nX F n P md ops Q S s fuel (listed.setIfInBounds i aq) a w)->b a w)->if dw o (yielded ops a.tmps)=aq then Hq F n P o a w b Q else(∀f,o.about P w a.eval=aa f->F.fn f)/\b (a.put o.dst au) w)(e:ops[i]? =aa o:=by rfl) (hr:eB md ops listed=[i]:=by kernel_rfl):nX F n P md ops Q S s (fuel+1) listed a w:=by refine⟨λh0=>(by grind),?_⟩;rw[hr];intro j d;obtain rfl:=lX.1 d;unfold wpOpIn;simp only[e];exact h _ (λa w c h=>⟨λ_=>c,h c⟩)
def jz(h:∀b:Act->az->Prop,Shut (∀a w,nX F n P md ops Q S s fuel (listed.setIfInBounds s aq) a w->b a w)->if dw o (yielded ops a.tmps)=aq then Hq F n P o a w b Q else(∀f,o.about P w a.eval=aa f->F.fn f)/\b (a.put o.dst au) w)(k:ops[s]? =aa o:=by rfl) (hr:eB md ops listed=[s]:=by kernel_rfl) (g:s<listed.size:=by decide):nX F n P md ops Q S s (fuel+1) listed a w:=by
 refine⟨λh0=>(by grind),?_⟩;rw[hr];intro j d;obtain rfl:=lX.1 d;unfold wpOpIn;simp only[k];have c:(listed.setIfInBounds j aq).getD j aq≠av:=by simp[g]
 exact h _ (λa w h=>⟨λe=>absurd e c,h⟩)
def Ma(hr:eB md ops listed=[])(h:Q .normal a w):∀fuel,nX F n P md ops Q S s fuel listed a w
 |0=>⟨hr,h⟩
 |_+1=>⟨λ_=>h,by rw[hr];simp⟩
def Mb{id}(s)(hm:P.follows .mixedOrders=aq)(hS:S w.drew)
  (h:S w.drew->nX F n P .any ops Q S s ops.size (sI ops.size av) a w.drew):(Mn id ops aq).wpIn F n P Q a w:=
 wpIn_region_any hm (Ui _ _ _ _ (h hS))
end
section
class aP where
 ok:bN->Prop
 code:jV->Prop
 known:bN->Prop
 /-- how many frames at the bottom are walked by themselves -/
 depth:Nat
 /-- blocks that are only looked at there, and what they hold -/
 sH:Nat->aY Obj
 /-- the program that runs -/
 prog:aZ
variable [aP]
def uR(t:aW):Prop:=∀off v,plainCell aP.prog aP.prog.depth t off=aa v->∃k,v=.int k 0
abbrev Ren:=Nat->Nat->Prop
def Ren.le(ρ c:Ren):Prop:=∀a b,ρ a b->c a b
def Ren.one(ρ:Ren):Prop:=(∀a b d,ρ a b->ρ a d->b=d)/\∀a c b,ρ a b->ρ c b->a=c
def Ren.ext(ρ:Ren)(n c:Nat):Ren:=λa b=>ρ a b\/(a=n/\b=c)
def Ren.le_refl(ρ:Ren):ρ.le ρ:=λ_ _ h=>h
def Ren.le_trans{ρ c d:Ren}(h:ρ.le c)(k:c.le d):ρ.le d:=λa b x=>k a b (h a b x)
def Ren.JX(ρ:Ren)(n a:Nat):ρ.le (ρ.ext n a):=λ_ _ h=>aF h
def AR(ρ:Ren)(a a':fS):Prop:=ρ a.block a'.block/\a'.off=a.off/\a'.spot=a.spot
inductive FR(ρ:Ren):Fn->Fn->Prop
 |func (f:bN) (h:aP.ok f):FR ρ (.func f) (.func f)
 |yield {l l':Nat} (h:ρ l l'):FR ρ (.yield l) (.yield l')
inductive VR(ρ:Ren):aE->aE->Prop
 |bool (b:Bool):VR ρ (.bool b) (.bool b)
 |int (k:pE) (n:Int):VR ρ (.int k n) (.int k n)
 |string (s:ByteArray):VR ρ (.string s) (.string s)
 |gQ:VR ρ (.pointer ay) (.pointer ay)
 |ptr {a a':fS} (h:AR ρ a a'):VR ρ (.pointer (aa a)) (.pointer (aa a'))
 |gv (l c:Nat):VR ρ (.slice ay l c) (.slice ay l c)
 |slice {a a':fS} (l c:Nat) (h:AR ρ a a'):VR ρ (.slice (aa a) l c) (.slice (aa a') l c)
 |mF:VR ρ (.map ay) (.map ay)
 |map {r g:Nat} (h:ρ r g):VR ρ (.map (aa r)) (.map (aa g))
 |nN:VR ρ (.chan ay) (.chan ay)
 |chan {r g:Nat} (h:ρ r g):VR ρ (.chan (aa r)) (.chan (aa g))
 |func {f f':Fn} {x e y j:aK aE} (h:FR ρ f f') (m:e.size=x.size) (o:∀(i:Nat) v d,x[i]? =aa v->e[i]? =aa d->VR ρ v d) (p:j.size=y.size) (q:∀(i:Nat) v d,y[i]? =aa v->j[i]? =aa d->VR ρ v d):VR ρ (.func f x y) (.func f' e j)
 |nilFunc:VR ρ .nilFunc .nilFunc
 |iface {v d:aE} (t:aW) (h:VR ρ v d):VR ρ (.iface t v) (.iface t d)
 |nilIface:VR ρ .nilIface .nilIface
 |agg {x e:aK aE} (m:e.size=x.size) (o:∀(i:Nat) v d,x[i]? =aa v->e[i]? =aa d->VR ρ v d):VR ρ (.agg x) (.agg e)
 |tuple {x e:aK aE} (m:e.size=x.size) (o:∀(i:Nat) v d,x[i]? =aa v->e[i]? =aa d->VR ρ v d):VR ρ (.tuple x) (.tuple e)
def AR.mono{ρ σ}(h:ρ.le σ){a a'}(k:AR ρ a a'):AR σ a a':=⟨h _ _ k.1,k.2⟩
def FR.mono{ρ σ}(h:ρ.le σ){f f'}(k:FR ρ f f'):FR σ f f':=by
 cases k with
 |func f a=>exact .func f a
 |yield k=>exact .yield (h _ _ k)
def VR.mono{ρ σ}(h:ρ.le σ){v v'}(k:VR ρ v v'):VR σ v v':=by
 induction k with
 |bool b=>exact .bool b
 |int k n=>exact .int k n
 |string s=>exact .string s
 |gQ=>exact .gQ
 |ptr k=>exact .ptr (k.mono h)
 |gv l c=>exact .gv l c
 |slice l c k=>exact .slice l c (k.mono h)
 |mF=>exact .mF
 |map k=>exact .map (h _ _ k)
 |nN=>exact .nN
 |chan k=>exact .chan (h _ _ k)
 |func k a _ e _ f g=>exact .func (k.mono h) a f e g
 |nilFunc=>exact .nilFunc
 |iface t _ d=>exact .iface t d
 |nilIface=>exact .nilIface
 |agg a _ d=>exact .agg a d
 |tuple a _ d=>exact .tuple a d
def bM(ρ:Ren)(x b:aK aE):Prop:=b.size=x.size/\∀(i:Nat) v a,x[i]? =aa v->b[i]? =aa a->VR ρ v a
def bM.mono{ρ σ}(h:ρ.le σ){x x'}(k:bM ρ x x'):bM σ x x':=⟨k.1,λi v c a b=>(k.2 i v c a b).mono h⟩
def mj(ρ:Ren)(x b:aK tw):Prop:=b.size=x.size/\∀(i:Nat) e a,x[i]? =aa e->b[i]? =aa a->VR ρ e.key a.key/\VR ρ e.val a.val/\a.born=e.born
inductive OR(ρ:Ren):Obj->Obj->Prop
 |cells {x b:aK aE} (t:aW) (fz:Nat×Nat) (h:bM ρ x b):OR ρ (.cells x t fz) (.cells b t fz)
 |map {x b:aK tw} (c:Nat) (h:mj ρ x b):OR ρ (.map x c) (.map b c)
 |chan (cap:Nat) (cl:Bool) (s r:Nat) (t:Bool):OR ρ (.chan cap #[] cl s r t) (.chan cap #[] cl s r t)
 |loop {l l':Loop} (h0:aP.known l.fn/\aP.code l.assign/\aP.code l.body/\∀c,l.pending=aa c->aP.code c) (d:l'.state=l.state) (e:l'.pending=l.pending) (f:l'.fn=l.fn) (g:bM ρ l.tmps l'.tmps) (i:l'.params=l.params) (j:l'.assign=l.assign) (k:l'.body=l.body) (m:ρ l.defers l'.defers):OR ρ (.loop l) (.loop l')
 |vg:OR ρ (.deferred ay) (.deferred ay)
 |pX:OR ρ (.deferred (aa [])) (.deferred (aa []))
 |number {a a':fS} (l:Bool) (h:AR ρ a a'):OR ρ (.number a l) (.number a' l)
 |view {a a':fS} (t:aW) (n:uR t) (h:AR ρ a a'):OR ρ (.view a t) (.view a' t)
def mj.mono{ρ σ}(h:ρ.le σ){x x'}(k:mj ρ x x'):mj σ x x':=⟨k.1,λi e c a b=>⟨(k.2 i e c a b).1.mono h,(k.2 i e c a b).2.1.mono h,(k.2 i e c a b).2.2⟩⟩
def OR.mono{ρ σ}(h:ρ.le σ){o o'}(k:OR ρ o o'):OR σ o o':=by
 cases k with
 |cells t d k=>exact .cells t d (k.mono h)
 |map c k=>exact .map c (k.mono h)
 |chan a b s r t=>exact .chan a b s r t
 |loop h0 e f g i j m n p=>exact .loop h0 e f g (i.mono h) j m n (h _ _ p)
 |vg=>exact .vg
 |pX=>exact .pX
 |number l k=>exact .number l (k.mono h)
 |view t q k=>exact .view t q (k.mono h)
@[simp] def kV:Halt->Prop
 |.stuck _=>True
 |.unsupported (.initOrder _)=>False
 |.unsupported _=>True
 |_=>False
def bZ:Obj:=.coro ay
def Calm(o:aY Obj):Prop:=∃x t a,o=aa (.cells x t a)/\x.size≠0/\a.2<=a.1
structure WR(p:aZ)(ρ:Ren)(w w':az):Prop where
 one:ρ.one
 lt:∀a b,ρ a b->a<w.heap.size/\b<w'.heap.size
 obj:∀a b o,ρ a b->w.heap[a]? =aa o->o=bZ\/∃c,w'.heap[b]? =aa c/\OR ρ o c
 tape:∀i q,w'.tape (w'.drawn+i) q=w.tape (w.drawn+i) q
 low:∀a b,ρ a b->a<p.globals.size->b<p.globals.size
 base:p.globals.size<=w.heap.size
 calm:∀a b,ρ a b->w.heap[a]? =aa bZ->Calm w'.heap[b]?
 os:w'.os=w.os/\p=aP.prog
abbrev Kn:=Nat->Prop
def Kn.and(K:Kn)(r:Nat):Kn:=λx=>K x\/x=r
def Kn.le(K L:Kn):Prop:=∀r,K r->L r
def Good(P:aZ)(ρ:Ren):Prop:=ρ.one/\(∀a b,ρ a b->a<P.globals.size->b<P.globals.size)/\P=aP.prog
inductive SR(P:aZ){α c:Type}(Q:Ren->α->c->Prop):Ren->Kn->Sem α->Sem c->Prop
 |pure {ρ:Ren} {K:Kn} {a:α} {b:c} (h:Q ρ a b):SR P Q ρ K (.pure a) (.pure b)
 |load {ρ:Ren} {K:Kn} {m:Mode} {a a':fS} {k:aE->Sem α} {k':aE->Sem c} (i:AR ρ a a') (h:∀v g,VR ρ v g->SR P Q ρ (K.and a.block) (k v) (k' g)):SR P Q ρ K (.load m a k) (.load m a' k')
 |store {ρ:Ren} {K:Kn} {m:Mode} {a a':fS} {v g:aE} {k:Sem α} {k':Sem c} (i:AR ρ a a') (hv:VR ρ v g) (h:SR P Q ρ (K.and a.block) k k'):SR P Q ρ K (.store m a v k) (.store m a' g k')
 |new {ρ:Ren} {K:Kn} {o e:Obj} {k:Nat->Sem α} {k':Nat->Sem c} (A:OR ρ o e) (h:∀n z,SR P Q (ρ.ext n z) (K.and n) (k n) (k' z)):SR P Q ρ K (.new o k) (.new e k')
 |shape {ρ:Ren} {K:Kn} {r d:Nat} {k:aY (aW×Nat)->Sem α} {k':aY (aW×Nat)->Sem c} (hr:ρ r d) (h:∀x,SR P Q ρ (K.and r) (k (aa x)) (k' (aa x))) (h0:K r->SR P Q ρ K (k ay) (k' ay)) (y:¬K r->∃x,k ay=.halt x/\kV x):SR P Q ρ K (.shape r k) (.shape d k')
 |freeze {ρ:Ren} {K:Kn} {a a':fS} {n:Nat} {k:Sem α} {k':Sem c} (i:AR ρ a a') (p:K a.block) (h:SR P Q ρ K k k'):SR P Q ρ K (.freeze a n k) (.freeze a' n k')
 |frozen {ρ:Ren} {K:Kn} {a a':fS} {k:Bool->Sem α} {k':Bool->Sem c} (i:AR ρ a a') (p:K a.block) (h:∀b,SR P Q ρ K (k b) (k' b)):SR P Q ρ K (.frozen a k) (.frozen a' k')
 |getObj {ρ:Ren} {K:Kn} {r d:Nat} {k:Obj->Sem α} {k':Obj->Sem c} (hr:ρ r d) (h:∀o e,OR ρ o e->SR P Q ρ (K.and r) (k o) (k' e)) (h0:∃x,k bZ=.halt x/\kV x):SR P Q ρ K (.getObj r k) (.getObj d k')
 |setObj {ρ:Ren} {K:Kn} {r d:Nat} {o e:Obj} {k:Sem α} {k':Sem c} (hr:ρ r d) (p:K r) (A:OR ρ o e) (h:SR P Q ρ K k k'):SR P Q ρ K (.setObj r o k) (.setObj d e k')
 |choose {ρ:Ren} {K:Kn} {q:lE} {k:Nat->Sem α} {k':Nat->Sem c} (h:∀n,SR P Q ρ K (k n) (k' n)):SR P Q ρ K (.choose q k) (.choose q k')
 |program {ρ:Ren} {K:Kn} {k:aZ->Sem α} {k':aZ->Sem c} (h:SR P Q ρ K (k P) (k' P)):SR P Q ρ K (.program k) (.program k')
 |env {ρ:Ren} {K:Kn} {k:SysRet->Sem α} {k':SysRet->Sem c} (h:∀r,SR P Q ρ K (k r) (k' r)):SR P Q ρ K (.sys .env k) (.sys .env k')
 |noRoom {ρ:Ren} {K:Kn} {k:Sem α} {k':Sem c} (h:SR P Q ρ K k k'):SR P Q ρ K (.mark .noRoom k) (.mark .noRoom k')
 |panic {ρ:Ren} {K:Kn} {v g:aE} (h:VR ρ v g):SR P Q ρ K (.halt (.panic v)) (.halt (.panic g))
 |lost {ρ:Ren} {K:Kn} {x:Halt} {s:Sem c} (h:kV x):SR P Q ρ K (.halt x) s
 |vi {ρ:Ren} {K:Kn} {s:Sem α} {j:Sem c} (h:∀w,∃x B,s.run P w=.halt x B/\kV x):SR P Q ρ K s j
 |assume {ρ:Ren} {K:Kn} {s:Sem α} {j:Sem c} (h:Good P ρ->SR P Q ρ K s j):SR P Q ρ K s j
 |number {ρ:Ren} {K:Kn} {r d:Nat} {k:aY (fS×Bool)->Sem α} {k':aY (fS×Bool)->Sem c} (hr:ρ r d) (h0:SR P Q ρ K (k ay) (k' ay)) (y:∀a a' l,AR ρ a a'->SR P Q ρ (K.and r) (k (aa (a,l))) (k' (aa (a',l)))):SR P Q ρ K ((numberAt r).bind k) ((numberAt d).bind k')
 |icy {ρ:Ren} {K:Kn} {a a':fS} {k:Bool->Sem α} {k':Bool->Sem c} (i:AR ρ a a') (h:∀b,SR P Q ρ K (k b) (k' b)):SR P Q ρ K (.frozen a k) (.frozen a' k')
 |kin {ρ:Ren} {K:Kn} {a a' b u:fS} {k:Bool->Sem α} {k':Bool->Sem c} (i:AR ρ a a') (C:AR ρ b u) (h:∀x,SR P Q ρ K (k x) (k' x)):SR P Q ρ K ((Ic a b).bind k) ((Ic a' u).bind k')
 |view {ρ:Ren} {K:Kn} {r d:Nat} {k:aY (fS×aW)->Sem α} {k':aY (fS×aW)->Sem c} (hr:ρ r d) (h0:SR P Q ρ K (k ay) (k' ay)) (y:∀a a' t,AR ρ a a'->SR P Q ρ (K.and r) (k (aa (a,t))) (k' (aa (a',t)))):SR P Q ρ K ((viewAt r).bind k) ((viewAt d).bind k')
 |Bl {ρ:Ren} {K:Kn} {r d:Nat} {k:Obj->Sem α} {k':Obj->Sem c} (hr:ρ r d) (p:K r) (h:∀o e,OR ρ o e->SR P Q ρ K (k o) (k' e)):SR P Q ρ K (.getObj r k) (.getObj d k')
 |ext {ρ:Ren} {K:Kn} {f:bN} {k:Sem α} {k':Sem c} (h:SR P Q ρ K k k'):SR P Q ρ K (.mark (.extern f) k) (.mark (.extern f) k')
def SR.bind{P}{α F M N:Type}{Q R ρ}{K:Kn}{s:Sem α}{E:Sem F}{f:α->Sem M}{f':F->Sem N}(h:SR P Q ρ K s E)(hf:∀d L a b,ρ.le d->K.le L->Q d a b->SR P R d L (f a) (f' b)):SR P R ρ K (s.bind f) (E.bind f'):=by
 have up:∀{K L:Kn} {r:Nat},(K.and r).le L->K.le L:=λh x u=>h x (aF u);induction h with
 |pure h=>exact hf _ _ _ _ (Ren.le_refl _) (λ_ h=>h) h
 |load j _ c=>exact .load j λv I hv=>c v I hv λd L a b i k m=>hf d L a b i (up k) m
 |store j hv _ c=>exact .store j hv (c λd L a b i k m=>hf d L a b i (up k) m)
 |new q _ c=>exact .new q λn H=>c n H λd L a b i k m=>hf d L a b (Ren.le_trans (Ren.JX _ _ _) i) (up k) m
 |shape hr _ _ i c y=>
  refine .shape hr (λx=>c x λd L a b i k m=>hf d L a b i (up k) m) (λA=>y A hf) (λA=>?_);obtain⟨x,u,B⟩:=i A;exact⟨x,by rw[u];rfl,B⟩
 |freeze j p _ c=>exact .freeze j p (c hf)
 |frozen j p _ c=>exact .frozen j p λb=>c b hf
 |getObj hr _ h0 c=>
  obtain⟨x,u,B⟩:=h0;exact .getObj hr (λo D q=>c o D q λd L a b i k m=>hf d L a b i (up k) m) ⟨x,by rw[u];rfl,B⟩
 |setObj hr p q _ c=>exact .setObj hr p q (c hf)
 |choose _ c=>exact .choose λn=>c n hf
 |program _ c=>exact .program (c hf)
 |env _ c=>exact .env λr=>c r hf
 |noRoom _ c=>exact .noRoom (c hf)
 |panic h=>exact .panic h
 |lost h=>exact .lost h
 |vi h=>
  refine .vi λw=>?_;obtain⟨x,J,e,u⟩:=h w;refine⟨x,J,?_,u⟩;rw[iu,e];rfl
 |assume _ c=>exact .assume λg=>c g hf
 |number hr _ _ y C=>
  rw[Aw,Aw];exact .number hr (y hf) λa z l j=>C a z l j λd L a b i k m=>hf d L a b i (up k) m
 |icy j _ c=>exact .icy j λb=>c b hf
 |kin j G _ c=>
  rw[Aw,Aw];exact .kin j G λx=>c x hf
 |view hr _ _ y C=>
  rw[Aw,Aw];exact .view hr (y hf) λa z t j=>C a z t j λd L a b i k m=>hf d L a b i (up k) m
 |Bl hr p _ c=>exact .Bl hr p λo D q=>c o D q hf
 |ext _ c=>exact .ext (c hf)
end
section
variable [aP]
def VR.bytes{ρ v v'}(h:VR ρ v v'){bs}(a:v.bytes?=aa bs):v'=v:=by cases h<;>first|rfl|cases a
def VR.ofBytes{ρ v v'}(h:VR ρ v v'){bs u}(a:v.ofBytes bs=aa u):v'.ofBytes bs=aa u/\VR ρ u u:=by
 cases h<;>first|(cases a;done)|refine⟨a,?_⟩
 ·simp only[Vx]at a;split at a<;>first|(cases a;done)|(cases a;exact .bool _)
 ·simp only[Vx]at a;split at a
  ·cases a;exact .int _ _
  ·cases a
def bM.get{ρ x x'}(h:bM ρ x x'){i:Nat}{v:aE}(hv:x[i]? =aa v):∃b,x'[i]? =aa b/\VR ρ v b:=by
 have a:i<x'.size:=by rw[h.1];exact((bp.1 hv).1)
 exact⟨x'[i],cL a,h.2 i v _ hv (cL a)⟩
def SK{ρ}{p:aZ}{c g:aK aE}(hc:bM ρ c g)(e):∀(f x stop:Nat) {l:aB (Nat×Nat×aB UInt8)},Dn p c e f x stop=.ok l->Dn p g e f x stop=.ok l
 |0,_,_,l,h=>by cases h
 |f+1,x,stop,l,h=>by
  unfold Dn at h⊢;dsimp only at h⊢
  by_cases m:x≥stop
  ·rw[aX m]at h⊢;exact h
  rw[aQ m]at h⊢
  by_cases k:p.bytesOf e=0
  ·rw[aX k]at h;cases h
  rw[aQ k]at h⊢;split at h
  ·cases h
  ·rename_i i s q;split at h
   ·cases h
   ·rename_i v hv;obtain⟨t,o,hr⟩:=hc.get hv;rw[o];dsimp only;split at h
    ·cases h
    ·cases h
    ·rename_i a n j;rw[hr.bytes j,j];cases a with
     |nil=>exact absurd rfl n
     |cons b a=>
      dsimp only;cases d:Dn p c e f (s+(b::a).length) stop with
      |error y=>rw[d]at h;cases h
      |ok r=>rw[d]at h;rw[SK hc e f _ _ d];exact h
def SM{ρ:Ren}{p:aZ}{w w':az}{at_ a k k':fS}{u e:aW}{m:Bool}{c b:aK aE}{fz:Nat×Nat}(hc:w.heap[at_.block]? =aa (aA c e fz))(B:w'.heap[a.block]? =aa (aA b e fz))(t:a.off=at_.off/\a.spot=at_.spot)(v:k'.off=k.off/\k'.spot=k.spot)(hv:bM ρ c b)
  {r:aK aE×aW×(Nat×Nat)×Nat×aE×aB (Nat×Nat×aB UInt8)} (h:w.seen p at_ u k m=.ok r):r.1=c/\r.2.1=e/\r.2.2.1=fz/\plainCell p p.depth u k.off=aa r.2.2.2.2.1/\w'.seen p a u k' m=.ok (b,r.2):=by
 unfold Ng at h⊢;rw[hc]at h;rw[B,t.1,t.2,v.1,v.2];simp only[bind,GG,pure,GH,throw,throwThe,MonadExceptOf.throw]at h⊢;have C:∀{D:Type} (s:String),(CY s:Except String D)=.error s:=λ_=>rfl;simp only[C]at h⊢
 by_cases g:(k.spot.isSome||at_.spot.isSome)=aq
 ·rw[aX g]at h;cases h
 rw[aQ g]at h⊢;cases i:plainCell p p.depth u k.off with
 |none=>rw[i]at h;cases h
 |some like=>
  rw[i]at h;dsimp only at h⊢;cases j:Option.map (λx=>x.length) like.bytes? with
  |none=>rw[j]at h;cases h
  |some size=>
   rw[j]at h;dsimp only at h⊢;cases n:byteOfCell p p.depth u k.off with
   |none=>rw[n]at h;cases h
   |some z=>
    rw[n]at h;dsimp only at h⊢
    by_cases o:p.cellsOf e=0
    ·rw[aX o]at h;cases h
    rw[aQ o]at h⊢;cases q:byteOfCell p p.depth e (at_.off %p.cellsOf e)with
    |none=>rw[q]at h;cases h
    |some f=>
     rw[q]at h;dsimp only at h⊢;cases d:Dn p c e (size+1) (at_.off / p.cellsOf e*p.bytesOf e+f+z) (at_.off / p.cellsOf e*p.bytesOf e+f+z+size)with
     |error y=>rw[d]at h;cases h
     |ok l=>
      rw[d]at h;rw[SK hv e _ _ _ d];dsimp only at h⊢;cases m with
      |false=>
       simp at h⊢;cases h;exact⟨rfl,rfl,rfl,rfl,rfl⟩
      |true=>
       simp only[cS]at h⊢;split at h
       ·rename_i x s E;split at h
        ·cases h
        ·rename_i A;rw[aQ A];cases h;exact⟨rfl,rfl,rfl,rfl,rfl⟩
       ·cases h
def seen_cells{p:aZ}{w:az}{at_ k:fS}{u:aW}{m:Bool}{r:aK aE×aW×(Nat×Nat)×Nat×aE×aB (Nat×Nat×aB UInt8)}(h:w.seen p at_ u k m=.ok r):∃c e a,w.heap[at_.block]? =aa (aA c e a):=by
 cases f:w.heap[at_.block]? with
 |some o=>
  cases o with
  |cells c e a=>exact⟨c,e,a,rfl⟩
  |_=>
   exfalso;unfold Ng at h;rw[f]at h;simp at h;have b:∀{d:Type} (s:String),(CY s:Except String d)=.error s:=λ_=>rfl;simp only[b]at h
   repeat' (split at h)
   all_goals cases h
 |none=>
  exfalso;unfold Ng at h;rw[f]at h;simp at h;have b:∀{d:Type} (s:String),(CY s:Except String d)=.error s:=λ_=>rfl;simp only[b]at h
  repeat' (split at h)
  all_goals cases h
def afj{ρ:Ren}{p:aZ}{w w':az}(B:p=aP.prog){at_ a k k':fS}{t:aW}(C:uR t)(i:AR ρ at_ a)(n:k'.off=k.off/\k'.spot=k.spot){m:Bool}
  (u:∀o,w.heap[at_.block]? =aa o->o=bZ\/∃f,w'.heap[a.block]? =aa f/\OR ρ o f) {r:aE×aB fS} (h:w.viewLoad p at_ t k m=.ok r):
  ∃l,w'.viewLoad p a t k' m=.ok (r.1,l)/\VR ρ r.1 r.1/\(∀x∈l,x.block=a.block)/\∃o,w.heap[at_.block]? =aa o/\o≠bZ:=by
 unfold World.viewLoad at h⊢;simp only[bind,GG,pure,GH]at h⊢;have G:∀{H:Type} (s:String),(CY s:Except String H)=.error s:=λ_=>rfl;simp only[G]at h⊢;cases b:w.seen p at_ t k m with
 |error y=>rw[b]at h;cases h
 |ok z=>
  obtain⟨c,e,J,d⟩:=seen_cells b;rcases u _ d with h0|⟨f,q,A⟩
  ·cases h0
  cases A with
  |@cells _ I _ _ hv=>
   obtain⟨_,_,_,g,j⟩:=SM d q ⟨i.2.1,i.2.2⟩ n hv b;obtain⟨K,L,M,N,O,P⟩:=z;rw[b]at h;rw[j];dsimp only at h g⊢;subst B;obtain⟨F,rfl⟩:=C _ _ g;split at h
   ·rename_i v D;cases h;refine⟨_,rfl,?_,?_,_,d,by intro e;cases e⟩
    ·exact(VR.ofBytes (.int F 0) D).2
    ·intro x E;obtain⟨y,_,rfl⟩:=jH.1 E;rfl
   ·cases h
def PC{ρ:Ren}{fz:Nat×Nat}{first:Nat}{bytes:aB UInt8}(g:aK aE->Nat×Nat×aB UInt8->Except String (aK aE))
  (f:∀c a y z,bM ρ c a->g c y=.ok z->∃b,g a y=.ok b/\bM ρ z b):∀(l:aB (Nat×Nat×aB UInt8)) (c a z:aK aE),bM ρ c a->l.foldlM g c=.ok z->∃b,l.foldlM g a=.ok b/\bM ρ z b
 |[],c,a,z,h,e=>by simp only[List.foldlM_nil,pure,GH]at e⊢;cases e;exact⟨_,rfl,h⟩
 |y::l,c,a,z,h,e=>by
  simp only[List.foldlM_cons,bind,GG]at e⊢;cases d:g c y with
  |error w=>rw[d]at e;cases e
  |ok k=>
   rw[d]at e;obtain⟨m,i,j⟩:=f _ _ _ _ h d;rw[i];exact PC (fz:=fz) (first:=first) (bytes:=bytes) g f l _ _ _ j e
def afk{ρ:Ren}{p:aZ}{w w':az}{at_ g k k':fS}{t:aW}{v K:aE}(E:AR ρ at_ g)(T:k'.off=k.off/\k'.spot=k.spot)(hv:VR ρ v K){m:Bool}
  (X:∀o,w.heap[at_.block]? =aa o->o=bZ\/∃C,w'.heap[g.block]? =aa C/\OR ρ o C) {r:az×aB fS} (h:w.viewStore p at_ t k v m=.ok r):
  ∃I J l,r.1={w with heap:=w.heap.setIfInBounds at_.block I}/\w'.viewStore p g t k' K m=.ok ({w' with heap:=w'.heap.setIfInBounds g.block J},l)/\OR ρ I J/\(∀x∈l,x.block=g.block)/\∃o,w.heap[at_.block]? =aa o/\o≠bZ:=by
 unfold td at h⊢;simp only[bind,GG,pure,GH]at h⊢;have an:∀{α:Type} (s:String),(CY s:Except String α)=.error s:=λ_=>rfl;simp only[an]at h⊢;cases G:tight p p.depth t with
 |false=>rw[G]at h;cases h
 |true=>
  rw[G]at h;simp only[Ux,eR,dQ]at h⊢;cases n:w.seen p at_ t k m with
  |error y=>rw[n]at h;cases h
  |ok z=>
   obtain⟨c,e,fz,A⟩:=seen_cells n;rcases X _ A with h0|⟨C,W,xx⟩
   ·cases h0
   cases xx with
   |@cells _ D _ _ H=>
    obtain⟨z1,z2,z3,z4,z5,z6⟩:=z;obtain⟨rfl,rfl,rfl,P,Q⟩:=SM A W ⟨E.2.1,E.2.2⟩ T H n;rw[n]at h;rw[Q];dsimp only at h P⊢;cases q:v.bytes? with
    |none=>rw[q]at h;cases h
    |some L=>
     obtain rfl:=hv.bytes q;rw[q]at h⊢;dsimp only at h⊢;split at h
     ·cases h
     ·rename_i U;rw[aQ U];split at h
      ·cases h
      ·rename_i M R;cases h
       obtain⟨aM,S,hr⟩:=PC (fz:=z3) (first:=z4) (bytes:=L) _ (λc D y z B a=>by
        obtain⟨i,s,b⟩:=y;dsimp only at a⊢;split at a
        ·cases a
        ·rename_i N;rw[aQ N];split at a
         ·cases a
         ·rename_i O;rw[aQ O];split at a
          ·rename_i old Y;obtain⟨aO,Z,af⟩:=B.get Y;rw[Z];dsimp only;split at a
           ·rename_i new V;obtain⟨n1,n2⟩:=af.ofBytes V;rw[n1];cases a;refine⟨_,rfl,by simp[B.1],λj u u' d f=>?_⟩;rw[zW]at d f
            by_cases F:i=j
            ·subst F;rw[aX rfl]at d f;split at d
             ·split at f
              ·cases d;cases f;exact n2
              ·cases f
             ·cases d
            ·rw[aQ F]at d f;exact B.2 j u u' d f
           ·cases a
          ·cases a) z6 z1 D M H R
       rw[S];refine⟨_,_,_,rfl,rfl,.cells _ _ hr,?_,_,A,by intro e;cases e⟩;intro x hx;obtain⟨y,_,rfl⟩:=jH.1 hx;rfl
end
section
variable [aP]
def Full(ρ:Ren)(w:az):Prop:=∀a o,w.heap[a]? =aa o->o≠bZ->∃b,ρ a b
structure cm(p:aZ)(ρ d:Ren)(w w1 w' c:az):Prop where
 le:ρ.le d
 rel:WR p d w1 c
 size:w'.heap.size<=c.heap.size
 cA:∀b,b<w'.heap.size->(∀a,¬ρ a b)->c.heap[b]? =w'.heap[b]?
 news:∀a b,d a b->ρ a b\/(w'.heap.size<=b/\w.heap.size<=a/\a+w'.heap.size=b+w.heap.size)
 os:c.os=w'.os
 output:c.output=w'.output
 tape:c.tape=w'.tape
 drawn:c.drawn+w.drawn=w'.drawn+w1.drawn
 zw:w1.heap.size+w'.heap.size=c.heap.size+w.heap.size
 base:w.heap.size<=w1.heap.size
 still:∀a b,ρ a b->w.heap[a]? =aa bZ->w1.heap[a]? =aa bZ/\c.heap[b]? =w'.heap[b]?
 full:Full ρ w->Full d w1
def cm.refl{p ρ w w'}(h:WR p ρ w w'):cm p ρ ρ w w w' w':=⟨Ren.le_refl _,h,bC _,λ_ _ _=>rfl,λ_ _ h=>aF h,rfl,rfl,rfl,rfl,HO _ _,bC _,λ_ _ _ h=>⟨h,rfl⟩,id⟩
def cm.trans{p ρ σ τ w w1 w2 w' Ub w2'}(h:cm p ρ σ w w1 w' Ub)(k:cm p σ τ w1 w2 Ub w2'):cm p ρ τ w w2 w' w2':=by
 refine⟨Ren.le_trans h.le k.le,k.rel,dm h.size k.size,λb g i=>?_,λa b c=>?_,k.os.trans h.os,k.output.trans h.output,k.tape.trans h.tape,?_,by(have h1:=h.zw;have e:=k.zw;omega),dm h.base k.base,λa b c d=>⟨(k.still a b (h.le _ _ c) (h.still a b c d).1).1,(k.still a b (h.le _ _ c) (h.still a b c d).1).2.trans (h.still a b c d).2⟩,λf=>k.full (h.full f)⟩
 ·rw[k.cA b (dy g h.size) (λa j=>?_),h.cA b g i];rcases h.news a b j with h1|h1
  ·exact i a h1
  ·omega
 ·rcases k.news a b c with h1|h1
  ·exact h.news a b h1
  ·have e:=h.zw;have l:=h.size;have m:=h.base;exact aD ak
 ·have h1:=h.drawn;have e:=k.drawn;omega
def Own(K:Kn)(w:az):Prop:=∀r,K r->∃o,w.heap[r]? =aa o/\o≠bZ
def fF{ρ o o'}(h:OR ρ o o'):o≠bZ:=by intro e;subst e;cases h
def Own.set{K w}(h:Own K w)(a v):Own K (w.setCell a v):=λr hr=>by
 obtain⟨o,c,b⟩:=h r hr;simp only[gm,lB,c];split
 ·refine⟨_,rfl,?_⟩;cases o<;>first|(intro e;cases e;done)|(intro e;exact b e)
 ·exact⟨o,rfl,b⟩
def Own.push{K w}(h:Own K w){o}(b:o≠bZ):Own (K.and w.heap.size) {w with heap:=w.heap.push o}:=by
 rintro r (hr|rfl)
 ·obtain⟨x,a,c⟩:=h r hr;have:=(bp.1 a).1;exact⟨x,by show(w.heap.push o)[r]? =_;rw[fG,aQ ak];exact a,c⟩
 ·exact⟨o,by show(w.heap.push o)[w.heap.size]? =_;simp,b⟩
def Own.put{K w}(h:Own K w)(r){o}(b:o≠bZ):Own K {w with heap:=w.heap.setIfInBounds r o}:=λx c=>by
 obtain⟨y,a,d⟩:=h x c;have e:=(bp.1 a).1;rw[zW];split
 ·split
  ·exact⟨o,rfl,b⟩
  ·omega
 ·exact⟨y,a,d⟩
def Own.and{K w}(h:Own K w){r o}(b:w.heap[r]? =aa o)(a:o≠bZ):Own (K.and r) w:=by
 rintro x (c|rfl)
 ·exact h x c
 ·exact⟨o,b,a⟩
def qY{w:az}{a:fS}{v:aE}(h:w.cell? a=aa v):∃o,w.heap[a.block]? =aa o/\o≠bZ:=by
 unfold fH at h;split at h
 ·rename_i c t d b;exact⟨_,b,by intro e;cases e⟩
 ·cases h
def Ea{p ρ w w'}(m:WR p ρ w w'){a a'}(b:AR ρ a a'){v}(h:w.cell? a=aa v):∃e,w'.cell? a'=aa e/\VR ρ v e:=by
 unfold fH at h;split at h
 ·rename_i c t n g;split at h
  ·cases h
  ·rename_i l;rcases m.obj _ _ _ b.1 g with k|⟨o,i,j⟩
   ·cases k
   ·cases j with
    |cells _ _ hv=>
     rename_i f;have d:a.off<f.size:=by rw[hv.1];exact((bp.1 h).1)
     refine⟨f[a.off],?_,hv.2 a.off v _ h (by simp[d])⟩;unfold fH;rw[i,b.2.2,b.2.1];simp[l,d]
 ·cases h
def bM.set{ρ x x'}(h:bM ρ x x'){v v'}(hv:VR ρ v v')(i):bM ρ (x.setIfInBounds i v) (x'.setIfInBounds i v'):=by
 refine⟨by simp[h.1],λj u d a b=>?_⟩;rw[zW]at a b
 by_cases c:i=j
 ·subst c;rw[aX rfl]at a b;split at a
  ·split at b
   ·cases a;cases b;exact hv
   ·cases b
  ·cases a
 ·rw[aQ c]at a b;exact h.2 j u d a b
def WR.set{p:aZ}{ρ:Ren}{w w':az}(b:WR p ρ w w'){a a':fS}(g:AR ρ a a'){v j:aE}(hv:VR ρ v j){u:aE}(hc:w.cell? a=aa u):WR p ρ (w.setCell a v) (w'.setCell a' j):=by
 refine⟨b.one,λx y h=>by have:=b.lt x y h;simp[gm];exact this,λx y o i d=>?_,b.tape,b.low,by simpa[gm]using b.base,λx y i k=>?_,b.os⟩
 rotate_left
 ·by_cases f:x=a.block
  ·subst f;obtain⟨o,d,z⟩:=Own.set (K:=(·=a.block)) (w:=w) (λr hr=>by(obtain rfl:r=a.block:=hr;exact qY hc)) a v a.block rfl;rw[k]at d;cases d;exact absurd rfl z
  ·have l:y≠a'.block:=λe=>f (b.one.2 _ _ _ (e▸i) g.1);have m:(w.setCell a v).heap[x]? =w.heap[x]? :=wI w a v x f;have n:(w'.setCell a' j).heap[y]? =w'.heap[y]? :=wI w' a' j y l;rw[m]at k;rw[n];exact b.calm x y i k
 by_cases f:x=a.block
 ·subst f;have l:y=a'.block:=b.one.1 _ _ _ i g.1;subst l;unfold fH at hc;split at hc
  ·rename_i c t E q;split at hc
   ·cases hc
   ·rename_i s;rcases b.obj _ _ _ g.1 q with k|⟨F,A,B⟩
    ·cases k
    ·cases B with
     |cells _ _ D=>
      rename_i G;right;simp only[gm,lB,q]at d;simp only[gm,lB,A];have C:¬a'.spot.isSome=aq:=by rw[g.2.2];exact s
      simp only[cS,tr,s,C,dQ,Vs,eR]at d⊢;refine⟨_,rfl,?_⟩;rw[<-d,g.2.1];exact .cells _ _ (D.set hv _)
  ·cases hc
 ·have l:y≠a'.block:=λe=>f (b.one.2 _ _ _ (e▸i) g.1);have m:(w.setCell a v).heap[x]? =w.heap[x]? :=wI w a v x f;have n:(w'.setCell a' j).heap[y]? =w'.heap[y]? :=wI w' a' j y l;rw[m]at d;rw[n];exact b.obj x y o i d
def cm.set{p:aZ}{ρ:Ren}{w w':az}(k:WR p ρ w w'){a a':fS}(g:AR ρ a a'){v i:aE}(hv:VR ρ v i){u:aE}(hc:w.cell? a=aa u):cm p ρ ρ w (w.setCell a v) w' (w'.setCell a' i):=
 ⟨Ren.le_refl _,k.set g hv hc,by simp[gm],λb _ c=>wI w' a' i b (λe=>c a.block (e▸g.1)),λ_ _ h=>aF h,rfl,rfl,rfl,rfl,by(simp[gm];omega),by simp[gm],λx y m j=>by
  have f:x≠a.block:=by rintro rfl;obtain⟨o,d,c⟩:=qY hc;rw[j]at d;cases d;exact c rfl
  have n:y≠a'.block:=λe=>f (k.one.2 _ _ _ (e▸m) g.1);exact⟨(wI w a v x f).trans j,wI w' a' i y n⟩,λl x o d c=>by
  by_cases f:x=a.block
  ·exact⟨_,f▸g.1⟩
  ·rw[wI w a v x f]at d;exact l x o d c⟩
def cm.new{p ρ w w'}(c:WR p ρ w w'){o j}(n:OR ρ o j):cm p ρ (ρ.ext w.heap.size w'.heap.size) w {w with heap:=w.heap.push o} w' {w' with heap:=w'.heap.push j}:=by
 have i:=Ren.JX ρ w.heap.size w'.heap.size
 refine⟨i,⟨⟨?_,?_⟩,?_,?_,c.tape,?_,by have:=c.base;simp;omega,?_,c.os⟩,aC,?_,?_,rfl,rfl,rfl,rfl,by(simp;omega),aC,λa b s d=>by
  have f:=c.lt _ _ s;exact⟨by rw[fG,aQ ak];exact d,by rw[fG,aQ ak]⟩,λt x q r u=>by
  by_cases e:x=w.heap.size
  ·exact⟨_,aD ⟨e,rfl⟩⟩
  ·rw[fG,aQ e]at r;exact(t x q r u).imp λb m=>aF m⟩
 ·rintro a b D (h|⟨l,g⟩) (k|⟨A,B⟩)
  ·exact c.one.1 _ _ _ h k
  ·have:=(c.lt _ _ h).1;omega
  ·have:=(c.lt _ _ k).1;omega
  ·omega
 ·rintro a C b (h|⟨l,g⟩) (k|⟨A,B⟩)
  ·exact c.one.2 _ _ _ h k
  ·have:=(c.lt _ _ h).2;omega
  ·have:=(c.lt _ _ k).2;omega
  ·omega
 ·rintro a b (h|⟨l,g⟩)
  ·have:=c.lt _ _ h;simp;omega
  ·simp;omega
 ·rintro a b x (h|⟨rfl,rfl⟩) e
  ·have f:=c.lt _ _ h;rw[fG,aQ ak]at e;rw[fG,aQ ak];rcases c.obj a b x h e with d|⟨y,z,v⟩
   ·exact aF d
   ·exact aD ⟨y,z,v.mono i⟩
  ·rw[fG,aX rfl]at e;cases e;exact aD ⟨j,aC,n.mono i⟩
 ·rintro a b (h|⟨rfl,rfl⟩) f
  ·exact c.low a b h f
  ·have:=c.base;omega
 ·rintro a b (h|⟨rfl,rfl⟩) d
  ·have f:=c.lt _ _ h;rw[fG,aQ ak]at d;rw[fG,aQ ak];exact c.calm a b h d
  ·rw[fG,aX rfl]at d;cases d;exact absurd rfl (fF n)
 ·intro b m _;rw[fG,aQ ak]
 ·rintro a b (h|⟨_,g⟩)
  ·exact aF h
  ·exact aD ak
def cm.put{p ρ w w'}(a:WR p ρ w w'){r f}(hr:ρ r f){o l}(t:OR ρ o l)(v:∃x,w.heap[r]? =aa x/\x≠bZ):cm p ρ ρ w {w with heap:=w.heap.setIfInBounds r o} w' {w' with heap:=w'.heap.setIfInBounds f l}:=by
 have s:=a.lt _ _ hr
 refine⟨Ren.le_refl _,⟨a.one,λx y h=>by have:=a.lt x y h;simp;omega,λx y q g d=>?_,a.tape,a.low,by simpa using a.base,λx y g j=>?_,a.os⟩,aC,λb _ n=>?_,λ_ _ h=>aF h,rfl,rfl,rfl,rfl,by(simp;omega),aC,λx y g j=>by
  have c:x≠r:=by rintro rfl;obtain⟨q,d,n⟩:=v;rw[j]at d;cases d;exact n rfl
  have k:y≠f:=λe=>c (a.one.2 _ _ _ (e▸g) hr);exact⟨(dP (dF c)).trans j,dP (dF k)⟩,λu x q d n=>by
  by_cases c:x=r
  ·exact⟨_,c▸hr⟩
  ·have d:(w.heap.setIfInBounds r o)[x]? =aa q:=d;rw[dP (dF c)]at d;exact u x q d n⟩
 rotate_left
 ·by_cases c:x=r
  ·subst c;have i:(w.heap.setIfInBounds x o)[x]? =aa o:=by simp[s.1]
   rw[i]at j;cases j;exact absurd rfl (fF t)
  ·have k:y≠f:=λe=>c (a.one.2 _ _ _ (e▸g) hr);have i:(w.heap.setIfInBounds r o)[x]? =w.heap[x]? :=dP (dF c);have m:(w'.heap.setIfInBounds f l)[y]? =w'.heap[y]? :=dP (dF k);rw[i]at j;rw[m];exact a.calm x y g j
 rotate_left
 ·by_cases c:x=r
  ·subst c;have k:y=f:=a.one.1 _ _ _ g hr;subst k;have i:(w.heap.setIfInBounds x o)[x]? =aa o:=by simp[s.1]
   have m:(w'.heap.setIfInBounds y l)[y]? =aa l:=by simp[s.2]
   rw[i]at d;cases d;exact aD ⟨l,m,t⟩
  ·have k:y≠f:=λe=>c (a.one.2 _ _ _ (e▸g) hr);have i:(w.heap.setIfInBounds r o)[x]? =w.heap[x]? :=dP (dF c);have m:(w'.heap.setIfInBounds f l)[y]? =w'.heap[y]? :=dP (dF k);rw[i]at d;rw[m];exact a.obj x y q g d
 ·exact dP (λe:f=b=>n r (e▸hr))
def cm.draw{p ρ w w'}(a:WR p ρ w w'):cm p ρ ρ w {w with drawn:=w.drawn+1} w' {w' with drawn:=w'.drawn+1}:=
 ⟨Ren.le_refl _,⟨a.one,a.lt,a.obj,λi q=>by have:=a.tape (1+i) q;simpa[Nat.add_assoc]using this,a.low,a.base,a.calm,a.os⟩,bC _,λ_ _ _=>rfl,λ_ _ h=>aF h,rfl,rfl,rfl,by(show w'.drawn+1+w.drawn=w'.drawn+(w.drawn+1);omega),HO _ _,bC _,λ_ _ _ h=>⟨h,rfl⟩,id⟩
def Pc{p ρ w w'}(c:WR p ρ w w'){a a'}(g:AR ρ a a')(m):(∃h,w.farLoad p a m=.error h/\kV h)\/
  ∃v t q b k o,w.farLoad p a m=.ok (v,t)/\w'.farLoad p a' m=.ok (v,q)/\VR ρ v v/\w'.cell? a'=ay/\(∀x∈q,x.block=k)/\ρ b k/\(∃o,w.heap[b]? =aa o/\o≠bZ)/\w.heap[a.block]? =aa o/\o≠bZ:=by
 unfold World.farLoad;split
 ·rename_i x y d;rcases c.obj _ _ _ g.1 d with j|⟨_,n,i⟩
  ·cases j
  ·cases i with
   |@view _ E _ C f=>
    cases B:w.viewLoad p x y a m with
    |error D=>exact aF ⟨_,rfl,trivial⟩
    |ok r=>
     obtain⟨l,s,u,z,A⟩:=afj c.os.2 C f g.2 (c.obj _ _ · f.1) B;refine aD ⟨r.1,r.2,l,_,_,_,rfl,by rw[n];dsimp only;rw[s],u,?_,z,f.1,A,d,by intro e;cases e⟩;unfold fH;rw[n]
 ·refine aF ⟨_,rfl,?_⟩;unfold VG;split
  ·rename_i x y d;rcases c.obj _ _ _ g.1 d with j|⟨_,_,i⟩
   ·cases j
   ·cases i
  ·simp
  ·simp
def Pd{p ρ w w'}(q:WR p ρ w w'){a a'}(j:AR ρ a a'){v z}(hv:VR ρ v z)(m):(∃h,w.farStore p a v m=.error h/\kV h)\/
  ∃b g d f t u o,w.farStore p a v m=.ok ({w with heap:=w.heap.setIfInBounds b d},t)/\w'.farStore p a' z m=.ok ({w' with heap:=w'.heap.setIfInBounds g f},u)/\OR ρ d f/\w'.cell? a'=ay/\(∀x∈u,x.block=g)/\ρ b g/\(∃o,w.heap[b]? =aa o/\o≠bZ)/\w.heap[a.block]? =aa o/\o≠bZ:=by
 unfold vn;split
 ·rename_i x y c;rcases q.obj _ _ _ j.1 c with n|⟨_,s,k⟩
  ·cases n
  ·cases k with
   |@view _ J _ G i=>
    cases E:w.viewStore p x y a v m with
    |error I=>exact aF ⟨_,rfl,trivial⟩
    |ok r=>
     obtain⟨d,f,l,h0,A,B,C,D⟩:=afk i j.2 hv (q.obj _ _ · i.1) E;obtain⟨H,F⟩:=r;dsimp only at h0;subst h0;refine aD ⟨_,_,d,f,F,l,_,rfl,by rw[s];dsimp only;rw[A],B,?_,C,i.1,D,c,by intro e;cases e⟩;unfold fH;rw[s]
 ·refine aF ⟨_,rfl,?_⟩;unfold VG;split
  ·rename_i x y c;rcases q.obj _ _ _ j.1 c with n|⟨_,_,k⟩
   ·cases n
   ·cases k
  ·simp
  ·simp
def vV{α:Type}{p w m}{a:fS}{v:aE}{k:Sem α}(b:∀x,v≠.agg x)(c:∀x,v≠.tuple x):(tC m a v k).run p w=(match w.cell? a with
  |some _=>if w.frozen? a then .halt (.unsupported (.unsafePointer "a write to bytes that a string shares")) w else k.run p (w.setCell a v)
  |none=>match w.farStore p a v (m==.atomic)with
   |.ok (w,_)=>k.run p w
   |.error h=>.halt h w):=by
 cases v<;>first|rfl|exact absurd rfl (b _)|exact absurd rfl (c _)
def Zu{p ρ w w'}(h:WR p ρ w w'){a a'}(b:AR ρ a a'){u}(hc:w.cell? a=aa u):w'.frozen? a'=w.frozen? a:=by
 unfold fH at hc;split at hc
 ·rename_i c t i d;rcases h.obj _ _ _ b.1 d with g|⟨j,e,f⟩
  ·cases g
  ·cases f;unfold pO;rw[d,e,b.2.1]
 ·cases hc
def abT{p ρ w w'}(f:WR p ρ w w'){r r'}(hr:ρ r r'){x:aW×Nat}(h:w.shape? r=aa x):w'.shape? r'=aa x:=by
 unfold gN at h;split at h
 ·rename_i c t g a;rcases f.obj _ _ _ hr a with e|⟨i,b,d⟩
  ·cases e
  ·cases d with
   |cells _ _ hv=>
    unfold gN;simp only[b];rw[<-h,hv.1]
 ·cases h
def PI{p ρ w w'}(i:WR p ρ w w'){a a'}(b:AR ρ a a')(d:∃o,w.heap[a.block]? =aa o/\o≠bZ):w'.frozen? a'=w.frozen? a:=by
 obtain⟨o,c,e⟩:=d;rcases i.obj _ _ _ b.1 c with h|⟨j,f,g⟩
 ·exact absurd h e
 ·unfold pO;rw[c,f];cases g<;>simp only[b.2.1]
def Own.freeze{K w}(h:Own K w)(a n):Own K (w.freeze a n):=λr hr=>by
 obtain⟨o,c,b⟩:=h r hr;unfold yG;split
 ·exact⟨o,c,b⟩
 ·simp only[lB,c];split
  ·refine⟨_,rfl,?_⟩;cases o<;>first|(intro e;cases e;done)|(intro e;exact b e)
  ·exact⟨o,rfl,b⟩
def cm.freeze{p ρ w w'}(e:WR p ρ w w'){a a'}(j:AR ρ a a')(n)(v:∃o,w.heap[a.block]? =aa o/\o≠bZ):cm p ρ ρ w (w.freeze a n) w' (w'.freeze a' n):=by
 by_cases h0:n=0
 ·subst h0;simp only[yG,cS];exact cm.refl e
 ·simp only[yG,h0,dQ]
  refine⟨Ren.le_refl _,⟨e.one,λx y h=>by have:=e.lt x y h;simp;exact this,λx y q k f=>?_,e.tape,e.low,by simpa using e.base,λx y k g=>?_,e.os⟩,aC,λb _ i=>?_,λ_ _ h=>aF h,rfl,rfl,rfl,rfl,by(simp;omega),aC,λx y k g=>by
   have d:¬a.block=x:=by rintro rfl;obtain⟨q,f,i⟩:=v;rw[g]at f;cases f;exact i rfl
   have m:¬a'.block=y:=λs=>d (e.one.2 _ _ _ j.1 (s▸k));exact⟨by simp only[lB,aQ d,g],by simp only[lB,aQ m]⟩,λN x q f i=>by
   by_cases d:a.block=x
   ·exact⟨_,d▸j.1⟩
   ·simp only[lB,aQ d]at f;exact N x q f i⟩
  rotate_left
  ·by_cases d:a.block=x
   ·obtain⟨o,u,i⟩:=Own.freeze (K:=(·=a.block)) (λr hr=>by(obtain rfl:r=a.block:=hr;exact v)) a n a.block rfl;simp only[yG,h0,dQ]at u;rw[<-d]at g;rw[g]at u;cases u;exact absurd rfl i
   ·have m:¬a'.block=y:=λs=>d (e.one.2 _ _ _ j.1 (s▸k));simp only[lB]at g⊢;rw[aQ d]at g;rw[aQ m];exact e.calm x y k g
  rotate_left
  ·simp only[lB]at f⊢
   by_cases d:a.block=x
   ·have m:=e.one.1 _ _ _ j.1 (d▸k);rw[aX d]at f;rw[aX m];obtain⟨o,u,i⟩:=v;rw[<-d,u]at f;rcases e.obj _ _ _ j.1 u with g|⟨S,O,P⟩
    ·exact absurd g i
    ·rw[<-m,O];simp only[tr,Vs]at f⊢;subst f;right;refine⟨_,rfl,?_⟩;cases P with
     |cells t R hv=>rw[j.2.1];exact .cells _ _ hv
     |map c h=>exact .map c h
     |chan z A B C D=>exact .chan z A B C D
     |loop h0 E F G H I J L M=>exact .loop h0 E F G H I J L M
     |vg=>exact .vg
     |pX=>exact .pX
     |number l h=>exact .number l h
     |view t Q h=>exact .view t Q h
   ·have m:¬a'.block=y:=λs=>d (e.one.2 _ _ _ j.1 (s▸k));rw[aQ d]at f;rw[aQ m];exact e.obj x y q k f
  ·simp only[lB];rw[aQ (λs:a'.block=b=>i a.block (s▸j.1))]
def Fc{p w r o}(h:w.heap[r]? =aa o)(b:∀a l,o≠.number a l):(numberAt r).run p w=.ok ay w:=by unfold numberAt;cases o<;>first|exact absurd rfl (b _ _)|simp[shape,getObj,Sem.run,jU,cV,gN,h,ku]
def RK{p w r a l}(h:w.heap[r]? =aa (.number a l)):(numberAt r).run p w=.ok (aa (a,l)) w:=by unfold numberAt;simp[shape,getObj,Sem.run,jU,cV,gN,h,ku]
def Gr{p w r o}(h:w.heap[r]? =aa o)(b:∀a l,o≠.view a l):(viewAt r).run p w=.ok ay w:=by unfold viewAt;cases o<;>first|exact absurd rfl (b _ _)|simp[shape,getObj,Sem.run,jU,cV,gN,h,ku]
def TX{p w r a}{t:aW}(h:w.heap[r]? =aa (.view a t)):(viewAt r).run p w=.ok (aa (a,t)) w:=by unfold viewAt;simp[shape,getObj,Sem.run,jU,cV,gN,h,ku]
def EK{p ρ w w'}(d:WR p ρ w w'){a a'}(b:AR ρ a a'):w'.frozen? a'=w.frozen? a:=by
 obtain⟨o,c⟩:∃o,w.heap[a.block]? =aa o:=⟨_,cL (d.lt _ _ b.1).1⟩
 by_cases e:o=bZ
 ·subst e;obtain⟨x,t,f,h,_,i⟩:=d.calm _ _ b.1 c;unfold pO;rw[h,c];obtain⟨k,j⟩:=f;simp only[bZ];simp only at i
  by_cases g:k<=a'.off
  ·have:¬a'.off<j:=ak;simp[this]
  ·simp[g]
 ·exact PI d b ⟨o,c,e⟩
def ru(w:az)(x:fS):Bool:=w.frozen? x||(match w.shape? x.block with|some (_,n)=>w.frozen? {block:=x.block,off:=n}|none=>av)
def emB(w:az)(x:fS):Bool:=match w.shape? x.block with|some (_,0)=>aq|_=>av
def sn(w:az)(a b:fS):Bool:=(ru w a&&ru w b)||(ru w a&&emB w a)||(ru w b&&emB w b)
end
section
variable [aP]
abbrev dK{α:Type}:Ren->α->α->Prop:=λ_ a b=>b=a
def mU(P:aZ):Prop:=∀t i z,P.info? t=aa i->i.zero=aa z->∀ρ:Ren,VR ρ z z
section
variable {P:aZ} {ρ:Ren} {K:Kn}
def SR.then {α e g i:Type}{Q R s}{d:Sem e}{f:α->Sem g}{f':e->Sem i}(h:SR P Q ρ K s d)(hf:∀c L a b,ρ.le c->K.le L->Q c a b->SR P R c L (f a) (f' b)):SR P R ρ K (s >>= f) (d >>= f'):=SR.bind h hf
def SR.weaken{α t:Type}{Q R}{s:Sem α}{e:Sem t}(h:SR P Q ρ K s e)(g:∀f a b,ρ.le f->Q f a b->R f a b):SR P R ρ K s e:=by
 have i:s=s.bind .pure:=by
  clear h g;induction s with
  |pure a=>rfl
  |load m a k d=>simp only[cV];congr;funext v;exact d v
  |store m a v k d=>simp only[cV];congr
  |new o k d=>simp only[cV];congr;funext v;exact d v
  |shape r k d=>simp only[cV];congr;funext v;exact d v
  |freeze a n k d=>simp only[cV];congr
  |frozen a k d=>simp only[cV];congr;funext v;exact d v
  |getObj r k d=>simp only[cV];congr;funext v;exact d v
  |setObj r o k d=>simp only[cV];congr
  |choose q k d=>simp only[cV];congr;funext v;exact d v
  |sys c k d=>simp only[cV];congr;funext v;exact d v
  |program k d=>simp only[cV];congr;funext v;exact d v
  |mark m k d=>simp only[cV];congr
  |halt h=>rfl
 have j:e=e.bind .pure:=by
  clear h g i;induction e with
  |pure a=>rfl
  |load m a k d=>simp only[cV];congr;funext v;exact d v
  |store m a v k d=>simp only[cV];congr
  |new o k d=>simp only[cV];congr;funext v;exact d v
  |shape r k d=>simp only[cV];congr;funext v;exact d v
  |freeze a n k d=>simp only[cV];congr
  |frozen a k d=>simp only[cV];congr;funext v;exact d v
  |getObj r k d=>simp only[cV];congr;funext v;exact d v
  |setObj r o k d=>simp only[cV];congr
  |choose q k d=>simp only[cV];congr;funext v;exact d v
  |sys c k d=>simp only[cV];congr;funext v;exact d v
  |program k d=>simp only[cV];congr;funext v;exact d v
  |mark m k d=>simp only[cV];congr
  |halt h=>rfl
 rw[i,j];exact SR.bind h λf L a b l _ p=>.pure (g f a b l p)
def jl{α a:Type}{Q:Ren->α->a->Prop}(b:String)(s:Sem a):SR P Q ρ K (stuck b) s:=.lost aC
def Gh{α a:Type}{Q:Ren->α->a->Prop}(u:Unsupported)(s:Sem a)(h:kV (.unsupported u):=by simp):SR P Q ρ K (jv u) s:=.lost h
def gE:SR P (λ_ a b=>a=P/\b=P) ρ K jf jf:=.program (.pure ⟨rfl,rfl⟩)
def nB(t):SR P (λ_ a b=>b=a/\P.info? t=aa a) ρ K (oc t) (oc t):=by
 refine SR.then gE ?_;rintro e L a b _ _ ⟨c,d⟩;rw[c,d];cases h:P.info? t with
 |none=>exact jl _ _
 |some i=>exact .pure ⟨rfl,rfl⟩
def BV(t):SR P (λ_ a b=>b=a/\P.underlying t=aa a) ρ K (underlying t) (underlying t):=by
 refine SR.then gE ?_;rintro e L a b _ _ ⟨c,d⟩;rw[c,d];cases h:P.underlying t with
 |none=>exact jl _ _
 |some i=>exact .pure ⟨rfl,rfl⟩
def xP(c:mU P)(t):SR P VR ρ K (zeroValue t) (zeroValue t):=by
 refine SR.then (nB t) ?_;rintro e L a b _ _ ⟨rfl,d⟩;cases h:b.zero with
 |none=>exact Gh _ _
 |some z=>exact .pure (c t b z d h e)
def jj(t):SR P dK ρ K (sizeOf t) (sizeOf t):=by refine SR.then (nB t) ?_;rintro c L a b _ _ ⟨rfl,_⟩;exact .pure rfl
def adj(t):SR P dK ρ K (isAgg t) (isAgg t):=by refine SR.then (BV t) ?_;rintro c L a b _ _ ⟨rfl,_⟩;split<;>exact .pure rfl
def AR.add{a a'}(h:AR ρ a a')(n):AR ρ (a.add n) (a'.add n):=by
 unfold Addr.add;split
 ·exact h
 ·exact⟨h.1,by simp[h.2.1],rfl⟩
def Lt{a a'}(h:AR ρ a a')(m:Mode):SR P VR ρ K (load a m) (load a' m):=.load h λ_ _ hv=>.pure hv
def adQ{a a'}(h:AR ρ a a'){v v'}(hv:VR ρ v v')(m:Mode):SR P dK ρ K (store a v m) (store a' v' m):=.store h hv (.pure rfl)
def bM.push{x x'}(h:bM ρ x x'){v v'}(hv:VR ρ v v'):bM ρ (x.push v) (x'.push v'):=by
 refine⟨by simp[h.1],λi u d b a=>?_⟩;rw[fG]at b a;rw[h.1]at a;split at b
 ·rename_i c;rw[aX c]at a;cases b;cases a;exact hv
 ·rename_i c;rw[aQ c]at a;exact h.2 i u d b a
def bM.nil:bM ρ #[] #[]:=⟨rfl,λi v a h=>by simp at h⟩
def adp{a a':fS}(h:AR ρ a a')(n):∀(i:Nat) (x b:aK aE) (K:Kn),bM ρ x b->SR P bM ρ K (loadCellsFrom a i n x) (loadCellsFrom a' i n b):=by
 induction n generalizing ρ with
 |zero=>exact λi x b K c=>.pure c
 |succ n e=>
  intro i x b K c;refine SR.then (Lt (h.add i) .plain) λg L v f d _ hv=>?_;exact e (h.mono d) (i+1) _ _ L ((c.mono d).push hv)
def Lu{a a'}(h:AR ρ a a')(n):SR P bM ρ K (loadCells a n) (loadCells a' n):=adp h n 0 _ _ K bM.nil
def To{a a':fS}(h:AR ρ a a')(t):SR P VR ρ K (loadVar t a) (loadVar t a'):=by
 refine SR.then (adj t) λl L b c d _ i=>?_;obtain rfl:c=b:=i;cases c with
 |false=>exact Lt (h.mono d) .plain
 |true=>
  refine SR.then (jj t) λm M n f g _ j=>?_;obtain rfl:f=n:=j;refine SR.then (Lu ((h.mono d).mono g) f) λo N x k _ _ e=>?_;exact .pure (.agg e.1 e.2)
def Gf{a a':fS}(h:AR ρ a a'):∀(vs b:aB aE) (i:Nat) (K:Kn),b.length=vs.length->(∀(j:Nat) v c,vs[j]? =aa v->b[j]? =aa c->VR ρ v c)->SR P dK ρ K (storeCells a vs i) (storeCells a' b i):=by
 intro vs;induction vs generalizing ρ with
 |nil=>
  intro b i K d _;obtain rfl:b=[]:=GX d;exact .pure rfl
 |cons v vs f=>
  intro b i K d hv;cases b with
  |nil=>simp at d
  |cons c b=>
   refine SR.then (adQ (h.add i) (hv 0 v c rfl rfl) .plain) λm L _ _ e _ _=>?_;exact f (h.mono e) b (i+1) L (by grind) λj u g k l=>(hv (j+1) u g (by grind) (by grind)).mono e
def VR.cells{v v'}(h:VR ρ v v'):bM ρ v.cells v'.cells:=by
 have one:∀{u g:aE},VR ρ u g->bM ρ #[u] #[g]:=λj=>⟨rfl,λi x o e f=>by
  cases i with
  |zero=>simp at e f;rw[<-e,<-f];exact j
  |succ i=>simp at e⟩
 cases h with
 |agg e m=>exact⟨e,m⟩
 |bool b=>exact one (.bool b)
 |int k n=>exact one (.int k n)
 |string s=>exact one (.string s)
 |gQ=>exact one .gQ
 |ptr h=>exact one (.ptr h)
 |gv l c=>exact one (.gv l c)
 |slice l c h=>exact one (.slice l c h)
 |mF=>exact one .mF
 |map h=>exact one (.map h)
 |nN=>exact one .nN
 |chan h=>exact one (.chan h)
 |func h a b c d=>exact one (.func h a b c d)
 |nilFunc=>exact one .nilFunc
 |iface t h=>exact one (.iface t h)
 |nilIface=>exact one .nilIface
 |tuple h a=>exact one (.tuple h a)
def adS{a a'}(h:AR ρ a a'){v d:aE}(hv:VR ρ v d)(t):SR P dK ρ K (storeVar t a v) (storeVar t a' d):=by
 have f:=hv.cells;refine SR.then (jj t) λo L n c e _ g=>?_;obtain rfl:c=n:=g
 by_cases b:v.cells.size≠c
 ·rw[aX b];exact .lost aC
 ·have i:¬d.cells.size≠c:=by rw[f.1];exact b
  rw[aQ b,aQ i];exact Gf (h.mono e) _ _ 0 L (by grind) λj u k l m=>(f.2 j u k (by grind) (by grind)).mono e
def vT(t){x b:aK aE}(h:bM ρ x b):SR P AR ρ K (newRow t x) (newRow t b):=by refine SR.then (Q:=λc n a=>c n a) (.new (.cells t (0,0) h) λn a=>.pure (aD ⟨rfl,rfl⟩)) λc L n a _ _ d=>?_;exact .pure ⟨d,rfl,rfl⟩
def LA(t){v v'}(h:VR ρ v v'):SR P AR ρ K (newVar t v) (newVar t v'):=vT t h.cells
def xN{α b:Type}{Q:Ren->α->b->Prop}{v a:aE}(h:VR ρ v a):SR P Q ρ K (goPanic v) (goPanic a):=.panic h
def LV(s:String):VR ρ (strVal s) (strVal s):=.string _
def zG{α c:Type}{Q:Ren->α->c->Prop}:SR P Q ρ K (qC (α:=α) .nilDeref) (qC (α:=c) .nilDeref):=by refine SR.then gE λd L a b _ _ h=>?_;rw[h.1,h.2];exact xN (.iface _ (LV _))
def Td{α e:Type}{Q:Ren->α->e->Prop}(x y s)(c:xa):SR P Q ρ K (qC (α:=α) (.bounds x y s c)) (qC (α:=e) (.bounds x y s c)):=by
 refine SR.then gE λg L a b _ _ h=>?_;rw[h.1,h.2];refine xN (.iface _ (.agg rfl λi v f hv d=>?_));rw[hv]at d;cases d
 match i,hv with
 |0,hv=>cases hv;exact .int _ _
 |1,hv=>cases hv;exact .int _ _
 |2,hv=>cases hv;exact .bool _
 |3,hv=>cases hv;exact .int _ _
 |i+4,hv=>simp at hv
def vR(q:lE):SR P dK ρ K (choose q) (choose q):=.choose λ_=>.pure rfl
def FT{v a:aE}(h:VR ρ v a):SR P dK ρ K (asIntOf v) (asIntOf a):=by cases h<;>first|exact .pure rfl|exact jl _ _|exact Gh _ _
def xM{v c:aE}(h:VR ρ v c):SR P dK ρ K (asInt v) (asInt c):=
 SR.then (FT h) λ_ _ a b _ _ d=>by obtain rfl:b=a:=d;exact .pure rfl
def SZ{v a:aE}(h:VR ρ v a):SR P dK ρ K (asBool v) (asBool a):=by cases h<;>first|exact .pure rfl|exact jl _ _
def aco{v a:aE}(h:VR ρ v a):SR P AR ρ K (asAddr v) (asAddr a):=by
 cases h with
 |ptr h=>exact .pure h
 |gQ=>exact zG
 |_=>exact jl _ _
end
end
section
variable [aP]
section
variable {P:aZ} {ρ:Ren} {K:Kn}
def Gg{v v'}(h:VR ρ v v'):SR P AR ρ K (GS v) (GS v'):=by
 cases h with
 |ptr h=>exact .pure h
 |_=>exact jl _ _
def adn{v v'}(h:VR ρ v v')(t):SR P VR ρ K (GP t v) (GP t v'):=
 SR.then (Gg h) λ_ _ _ _ _ _ a=>To a t
def adR{v v' x x'}(h:VR ρ v v')(c:VR ρ x x')(t):SR P dK ρ K (UM t v x) (UM t v' x'):=
 SR.then (Gg h) λ_ _ _ _ a _ b=>adS b (c.mono a) t
def acy{v v'}(h:VR ρ v v')(t):SR P VR ρ K (Instr.box t v) (Instr.box t v'):=
 SR.then (LA t h) λ_ _ _ _ _ _ a=>.pure (.ptr a)
def acm(a:mU P)(t):SR P VR ρ K (Im t aq (.tuple #[])) (Im t aq (.tuple #[])):=
 SR.then (xP a t) λ_ _ _ _ _ _ c=>SR.then (LA t c) λ_ _ _ _ _ _ b=>.pure (.ptr b)
def ads{f f' x x' y y'}(h:FR ρ f f')(a:bM ρ x x')(b:bM ρ y y'):SR P VR ρ K (sP f x y) (sP f' x' y'):=.pure (.func h a.1 a.2 b.1 b.2)
def adt{v v'}(h:VR ρ v v')(t):SR P VR ρ K (UK t v) (UK t v'):=by
 refine SR.then (BV t) λe L a b c _ d=>?_;obtain rfl:b=a:=d.1;split
 ·exact jl _ _
 ·exact .pure (.iface t (h.mono c))
def acY{v v'}(h:VR ρ v v')(i):SR P VR ρ K (UJ v i) (UJ v' i):=by
 cases h with
 |@tuple x a f e=>
  show SR P VR ρ K (match x[i]? with|some v=>pure v|none=>stuck _) (match a[i]? with|some v=>pure v|none=>stuck _);cases c:x[i]? with
  |none=>exact jl _ _
  |some u=>
   have d:i<a.size:=by grind
   have b:a[i]? =aa a[i]:=by simp[d]
   rw[b];exact .pure (e i _ _ c b)
 |_=>exact jl _ _
def Gb{α g i j:Type}{Q R s s'}(f:α->i)(f':g->j)(h:SR P Q ρ K s s')(hf:∀c a b,ρ.le c->Q c a b->R c (f a) (f' b)):SR P R ρ K (UH f s) (UH f' s'):=
 SR.then h λ_ _ _ _ d _ e=>.pure (hf _ _ _ d e)
def FV{α e:Type}{Q}(k:pE)(x y)(c:xa):SR P Q ρ K (Nh (α:=α) k x y c) (Nh (α:=e) k x y c):=by
 unfold Nh;dsimp only;split
 ·refine SR.then (Q:=dK) (Gb _ _ (vR _) λ_ a b _ d=>by rw[show b=a from d]) λf L a b _ _ d=>?_;obtain rfl:b=a:=d;exact Td _ _ _ _
 ·exact Td _ _ _ _
def bE{t:aW}{d:lF}(c:P.underlying t=aa d):SR P (λ_ a b=>a=d/\b=d) ρ K (underlying t) (underlying t):=
 (BV t).weaken λ_ a b _ h=>by grind
def adb{v v' x x'}(h:VR ρ v v')(D:VR ρ x x'){t e:aW}(g:P.underlying t=aa (.slice e)):SR P VR ρ K (MD t v x) (MD t v' x'):=by
 unfold MD;refine SR.then (FT D) λJ L a b r _ A=>?_;obtain rfl:b=a:=A;obtain⟨k,i⟩:=b;refine SR.then (bE g) λS M d I s _ B=>?_;obtain⟨rfl,rfl⟩:=B;cases ((h.mono r).mono s)with
 |gv l c=>
  refine SR.then (Q:=λ_ y f=>y=(ay,l,e)/\f=(ay,l,e)) (.pure ⟨rfl,rfl⟩) λH O z F p _ m=>?_;obtain⟨rfl,rfl⟩:=m;refine SR.then (bE g) λG N y f o _ j=>?_;obtain⟨rfl,rfl⟩:=j;exact FV _ _ _ _
 |@slice b q l c w=>
  refine SR.then (Q:=λ_ y f=>y=(aa b,l,e)/\f=(aa q,l,e)) (.pure ⟨rfl,rfl⟩) λH O z F p _ m=>?_;obtain⟨rfl,rfl⟩:=m;refine SR.then (bE g) λG N y f o _ j=>?_;obtain⟨rfl,rfl⟩:=j;dsimp only;split
  ·refine SR.then (jj e) λT R n E u _ C=>?_;obtain rfl:E=n:=C;exact .pure (.ptr ((((w.mono p).mono o).mono u).add _))
  ·simp;exact FV _ _ _ _
 |_=>exact .lost aC
def acZ{v v'}(h:VR ρ v v'){s:aW}{fs n f}{i:kv}(m:P.underlying s=aa (.struct fs))(hf:fs[n]? =aa f)(q:P.info? f.type=aa i)(h0:i.size≠0):SR P VR ρ K (Mz s v n) (Mz s v' n):=by
 unfold Mz;refine SR.then (bE m) λr L a b j _ l=>?_;obtain⟨rfl,rfl⟩:=l;simp only[hf];refine SR.then (Gg (h.mono j)) λt M a g p _ c=>?_;refine SR.then (Q:=AR) ?_ λo N a g _ _ c=>.pure (.ptr c);unfold fieldPlace;refine SR.then (Q:=λ_ x y=>x=i.size/\y=i.size) ?_ λo N x y k _ d=>?_
 ·refine SR.then (nB f.type) λ_ _ x y _ _ d=>?_;have e:x=i:=by grind
  exact .pure ⟨by rw[e],by rw[d.1,e]⟩
 ·obtain⟨rfl,rfl⟩:=d;rw[aQ h0,aQ h0];exact .pure ((c.mono k).add _)
def ade{v v' x x'}(h:VR ρ v v')(l:VR ρ x x'){t:aW}(j:P.underlying t=aa .string):SR P VR ρ K (MC t v x) (MC t v' x'):=by
 unfold MC;refine SR.then (FT l) λn L a b c _ f=>?_;obtain rfl:b=a:=f;obtain⟨k,i⟩:=b;refine SR.then (bE j) λo M d m e _ g=>?_;obtain⟨rfl,rfl⟩:=g;cases (h.mono c).mono e with
 |string s=>
  dsimp only;split
  ·exact .pure (.int _ _)
  ·exact FV _ _ _ _
 |_=>exact .lost aC
end
end
section
variable [aP]
section
variable {P:aZ} {ρ:Ren} {K:Kn}
def VO(ρ:Ren):aY aE->aY aE->Prop
 |none,ay=>True
 |some v,aa a=>VR ρ v a
 |_,_=>False
def VO.mono{ρ σ}(h:ρ.le σ){v a}(k:VO ρ v a):VO σ v a:=by cases v<;>cases a<;>first|exact k.elim|trivial|exact VR.mono h k
def zH{v v'}(h:VR ρ v v')(y)(c:xa):SR P dK ρ K (MJ v y c) (MJ v' y c):=by
 unfold MJ;refine SR.then (FT h) λf L a b e _ d=>?_;obtain rfl:b=a:=d;obtain⟨k,i⟩:=b;dsimp only;split
 ·exact .pure rfl
 ·exact FV _ _ _ _
def qm{α:Type}(a:α):SR P (λ_ x y=>x=a/\y=a) ρ K (pure a) (pure a):=.pure ⟨rfl,rfl⟩
def Ge(isS len cap){d b g c}(o:VO ρ d b)(p:VO ρ g c):SR P dK ρ K (Ag isS len cap d g ay) (Ag isS len cap b c ay):=by
 unfold Ag;dsimp only;refine SR.then (qm cap) λs L m r j _ n=>?_;obtain⟨rfl,rfl⟩:=n;have a:=o.mono j;have h:=p.mono j;cases g with
 |none=>
  cases c with
  |none=>
   refine SR.then (qm len) λq M y l f _ e=>?_;obtain⟨rfl,rfl⟩:=e;cases d with
   |none=>cases b with
    |none=>exact .pure rfl
    |some v=>exact a.elim
   |some v=>cases b with
    |none=>exact a.elim
    |some k=>exact SR.then (zH (VR.mono f a) _ _) λ_ _ x i _ _ e=>by(obtain rfl:i=x:=e;exact .pure rfl)
  |some v=>exact h.elim
 |some v=>
  cases c with
  |none=>exact h.elim
  |some k=>
   refine SR.then (zH h _ _) λq M y l f _ e=>?_;obtain rfl:l=y:=e;cases d with
   |none=>cases b with
    |none=>exact .pure rfl
    |some v=>exact a.elim
   |some v=>cases b with
    |none=>exact a.elim
    |some k=>exact SR.then (zH (VR.mono f a) _ _) λ_ _ x i _ _ e=>by(obtain rfl:i=x:=e;exact .pure rfl)
def adP{v v'}(h:VR ρ v v'){lo lo' hi hi'}(d:VO ρ lo lo')(f:VO ρ hi hi'){t:aW}(i:P.underlying t=aa .string):SR P VR ρ K (uu t v lo hi ay) (uu t v' lo' hi' ay):=by
 unfold uu;refine SR.then (bE i) λk L a b c _ g=>?_;obtain⟨rfl,rfl⟩:=g;cases h.mono c with
 |string s=>
  refine SR.then (Ge av _ _ (d.mono c) (f.mono c)) λl M x j _ _ e=>?_;obtain rfl:j=x:=e;exact .pure (.string _)
 |_=>exact .lost aC
def Ga{v v'}(h:VR ρ v v'):SR P dK ρ K (UA v) (UA v'):=by cases h<;>first|exact .pure rfl|exact jl _ _
def vS(size n){v v'}(h:VR ρ v v'):SR P bM ρ K (Uy size n v) (Uy size n v'):=by
 cases h with
 |slice l c f=>exact Lu f _
 |gv l c=>exact .pure bM.nil
 |string s=>
  refine .pure ⟨rfl,λi u g a e=>?_⟩;rw[a]at e;cases e;simp only[fT]at a;cases d:(s.extract 0 n).data[i]? with
  |none=>rw[d]at a;cases a
  |some b=>rw[d]at a;cases a;exact .int _ _
 |_=>exact jl _ _
def FU(n):SR P dK ρ K (askRoom n) (askRoom n):=by
 unfold askRoom;split
 ·exact .noRoom (.pure rfl)
 ·exact .pure rfl
end
end
section
variable [aP]
section
variable {P:aZ} {ρ:Ren} {K:Kn}
def bM.append{x x' y y'}(h:bM ρ x x')(k:bM ρ y y'):bM ρ (x++y) (x'++y'):=by
 refine⟨by simp[h.1,k.1],λi u d b a=>?_⟩;rw[Gv]at b a;rw[h.1]at a;split at b
 ·rename_i c;rw[aX c]at a;exact h.2 i u d b a
 ·rename_i c;rw[aQ c]at a;exact k.2 _ u d b a
def Plain(x:aK aE):Prop:=∀(i:Nat) v,x[i]? =aa v->∀ρ:Ren,VR ρ v v
def Plain.rel{x}(h:Plain x)(ρ):bM ρ x x:=⟨rfl,λi v c a b=>by rw[a]at b;cases b;exact h i v a ρ⟩
def Fi{z}(h:∀ρ:Ren,VR ρ z z):Plain z.cells:=λi v hv ρ=>(h ρ).cells.2 i v v hv hv
def Sb{z}(h:Plain z)(n):Plain (mH z n):=by
 intro i v hv ρ;unfold mH at hv;simp only[fT]at hv;cases hr:(so (n*z.size))[i]? with
 |none=>rw[hr]at hv;cases hv
 |some j=>
  rw[hr]at hv;cases hv;have c:j<n*z.size:=by grind
  have b:0<z.size:=by grind
  have a:j %z.size<z.size:=yy _ b;have e:z[j %z.size]? =aa (z[j %z.size]!):=by simp[a]
  exact h _ _ e ρ
def Gi(c:mU P)(t):SR P (λ_ a b=>b=a/\∀ρ:Ren,VR ρ a a) ρ K (zeroValue t) (zeroValue t):=by
 refine SR.then (nB t) ?_;rintro e L a b _ _ ⟨rfl,d⟩;cases h:b.zero with
 |none=>exact Gh _ _
 |some z=>exact .pure ⟨rfl,c t b z d h⟩
def BU{α c:Type}{Q}(m:String):SR P Q ρ K (qC (α:=α) (.error m)) (qC (α:=c) (.error m)):=by refine SR.then gE λd L a b _ _ h=>?_;rw[h.1,h.2];exact xN (.iface _ (LV _))
def uf{α a b c:Type}{R}(m:String)(f:α->Sem b)(f':a->Sem c):SR P R ρ K (qC (.error m) >>= f) (qC (.error m) >>= f'):=
 SR.then (Q:=λ_ _ _=>False) (BU m) λ_ _ _ _ _ _ h=>h.elim
def OU{α k:Type}(s:Sem α)(f:α->Sem k)(g:∀w v b,s.run P w≠.halt v b)(hf:∀a w,∃x b,(f a).run P w=.halt x b/\kV x)(w):∃x b,(s >>= f).run P w=.halt x b/\kV x:=by
 have e:(s >>= f).run P w=(s.run P w).andThen λa i=>(f a).run P i:=iu P s f w;cases h:s.run P w with
 |ok a b=>
  obtain⟨x,j,c,d⟩:=hf a b;exact⟨x,j,by rw[e,h];exact c,d⟩
 |halt x b=>exact absurd h (g w x b)
def QC(a n w):∃b,(Uz a n).run P w=.ok b w:=by
 unfold Uz;cases h:w.shape? a.block with
 |none=>exact⟨av,by simp[shape,Sem.run,jU,cV,h,ku]⟩
 |some x=>exact⟨_,by simp only[shape,Sem.run,jU,cV,h,ku];rfl⟩
def oF{α:Type}(P:aZ)(s:Sem α):Prop:=∀w:az,∃b,s.run P w=.ok b w
def BD{α:Type}(a:α):oF P (pure a:Sem α):=λ_=>⟨a,rfl⟩
def oF.bind{α g:Type}{s}{f:α->Sem g}(h:oF P s)(k:∀a,oF P (f a)):oF P (s >>= f):=λw=>by obtain⟨b,d⟩:=h w;obtain⟨c,e⟩:=k b w;exact⟨c,by rw[Df,d];exact e⟩
def J4(a):oF P (frozen a):=λw=>⟨w.frozen? a,rfl⟩
def SW(size l n base x w):∃b,(Mk size l n base x).run P w=.ok b w:=by
 suffices h:oF P (Mk size l n base x) from h w
 unfold Mk
 extract_lets last
 have c:∀d,oF P (last d):=λd=>by
  dsimp only[last];split
  ·exact BD _
  ·split
   ·exact oF.bind (λw=>QC _ _ w) λ_=>BD _
   ·exact BD _
 cases base with
 |none=>exact oF.bind (BD _) c
 |some a=>exact oF.bind (λw=>QC a _ w) λ_=>oF.bind (J4 _) λ_=>oF.bind (BD _) c
def acn(hZ:mU P){s s' x x'}(hs:VR ρ s s')(hx:VR ρ x x'){t u e ty:aW}{d:lF}(ht:P.underlying t=aa (.slice e))(hu:P.underlying u=aa d)(hd:d=.string\/∃e',d=.slice e'):SR P VR ρ K (nY #[t,u] ty #[s,x]) (nY #[t,u] ty #[s',x']):=by
 rcases hd with rfl|⟨e',rfl⟩
 all_goals
  unfold nY;simp only[List.getElem?_toArray,List.getElem?_cons_zero,List.getElem?_cons_succ];refine SR.then (bE ht) λσ L a b g1 _ bL=>?_;obtain⟨rfl,rfl⟩:=bL;dsimp only;have bn:=hx.mono g1;cases (hs.mono g1)with
  |@slice c c' r aL hc=>
   refine SR.then (jj e) λτ M size A R _ E=>?_;obtain rfl:A=size:=E;refine SR.then (bE hu) λck M2 u u' S _ F=>?_;obtain⟨rfl,rfl⟩:=F;refine SR.then (qm av) λcm M3 z z' T _ G=>?_;obtain⟨rfl,rfl⟩:=G;simp only[eR,dQ,Cs,cS,false_or];have g5:=Ren.le_trans (Ren.le_trans R S) T;have m:=bn.mono g5;refine SR.then (Ga m) λcr M4 n p D _ H=>?_;obtain rfl:p=n:=H;have o:=m.mono D;have X:=(hc.mono g5).mono D;split
   ·refine SR.then (vS _ _ o) λaT B w w' f _ hw=>?_;refine SR.then (Gf ((X.mono f).add _) _ _ 0 B (by simpa using hw.1) λj q q' l qR=>hw.2 j q q' (by simpa using l) (by simpa using qR)) λbt M6 _ _ i _ _=>?_;exact .pure (.slice _ _ ((X.mono f).mono i))
   ·refine SR.then (nB e) λaT B ti aO f _ Z=>?_;obtain rfl:aO=ti:=Z.1;have aj:=o.mono f;split
    ·exact uf _ _ _
    ·refine SR.then (nB e) λbt M6 tj aR i _ vC=>?_;obtain rfl:aR=tj:=vC.1;split
     ·refine SR.then (Q:=λ_ _ _=>False) (.vi λw=>OU _ _ (λw v w1 k=>?_) (λb w=>?_) w) λ_ _ _ _ _ _ h=>h.elim
      ·obtain⟨b,W⟩:=SW (P:=P) A r p (aa c) x w;rw[W]at k;cases k
      ·cases b
       ·exact⟨_,_,rfl,aC⟩
       ·exact⟨_,_,rfl,aC⟩
     ·refine SR.then (vR _) λcu M7 nc aI U _ Y=>?_;obtain rfl:aI=nc:=Y;refine SR.then (nB e) λcv M8 tk aS I _ af=>?_;obtain rfl:aS=tk:=af.1;refine SR.then (FU _) λcx M9 _ _ J _ _=>?_;have C:=Ren.le_trans (Ren.le_trans (Ren.le_trans i U) I) J;refine SR.then (vS _ _ (VR.slice r aL ((X.mono f).mono C))) λb8 bu y y' N _ hy=>?_;refine SR.then (vS _ _ ((aj.mono C).mono N)) λb9 bw q q' O _ l=>?_;refine SR.then (Gi hZ e) λcg bz zz bZ g _ aG=>?_;obtain⟨rfl,an⟩:=aG;refine SR.then (vT e (((hy.mono (Ren.le_trans O g)).append (l.mono g)).append ((Sb (Fi an) _).rel _))) λcj bA ad bK _ _ V=>?_;exact .pure (.slice _ _ V)
  |gv r aL=>
   refine SR.then (jj e) λτ M size A R _ E=>?_;obtain rfl:A=size:=E;refine SR.then (bE hu) λck M2 u u' S _ F=>?_;obtain⟨rfl,rfl⟩:=F;refine SR.then (qm av) λcm M3 z z' T _ G=>?_;obtain⟨rfl,rfl⟩:=G;simp only[eR,dQ,Cs,cS,false_or];have m:=bn.mono (Ren.le_trans (Ren.le_trans R S) T);refine SR.then (Ga m) λcr M4 n p D _ H=>?_;obtain rfl:p=n:=H;have o:=m.mono D;split
   ·refine SR.then (vS _ _ o) λaT B w w' f _ hw=>?_;exact .pure (.gv _ _)
   ·refine SR.then (nB e) λaT B ti aO f _ Z=>?_;obtain rfl:aO=ti:=Z.1;have aj:=o.mono f;split
    ·exact uf _ _ _
    ·refine SR.then (nB e) λbt M6 tj aR i _ vC=>?_;obtain rfl:aR=tj:=vC.1;split
     ·refine SR.then (Q:=λ_ _ _=>False) (.vi λw=>OU _ _ (λw v w1 k=>?_) (λb w=>?_) w) λ_ _ _ _ _ _ h=>h.elim
      ·obtain⟨b,W⟩:=SW (P:=P) A r p ay x w;rw[W]at k;cases k
      ·cases b
       ·exact⟨_,_,rfl,aC⟩
       ·exact⟨_,_,rfl,aC⟩
     ·refine SR.then (vR _) λcu M7 nc aI U _ Y=>?_;obtain rfl:aI=nc:=Y;refine SR.then (nB e) λcv M8 tk aS I _ af=>?_;obtain rfl:aS=tk:=af.1;refine SR.then (FU _) λcx M9 _ _ J _ _=>?_;have C:=Ren.le_trans (Ren.le_trans (Ren.le_trans i U) I) J;refine SR.then (vS _ _ (VR.gv r aL)) λb8 bu y y' N _ hy=>?_;refine SR.then (vS _ _ ((aj.mono C).mono N)) λb9 bw q q' O _ l=>?_;refine SR.then (Gi hZ e) λcg bz zz bZ g _ aG=>?_;obtain⟨rfl,an⟩:=aG;refine SR.then (vT e (((hy.mono (Ren.le_trans O g)).append (l.mono g)).append ((Sb (Fi an) _).rel _))) λcj bA ad bK _ _ V=>?_;exact .pure (.slice _ _ V)
  |_=>exact .lost aC
end
end
section
variable [aP]
section
variable {P:aZ} {ρ:Ren} {K:Kn}
def Tm(op:kQ)(k:pE)(x y):SR P VR ρ K (MP op k x y) (MP op k x y):=by unfold MP;split<;>first|exact .pure (.int _ _)|exact jl _ _
def adg(op:kQ)(x y):SR P VR ρ K (MR op x y) (MR op x y):=by unfold MR;split<;>first|exact .pure (.bool _)|exact jl _ _
def adh(op:kQ)(k:pE)(x y):SR P VR ρ K (MT op k x y) (MT op k x y):=by
 unfold MT;split
 ·exact BU _
 ·split<;>first|exact .pure (.int _ _)|exact jl _ _
def adL(op:kQ)(k:pE)(x)(l:pE)(y):SR P VR ρ K (NT op k x l y) (NT op k x l y):=by
 unfold NT;split
 ·exact BU _
 ·dsimp only;split<;>first|exact .pure (.int _ _)|exact jl _ _
def adf(op:kQ)(k:pE)(x y):SR P VR ρ K (MQ op k x y) (MQ op k x y):=by unfold MQ;dsimp only;split<;>first|exact .pure (.int _ _)|exact jl _ _
def Tw(op:kQ)(x y):SR P VR ρ K (MU op x y) (MU op x y):=by
 unfold MU;dsimp only;split
 ·split
  ·exact Gh _ _
  ·exact .pure (.string _)
 all_goals first|exact .pure (.bool _)|exact jl _ _
def Lq(op:kQ)(t)(k l:pE)(x y):SR P VR ρ K (fo op t (.int k x) (.int l y)) (fo op t (.int k x) (.int l y)):=by
 have a:SR P VR ρ K (stuck "BinOp: operands of different kinds") (stuck "BinOp: operands of different kinds"):=jl _ _;cases op<;>simp only[fo]
 all_goals first
  |exact adL _ _ _ _ _
  |skip
 all_goals
  split
  ·exact a
  ·first
   |exact Tm _ _ _ _
   |exact adh _ _ _ _
   |exact adf _ _ _ _
   |exact adg _ _ _
def Lr(op:kQ)(t x y):SR P VR ρ K (fo op t (.string x) (.string y)) (fo op t (.string x) (.string y)):=by cases op<;>simp only[fo]<;>exact Tw _ _ _
def adO{v v'}(h:VR ρ v v'){lo lo' hi hi'}(j:VO ρ lo lo')(m:VO ρ hi hi'){t e:aW}(w:P.underlying t=aa (.slice e)):SR P VR ρ K (uu t v lo hi ay) (uu t v' lo' hi' ay):=by
 unfold uu;refine SR.then (bE w) λD L a b d _ s=>?_;obtain⟨rfl,rfl⟩:=s;cases h.mono d with
 |gv l c=>
  refine SR.then (Ge aq _ _ (j.mono d) (m.mono d)) λA M x f _ _ ex=>?_;obtain rfl:f=x:=ex;refine SR.then (jj e) λB N n i _ _ g=>?_;obtain rfl:i=n:=g;obtain⟨y,u,z⟩:=f;simp;exact .pure (.gv _ _)
 |@slice c C l k r=>
  refine SR.then (Ge aq _ _ (j.mono d) (m.mono d)) λA M x f p _ ex=>?_;obtain rfl:f=x:=ex;refine SR.then (jj e) λB N n i q _ g=>?_;obtain rfl:i=n:=g;have o:=(r.mono p).mono q;obtain⟨y,u,z⟩:=f;split
  ·exact .pure (.slice _ _ o)
  ·exact .pure (.slice _ _ (o.add _))
 |_=>exact .lost aC
def Tu{v v' lo lo' hi hi'}{t:aW}{d:lF}(j:P.underlying t=aa d)(i:∀n e,d≠.array n e)(h:∀c L,ρ.le c->SR P VR c L (uu t v lo hi ay) (uu t v' lo' hi' ay)):SR P VR ρ K (uv t v lo hi ay) (uv t v' lo' hi' ay):=by
 unfold uv;refine SR.then (bE j) λc L a b f _ g=>?_;obtain⟨rfl,rfl⟩:=g;split
 ·exact absurd rfl (i _ _)
 ·exact h c L f
def adl{v v'}(h:VR ρ v v'){t e:aW}(d:P.underlying t=aa (.slice e))(ty):SR P VR ρ K (Aa #[t] ty #[v]) (Aa #[t] ty #[v']):=by unfold Aa;simp;refine SR.then (bE d) λg L a b f _ c=>?_;obtain⟨rfl,rfl⟩:=c;cases h<;>first|exact .pure (.int _ _)|exact .lost aC
def adm{v v'}(h:VR ρ v v'){t:aW}(d:P.underlying t=aa .string)(ty):SR P VR ρ K (Aa #[t] ty #[v]) (Aa #[t] ty #[v']):=by unfold Aa;simp;refine SR.then (bE d) λf L a b e _ c=>?_;obtain⟨rfl,rfl⟩:=c;cases h<;>first|exact .pure (.int _ _)|exact .lost aC
def acN{s s' x x'}(H:VR ρ s s')(J:VR ρ x x'){t u e B:aW}(I:P.underlying t=aa (.slice e)):SR P VR ρ K (sM #[t,u] B #[s,x]) (sM #[t,u] B #[s',x']):=by
 unfold sM;simp;refine SR.then (bE I) λW L a b v _ D=>?_;obtain⟨rfl,rfl⟩:=D;dsimp only;have d:=J.mono v;cases H.mono v with
 |@slice c U l k E=>
  refine SR.then (Ga d) λQ M n o h _ f=>?_;obtain rfl:o=n:=f;refine SR.then (jj e) λR C z p i _ g=>?_;obtain rfl:p=z:=g;have y:=Ren.le_trans h i;refine SR.then (vS _ _ (d.mono y)) λS r w O A _ m=>?_;refine SR.then (Gf ((E.mono y).mono A) _ _ 0 r (by simpa using m.1) λj q N F G=>m.2 j q N (by simpa using F) (by simpa using G)) λX T _ _ V _ _=>?_;exact .pure (.int _ _)
 |gv l k=>
  refine SR.then (Ga d) λQ M n o h _ f=>?_;obtain rfl:o=n:=f;refine SR.then (jj e) λR C z p i _ g=>?_;obtain rfl:p=z:=g;refine SR.then (vS _ _ (d.mono (Ren.le_trans h i))) λS r w O A _ m=>?_;exact .pure (.int _ _)
 |_=>exact .lost aC
end
end
section
variable [aP]
section
variable {P:aZ} {ρ:Ren} {K:Kn}
inductive dh{α c:Type}(R:α->c->Prop):aB α->aB c->Prop
 |nil:dh R [] []
 |cons {a:α} {b:c} {l:aB α} {m:aB c} (h:R a b) (t:dh R l m):dh R (a::l) (b::m)
def qL(ρ:Ren)(x a:aB aE):Prop:=dh (VR ρ) x a
def bM.list{x a}(h:bM ρ x a):qL ρ x.toList a.toList:=by
 obtain⟨b,c⟩:=h;rcases x with⟨x⟩;rcases a with⟨a⟩;simp at b;simp at c;unfold qL;dsimp only;induction x generalizing a with
 |nil=>
  obtain rfl:a=[]:=GX b;exact .nil
 |cons v x d=>
  cases a with
  |nil=>simp at b
  |cons f a=>
   refine .cons (c 0 v f rfl rfl) (d a (by grind) λi u e g j=>c (i+1) u e (by grind) (by grind))
def H9{ws ws'}(h:qL ρ ws ws')(off):∀(k:Nat) {x a:aK aE},bM ρ x a->
  bM ρ ((ws.zipIdx k).foldl (λcs (p:aE×Nat)=>cs.setIfInBounds (off+p.2) p.1) x) ((ws'.zipIdx k).foldl (λcs (p:aE×Nat)=>cs.setIfInBounds (off+p.2) p.1) a):=by
 unfold qL at h;induction h with
 |nil=>intro k x a b;exact b
 |cons hv _ c=>intro k x a b;exact c (k+1) (b.set hv _)
def rR(ρ:Ren)(x b:aB (Nat×aE)):Prop:=dh (λp a=>a.1=p.1/\VR ρ p.2 a.2) x b
def rR.mono{σ}(g:ρ.le σ){x x'}(h:rR ρ x x'):rR σ x x':=by
 unfold rR at*;induction h with
 |nil=>exact .nil
 |cons hv _ a=>exact .cons ⟨hv.1,hv.2.mono g⟩ a
inductive Iu(ρ:Ren):aY (aK aE)->aY (aK aE)->Prop
 |none:Iu ρ ay ay
 |some {x a:aK aE} (h:bM ρ x a):Iu ρ (aa x) (aa a)
def Jd(d:Nat->aY (Nat×Nat)){ps ps'}(h:rR ρ ps ps'):∀{x b:aK aE},bM ρ x b->Iu ρ (uq d x ps) (uq d b ps'):=by
 unfold rR at h;induction h with
 |nil=>intro x b a;exact .some a
 |@cons p j _ _ hv _ g=>
  intro x b a;obtain⟨i,v⟩:=p;obtain⟨f,l⟩:=j;obtain⟨e,c⟩:=hv;dsimp only at e c;subst e;unfold uq;cases k:d f with
  |none=>exact .none
  |some q=>
   obtain⟨off,size⟩:=q;dsimp only;rw[c.cells.1,a.1];split
   ·exact .none
   ·refine g ?_;have:=H9 c.cells.list off 0 a;rw[<-Uv,<-Uv,Cj,Cj]at this;exact this
def adx{α n:Type}{f:α->Sem n}(h:∀a d L,SR P dK d L (f a) (f a))(xs:aK α):SR P dK ρ K (xs.mapM f) (xs.mapM f):=by
 rw[zX];refine Gb _ _ ?_ λ_ a b _ i=>by rw[show b=a from i]
 generalize xs.toList=l;induction l generalizing ρ K with
 |nil=>exact .pure rfl
 |cons a l m=>
  rw[ux];refine SR.then (h a _ _) λd L b e _ _ j=>?_;obtain rfl:e=b:=j;refine SR.then m λd L c g _ _ k=>?_;obtain rfl:g=c:=k;exact .pure rfl
def acz(k:mU P){t:aW}{fs}(q:P.underlying t=aa (.struct fs)){ps d:aK (Nat×aE)}(h:rR ρ ps.toList d.toList):SR P VR ρ K (Mw t ps) (Mw t d):=by
 unfold Mw;refine SR.then (xP k t) λw L z v j _ r=>?_;refine SR.then (bE q) λA M a b e _ l=>?_;obtain⟨rfl,rfl⟩:=l;refine SR.then (adx (λf w L=>SR.then (jj f.type) λ_ _ n s _ _ m=>by(obtain rfl:s=n:=m;exact .pure rfl)) fs) λB N u c g _ p=>?_;obtain rfl:c=u:=p;have hr:=Jd (c[·]?) (h.mono (Ren.le_trans (Ren.le_trans j e) g)) (r.cells.mono (Ren.le_trans e g));revert hr;generalize uq (λx=>c[x]?) z.cells ps.toList=o;generalize uq (λx=>c[x]?) v.cells d.toList=y;intro hr;cases hr with
 |none=>exact .lost aC
 |some i=>exact .pure (.agg i.1 i.2)
end
end
section
variable [aP]
section
variable {P:aZ} {ρ:Ren} {K:Kn}
def afr:VR ρ (default:aE) default:=by first|exact .bool _|exact .nilIface|exact .gQ|exact .nilFunc|exact .tuple rfl (λi v a h=>by simp at h)
def Fj{z}(h:Plain z)(n):Plain ((so n).map (z[· %z.size]!)):=by
 intro i v hv ρ;simp only[fT]at hv;cases hr:(so n)[i]? with
 |none=>rw[hr]at hv;cases hv
 |some j=>
  rw[hr]at hv;cases hv
  by_cases a:j %z.size<z.size
  ·have e:z[j %z.size]? =aa (z[j %z.size]!):=by simp[a]
   exact h _ _ e ρ
  ·have e:z[j %z.size]! =default:=by
    rw[getElem!_neg];exact a
   show VR ρ (z[j %z.size]!) (z[j %z.size]!);rw[e];exact afr
def RZ:Plain #[]:=λi v h=>by simp at h
def acA(r:mU P){t e:aW}(w:P.underlying t=aa (.slice e))(len){ps d}(h:rR ρ ps.toList d.toList):SR P VR ρ K (Mx t len ps) (Mx t len d):=by
 unfold Mx;refine SR.then (bE w) λD M a b m _ s=>?_;obtain⟨rfl,rfl⟩:=s;dsimp only;refine SR.then (jj e) λE N n c p _ u=>?_;obtain rfl:c=n:=u;split
 ·exact .lost aC
 ·split
  ·refine SR.then (qm _) λl O z B f _ k=>?_;obtain⟨rfl,rfl⟩:=k;have hr:=Jd (λi=>aa (i*c,c)) (h.mono (Ren.le_trans (Ren.le_trans m p) f)) ((Fj RZ (len*c)).rel l);revert hr;generalize uq _ _ ps.toList=o;generalize uq _ _ d.toList=A;intro hr;cases hr with
   |none=>exact .lost aC
   |some j=>exact SR.then (vT e j) λ_ _ _ _ _ _ g=>.pure (.slice _ _ g)
  ·refine SR.then (Gi r e) λF R y C q _ x=>?_;obtain⟨rfl,v⟩:=x;refine SR.then (qm _) λl O z B f _ k=>?_;obtain⟨rfl,rfl⟩:=k;have hr:=Jd (λi=>aa (i*c,c)) (h.mono (Ren.le_trans (Ren.le_trans (Ren.le_trans m p) q) f)) ((Fj (Fi v) (len*c)).rel l);revert hr;generalize uq _ _ ps.toList=o;generalize uq _ _ d.toList=A;intro hr;cases hr with
   |none=>exact .lost aC
   |some j=>exact SR.then (vT e j) λ_ _ _ _ _ _ g=>.pure (.slice _ _ g)
def adw(u:mU P){t e:aW}(D:P.underlying t=aa (.slice e)){x x' y k}(E:VR ρ x x')(g:VR ρ y k):SR P VR ρ K (Cz t x y) (Cz t x' k):=by
 unfold Cz;refine SR.then (bE D) λV L a b m _ v=>?_;obtain⟨rfl,rfl⟩:=v;dsimp only;refine SR.then (xM (E.mono m)) λY M l G q _ B=>?_;obtain rfl:G=l:=B;refine SR.then (xM (g.mono (Ren.le_trans m q))) λZ N c p S _ w=>?_;obtain rfl:p=c:=w;refine SR.then (nB e) λφ O i F T _ A=>?_;obtain rfl:F=i:=A.1;split
 ·split
  ·exact uf _ _ _
  ·split
   ·exact uf _ _ _
   ·refine SR.then (vR _) λ_ _ n j _ _ f=>?_;obtain rfl:j=n:=f;exact uf _ _ _
 ·refine SR.then (FU _) λW J _ _ r _ _=>?_;refine SR.then (jj e) λX Q n j U _ f=>?_;obtain rfl:j=n:=f;split
  ·refine SR.then (qm _) λI o z H s _ h=>?_;obtain⟨rfl,rfl⟩:=h;exact SR.then (vT e ((Fj RZ _).rel _)) λ_ _ _ _ _ _ d=>.pure (.slice _ _ d)
  ·refine SR.then (Gi u e) λψ R y k r _ g=>?_;obtain⟨rfl,C⟩:=g;refine SR.then (qm _) λI o z H s _ h=>?_;obtain⟨rfl,rfl⟩:=h;exact SR.then (vT e ((Fj (Fi C) _).rel _)) λ_ _ _ _ _ _ d=>.pure (.slice _ _ d)
def Te{v v'}(h:VR ρ v v'):SR P VR ρ K (Mo v) (Mo v'):=by
 unfold Mo;cases h with
 |gv l c=>exact .pure (.string _)
 |@slice a o l c f=>
  refine SR.then (Lu f l) λq L x m _ _ i=>?_;simp only[<-lg];have d:=i.list;revert d;generalize x.toList=y;generalize m.toList=p;intro d;refine SR.then (Q:=dK) ?_ λ_ _ b e _ _ g=>by(obtain rfl:e=b:=g;exact .pure (.string _))
  unfold qL at d;generalize ByteArray.empty=acc;induction d generalizing acc with
  |nil=>exact .pure rfl
  |cons hv _ j=>
   simp;cases hv with
   |int k n=>
    cases k
    case u8=>exact j _
    all_goals exact .lost aC
   |_=>exact .lost aC
 |_=>exact .lost aC
def acK{s d e:aW}(q:P.underlying s=aa (.slice e))(o:P.underlying d=aa .string)(he:P.underlying e=aa (.int .u8)){v v'}(h:VR ρ v v')(hv:∀b,v≠.string b)(p:∀k n,v≠.int k n):SR P VR ρ K (convert s d v) (convert s d v'):=by
 unfold convert;refine SR.then (bE q) λ_ _ x u i _ r=>?_;obtain⟨rfl,rfl⟩:=r;refine SR.then (bE o) λ_ _ y w j _ t=>?_;obtain⟨rfl,rfl⟩:=t;cases h with
 |string b=>exact absurd rfl (hv b)
 |int k n=>exact absurd rfl (p k n)
 |gv l c=>
  refine SR.then (bE he) λ_ _ z g f _ a=>?_;obtain⟨rfl,rfl⟩:=a;exact Te (.gv l c)
 |slice l c m=>
  refine SR.then (bE he) λ_ _ z g f _ a=>?_;obtain⟨rfl,rfl⟩:=a;exact Te (.slice l c (m.mono (Ren.le_trans (Ren.le_trans i j) f)))
 |_=>
  refine SR.then (bE he) λ_ _ z g f _ a=>?_;obtain⟨rfl,rfl⟩:=a;exact .lost aC
end
end
section
variable [aP]
section
variable {P:aZ} {ρ:Ren} {K:Kn}
def BT{k:aW}{κ}(a:P.underlying k=aa (.int κ))(b b' v v'):SR P dK ρ K (My b 10000 k v) (My b' 10000 k v'):=by rw[show(10000:Nat)=9999+1 from rfl];unfold My;refine SR.then (bE a) λ_ _ x d _ _ c=>?_;obtain⟨rfl,rfl⟩:=c;exact .pure rfl
def wQ(ρ:Ren)(x b:aB tw):Prop:=dh (λe a=>VR ρ e.key a.key/\VR ρ e.val a.val/\a.born=e.born) x b
def mj.list{x a}(h:mj ρ x a):wQ ρ x.toList a.toList:=by
 obtain⟨b,c⟩:=h;rcases x with⟨x⟩;rcases a with⟨a⟩;simp at b;simp at c;unfold wQ;dsimp only;induction x generalizing a with
 |nil=>
  obtain rfl:a=[]:=GX b;exact .nil
 |cons v x d=>
  cases a with
  |nil=>simp at b
  |cons f a=>
   refine .cons (c 0 v f rfl rfl) (d a (by grind) λi u e g j=>c (i+1) u e (by grind) (by grind))
inductive Found(ρ:Ren):aY (Nat×aE)->aY (Nat×aE)->Prop
 |none:Found ρ ay ay
 |some (i:Nat) {v a:aE} (h:VR ρ v a):Found ρ (aa (i,v)) (aa (i,a))
def Found.mono{σ}(g:ρ.le σ){x x'}(h:Found ρ x x'):Found σ x x':=by
 cases h with
 |none=>exact .none
 |some i h=>exact .some i (h.mono g)
def mj.push{x x'}(h:mj ρ x x'){e e'}(he:VR ρ e.key e'.key/\VR ρ e.val e'.val/\e'.born=e.born):mj ρ (x.push e) (x'.push e'):=by
 refine⟨by simp[h.1],λi u d b a=>?_⟩;rw[fG]at b a;rw[h.1]at a;split at b
 ·rename_i c;rw[aX c]at a;cases b;cases a;exact he
 ·rename_i c;rw[aQ c]at a;exact h.2 i u d b a
def mj.modify{x g}(h:mj ρ x g){k k' v j}(n:VR ρ k k')(hv:VR ρ v j)(i):mj ρ (x.modify i λe=>{e with key:=k,val:=v}) (g.modify i λe=>{e with key:=k',val:=j}):=by
 refine⟨by simp[h.1],λl u o b a=>?_⟩;rw[lB]at b a;split at b
 ·rename_i c;rw[aX c]at a;cases d:x[l]? with
  |none=>rw[d]at b;cases b
  |some e=>
   cases f:g[l]? with
   |none=>rw[f]at a;cases a
   |some m=>
    rw[d]at b;rw[f]at a;cases b;cases a;exact⟨n,hv,(h.2 l e m d f).2.2⟩
 ·rename_i c;rw[aQ c]at a;exact h.2 l u o b a
def U9{x x'}(h:mj ρ x x')(i:Nat){k k'}(d:VR ρ k k'):VR ρ (((x[i]?).map (·.key)).getD k) (((x'[i]?).map (·.key)).getD k'):=by
 cases a:x[i]? with
 |none=>
  have:x'[i]? =ay:=by rw[xZ]at a⊢;rw[h.1];exact a
  rw[this];exact d
 |some e=>
  cases b:x'[i]? with
  |none=>
   rw[xZ,h.1,<-xZ,a]at b;cases b
  |some c=>exact(h.2 i e c a b).1
end
end
section
variable [aP]
inductive TR(ρ:Ren):Target->Target->Prop
 |fn {f f':Fn} {x b:aK aE} (h:FR ρ f f') (c:bM ρ x b):TR ρ (.fn f x) (.fn f' b)
 |nil:TR ρ .nil .nil
 |collected {r a:Nat} (h:ρ r a):TR ρ (.collected r) (.collected a)
def DR(ρ:Ren)(d d':Deferred):Prop:=TR ρ d.target d'.target/\bM ρ d.args d'.args
def TR.mono{ρ σ}(g:ρ.le σ){t t'}(h:TR ρ t t'):TR σ t t':=by
 cases h with
 |fn h a=>exact .fn (h.mono g) (a.mono g)
 |nil=>exact .nil
 |collected h=>exact .collected (g _ _ h)
def DR.mono{ρ σ}(g:ρ.le σ){d d'}(h:DR ρ d d'):DR σ d d':=⟨h.1.mono g,h.2.mono g⟩
def CR(ρ:Ren)(c a:GD):Prop:=VR ρ c.chan a.chan/\c.send=ay/\a.send=ay/\VR ρ c.zero a.zero
inductive NR(ρ:Ren):Next->Next->Prop
 |value {v i:aE} (h:VR ρ v i):NR ρ (.value v) (.value i)
 |skip:NR ρ .skip .skip
 |enter (f:bN) {x e:aK aE} (hf:aP.ok f) (h:bM ρ x e):NR ρ (.enter f x) (.enter f e)
 |round {l l':Nat} (f:bN) {x e:aK aE} (a b:jV) (h0:aP.known f/\aP.code a/\aP.code b) (j:ρ l l') (h:bM ρ x e):NR ρ (.round l f x a b) (.round l' f e a b)
 |defer {d d':Deferred} (h:DR ρ d d'):NR ρ (.defer d) (.defer d')
 |recover:NR ρ .recover .recover
 |comm {c g:GD} (h:CR ρ c g):NR ρ (.comm #[c] av .select) (.comm #[g] av .select)
section
variable {P:aZ} {ρ:Ren} {K:Kn}
def dS{s s'}(h:SR P VR ρ K s s'):SR P NR ρ K (do pure (.value (<-s))) (do pure (.value (<-s'))):=SR.then h λ_ _ _ _ _ _ hv=>.pure (.value hv)
def Tz{s s'}(h:SR P dK ρ K s s'):SR P NR ρ K (do s;pure .skip) (do s';pure .skip):=SR.then h λ_ _ _ _ _ _ _=>.pure .skip
def Ts{f f'}(h:VR ρ f f'){x x'}(a:bM ρ x x'):SR P DR ρ K (wA f x) (wA f' x'):=by
 cases h with
 |func g b c d e=>exact .pure ⟨.fn g ⟨d,e⟩,bM.append ⟨b,c⟩ a⟩
 |nilFunc=>exact .pure ⟨.nil,a⟩
 |_=>exact jl _ _
def Tf{f fn}(h0:aP.ok f)(hf:P.funcs[f]? =aa fn)(c:(fn.name== "runtime.NumGoroutine")=av)(d:fn.body.isNone=av){x x'}(e:bM ρ x x'):SR P NR ρ K (callFunc f x) (callFunc f x'):=by unfold callFunc;refine SR.then gE λi L a b g _ h=>?_;rw[h.1,h.2,hf];dsimp only;rw[c,d];exact .pure (.enter f h0 (e.mono g))
def Tl{l l'}(h:ρ l l'):SR P (λn r m=>OR n (.loop r) (.loop m)) ρ K (ur l) (ur l'):=by
 unfold ur;refine .getObj h (λo k a=>?_) ⟨_,rfl,aC⟩;refine SR.then (.pure a) λq M o k p _ a=>?_;cases a with
 |loop h0 b c d e f g i j=>exact .pure (.loop h0 b c d e f g i j)
 |_=>exact .lost aC
def bM.abI{y y'}(h:qL ρ y y'):∀(ps:aB Nat) {x b:aK aE},bM ρ x b->bM ρ ((ps.zip y).foldl (λt (p:Nat×aE)=>t.setIfInBounds p.1 p.2) x) ((ps.zip y').foldl (λt (p:Nat×aE)=>t.setIfInBounds p.1 p.2) b):=by
 unfold qL at h;induction h with
 |nil=>intro ps x b a;cases ps<;>exact a
 |cons hv _ c=>
  intro ps x b a;cases ps with
  |nil=>exact a
  |cons p ps=>exact c ps (a.set hv p)
def aec{l l'}(h:ρ l l'){x x'}(a:bM ρ x x'):SR P NR ρ K (Ah l x) (Ah l' x'):=by
 unfold Ah;refine SR.then (Tl h) λn L r m g _ hr=>?_;cases hr with
 |loop h0 i j b c d e f k=>
  rw[a.1,d,b,e,f];split
  ·exact .lost aC
  ·refine .pure (.round _ _ _ ⟨h0.1,h0.2.1,h0.2.2.1⟩ (g _ _ h) ?_);have:=bM.abI (a.mono g).list r.params.toList c;rw[<-Uu,<-Uu,Cj,Cj]at this;exact this
def acr{l l'}(h:ρ l l'):SR P dK ρ K (Af l) (Af l'):=by
 unfold Af ur;refine .getObj h (λo k j=>?_) ⟨_,rfl,aC⟩;cases j with
 |@loop r m h0 a b c d e f g i=>
  refine .setObj h (aD rfl) (.loop h0 rfl b c d e f g i) ?_;rw[a];cases r.state with
  |ready=>exact .pure rfl
  |_=>exact BU _
 |_=>exact .lost aC
def acP{l l'}(h:ρ l l')(j:aY jV)(i:∀c,j=aa c->aP.code c):SR P VR ρ K (sO l j) (sO l' j):=by
 unfold sO ur;refine .getObj h (λo p k=>?_) ⟨_,rfl,aC⟩;cases k with
 |@loop r q h0 m n a b d e f g=>exact .setObj h (aD rfl) (.loop ⟨h0.1,h0.2.1,h0.2.2.1,i⟩ rfl rfl a b d e f g) (.pure (.bool _))
 |_=>exact .lost aC
def Ls{l l'}(h:ρ l l'):SR P (λ_ y n=>n=y/\∀c,y=aa c->aP.code c) ρ K (yh l) (yh l'):=by
 unfold yh ur;refine .getObj h (λo p k=>?_) ⟨_,rfl,aC⟩;cases k with
 |@loop r m h0 b a d e f g i j=>
  show SR P _ ρ (K.and l) (if(r.state==.busy)=aq then _ else _) (if(m.state==.busy)=aq then _ else _);rw[b];split
  ·exact uf _ _ _
  ·refine .setObj h (aD rfl) (.loop h0 rfl a d e f g i j) (.pure ?_);exact⟨a,h0.2.2.2⟩
 |_=>exact .lost aC
inductive wT(ρ:Ren):aY Nat->aY Nat->Prop
 |none:wT ρ ay ay
 |some {l l':Nat} (h:ρ l l'):wT ρ (aa l) (aa l')
def acQ{fn}(d:aP.known fn){x x'}(h:bM ρ x x')(ps){a b}(e:aP.code a)(f:aP.code b){r r'}(hr:wT ρ r r'):SR P (λc y i=>c y.1 i.1/\dh (DR c) y.2 i.2) ρ K (yj fn x ps a b r) (yj fn x' ps a b r'):=by
 unfold yj;cases hr with
 |none=>
  refine .new .pX λn s=>?_;refine .new (.loop ⟨d,e,f,aC⟩ rfl rfl rfl (h.mono (Ren.JX _ _ _)) rfl rfl rfl (aD ⟨rfl,rfl⟩)) λm p=>?_;refine .pure ⟨aD ⟨rfl,rfl⟩,.cons ⟨.collected (aF (aD ⟨rfl,rfl⟩)),bM.nil⟩ .nil⟩
 |@some l q k=>
  refine SR.then (Tl k) λc L z t g _ o=>?_;cases o with
  |loop _ _ _ _ _ _ _ _ j=>
   refine .new (.loop ⟨d,e,f,aC⟩ rfl rfl rfl (h.mono g) rfl rfl rfl j) λm p=>?_;exact .pure ⟨aD ⟨rfl,rfl⟩,.nil⟩
def adU{l l'}(h:ρ l l'):SR P (λ_ y b=>y=[]/\b=[]) ρ K (CB l) (CB l'):=by
 unfold CB;refine .getObj h (λo c a=>?_) ⟨_,rfl,aC⟩;cases a with
 |pX=>exact .setObj h (aD rfl) .vg (.pure ⟨rfl,rfl⟩)
 |_=>exact .lost aC
end
end
section
variable [aP]
section
variable {P:aZ} {ρ:Ren} {K:Kn}
def LB{a a'}(h:AR ρ a a'):SR P dK ρ K (uF a) (uF a'):=by
 unfold uF;refine SR.view h.1 ?_ λ_ _ _ _=>?_
 ·exact .pure rfl
 ·exact .lost trivial
def sE{a a'}(h:AR ρ a a'):SR P (λe x c=>AR e x.1 c.1/\c.2=x.2) ρ K (pQ a) (pQ a'):=by unfold pQ;exact .number h.1 (.pure ⟨h,rfl⟩) λb f l d=>.pure ⟨d,rfl⟩
def BS{a a'}(h:AR ρ a a'):SR P dK ρ K (byteOf a) (byteOf a'):=by
 unfold byteOf;rw[h.2.2];cases a.spot with
 |some s=>exact .pure rfl
 |none=>
  refine SR.then gE λk L p j g _ d=>?_;rw[d.1,d.2];refine SR.then (LB (h.mono g)) λi M _ _ f _ _=>?_;have c:=(h.mono g).mono f;refine .shape c.1 (λx=>?_) (λ_=>.lost aC) λ_=>⟨_,rfl,aC⟩;obtain⟨e,n⟩:=x;show SR P dK i _ (if P.cellsOf e=0 then _ else _) (if P.cellsOf e=0 then _ else _);rw[c.2.1];split
  ·exact .pure rfl
  ·cases byteOfCell P P.depth e (a.off %P.cellsOf e)with
   |none=>exact .lost aC
   |some b=>exact .pure rfl
def Ty{a a' b b'}(h:AR ρ a a')(k:AR ρ b b'):SR P dK ρ K (MV a b) (MV a' b'):=by
 refine .assume λf=>?_;unfold MV
 by_cases d:a.block=b.block
 ·have l:=f.1.1 _ _ _ h.1 (d▸k.1);have e:(a.block !=b.block)=av:=by simp[d]
  have c:(a'.block !=b'.block)=av:=by simp[l]
  rw[e,c];simp only[Uw];refine SR.then gE λu L p t g _ i=>?_;rw[i.1,i.2]
  by_cases m:a.block<P.globals.size
  ·have s:=f.2.1 _ _ h.1 m;have e:decide (a.block≥P.globals.size)=av:=by grind
   have c:decide (a'.block≥P.globals.size)=av:=by grind
   rw[e,c];refine SR.then (BS (h.mono g)) λv M x q j _ n=>?_;obtain rfl:q=x:=n;refine SR.then (BS ((k.mono g).mono j)) λ_ _ y r _ _ o=>?_;obtain rfl:r=y:=o;exact .pure rfl
  ·have e:decide (a.block≥P.globals.size)=aq:=bY;rw[e];exact .lost aC
 ·have e:(a.block !=b.block)=aq:=by simp[d]
  rw[e];simp;refine .vi λw=>⟨_,_,rfl,aC⟩
def ack(k:pE){a a' b b'}(h:AR ρ a a')(c:AR ρ b b'):SR P VR ρ K (Hl k a b) (Hl k a' b'):=by refine SR.then (Ty h c) λ_ _ x e _ _ d=>?_;obtain rfl:e=x:=d;exact .pure (.int _ _)
def aci(op:kQ){a a' b b'}(h:AR ρ a a')(c:AR ρ b b'):SR P VR ρ K (Hj op a b) (Hj op a' b'):=by refine SR.then (Ty h c) λ_ _ x e _ _ d=>?_;obtain rfl:e=x:=d;cases op<;>first|exact .pure (.bool _)|exact .lost aC
def acj(k:pE){a a'}(h:AR ρ a a')(n):SR P VR ρ K (Db k a n) (Db k a' n):=by
 unfold Db;refine .shape h.1 (λx=>?_) (λ_=>.lost aC) λ_=>⟨_,rfl,aC⟩;obtain⟨e,c⟩:=x;refine SR.then (qm (aa (e,c))) λo l y d g0 _ b=>?_;obtain⟨rfl,rfl⟩:=b;refine SR.then (nB e) λm L i j f _ g=>?_;obtain rfl:j=i:=g.1;dsimp only;split
 ·exact .lost aC
 ·refine SR.then (BS (h.mono (Ren.le_trans g0 f))) λ_ _ y d _ _ b=>?_;obtain rfl:d=y:=b;exact .pure (.int _ _)
def adW{a a'}(h:AR ρ a a')(t){y i}(f:VR ρ y i):SR P (λl v r=>∃b j,v=.pointer (aa b)/\r=.pointer (aa j)/\AR l b j) ρ K (Gz #[] t #[.pointer (aa a),y]) (Gz #[] t #[.pointer (aa a'),i]):=by
 unfold Gz;dsimp only;refine SR.then (xM f) λl L n q g _ o=>?_;obtain rfl:q=n:=o;have d:=h.mono g;split
 ·refine SR.view d.1 ?_ λ_ _ _ _=>?_
  ·exact .pure ⟨_,_,rfl,rfl,d⟩
  ·exact .lost trivial
 ·split
  ·exact .lost aC
  ·refine .shape d.1 (λx=>?_) (λ_=>.lost aC) λ_=>⟨_,rfl,aC⟩;obtain⟨e,c⟩:=x;refine SR.then (qm (aa (e,c))) λw s y i g0 _ f=>?_;obtain⟨rfl,rfl⟩:=f;refine SR.then gE λz M p u m _ k=>?_;rw[k.1,k.2,d.2.1];split
   ·exact .pure ⟨_,_,rfl,rfl,⟨m _ _ (g0 _ _ d.1),rfl,d.2.2⟩⟩
   ·exact .lost aC
def acp{a a'}(h:AR ρ a a')(l):SR P VR ρ K (asNumber a l) (asNumber a' l):=by unfold asNumber;exact .new (.number l h) λn b=>.pure (.ptr ⟨aD ⟨rfl,rfl⟩,rfl,rfl⟩)
def Told(d:lF):Prop:=d=.string\/(∃a,d=.int a)\/∃m,d=.interface m
def Ly{a a'}(h:AR ρ a a'){t:aW}{d:lF}(p:P.underlying t=aa d)(j:Told d){y y'}(r:VR ρ y y'):SR P VR ρ K (movedNumber t (.pointer (aa a)) y) (movedNumber t (.pointer (aa a')) y'):=by unfold movedNumber;refine SR.then (bE p) λB L q z g _ k=>?_;rw[k.1,k.2];rw[aQ (by rcases j with rfl|⟨s,rfl⟩|⟨m,rfl⟩<;>simp),aQ (by rcases j with rfl|⟨s,rfl⟩|⟨m,rfl⟩<;>simp)];refine SR.then (sE (h.mono g)) λC M b i n _ f=>?_;obtain⟨b,l⟩:=b;obtain⟨i,x⟩:=i;obtain⟨f,e⟩:=f;dsimp only at f e;subst e;refine SR.then (adW f t ((r.mono g).mono n)) λD N v A w _ hv=>?_;obtain⟨c,u,rfl,rfl,o⟩:=hv;exact acp o _
def Tk{t:aW}{κ}{i:kv}(X:P.underlying t=aa (.int κ))(V:P.info? t=aa i)(W:∀u,i.desc≠.named "sync.copyChecker" u){x z y A}(D:VR ρ x z)(E:VR ρ y A):SR P dK ρ K (eM t x y) (eM t z A):=by
 unfold eM th;rw[show(10000:Nat)=9999+1 from rfl];unfold yA;refine SR.then (bE X) λσ L d d' g _ U=>?_;obtain⟨rfl,rfl⟩:=U;have v:=E.mono g;cases (D.mono g)with
 |int j n=>
  cases v with
  |int Z m=>
   dsimp only;split
   ·exact .pure rfl
   ·exact .lost aC
  |ptr h=>
   match n with
   |.ofNat 0=>exact .pure rfl
   |.ofNat (m+1)=>exact .lost aC
   |.negSucc m=>exact .lost aC
  |_=>exact .lost aC
 |@ptr a a' S=>
  cases v with
  |int Z n=>
   match n with
   |.ofNat 0=>exact .pure rfl
   |.ofNat (m+1)=>exact .lost aC
   |.negSucc m=>exact .lost aC
  |@ptr b b' T=>
   refine SR.then (sE S) λτ M c B J _ k=>?_;obtain⟨c,l⟩:=c;obtain⟨B,l'⟩:=B;obtain⟨k,e⟩:=k;dsimp only at k e;refine SR.then (sE (T.mono J)) λυ N f C Q _ s=>?_;obtain⟨f,q⟩:=f;obtain⟨C,q'⟩:=C;obtain⟨s,I⟩:=s;dsimp only at s I;have k:=k.mono Q;dsimp only;refine SR.then gE λφ O p p' r _ H=>?_;rw[H.1,H.2];refine .assume λG=>?_
   by_cases o:c.block=f.block/\c.block<P.globals.size
   ·have F:B.block=C.block:=G.1.1 _ _ _ (r _ _ k.1) (o.1▸r _ _ s.1);rw[aX (by simp[o.1];rw[<-o.1];exact o.2),aX (by simp[F];rw[<-F];exact(G.2.1 _ _ (r _ _ k.1) o.2))];refine SR.then (BS (k.mono r)) λτ M x z R _ D=>?_;obtain rfl:z=x:=D;refine SR.then (BS ((s.mono r).mono R)) λ_ _ y A _ _ E=>?_;obtain rfl:A=y:=E;exact .pure rfl
   ·rw[aQ (by simpa using o)];refine .vi λw=>?_
    have e:(oc t).run P w=.ok i w:=by unfold oc;rw[Df];show(match P.info? t with|some i=>(pure i:Sem kv)|none=>_).run P w=_;rw[V];rfl
    rw[Df,e];dsimp only[Vv];split
    ·rename_i u Y;exact absurd Y (W u)
    ·exact⟨_,_,rfl,aC⟩
  |_=>exact .lost aC
 |gQ=>cases v<;>exact .lost aC
 |_=>cases v<;>exact .lost aC
def Lx{t:aW}{d:lF}(e:P.underlying t=aa d)(a:Told d){y y'}(f:VR ρ y y'):SR P VR ρ K (movedNumber t (.pointer ay) y) (movedNumber t (.pointer ay) y'):=by
 unfold movedNumber;refine SR.then (bE e) λj L q k g _ b=>?_;rw[b.1,b.2];rw[aQ (by rcases a with rfl|⟨i,rfl⟩|⟨m,rfl⟩<;>simp),aQ (by rcases a with rfl|⟨i,rfl⟩|⟨m,rfl⟩<;>simp)];dsimp only;unfold Gz;dsimp only;refine SR.then (xM (f.mono g)) λj L n h g _ c=>?_;obtain rfl:h=n:=c;split
 ·exact .lost aC
 ·split
  ·exact .lost aC
  ·exact .lost aC
def Tr{x x' y y'}{t:aW}{d:lF}(e:P.underlying t=aa d)(b:Told d)(h:∀a L,ρ.le a->SR P VR a L (movedNumber t x y) (movedNumber t x' y')):SR P VR ρ K (do if(<-underlying t) matches .unsafePointer then movedPointer t x y else movedNumber t x y) (do if(<-underlying t) matches .unsafePointer then movedPointer t x' y' else movedNumber t x' y'):=by refine SR.then (bE e) λa L q i g _ c=>?_;rw[c.1,c.2];rw[aQ (by rcases b with rfl|⟨f,rfl⟩|⟨m,rfl⟩<;>simp),aQ (by rcases b with rfl|⟨f,rfl⟩|⟨m,rfl⟩<;>simp)];exact h a L g
def Tq(k:pE){a a'}(h:AR ρ a a')(n):SR P VR ρ K (do Db k (<-pQ a).1 n) (do Db k (<-pQ a').1 n):=
 SR.then (sE h) λ_ _ _ _ _ _ b=>acj _ b.1 _
def acI(op:kQ){a a' b b'}(h:AR ρ a a')(k:AR ρ b b'):SR P VR ρ K (do Hj op (<-pQ a).1 (<-pQ b).1) (do Hj op (<-pQ a').1 (<-pQ b').1):=
 SR.then (sE h) λ_ _ _ _ g _ d=>SR.then (sE (k.mono g)) λ_ _ _ _ c _ e=>aci op (d.1.mono c) e.1
def adT{a a' b b'}(h:AR ρ a a')(k:AR ρ b b'):SR P VR ρ K (do Hl .u64 (<-pQ a).1 (<-pQ b).1) (do Hl .u64 (<-pQ a').1 (<-pQ b').1):=
 SR.then (sE h) λ_ _ _ _ g _ d=>SR.then (sE (k.mono g)) λ_ _ _ _ c _ e=>ack _ (d.1.mono c) e.1
def Lp(op:kQ){t:aW}{d:lF}(c:P.underlying t=aa d)(a:Told d){x x' y y'}(eq:SR P dK ρ K (eM t x y) (eM t x' y'))(o:VR ρ x x')(e:VR ρ y y'):SR P VR ρ K (fo op t x y) (fo op t x' y'):=by
 have pos:SR P VR ρ K (do pure (.bool (<-eM t x y))) (do pure (.bool (<-eM t x' y'))):=SR.then eq λ_ _ b f _ _ i=>by(obtain rfl:f=b:=i;exact .pure (.bool _))
 have neg:SR P VR ρ K (do pure (.bool (!(<-eM t x y)))) (do pure (.bool (!(<-eM t x' y')))):=SR.then eq λ_ _ b f _ _ i=>by(obtain rfl:f=b:=i;exact .pure (.bool _))
 cases o with
 |int j n=>
  cases e with
  |int l m=>exact Lq op t j l n m
  |ptr h=>cases op<;>simp only[fo]<;>first|exact pos|exact neg|exact .lost aC|exact Ly h c a (.int _ _)|exact Tq _ h _
  |gQ=>cases op<;>simp only[fo]<;>first|exact pos|exact neg|exact .lost aC|exact Lx c a (.int _ _)
  |_=>cases op<;>simp only[fo]<;>first|exact pos|exact neg|exact .lost aC
 |string s=>
  cases e with
  |string p=>exact Lr op t s p
  |_=>cases op<;>simp only[fo]<;>first|exact pos|exact neg|exact .lost aC
 |ptr h=>
  cases e with
  |int l m=>cases op<;>simp only[fo]<;>first|exact pos|exact neg|exact .lost aC|exact Tr c a λ_ _ g=>Ly (h.mono g) c a (.int _ _)|exact Ly h c a (.int _ _)|exact Tq _ h _
  |ptr k=>cases op<;>simp only[fo]<;>first|exact pos|exact neg|exact .lost aC|exact acI _ h k|exact adT h k
  |_=>cases op<;>simp only[fo]<;>first|exact pos|exact neg|exact .lost aC
 |gQ=>
  cases e with
  |int l m=>cases op<;>simp only[fo]<;>first|exact pos|exact neg|exact .lost aC|exact Tr c a λ_ _ g=>Lx c a (.int _ _)|exact Lx c a (.int _ _)
  |_=>cases op<;>simp only[fo]<;>first|exact pos|exact neg|exact .lost aC
 |_=>cases e<;>cases op<;>simp only[fo]<;>first|exact pos|exact neg|exact .lost aC
def acs(op:kQ){t:aW}{κ}{i:kv}(a:P.underlying t=aa (.int κ))(d:P.info? t=aa i)(e:∀u,i.desc≠.named "sync.copyChecker" u){x x' y y'}(b:VR ρ x x')(c:VR ρ y y'):SR P VR ρ K (fo op t x y) (fo op t x' y'):=
 Lp op a (aD (aF ⟨κ,rfl⟩)) (Tk a d e b c) b c
def acX{t:aW}(c:P.underlying t=aa .string){x x' y y'}(e:VR ρ x x')(a:VR ρ y y'):SR P dK ρ K (eM t x y) (eM t x' y'):=by
 unfold eM th;rw[show(10000:Nat)=9999+1 from rfl];unfold yA;refine SR.then (bE c) λh L d f g _ b=>?_;obtain⟨rfl,rfl⟩:=b;cases e with
 |string s=>cases a<;>first|exact .pure rfl|exact .lost aC
 |_=>cases a<;>exact .lost aC
def acw(op:kQ){t:aW}(a:P.underlying t=aa .string){x x' y y'}(b:VR ρ x x')(c:VR ρ y y'):SR P VR ρ K (fo op t x y) (fo op t x' y'):=
 Lp op a (aF rfl) (acX a b c) b c
def acT{t:aW}{m}(b:P.underlying t=aa (.interface m)){x x'}(c:VR ρ x x'):SR P dK ρ K (eM t x .nilIface) (eM t x' .nilIface):=by unfold eM th;rw[show(10000:Nat)=9999+1 from rfl];unfold yA;refine SR.then (bE b) λf L d e g _ a=>?_;obtain⟨rfl,rfl⟩:=a;cases c<;>first|exact .pure rfl|exact .lost aC
def acu(op:kQ){t:aW}{m}(a:P.underlying t=aa (.interface m)){x x'}(b:VR ρ x x'):SR P VR ρ K (fo op t x .nilIface) (fo op t x' .nilIface):=
 Lp op a (aD (aD ⟨m,rfl⟩)) (acT a b) b .nilIface
end
end
section
variable [aP]
section
variable {P:aZ} {ρ:Ren} {K:Kn}
def TZ{v v'}(h:VR ρ v v')(b):VR ρ (.tuple #[v,.bool b]) (.tuple #[v',.bool b]):=by
 refine .tuple rfl λi u d a c=>?_
 match i,a,c with
 |0,a,c=>cases a;cases c;exact h
 |1,a,c=>cases a;cases c;exact .bool _
 |i+2,a,_=>simp at a
def adV(j:mU P){v v'}(h:VR ρ v v'){e t:aW}{d:lF}(l:P.underlying t=aa d)(c:∀m,d≠.interface m):SR P VR ρ K (CC v e t aq) (CC v' e t aq):=by
 unfold CC;refine SR.then (bE l) λf L a b g _ k=>?_;obtain⟨rfl,rfl⟩:=k;have zero:∀(i:Ren) (M:Kn),SR P VR i M (do pure (.tuple #[<-zeroValue t,.bool av])) (do pure (.tuple #[<-zeroValue t,.bool av])):=λi M=>SR.then (xP j t) λ_ _ _ _ _ _ o=>.pure (TZ o _);cases (h.mono g)with
 |nilIface=>
  cases b
  case interface m=>exact absurd rfl (c m)
  all_goals exact zero f L
 |@iface x p u n=>
  cases b
  case interface m=>exact absurd rfl (c m)
  all_goals
   dsimp only;split
   ·exact .pure (TZ n _)
   ·exact zero f L
 |_=>
  cases b
  case interface m=>exact absurd rfl (c m)
  all_goals exact .lost aC
def ado(n):∀{ρ:Ren} {K:Kn} {a a':fS} (_:AR ρ a a') (acc:ByteArray),SR P dK ρ K (HK a acc n) (HK a' acc n):=by
 induction n with
 |zero=>exact λ_ _=>.pure rfl
 |succ n b=>
  intro ρ K a a' h acc;unfold HK;refine SR.then (Lt h .plain) λd L v c g _ hv=>?_;cases hv with
  |int k m=>
   cases k
   case u8=>exact b ((h.mono g).add 1) _
   all_goals exact .lost aC
  |_=>exact .lost aC
def Tj(t):SR P dK ρ K (AE t) (AE t):=by unfold AE;refine SR.then (BV t) λd L a b _ _ c=>?_;obtain rfl:b=a:=c.1;cases b<;>first|exact .pure rfl|exact .lost aC
def adD{x x'}(h:VR ρ x x'){η jD o}(e:η o=x)(m:jD o=x'){op}(r:op.op=.nilCheck o):SR P NR ρ K (execOp η op) (execOp jD op):=by
 unfold execOp;simp only[r,e,m];cases h with
 |gQ=>exact zG
 |nilIface=>exact zG
 |nilFunc=>exact zG
 |@func f y a v b w p d g i j=>
  cases p with
  |func _ u=>exact .pure (.value (.func (.func _ u) d g i j))
  |yield q=>exact .pure (.value (.func (.yield q) d g i j))
 |bool b=>exact .pure (.value (.bool b))
 |int k n=>exact .pure (.value (.int k n))
 |string s=>exact .pure (.value (.string s))
 |ptr h=>exact .pure (.value (.ptr h))
 |gv l c=>exact .pure (.value (.gv l c))
 |slice l c h=>exact .pure (.value (.slice l c h))
 |mF=>exact .pure (.value .mF)
 |map h=>exact .pure (.value (.map h))
 |nN=>exact .pure (.value .nN)
 |chan h=>exact .pure (.value (.chan h))
 |iface t h=>exact .pure (.value (.iface t h))
 |agg a b=>exact .pure (.value (.agg a b))
 |tuple a b=>exact .pure (.value (.tuple a b))
end
end
section
variable [aP]
section
variable {P:aZ} {ρ:Ren} {K:Kn}
def adF{x x'}(h:VR ρ x x'):SR P VR ρ K (As .not x) (As .not x'):=by cases h<;>simp only[As]<;>first|exact .pure (.bool _)|exact .lost aC
def Lv{x x' y y'}(h:VR ρ x x')(k:VR ρ y y'):SR P VR ρ K (Ab x y) (Ab x' y'):=by
 cases h with
 |int j n=>cases k<;>simp only[Ab]<;>first|exact .pure (.int _ _)|exact .lost aC
 |string s=>
  cases k with
  |string i=>
   simp only[Ab];refine SR.then (Tw .leq s i) λm L a b g _ e=>?_;refine SR.then (SZ e) λo M c d l _ f=>?_;obtain rfl:d=c:=f;exact .pure (.string _)
  |_=>simp only[Ab];exact .lost aC
 |_=>cases k<;>simp only[Ab]<;>exact .lost aC
def adB{x x' y y'}(h:VR ρ x x')(k:VR ρ y y')(ts t):SR P VR ρ K (Gy ts t #[x,y]) (Gy ts t #[x',y']):=by exact SR.then (Lv h k) λ_ _ _ _ _ _ hv=>.pure hv
def acM{s d:aW}{j k}(e:P.underlying s=aa (.int j))(c:P.underlying d=aa (.int k)){x x'}(h:VR ρ x x'):SR P VR ρ K (convert s d x) (convert s d x'):=by unfold convert;refine SR.then (bE e) λ_ _ a b _ _ f=>?_;obtain⟨rfl,rfl⟩:=f;refine SR.then (bE c) λ_ _ a b _ _ g=>?_;obtain⟨rfl,rfl⟩:=g;cases h<;>first|exact .pure (.int _ _)|exact .lost aC
def adJ{c c' a a' b b'}(hc:VR ρ c c')(d:VR ρ a a')(e:VR ρ b b'):SR P NR ρ K (do pure (.value (if <-asBool c then a else b))) (do pure (.value (if <-asBool c' then a' else b'))):=by
 refine SR.then (SZ hc) λi L x h g _ f=>?_;obtain rfl:h=x:=f;split
 ·exact .pure (.value (d.mono g))
 ·exact .pure (.value (e.mono g))
def adY{x x' y y'}(h:VR ρ x x')(k:VR ρ y y')(pt t2 ty):SR P VR ρ K (Ml #[pt,t2] ty #[x,y]) (Ml #[pt,t2] ty #[x',y']):=by
 unfold Ml;cases h with
 |gQ=>
  dsimp only;refine SR.then (xM k) λw L n b g _ i=>?_;obtain rfl:b=n:=i;simp;split
  ·exact uf _ _ _
  ·split
   ·exact .lost aC
   ·split
    ·exact .pure (.string _)
    ·exact BU _
 |@ptr a j o=>
  dsimp only;refine SR.then (xM k) λw L n b g _ i=>?_;obtain rfl:b=n:=i;simp;split
  ·exact uf _ _ _
  ·split
   ·exact .lost aC
   ·split
    ·exact .pure (.string _)
    ·refine SR.then (Tj pt) λA M e f l _ p=>?_;obtain rfl:f=e:=p;have d:=(o.mono g).mono l;unfold Dq;refine .program (.shape d.1 (λz=>?_) (λ_=>.lost aC) λ_=>⟨_,rfl,aC⟩);obtain⟨u,c⟩:=z;have t:(M.and a.block) a.block:=aD rfl;show SR P VR A _ (if liesAt P P.depth u (c / P.cellsOf u) a.off f b.toNat=aq then _ else _) (if liesAt P P.depth u (c / P.cellsOf u) j.off f b.toNat=aq then _ else _);rw[d.2.1];split
     ·refine SR.then (ado _ d _) λB N s v m r q=>?_;obtain rfl:v=s:=q;exact .freeze (d.mono m) (r _ t) (.pure (.string _))
     ·exact .lost aC
 |_=>exact .lost aC
end
end
section
variable [aP]
section
variable {P:aZ} {ρ:Ren} {K:Kn}
def Gc{α c:Type}{Q}(m:String):SR P Q ρ K (qC (α:=α) (.plain m)) (qC (α:=c) (.plain m)):=by refine SR.then gE λd L a b _ _ h=>?_;rw[h.1,h.2];exact xN (.iface _ (LV _))
def adI:SR P dK ρ K MH MH:=by
 unfold MH;refine .env λr=>?_;refine SR.then (qm r) λc L a b _ _ h=>?_;obtain⟨rfl,rfl⟩:=h;cases b
 case strings=>exact SR.then gE λc L a b _ _ h=>by(rw[h.1,h.2];exact .pure rfl)
 all_goals exact .lost aC
def adH{α e:Type}{Q}:SR P Q ρ K (qC (α:=α) .panicNil) (qC (α:=e) .panicNil):=by refine SR.then gE λl L a b _ _ h=>?_;rw[h.1,h.2];refine SR.then (Tj _) λf M t d _ _ c=>?_;obtain rfl:d=t:=c;refine SR.then (LA _ (.agg rfl (λi v j hv=>by simp at hv))) λf M r g _ _ hr=>?_;exact xN (.iface _ (.ptr hr))
def adG{x x'}(h:VR ρ x x'):SR P VR ρ K (Instr.panic x) (Instr.panic x'):=by
 unfold Instr.panic;cases h with
 |iface t h=>exact xN (.iface t h)
 |nilIface=>
  refine SR.then adI λc L n b _ _ a=>?_;obtain rfl:b=n:=a;split
  ·exact xN .nilIface
  ·exact adH
 |_=>exact .lost aC
def acH{x x'}(h:VR ρ x x')(ts t):SR P VR ρ K (Mi ts t #[x]) (Mi ts t #[x']):=by
 unfold Mi;cases h with
 |nN=>exact Gc _
 |@chan r j hr=>
  refine .getObj hr (λo e a=>?_) ⟨_,rfl,aC⟩;have d:(K.and r) r:=aD rfl;refine SR.then (.pure a) λp M o e b c a=>?_;cases a with
  |chan f g s l m=>
   dsimp only;split
   ·exact SR.then (Q:=λ_ _ _=>False) (Gc _) λ_ _ _ _ _ _ h=>h.elim
   ·exact .setObj (b _ _ hr) (c _ d) (.chan _ _ _ _ _) (.pure (.tuple rfl (λi v n hv=>by simp at hv)))
  |_=>exact .lost aC
 |_=>exact .lost aC
def Flat:lF->Prop
 |.interface _=>False
 |.struct _=>False
 |.array _ _=>False
 |_=>True
def FZ(c){s s'}(h:SR P dK ρ K s s'):SR P dK ρ K (if c=aq then pure ()else s) (if c=aq then pure ()else s'):=by
 cases c
 ·exact h
 ·exact .pure rfl
def zF(op:kQ){t:aW}{d:lF}(n:P.underlying t=aa d)(m:Flat d)(x y){a a' b c}(l:VR ρ a a')(j:VR ρ b c):SR P dK ρ K (wL op t x y a b) (wL op t x y a' c):=by
 have g:∀(f:Ren) (L:Kn) (a a' b c:aE),SR P (λ_ x y=>x=av/\y=av) f L (MO th t a b) (MO th t a' c):=by intro f L a a' b c;unfold th;rw[show(10000:Nat)=9999+1 from rfl];unfold MO;refine SR.then (bE n) λ_ _ x s _ _ o=>?_;obtain⟨rfl,rfl⟩:=o;cases s<;>first|exact m.elim|exact .pure ⟨rfl,rfl⟩
 unfold wL;refine FZ _ ?_
 ·cases l with
  |nilIface=>
   cases j with
   |nilIface=>
    dsimp only;refine FZ _ ?_
    ·refine SR.then (g _ _ _ _ _ _) λ_ _ u r _ _ e=>?_;rw[e.1,e.2];exact .pure rfl
   |_=>exact .pure rfl
  |agg w z=>
   cases j with
   |agg A B=>
    dsimp only;refine SR.then gE λf L p C _ _ h=>?_;refine SR.then gE λE v q D _ _ i=>?_;rw[h.1,h.2,i.1,i.2];refine FZ _ ?_
    ·refine SR.then (g _ _ _ _ _ _) λ_ _ u r _ _ e=>?_;rw[e.1,e.2];exact .pure rfl
   |_=>exact .pure rfl
  |_=>exact .pure rfl
def acR(op:kQ)(t x){a a'}(b:VR ρ a a'):SR P dK ρ K (wL op t x (.const .nilIface) a .nilIface) (wL op t x (.const .nilIface) a' .nilIface):=by
 unfold wL;refine FZ _ ?_
 ·cases b with
  |nilIface=>
   dsimp only;simp;exact .pure rfl
  |_=>exact .pure rfl
def acL{s d e:aW}(f:P.underlying s=aa (.slice e))(c:P.underlying d=aa .string)(he:P.underlying e=aa (.int .u8)){v v'}(h:VR ρ v v'):SR P VR ρ K (convert s d v) (convert s d v'):=by
 by_cases a:(∃b,v=.string b)\/∃k n,v=.int k n
 ·unfold convert;refine SR.then (bE f) λ_ _ x m j _ g=>?_;obtain⟨rfl,rfl⟩:=g;refine SR.then (bE c) λ_ _ y o l _ i=>?_;obtain⟨rfl,rfl⟩:=i;rcases a with⟨b,rfl⟩|⟨k,n,rfl⟩
  ·cases h;exact .pure (.string _)
  ·cases h;exact .pure (.string _)
 ·exact acK f c he h (λb e=>a (aF ⟨b,e⟩)) (λk n e=>a (aD ⟨k,n,e⟩))
def abj(κ:pE){k k' v v'}(a:VR ρ k k')(h:VR ρ v v'):MI (.int κ) k' v'=MI (.int κ) k v:=by cases a<;>cases h<;>rfl
def YV(κ:pE){k k'}(c:VR ρ k k'){x x'}(h:wQ ρ x x'):∀i,(Cx (.int κ) k x i=ay/\Cx (.int κ) k' x' i=ay)\/∃y a,Cx (.int κ) k x i=aa y/\Cx (.int κ) k' x' i=aa a/\Found ρ y a:=by
 unfold wQ at h;induction h with
 |nil=>exact λi=>aD ⟨_,_,rfl,rfl,.none⟩
 |@cons e f _ _ hv _ d=>
  intro i;unfold Cx;rw[abj κ c hv.1];cases MI (.int κ) k e.key with
  |none=>exact aF ⟨rfl,rfl⟩
  |some b=>
   cases b with
   |true=>exact aD ⟨_,_,rfl,rfl,.some i hv.2.1⟩
   |false=>exact d (i+1)
section
variable {k:aW} {κ:pE} {ki:kv}
def ada(m:P.underlying k=aa (.int κ))(l:P.info? k=aa ki)(n:∀u,ki.desc≠.named "sync.copyChecker" u){y y' x x'}(h:wQ ρ x x'):∀i (a:Ren) (L:Kn),ρ.le a->VR a y y'->SR P Found a L (MA k y x i) (MA k y' x' i):=by
 unfold wQ at h;induction h with
 |nil=>exact λi a L _ _=>.pure .none
 |@cons e q _ _ hv _ o=>
  intro i a L g d;unfold MA;refine SR.then (Tk m l n d (hv.1.mono g)) λp M b f c _ j=>?_;obtain rfl:f=b:=j;split
  ·exact .pure (.some i (hv.2.1.mono (Ren.le_trans g c)))
  ·exact o (i+1) p M (Ren.le_trans g c) (d.mono c)
def FY(b:P.underlying k=aa (.int κ))(d:P.info? k=aa ki)(f:∀u,ki.desc≠.named "sync.copyChecker" u){y y'}(c:VR ρ y y'){x x'}(h:wQ ρ x x'):SR P Found ρ K (MB k y x) (MB k y' x'):=by
 unfold MB;refine SR.then (bE b) λl L u m g _ i=>?_;obtain⟨rfl,rfl⟩:=i;rcases YV κ c h 0 with⟨e,a⟩|⟨z,n,e,a,j⟩
 ·rw[e,a];exact ada b d f h 0 l L g (c.mono g)
 ·rw[e,a];exact .pure (j.mono g)
def adq(l:P.underlying k=aa (.int κ))(B:P.info? k=aa ki)(C:∀u,ki.desc≠.named "sync.copyChecker" u)(A:mU P){t e:aW}(R:P.underlying t=aa (.map k e)){v v' q q'}(h:VR ρ v v')(D:VR ρ q q')(ok):SR P VR ρ K (Cy t v q ok) (Cy t v' q' ok):=by
 have m:∀{z:Ren} {x w:aE} (b:Bool),VR z x w->VR z (if ok=aq then .tuple #[x,.bool b]else x) (if ok=aq then .tuple #[w,.bool b]else w):=λb E=>by
  split
  ·refine .tuple rfl λi u Y a d=>?_
   match i,a,d with
   |0,a,d=>cases a;cases d;exact E
   |1,a,d=>cases a;cases d;exact .bool _
   |i+2,a,_=>simp at a
  ·exact E
 unfold Cy;refine SR.then (bE R) λz L y Z g _ S=>?_;obtain⟨rfl,rfl⟩:=S;dsimp only;cases h with
 |mF=>
  refine SR.then (qm _) λU M H I n _ Q=>?_;obtain⟨rfl,rfl⟩:=Q;refine SR.then (BT l _ _ _ _) λV F _ _ j _ _=>?_;refine SR.then (FY l B C (((D.mono g).mono n).mono j) .nil) λW G f J O _ p=>?_;cases p with
  |some i hv=>exact .pure (m _ hv)
  |none=>exact SR.then (xP A e) λ_ _ _ _ _ _ s=>.pure (m _ s)
 |map hr=>
  refine .getObj (g _ _ hr) (λo T r=>?_) ⟨_,rfl,aC⟩;refine SR.then (.pure r) λU M o T n _ r=>?_;cases r with
  |map c hm=>
   refine SR.then (.pure hm) λaf X H I N _ hm=>?_;refine SR.then (BT l _ _ _ _) λV F _ _ j _ _=>?_;refine SR.then (FY l B C ((((D.mono g).mono n).mono N).mono j) (hm.mono j).list) λW G f J O _ p=>?_;cases p with
   |some i hv=>exact .pure (m _ hv)
   |none=>exact SR.then (xP A e) λ_ _ _ _ _ _ s=>.pure (m _ s)
  |_=>exact .lost aC
 |_=>exact .lost aC
end
end
end
section
variable [aP]
section
variable {P:aZ} {ρ:Ren} {K:Kn}
def acV{t e:aW}(b:P.underlying t=aa (.pointer e)){x x'}(c:VR ρ x x'):SR P dK ρ K (eM t x (.pointer ay)) (eM t x' (.pointer ay)):=by unfold eM th;rw[show(10000:Nat)=9999+1 from rfl];unfold yA;refine SR.then (bE b) λh L d f g _ a=>?_;obtain⟨rfl,rfl⟩:=a;cases c<;>first|exact .pure rfl|exact .lost aC
def acW{t e:aW}(b:P.underlying t=aa (.slice e))(n c){x x'}(f:VR ρ x x'):SR P dK ρ K (eM t x (.slice ay n c)) (eM t x' (.slice ay n c)):=by unfold eM th;rw[show(10000:Nat)=9999+1 from rfl];unfold yA;refine SR.then (bE b) λi L d h g _ a=>?_;obtain⟨rfl,rfl⟩:=a;cases f<;>first|exact .pure rfl|exact .lost aC
def Tc{op}(g:op=.eql\/op=.neq){t:aW}{y}(f:y=.pointer ay\/∃n c,y=.slice ay n c){x x'}(e:VR ρ x x')(eq:SR P dK ρ K (eM t x y) (eM t x' y)):SR P VR ρ K (fo op t x y) (fo op t x' y):=by
 have pos:SR P VR ρ K (do pure (.bool (<-eM t x y))) (do pure (.bool (<-eM t x' y))):=SR.then eq λ_ _ b a _ _ d=>by(obtain rfl:a=b:=d;exact .pure (.bool _))
 have neg:SR P VR ρ K (do pure (.bool (!(<-eM t x y)))) (do pure (.bool (!(<-eM t x' y)))):=SR.then eq λ_ _ b a _ _ d=>by(obtain rfl:a=b:=d;exact .pure (.bool _))
 rcases g with rfl|rfl
 ·rcases f with rfl|⟨n,c,rfl⟩<;>cases e<;>simp only[fo]<;>exact pos
 ·rcases f with rfl|⟨n,c,rfl⟩<;>cases e<;>simp only[fo]<;>exact neg
def acS{t:aW}(c:P.underlying t=aa .bool){x x' y y'}(e:VR ρ x x')(a:VR ρ y y'):SR P dK ρ K (eM t x y) (eM t x' y'):=by
 unfold eM th;rw[show(10000:Nat)=9999+1 from rfl];unfold yA;refine SR.then (bE c) λh L d f g _ b=>?_;obtain⟨rfl,rfl⟩:=b;cases e with
 |bool s=>cases a<;>first|exact .pure rfl|exact .lost aC
 |_=>cases a<;>exact .lost aC
def Tb{op}(f:op=.eql\/op=.neq){t:aW}{x x' y y'}(d:VR ρ x x')(e:VR ρ y y')(eq:SR P dK ρ K (eM t x y) (eM t x' y')):SR P VR ρ K (fo op t x y) (fo op t x' y'):=by
 have pos:SR P VR ρ K (do pure (.bool (<-eM t x y))) (do pure (.bool (<-eM t x' y'))):=SR.then eq λ_ _ b a _ _ c=>by(obtain rfl:a=b:=c;exact .pure (.bool _))
 have neg:SR P VR ρ K (do pure (.bool (!(<-eM t x y)))) (do pure (.bool (!(<-eM t x' y')))):=SR.then eq λ_ _ b a _ _ c=>by(obtain rfl:a=b:=c;exact .pure (.bool _))
 rcases f with rfl|rfl
 ·cases d<;>cases e<;>first|(simp only[fo];exact pos)|exact Lq _ _ _ _ _ _|exact Lr _ _ _ _
 ·cases d<;>cases e<;>first|(simp only[fo];exact neg)|exact Lq _ _ _ _ _ _|exact Lr _ _ _ _
def AR.SH(c:ρ.one){a a' b b'}(h:AR ρ a a')(k:AR ρ b b'):(a'=b')↔(a=b):=by
 obtain⟨d,j,l⟩:=h;obtain⟨e,m,n⟩:=k;constructor
 ·rintro rfl;rcases a with⟨a1,f,a3⟩;rcases b with⟨b1,g,i⟩;have:=c.2 _ _ _ d e
  simp_all
 ·rintro rfl;rcases a' with⟨a1,f,a3⟩;rcases b' with⟨b1,g,i⟩;have:=c.1 _ _ _ d e
  simp_all
def AR.SE(d:ρ.one){a a' b b'}(h:AR ρ a a')(k:AR ρ b b'):(a'==b')=(a==b):=by
 have:=AR.SH d h k
 by_cases e:a=b
 ·simp[e,this.2 e]
 ·have c:a'≠b':=λx=>e (this.1 x);rw[tE.2 e,tE.2 c]
def QY(a b:fS):Sem Bool:=uF a >>= λ_=>uF b >>= λ_=>Ic a b >>= λz=>if z then choose (.extern "sameAddr.stringBytes" 2) >>= λn=>pure (n==1)else pure av
def adK{a a' b b'}(d:AR ρ a a')(f:AR ρ b b'):SR P dK ρ K (sameAddr a b) (sameAddr a' b'):=by
 refine .assume λk=>?_
 have q:(a'.block==b'.block)=(a.block==b.block):=by
  by_cases h:a.block=b.block
  ·have:a'.block=b'.block:=k.1.1 _ _ _ d.1 (h▸f.1);simp[h,this]
  ·have p:a'.block≠b'.block:=λe=>h (k.1.2 _ _ _ d.1 (e▸f.1));rw[tE.2 h,tE.2 p]
 unfold sameAddr;rw[q];cases h:(a.block==b.block)with
 |true=>
  simp only[cS,(AR.SE k.1 d f)];exact .pure rfl
 |false=>
  simp;refine .icy d λx=>?_;refine .icy f λy=>?_
  have rest:∀(i:Ren) (L:Kn),ρ.le i->SR P dK i L (QY a b) (QY a' b'):=λi L g=>by
   have s:∀{c l:fS},AR i c l->SR P dK i L (uF c) (uF l):=λr=>LB r;refine SR.then (s (d.mono g)) λt o _ _ j _ _=>?_;refine SR.then (LB ((f.mono g).mono j):SR P dK t o (uF b) (uF b')) λv u _ _ m _ _=>?_;refine .kin (((d.mono g).mono j).mono m) (((f.mono g).mono j).mono m) λz=>?_;cases z with
   |true=>exact .choose λn=>.pure rfl
   |false=>exact .pure rfl
  cases x<;>cases y<;>first|exact rest ρ K (Ren.le_refl _)|exact SR.lost (x:=.unsupported .addressObserved) trivial
def acU{t e:aW}(k:P.underlying t=aa (.pointer e)){x x' y y'}(l:VR ρ x x')(b:VR ρ y y'):SR P dK ρ K (eM t x y) (eM t x' y'):=by
 unfold eM th;rw[show(10000:Nat)=9999+1 from rfl];unfold yA;refine SR.then (bE k) λq L d p g _ h=>?_;obtain⟨rfl,rfl⟩:=h;cases l with
 |gQ=>cases b<;>first|exact .pure rfl|exact .lost aC
 |ptr c=>
  cases b with
  |gQ=>exact .pure rfl
  |ptr f=>
   refine SR.then (jj e) λr o n m a _ j=>?_;obtain rfl:m=n:=j;split
   ·exact adK ((c.mono g).mono a) ((f.mono g).mono a)
   ·refine .assume λi=>?_;rw[AR.SE i.1 ((c.mono g).mono a) ((f.mono g).mono a)];split
    ·exact .pure rfl
    ·exact .choose λn=>.pure rfl
  |_=>exact .lost aC
 |_=>cases b<;>exact .lost aC
def adC{x x'}(h:VR ρ x x'):SR P VR ρ K (As .neg x) (As .neg x'):=by
 cases h with
 |int k n=>exact Tm .sub k 0 n
 |_=>simp only[As];exact .lost aC
def adu(t):SR P VR ρ K (UL t ay) (UL t ay):=by exact .new (.map 0 ⟨rfl,λi e a h=>by simp at h⟩) λn b=>.pure (.map (aD ⟨rfl,rfl⟩))
def adr{t e:aW}{d}(j:P.underlying t=aa (.chan d e)){x x'}(k:VR ρ x x'):SR P VR ρ K (MF t x) (MF t x'):=by
 unfold MF;refine SR.then (xM k) λw L n a g _ f=>?_;obtain rfl:a=n:=f;refine SR.then (bE j) λz p y v q _ l=>?_;obtain⟨rfl,rfl⟩:=l;dsimp only;refine SR.then (nB e) λo b i s r _ c=>?_;obtain⟨rfl,_⟩:=c;split
 ·exact SR.then (Q:=λ_ _ _=>False) (Gc _) λ_ _ _ _ _ _ h=>h.elim
 ·show SR P VR o b (Sem.new (.chan a.toNat #[] av 0 0 av) λn=>pure (.chan (aa n))) (Sem.new (.chan a.toNat #[] av 0 0 av) λn=>pure (.chan (aa n)));exact .new (.chan _ _ _ _ _) λm u=>.pure (.chan (aD ⟨rfl,rfl⟩))
def acE{v v'}(h:VR ρ v v'){t e:aW}(d:P.underlying t=aa (.slice e))(ty):SR P VR ρ K (Mh #[t] ty #[v]) (Mh #[t] ty #[v']):=by unfold Mh;simp;refine SR.then (bE d) λg L a b f _ c=>?_;obtain⟨rfl,rfl⟩:=c;cases h<;>first|exact .pure (.int _ _)|exact .lost aC
def adA{x x' y y' z z'}(h:VR ρ x x')(k:VR ρ y y')(m:VR ρ z z')(ts t):SR P VR ρ K (Gy ts t #[x,y,z]) (Gy ts t #[x',y',z']):=by exact SR.then (Lv h k) λ_ _ _ _ g _ hv=>SR.then (Lv hv (m.mono g)) λ_ _ _ _ _ _ a=>.pure a
def Y6{z z'}(h:bM ρ z z')(n):(∀(j:Nat) v a,(mH z n).toList[j]? =aa v->(mH z' n).toList[j]? =aa a->VR ρ v a)/\(mH z' n).toList.length=(mH z n).toList.length:=by
 unfold mH;constructor
 ·intro j v a b c;simp only[lC,fT]at b c;obtain⟨i,g,rfl⟩:=eI.1 b;obtain⟨m,k,rfl⟩:=eI.1 c;have o:j<n*z.size:=by grind
  have e:i=j:=by grind
  have f:m=j:=by grind
  rw[e]at g⊢;rw[f]at k⊢;have l:0<z.size:=by grind
  have hm:j %z.size<z.size:=yy _ l;have d:j %z'.size<z'.size:=by rw[h.1];exact hm
  rw[getElem!_pos z _ hm,getElem!_pos z' _ d];exact h.2 (j %z.size) _ _ (cL hm) (by rw[<-h.1];exact cL d)
 ·simp[h.1]
def acG(m:mU P){v j}(h:VR ρ v j){t e:aW}(q:P.underlying t=aa (.slice e))(ty):SR P VR ρ K (uo #[t] ty #[v]) (uo #[t] ty #[j]):=by
 have fin:∀(k:Ren) (L:Kn),SR P VR k L (pure (.tuple #[])) (pure (.tuple #[])):=λk L=>.pure (.tuple rfl λi v j hv=>by simp at hv);unfold uo;simp;refine SR.then (bE q) λk L a b d _ p=>?_;obtain⟨rfl,rfl⟩:=p;cases h with
 |mF=>exact fin _ _
 |@map r B hr=>
  refine .getObj (d _ _ hr) (λo w g=>?_) ⟨_,rfl,aC⟩;refine SR.then (.pure g) λy M o w f u g=>?_;cases g with
  |map c hm=>exact .setObj (f _ _ (d _ _ hr)) (u _ (aD rfl)) (.map _ ⟨rfl,λi e A h=>by simp at h⟩) (fin _ _)
  |_=>exact .lost aC
 |gv l c=>exact fin _ _
 |slice l c n=>
  cases l with
  |zero=>exact fin _ _
  |succ l=>
   refine SR.then (xP m e) λy M z C f _ s=>?_;obtain⟨p1,x⟩:=Y6 s.cells (l+1);refine SR.then (Gf ((n.mono d).mono f) _ _ 0 _ x p1) λ_ _ _ _ _ _ _=>fin _ _
 |_=>exact .lost aC
def Tv(isS len cap){c a hi hi' mx mx'}(h:VO ρ c a)(i:VR ρ hi hi')(j:VR ρ mx mx'):SR P dK ρ K (Ag isS len cap c (aa hi) (aa mx)) (Ag isS len cap a (aa hi') (aa mx')):=by
 unfold Ag;dsimp only;refine SR.then (zH j _ _) λp L m k d _ f=>?_;obtain rfl:k=m:=f;refine SR.then (zH (i.mono d) _ _) λq M y n g _ e=>?_;obtain rfl:n=y:=e;have b:=(h.mono d).mono g;cases c with
 |none=>cases a with
  |none=>exact .pure rfl
  |some v=>exact b.elim
 |some v=>cases a with
  |none=>exact b.elim
  |some o=>exact SR.then (zH b _ _) λ_ _ x l _ _ e=>by(obtain rfl:l=x:=e;exact .pure rfl)
def adM{v v'}(h:VR ρ v v'){lo lo' hi hi' mx mx'}(m:VO ρ lo lo')(o:VR ρ hi hi')(p:VR ρ mx mx'){t e:aW}(r:P.underlying t=aa (.slice e)):SR P VR ρ K (uv t v lo (aa hi) (aa mx)) (uv t v' lo' (aa hi') (aa mx')):=by
 unfold uv;refine SR.then (bE r) λH E a b g0 _ i=>?_;obtain⟨rfl,rfl⟩:=i;dsimp only;unfold uu;refine SR.then (bE r) λG L a b s _ i=>?_;obtain⟨rfl,rfl⟩:=i;have d:=Ren.le_trans g0 s;cases h.mono d with
 |gv l c=>
  refine SR.then (Tv aq _ _ (m.mono d) (o.mono d) (p.mono d)) λC M x f _ _ ex=>?_;obtain rfl:f=x:=ex;refine SR.then (jj e) λD N n j _ _ g=>?_;obtain rfl:j=n:=g;obtain⟨A,z,B⟩:=f;simp;exact .pure (.gv _ _)
 |@slice c F l k y=>
  refine SR.then (Tv aq _ _ (m.mono d) (o.mono d) (p.mono d)) λC M x f u _ ex=>?_;obtain rfl:f=x:=ex;refine SR.then (jj e) λD N n j w _ g=>?_;obtain rfl:j=n:=g;have q:=(y.mono u).mono w;obtain⟨A,z,B⟩:=f;split
  ·exact .pure (.slice _ _ q)
  ·exact .pure (.slice _ _ (q.add _))
 |_=>exact .lost aC
def adN{v v'}(h:VR ρ v v'){lo lo' hi hi'}(l:VO ρ lo lo')(o:VO ρ hi hi'){t e:aW}{n}(r:P.underlying t=aa (.array n e)):SR P VR ρ K (uv t v lo hi ay) (uv t v' lo' hi' ay):=by
 unfold uv;refine SR.then (bE r) λB L a b c _ q=>?_;obtain⟨rfl,rfl⟩:=q;dsimp only;refine SR.then (Gg (h.mono c)) λC u a w d _ p=>?_;refine SR.then (Ge av n n ((l.mono c).mono d) ((o.mono c).mono d)) λD M x g j _ ex=>?_;obtain rfl:g=x:=ex;refine SR.then (jj e) λE N m s k _ i=>?_;obtain rfl:s=m:=i;have f:=(p.mono j).mono k;obtain⟨z,y,A⟩:=g;dsimp only;split
 ·exact .pure (.slice _ _ f)
 ·exact .pure (.slice _ _ (f.add _))
def mj.erase{x x'}(h:mj ρ x x')(i):mj ρ (x.eraseIdxIfInBounds i) (x'.eraseIdxIfInBounds i):=by
 have c:∀y:aK tw,(y.eraseIdxIfInBounds i).toList=y.toList.eraseIdx i:=λy=>by simp
 refine⟨?_,λj e d f a=>?_⟩
 ·rw[<-wm,<-wm,c,c,UZ,UZ];simp[h.1]
 ·rw[<-lC,c,List.getElem?_eraseIdx]at f a;split at f
  ·rename_i b;rw[aX b]at a;exact h.2 j e d (by grind) (by grind)
  ·rename_i b;rw[aQ b]at a;exact h.2 (j+1) e d (by grind) (by grind)
def acO{t k e t2 z:aW}{κ}{w:kv}(b:P.underlying k=aa (.int κ))(B:P.info? k=aa w)(C:∀u,w.desc≠.named "sync.copyChecker" u)(E:P.underlying t=aa (.map k e)){v j q q'}(h:VR ρ v j)(D:VR ρ q q'):SR P VR ρ K (Mj #[t,t2] z #[v,q]) (Mj #[t,t2] z #[j,q']):=by
 have fin:∀(l:Ren) (L:Kn),SR P VR l L (pure (.tuple #[])) (pure (.tuple #[])):=λl L=>.pure (.tuple rfl λi v j hv=>by simp at hv);unfold Mj;simp;refine SR.then (bE E) λl L y T g _ F=>?_;obtain⟨rfl,rfl⟩:=F;dsimp only;cases h with
 |mF=>exact SR.then (BT b _ _ _ _) λ_ _ _ _ _ _ _=>fin _ _
 |@map r S hr=>
  refine .getObj (g _ _ hr) (λo N d=>?_) ⟨_,rfl,aC⟩;have J:(L.and r) r:=aD rfl;refine SR.then (.pure d) λU M o N m G d=>?_;cases d with
  |map c hm=>
   refine SR.then (BT b _ _ _ _) λV O _ _ a H _=>?_;refine SR.then (FY b B C (((D.mono g).mono m).mono a) (hm.mono a).list) λW Q f R n I A=>?_;have p:=Ren.le_trans (Ren.le_trans (Ren.le_trans g m) a) n;have s:=(hm.mono a).mono n;have x:=I _ (H _ (G _ J));cases A with
   |some i hv=>exact .setObj (p _ _ hr) x (.map _ (s.erase i)) (fin _ _)
   |none=>exact .setObj (p _ _ hr) x (.map _ s) (fin _ _)
  |_=>exact .lost aC
 |_=>exact .lost aC
end
end
section
variable [aP]
section
variable {P:aZ} {ρ:Ren} {K:Kn}
def AR.beq(d:ρ.one){a a' b b'}(h:AR ρ a a')(k:AR ρ b b'):(aa a'==aa b')=(aa a==aa b):=by
 have:=AR.SH d h k
 by_cases e:a=b
 ·have c:=this.2 e;subst e;subst c;simp
 ·have c:¬a'=b':=λx=>e (this.1 x);rw[tE.2 (λx=>e (dM x)),tE.2 (λx=>c (dM x))]
def Ren.beq(c:ρ.one){a a' b b'}(h:ρ a a')(k:ρ b b'):(aa a'==aa b')=(aa a==aa b):=by
 by_cases e:a=b
 ·subst e;have:=c.1 _ _ _ h k;subst this;simp
 ·have d:¬a'=b':=λx=>e (by subst x;exact c.2 _ _ _ h k);rw[tE.2 (λx=>e (dM x)),tE.2 (λx=>d (dM x))]
def Wj{f:aE->aE->Bool}(hf:∀{a a' b e:aE},VR ρ a a'->VR ρ b e->f a' e=f a b){x h:aB aE}(g:qL ρ x h):∀{y d:aB aE},qL ρ y d->((h.zip d).all λ(p:aE×aE)=>f p.1 p.2)=((x.zip y).all λ(p:aE×aE)=>f p.1 p.2):=by
 unfold qL at g;induction g with
 |nil=>intro y d _;simp
 |cons hv _ j=>
  intro y d c;unfold qL at c;cases c with
  |nil=>simp
  |cons i c=>simp;rw[hf hv i,j c]
def abi(c:ρ.one):∀(n:Nat) {a a' b e:aE},VR ρ a a'->VR ρ b e->GQ n a' e=GQ n a b:=by
 intro n;induction n with
 |zero=>
  intro a a' b e f d;cases f<;>cases d<;>first|rfl|exact AR.beq c ‹_› ‹_›|exact Ren.beq c ‹_› ‹_›
 |succ n g=>
  intro a a' b e f d;cases f with
  |ptr h=>cases d<;>first|rfl|exact AR.beq c h ‹_›
  |chan h=>cases d<;>first|rfl|exact Ren.beq c h ‹_›
  |iface t h=>
   cases d with
   |iface u k=>simp only[GQ];rw[g h k]
   |_=>rfl
  |@agg x m c j=>
   cases d with
   |@agg y o i l=>
    simp only[GQ];rw[c,i];have:=Wj g (bM.list ⟨c,j⟩) (bM.list ⟨i,l⟩);rw[this]
   |_=>rfl
  |_=>cases d<;>rfl
def adk{v v' q q'}(h:VR ρ v v')(a:VR ρ q q'):SR P VR ρ K (ME v q) (ME v' q'):=by
 refine .assume λg=>?_;unfold ME;rw[abi g.1 10000 h a];split
 ·exact .pure a
 ·refine SR.then (vR _) λ_ _ c b g _ d=>?_;obtain rfl:b=c:=d;split
  ·exact .pure (a.mono g)
  ·exact .pure (h.mono g)
def ady{t k e:aW}{κ}{A:kv}(s:P.underlying k=aa (.int κ))(D:P.info? k=aa A)(E:∀u,A.desc≠.named "sync.copyChecker" u)(F:P.underlying t=aa (.map k e)){v v' q q' x x'}(h:VR ρ v v')(d:VR ρ q q')(w:VR ρ x x'):SR P dK ρ K (MG t v q x) (MG t v' q' x'):=by
 unfold MG;refine SR.then (bE F) λZ L y X g _ G=>?_;obtain⟨rfl,rfl⟩:=G;dsimp only;cases h with
 |mF=>exact Gc _
 |@map r W hr=>
  refine .getObj (g _ _ hr) (λo R m=>?_) ⟨_,rfl,aC⟩;have Q:(L.and r) r:=aD rfl;refine SR.then (.pure m) λτ M o R n I m=>?_;cases m with
  |map c hm=>
   refine SR.then (BT s _ _ _ _) λah S _ _ b J _=>?_;refine SR.then (FY s D E (((d.mono g).mono n).mono b) (hm.mono b).list) λaj T f V p N C=>?_;have a:=Ren.le_trans (Ren.le_trans (Ren.le_trans g n) b) p;have l:=(hm.mono b).mono p;have B:=N _ (J _ (I _ Q));cases C with
   |some i hv=>
    refine SR.then (adk (U9 l i (d.mono a)) (d.mono a)) λak U z Y j O H=>?_;exact .setObj (j _ _ (a _ _ hr)) (O _ B) (.map _ ((l.mono j).modify H ((w.mono a).mono j) i)) (.pure rfl)
   |none=>exact .setObj (a _ _ hr) B (.map _ (l.push ⟨d.mono a,w.mono a,rfl⟩)) (.pure rfl)
  |_=>exact .lost aC
 |_=>exact .lost aC
def yO(P:aZ):Prop:=∀f,aP.ok f->∃a,P.funcs[f]? =aa a/\(a.name== "runtime.NumGoroutine")=av/\a.body.isNone=av
inductive oz(P:aZ):Builtin->aK aW->Prop
 |append {t u e:aW} {d:lF} (b:P.underlying t=aa (.slice e)) (m:P.underlying u=aa d) (i:d=.string\/∃f,d=.slice f):oz P .append #[t,u]
 |close (a:aK aW):oz P .close a
 |copy {t u e:aW} (b:P.underlying t=aa (.slice e)):oz P .copy #[t,u]
 |Rf {t e:aW} (b:P.underlying t=aa (.slice e)):oz P .len #[t]
 |Rg {t:aW} (b:P.underlying t=aa .string):oz P .len #[t]
 |min (a:aK aW) (h:a.size=2\/a.size=3):oz P .min a
 |cap {t e:aW} (b:P.underlying t=aa (.slice e)):oz P .cap #[t]
 |clear {t e:aW} (b:P.underlying t=aa (.slice e)):oz P .clear #[t]
 |delete {t t2 k e:aW} {g:pE} {c:kv} (j:P.underlying k=aa (.int g)) (hi:P.info? k=aa c) (l:∀u,c.desc≠.named "sync.copyChecker" u) (b:P.underlying t=aa (.map k e)):oz P .delete #[t,t2]
 |recover (a:aK aW):oz P .recover a
 |unsafeString (t u:aW):oz P .unsafeString #[t,u]
def xT{x b}(h:bM ρ x b)(d:x.size=1):∃a c,x=#[a]/\b=#[c]/\VR ρ a c:=by
 obtain⟨a,rfl⟩:∃a,x=#[a]:=by
  rcases x with⟨x⟩
  match x,d with
  |[a],_=>exact⟨a,rfl⟩
 obtain⟨c,rfl⟩:∃a,b=#[a]:=by
  have:=h.1;rcases b with⟨b⟩
  match b,this with
  |[a],_=>exact⟨a,rfl⟩
 exact⟨a,c,rfl,rfl,h.2 0 a c rfl rfl⟩
def Cg{x c}(h:bM ρ x c)(f:x.size=2):∃a d b e,x=#[a,b]/\c=#[d,e]/\VR ρ a d/\VR ρ b e:=by
 obtain⟨a,b,rfl⟩:∃a b,x=#[a,b]:=by
  rcases x with⟨x⟩
  match x,f with
  |[a,b],_=>exact⟨a,b,rfl⟩
 obtain⟨d,e,rfl⟩:∃a b,c=#[a,b]:=by
  have:=h.1;rcases c with⟨c⟩
  match c,this with
  |[a,b],_=>exact⟨a,b,rfl⟩
 exact⟨a,d,b,e,rfl,rfl,h.2 0 a d rfl rfl,h.2 1 b e rfl rfl⟩
def afx{x d}(h:bM ρ x d)(i:x.size=3):∃a e b f c g,x=#[a,b,c]/\d=#[e,f,g]/\VR ρ a e/\VR ρ b f/\VR ρ c g:=by
 obtain⟨a,b,c,rfl⟩:∃a b c,x=#[a,b,c]:=by
  rcases x with⟨x⟩
  match x,i with
  |[a,b,c],_=>exact⟨a,b,c,rfl⟩
 obtain⟨e,f,g,rfl⟩:∃a b c,d=#[a,b,c]:=by
  have:=h.1;rcases d with⟨d⟩
  match d,this with
  |[a,b,c],_=>exact⟨a,b,c,rfl⟩
 exact⟨a,e,b,f,c,g,rfl,rfl,h.2 0 a e rfl rfl,h.2 1 b f rfl rfl,h.2 2 c g rfl rfl⟩
def Oc(b:Builtin)(a:aK aW):Nat:=match b with
 |.append|.copy|.unsafeString|.delete=>2
 |.min=>a.size
 |.close|.len|.cap|.clear=>1
 |_=>0
def acB(o:mU P){b m}(h:oz P b m)(t cs){x x'}(j:bM ρ x x')(i:x.size=Oc b m):SR P NR ρ K (builtin b m t cs x) (builtin b m t cs x'):=by
 cases h with
 |append f s n=>
  obtain⟨a,k,c,l,rfl,rfl,e,g⟩:=Cg j i;exact dS (acn o e g f s n)
 |close=>
  obtain⟨a,k,rfl,rfl,e⟩:=xT j i;exact dS (acH e _ _)
 |copy f=>
  obtain⟨a,k,c,l,rfl,rfl,e,g⟩:=Cg j i;exact dS (acN e g f)
 |Rf f=>
  obtain⟨a,k,rfl,rfl,e⟩:=xT j i;exact dS (adl e f _)
 |Rg f=>
  obtain⟨a,k,rfl,rfl,e⟩:=xT j i;exact dS (adm e f _)
 |min m h=>
  rcases h with h|h
  ·obtain⟨a,k,c,l,rfl,rfl,e,g⟩:=Cg j (i.trans h);exact dS (adB e g _ _)
  ·obtain⟨a,k,c,l,d,v,rfl,rfl,e,g,n⟩:=afx j (i.trans h);exact dS (adA e g n _ _)
 |cap f=>
  obtain⟨a,k,rfl,rfl,e⟩:=xT j i;exact dS (acE e f _)
 |clear f=>
  obtain⟨a,k,rfl,rfl,e⟩:=xT j i;exact dS (acG o e f _)
 |delete q p r f=>
  obtain⟨a,k,c,l,rfl,rfl,e,g⟩:=Cg j i;exact dS (acO q p r f e g)
 |recover=>exact .pure .recover
 |unsafeString t u=>
  obtain⟨a,k,c,l,rfl,rfl,e,g⟩:=Cg j i;exact dS (adY e g _ _ _)
def Tn(hF:yO P){t t'}(h:TR ρ t t'){x x'}(b:bM ρ x x'):SR P NR ρ K (invoke t x) (invoke t' x'):=by
 cases h with
 |fn i g=>
  cases i with
  |func f a=>
   obtain⟨fn,c,d,e⟩:=hF f a;exact Tf a c d e (b.append g)
  |yield j=>exact aec j b
 |nil=>exact zG
 |collected h=>exact .lost aC
def Tg(hF:yO P){f f'}(h:VR ρ f f'){x b}(c:bM ρ x b):SR P NR ρ K (do let d <-wA f x;invoke d.target d.args) (do let d <-wA f' b;invoke d.target d.args):=
 SR.then (Ts h c) λ_ _ _ _ _ _ a=>Tn hF a.1 a.2
def Dz(P:aZ)(name:String):Prop:=∀t i m,P.info? t=aa i->i.methods.find? (·.name==name)=aa m->∃f e,m.path=#[]/\m.func=aa (f,aq)/\aP.ok f/\P.underlying t=aa (.pointer e)
def adz{name}(hm:Dz P name)(n t){v v'}(h:VR ρ v v'):SR P (λp x d=>d.1=x.1/\aP.ok x.1/\VR p x.2 d.2) ρ K (method n t v name) (method n t v' name):=by
 cases n with
 |zero=>exact .lost aC
 |succ n=>
  unfold method;refine SR.then (nB t) λp L i o g _ c=>?_;obtain⟨rfl,c⟩:=c;cases w:o.methods.find? (·.name==name)with
  |none=>exact .lost aC
  |some m=>
   obtain⟨f,e,j,k,s,u⟩:=hm t o m c w;obtain⟨m1,m2,D,E⟩:=m;simp only at j k;subst j k;dsimp only;refine SR.then (Q:=λ_ a b=>a=(t,.val v)/\b=(t,.val v')) (by unfold follow;exact .pure ⟨rfl,rfl⟩) λG B a b q _ l=>?_;rw[l.1,l.2];dsimp only;refine SR.then ?_ λ_ _ x d _ _ z=>.pure ⟨rfl,s,z⟩;unfold receiverAt;refine SR.then (bE u) λH C y F r _ A=>?_;obtain⟨rfl,rfl⟩:=A;exact .pure (((h.mono g).mono q).mono r)
def acD(hF:yO P){name}(hm:Dz P name){r r'}(h:VR ρ r r'){x x'}(m:bM ρ x x'):SR P NR ρ K (Hz r name x) (Hz r' name x'):=by
 unfold Hz;cases h with
 |iface t hv=>
  refine SR.then gE λE L p B g _ j=>?_;rw[j.1,j.2];refine SR.then (adz hm _ t (hv.mono g)) λF z y u l _ n=>?_;obtain⟨f,w⟩:=y;obtain⟨k,D⟩:=u;obtain⟨e,c,d⟩:=n;simp only at e c d;subst e;obtain⟨A,o,q,s⟩:=hF k c
  exact Tf c o q s (bM.append ⟨rfl,λi v C a b=>by
   match i,a,b with
   |0,a,b=>cases a;cases b;exact d
   |i+1,a,_=>simp at a⟩ ((m.mono g).mono l))
 |nilIface=>exact zG
 |_=>exact .lost aC
def adi(hF:yO P){name}(hm:Dz P name){r r'}(h:VR ρ r r'){x x'}(d:bM ρ x x'):SR P NR ρ K (invoke (.fn (.method name) #[]) (#[r]++x)) (invoke (.fn (.method name) #[]) (#[r']++x')):=by
 have e:∀(a:aE) (y:aK aE),invoke (.fn (.method name) #[]) (#[a]++y)=Hz a name y:=λa y=>by
  unfold invoke;have b:(#[a]++y)[0]? =aa a:=by rw[Gw aC];rfl
  have c:(#[a]++y).extract 1 (#[a]++y).size=y:=by
   apply xX
   ·simp
   ·intro i b c;simp
  simp only[b,c]
 rw[e,e];exact acD hF hm h d
end
end
def aar{a:aW->aY kv}{d:lF}{i:kv}(h:kq a d=aa i):i.methods=#[]:=by
 unfold kq at h;cases d with
 |pointer e=>
  obtain⟨j,_,h⟩:=eN.1 h;split at h
  ·cases h
  ·split at h
   ·cases h
   ·obtain⟨s,_,h⟩:=eN.1 h;cases h;rfl
  ·obtain⟨s,_,h⟩:=eN.1 h;cases h;rfl
 |slice e=>
  obtain⟨j,_,h⟩:=eN.1 h;obtain⟨s,_,h⟩:=eN.1 h;cases h;rfl
 |map k e=>
  obtain⟨j,_,h⟩:=eN.1 h;obtain⟨s,_,h⟩:=eN.1 h;obtain⟨j,_,h⟩:=eN.1 h;obtain⟨s,_,h⟩:=eN.1 h;cases h;rfl
 |chan b e=>
  obtain⟨j,_,h⟩:=eN.1 h;obtain⟨s,_,h⟩:=eN.1 h;cases h;rfl
 |func f g v=>
  obtain⟨s,_,h⟩:=eN.1 h;cases h;rfl
 |array n e=>
  obtain⟨j,_,h⟩:=eN.1 h;obtain⟨s,_,h⟩:=eN.1 h;cases h;rfl
 |struct c=>
  unfold Vi at h;obtain⟨s,_,h⟩:=eN.1 h;dsimp only at h;split at h<;>(cases h;rfl)
 |_=>cases h
def Rp(P:aZ)(l:aB bN)(name:String):Bool:=(eF P.types.size).all λt=>match P.types[t]? with
 |some i=>(match i.methods.find? (·.name==name)with
  |some m=>m.path.isEmpty&&(match m.func with|some (f,p)=>p&&l.contains f|none=>av)&&(match P.underlying t with|some (.pointer _)=>aq|_=>av)
  |none=>aq)
 |none=>aq
def L5[aP]{P l name}(r:∀f,l.contains f=aq->aP.ok f)(h:Rp P l name=aq):Dz P name:=by
 intro t i m a g;unfold HS at a
 by_cases c:t<P.types.size
 ·rw[aX c]at a;have:=nF.1 h t (mL.2 c);simp only[a,g,cM]at this;obtain⟨⟨k,b⟩,j⟩:=this;split at b
  ·rename_i f p q;simp only[cM]at b;split at j
   ·rename_i e o;refine⟨f,e,by simpa using k,?_,r f b.2,o⟩;rw[q,b.1]
   ·cases j
  ·cases b
 ·rw[aQ c]at a;unfold MM at a;rw[show(100:Nat)=99+1 from rfl]at a;unfold sw at a;rw[aQ c]at a;obtain⟨d,_,n⟩:=eN.1 a;rw[aar n]at g;simp at g
section
variable [aP]
def FK(P:aZ)(t:aW):Bool:=match P.underlying t with
 |some (.int _)=>aq
 |some (.struct a)=>a.all λf=>(match P.underlying f.type with|some (.pointer _)=>aq|some (.slice _)=>aq|_=>av)
 |_=>av
def SL{t:aW}(h:FK aP.prog t=aq):uR t:=by
 intro off v hv;have c:aP.prog.depth=(2*(aP.prog.types.size+MM)+1)+1:=rfl;rw[c]at hv;generalize 2*(aP.prog.types.size+MM)+1=d at hv;unfold FK at h;split at h
 ·rename_i k j;unfold plainCell at hv;rw[j]at hv;dsimp only at hv;split at hv
  ·cases hv;exact⟨k,rfl⟩
  ·cases hv
 ·rename_i l i;unfold plainCell at hv;rw[i]at hv;dsimp only at hv;exfalso;obtain⟨f,g,hv⟩:=Array.exists_of_findSome?_eq_some hv;split at hv
  ·have b:=qw.1 h f g;cases d with
   |zero=>cases hv
   |succ d=>
    unfold plainCell at hv;split at b
    ·rename_i e a;rw[a]at hv;cases hv
    ·rename_i e a;rw[a]at hv;cases hv
    ·cases b
  ·cases hv
 ·cases h
section
variable {P:aZ} {ρ:Ren} {K:Kn}
def Tt{a a'}(h:AR ρ a a'):SR P AR ρ K (sN a) (sN a'):=by
 unfold sN;refine SR.view h.1 (.pure h) λb f t c=>?_;dsimp only;rw[h.2.1,h.2.2,c.2.2];split
 ·exact .pure c
 ·split
  ·exact .lost trivial
  ·refine SR.then gE λk L p i g _ d=>?_;rw[d.1,d.2];split
   ·rename_i j _;refine .shape (g _ _ c.1) (λx=>?_) (λ_=>.lost trivial) λ_=>⟨_,rfl,trivial⟩;obtain⟨e,n⟩:=x;simp only[cV];split
    ·exact .lost trivial
    ·rw[c.2.1];split
     ·exact .pure ⟨g _ _ c.1,rfl,rfl⟩
     ·exact .lost trivial
   ·exact .lost trivial
def acF{r r'}(h:ρ r r')(a:K r):SR P dK ρ K (kS r) (kS r'):=by unfold kS;refine .shape h (λx=>.pure rfl) (λ_=>?_) λb=>absurd a b;refine .Bl h a λo d c=>?_;cases c<;>exact .pure rfl
def aeb{a a'}(h:AR ρ a a')(d:K a.block)(t n):SR P dK ρ K (Dq a t n) (Dq a' t n):=by unfold Dq;refine SR.then gE λj L p i g c b=>?_;rw[b.1,b.2];refine .shape (g _ _ h.1) (λx=>?_) (λ_=>.pure rfl) λf=>absurd (c _ d) f;obtain⟨e,n⟩:=x;rw[h.2.1];exact .pure rfl
def toRest(t:aW)(s:fS):Sem aE:=do
 let a:=match <-kS s.block with
  |some cells=>s.off≥cells&&s.spot.isNone
  |none=>av
 if(<-sizeOf t)=0||a then pure (aR (<-AI (.view s t)))else
 pure (.pointer (aa s))
def yY(u:aW)(a:fS):Sem aE:=do
    if(<-sizeOf u)=0||(<-Dq a u 1)then pure (.pointer (aa a))
    else
     match <-shape a.block with
     |some (e,_)=>
      if(<-jf).holdsStoodIn (<-jf).depth e then jv (.unsafePointer "memory that holds a struct of a package that the model stands in for, seen as another type")
     |none=>jv (.unsafePointer "memory that has no shape (a package-level variable that still waits for its initialiser), seen as another type")
     pure (aR (<-AI (.view a u)))
def Tx{t:aW}(k:uR t){a a'}(h:AR ρ a a')(i:K a.block):SR P VR ρ K (toRest t a) (toRest t a'):=by
 unfold toRest;refine SR.then (acF h.1 i) λr L x e g _ l=>?_;obtain rfl:e=x:=l;refine SR.then (jj t) λp M n o f _ j=>?_;obtain rfl:o=n:=j;have d:=(h.mono g).mono f;rw[h.2.1,h.2.2]
 have fin:∀b:Bool,SR P VR p M (if b=aq then do pure (aR (<-AI (.view a t)))else pure (.pointer (aa a))) (if b=aq then do pure (aR (<-AI (.view a' t)))else pure (.pointer (aa a'))):=λb=>by
  cases b
  ·exact .pure (VR.ptr d)
  ·exact SR.new (.view t k d) λm q=>.pure (VR.ptr ⟨aD ⟨rfl,rfl⟩,rfl,rfl⟩)
 cases e with
 |none=>exact fin _
 |some c=>exact fin _
def Ta{t:aW}(y:uR t){a a'}(h:AR ρ a a')(j:K a.block):SR P VR ρ K (yY t a) (yY t a'):=by
 unfold yY;refine SR.then (jj t) λF L n z g i f=>?_;obtain rfl:z=n:=f;refine SR.then (aeb (h.mono g) (i _ j) t 1) λI M b o r v w=>?_;obtain rfl:o=b:=w;have d:=(h.mono g).mono r;split
 ·exact .pure (VR.ptr d)
 ·refine .shape d.1 (λx=>?_) (λ_=>.lost trivial) λf=>absurd (v _ (i _ j)) f;obtain⟨e,c⟩:=x;simp only[cV];refine SR.then gE λG A p D s _ k=>?_;rw[k.1,k.2];refine SR.then gE λH B q E u _ l=>?_;rw[l.1,l.2];split
  ·exact .lost trivial
  ·exact SR.new (.view t y ((d.mono s).mono u)) λm C=>.pure (VR.ptr ⟨aD ⟨rfl,rfl⟩,rfl,rfl⟩)
def adX{x x'}(h:VR ρ x x'){d e:aW}(k:P.underlying d=aa (.pointer e))(he:uR e)(ats):SR P VR ρ K (Ct ats d #[x]) (Ct ats d #[x']):=by
 unfold Ct;cases h with
 |gv l c=>exact .pure .gQ
 |@slice a f l c i=>
  show SR P VR ρ K (if c≠0 then pure (AA (aa a))else(viewAt a.block).bind λy=>if y.isSome=aq then pure (AA (aa a))else do pure (aR (<-AI (.view a (<-AE d)))))
   (if c≠0 then pure (AA (aa f))else(viewAt f.block).bind λy=>if y.isSome=aq then pure (AA (aa f))else do pure (aR (<-AI (.view f (<-AE d)))))
  split
  ·exact .pure (VR.ptr i)
  ·refine SR.view i.1 ?_ λ_ _ _ _=>?_
   ·simp;refine SR.then (Q:=λ_ y j=>y=e/\j=e) ?_ λo L y j g _ b=>?_
    ·unfold AE;refine SR.then (bE k) λ_ _ y j _ _ b=>?_;rw[b.1,b.2];exact .pure ⟨rfl,rfl⟩
    ·rw[b.1,b.2];exact SR.new (.view e he (i.mono g)) λm n=>.pure (VR.ptr ⟨aD ⟨rfl,rfl⟩,rfl,rfl⟩)
   ·simp;exact .pure (VR.ptr i)
 |_=>exact .lost aC
def adE{x x'}(h:bM ρ x x')(d:x.size=1):SR P VR ρ K (GJ x) (GJ x'):=by obtain⟨a,b,rfl,rfl,c⟩:=xT h d;exact .pure c
def Ye(n t):∀(acc:aK aE),bM ρ acc acc->bM ρ (UD n t acc) (UD n t acc):=by
 induction n generalizing t with
 |zero=>exact λ_ h=>h
 |succ n c=>
  intro acc h;refine c _ _ ⟨rfl,λi v d a b=>?_⟩;rw[a]at b;cases b;rw[fG]at a;split at a
  ·cases a;exact .int _ _
  ·exact h.2 i v v a a
def adv(ps rs){x x'}(h:bM ρ x x')(s:x.size=1):SR P VR ρ K (yf ps rs x) (yf ps rs x'):=by
 have one:∀{a b:aE},VR ρ a b->SR P VR ρ K (yf ps rs #[a]) (yf ps rs #[b]):=λ{a b} f=>by
  cases f with
  |int k n=>
   cases k
   case i64=>
    unfold yf;dsimp only;split
    ·rename_i t _;refine SR.then (BV t) λC L d w g _ r=>?_;obtain⟨rfl,_⟩:=r;split
     ·rename_i e _;split
      ·exact uf _ _ _
      ·refine SR.then (vR _) λ_ _ c l y _ q=>?_;obtain rfl:l=c:=q;refine SR.then (FU _) λ_ _ _ _ z _ _=>?_;refine SR.then (vR _) λ_ _ b j A _ p=>?_;obtain rfl:j=b:=p;refine SR.then (vT e (Ye _ _ #[] ⟨rfl,λi v B m _=>by simp at m⟩)) λ_ _ a u _ _ o=>?_;exact .pure (VR.slice _ _ o)
     ·exact .lost aC
    ·exact .lost aC
   all_goals exact .lost aC
  |_=>exact .lost aC
 obtain⟨a,b,rfl,rfl,f⟩:=xT h s;exact one f
def Po{fn}(d:fn.name= "internal/abi.NoEscape")(e:fn.origin= ""):GM fn=ay/\GL fn=aa GJ:=by have a1:(GK.lookup "internal/abi.NoEscape").isNone=aq:=aS;have a:(GK.lookup "").isNone=aq:=aS;have a3:(UF.lookup "internal/abi.NoEscape").isNone=aq:=aS;have b:(UG.lookup "internal/abi.NoEscape").isNone=aq:=aS;have c:Extern.allRows.lookup "internal/abi.NoEscape" =aa GJ:=aS;rw[yB]at a1 a a3 b;unfold GM GL;rw[d,e];simp only[a1,a,a3,b,c];exact⟨rfl,rfl⟩
def YX{fn}(c:fn.name= "internal/bytealg.MakeNoZero")(d:fn.origin= ""):GM fn=ay/\GL fn=aa (yf fn.params fn.resultTypes):=by have a1:(GK.lookup "internal/bytealg.MakeNoZero").isNone=aq:=aS;have a:(GK.lookup "").isNone=aq:=aS;have a3:(UF.lookup "internal/bytealg.MakeNoZero").isNone=aq:=aS;have b:UG.lookup "internal/bytealg.MakeNoZero" =aa yf:=aS;rw[yB]at a1 a a3;unfold GM GL;rw[c,d];simp only[a1,a,a3,b];exact⟨rfl,rfl⟩
def ze(P:aZ)(f:bN):Bool:=match P.funcs[f]? with
 |some a=>a.body.isNone&&a.origin== "" &&(a.name== "internal/abi.NoEscape" ||a.name== "internal/bytealg.MakeNoZero")
 |none=>av
def acC{f}(h:ze P f=aq){x x'}(o:bM ρ x x')(l:x.size=1):SR P NR ρ K (callFunc f x) (callFunc f x'):=by
 unfold ze at h;split at h
 ·rename_i i n;simp at h;obtain⟨⟨j,k⟩,h3⟩:=h;unfold callFunc;refine SR.then gE λp L a b g _ h=>?_;rw[h.1,h.2,n];dsimp only;have m:=o.mono g;rcases h3 with h3|h3
  ·have c:(i.name== "runtime.NumGoroutine")=av:=by rw[h3];decide
   obtain⟨d,e⟩:=Po h3 k;rw[c,j];simp only[eR,dQ,cS,d,e];exact SR.ext (dS (adE m l))
  ·have c:(i.name== "runtime.NumGoroutine")=av:=by rw[h3];decide
   obtain⟨d,e⟩:=YX h3 k;rw[c,j];simp only[eR,dQ,cS,d,e];exact SR.ext (dS (adv _ _ m l))
 ·cases h
end
end
section
def KC:aE->Bool
 |.bool _|.int _ _|.string _|.pointer ay|.slice ay _ _|.map ay|.chan ay|.nilFunc|.nilIface=>aq
 |_=>av
def cQ(l:aB bN):me->Bool
 |.tmp _=>aq
 |.const v=>KC v
 |.global _=>av
 |.func f=>l.contains f
def ng(P:aZ)(t:aW):Bool:=match P.underlying t with|some (.slice _)=>aq|_=>av
def tW(P:aZ)(t:aW):Bool:=match P.underlying t with|some .string=>aq|_=>av
def zn(P:aZ)(t:aW):Bool:=match P.underlying t with
 |some (.int _)=>(match P.info? t with|some i=>(match i.desc with|.named n _=>n != "sync.copyChecker" |_=>aq)|none=>av)
 |_=>av
def JR(P:aZ)(t:aW):Bool:=match P.underlying t with
 |some (.slice e)=>(match P.underlying e with|some (.int .u8)=>aq|_=>av)
 |_=>av
def Bv(P:aZ)(t:aW):Bool:=match P.underlying t with|some (.map k _)=>zn P k|_=>av
def JV(P:aZ)(t:aW):Bool:=match P.underlying t with|some (.struct _)=>aq|_=>av
def JU(P:aZ)(t:aW):Bool:=match P.underlying t with|some (.interface _)=>aq|_=>av
def Jc(P:aZ)(t:aW)(n:Nat):Bool:=match P.underlying t with
 |some (.struct a)=>(match a[n]? with|some f=>(match P.info? f.type with|some i=>i.size !=0|none=>av)|none=>av)
 |_=>av
def OA(P:aZ)(s d:aW):Bool:=(match P.underlying s,P.underlying d with|some (.int _),aa (.int _)=>aq|_,_=>av)||(JR P s&&tW P d)
def IP(P:aZ)(t:aW):Bool:=match P.underlying t with|some (.interface _)=>av|some _=>aq|none=>av
def IG(P:aZ)(b:Builtin)(a:aK aW):Bool:=match b,a.toList with
 |.append,[t,u]=>ng P t&&(ng P u||tW P u)
 |.close,_=>aq
 |.copy,[t,_]=>ng P t
 |.len,[t]=>ng P t||tW P t
 |.min,a=>a.length==2||a.length==3
 |.cap,[t]=>ng P t
 |.clear,[t]=>ng P t
 |.delete,[t,_]=>Bv P t
 |.recover,_=>aq
 |.unsafeString,[_,_]=>aq
 |_,_=>av
def Om(P:aZ)(l:aB bN)(c:Call):Bool:=c.args.all (cQ l)&&(match c.callee with
 |.value f=>cQ l f
 |.builtin b=>IG P b c.argTypes&&c.args.size==Oc b c.argTypes
 |.invoke r name=>cQ l r&&Rp P l name)
def Oo(l:aB bN)(c:Call):Bool:=c.args.all (cQ l)&&(match c.callee with
 |.value f=>cQ l f
 |_=>av)
def Ff(l:aB bN):aY me->Bool
 |none=>aq
 |some x=>cQ l x
def EN(P:aZ)(t:aW):Bool:=match P.underlying t with|some (.pointer _)=>aq|_=>av
def JP(P:aZ)(t:aW):Bool:=match P.underlying t with|some (.array _ _)=>aq|_=>av
def JQ(P:aZ)(t:aW):Bool:=match P.underlying t with|some .bool=>aq|_=>av
def JS(P:aZ)(t:aW):Bool:=match P.underlying t with|some (.chan _ _)=>aq|_=>av
def eqB:kQ->Bool
 |.eql|.neq=>aq
 |_=>av
def RE(P:aZ)(op:kQ)(t:aW):me->Bool
 |.const .nilIface=>JU P t
 |.const (.pointer ay)=>EN P t&&eqB op
 |.const (.slice ay _ _)=>ng P t&&eqB op
 |_=>av
def okB(P:aZ)(l:aB bN)(o:Op):Bool:=match o with
 |.move x|.assign x=>cQ l x
 |.pick c a b=>cQ l c&&cQ l a&&cQ l b
 |.alloc _=>aq
 |.box _ x=>cQ l x
 |.build t h=>JV P t&&h.all λp=>cQ l p.2
 |.buildSlice t _ h=>ng P t&&h.all λp=>cQ l p.2
 |.load _ a=>cQ l a
 |.store _ a x=>cQ l a&&cQ l x
 |.nilCheck x=>cQ l x
 |.binOp op t x y _=>cQ l x&&cQ l y&&(zn P t||tW P t||(JQ P t&&eqB op)||(EN P t&&eqB op)||RE P op t y)
 |.unOp .not _ x=>cQ l x
 |.unOp .neg _ x=>cQ l x
 |.makeMap _ ay=>aq
 |.makeChan t x=>JS P t&&cQ l x
 |.slice t x g (aa e) (aa j)=>ng P t&&cQ l x&&Ff l g&&cQ l e&&cQ l j
 |.convert s d x=>OA P s d&&cQ l x
 |.makeInterface _ x=>cQ l x
 |.makeFunc (.func f) q r=>l.contains f&&q.all (cQ l)&&r.all (cQ l)
 |.makeSlice t a b=>ng P t&&cQ l a&&cQ l b
 |.slice t x g e ay=>(ng P t||tW P t||JP P t)&&cQ l x&&Ff l g&&Ff l e
 |.fieldAddr t x n=>Jc P t n&&cQ l x
 |.indexAddr t x i=>ng P t&&cQ l x&&cQ l i
 |.index t x i=>tW P t&&cQ l x&&cQ l i
 |.lookup t x i _=>Bv P t&&cQ l x&&cQ l i
 |.mapUpdate t m k x=>Bv P t&&cQ l m&&cQ l k&&cQ l x
 |.typeAssert x _ t aq=>IP P t&&cQ l x
 |.extract x _=>cQ l x
 |.call c=>Om P l c
 |.defer c=>Oo l c
 |.panic x=>cQ l x
 |.select cs bl=>!bl&&(match cs.toList with|[s]=>s.send.isNone&&cQ l s.chan|_=>av)
 |_=>av
abbrev Zn(l:aB bN)(c:jV->Prop)(k:bN->Prop)(d:Nat)(t:Nat->aY Obj)(P:aZ):aP:=⟨λf=>l.contains f=aq,c,k,d,t,P⟩
def pz{P}{t:aW}(h:ng P t=aq):∃e,P.underlying t=aa (.slice e):=by
 unfold ng at h;split at h
 ·rename_i e a;exact⟨e,a⟩
 ·cases h
def xR{P}{t:aW}(h:tW P t=aq):P.underlying t=aa .string:=by
 unfold tW at h;split at h
 ·assumption
 ·cases h
def EL{P}{t:aW}(h:zn P t=aq):∃a i,P.underlying t=aa (.int a)/\P.info? t=aa i/\∀u,i.desc≠.named "sync.copyChecker" u:=by
 unfold zn at h;split at h
 ·rename_i a d;split at h
  ·rename_i i b;refine⟨a,i,d,b,λu c=>?_⟩;rw[c]at h;simp at h
  ·cases h
 ·cases h
def Xl{P}{t:aW}(h:JR P t=aq):∃e,P.underlying t=aa (.slice e)/\P.underlying e=aa (.int .u8):=by
 unfold JR at h;split at h
 ·rename_i e a;split at h
  ·exact⟨e,a,by assumption⟩
  ·cases h
 ·cases h
def Kf{P}{t:aW}(h:Bv P t=aq):∃k e,P.underlying t=aa (.map k e)/\zn P k=aq:=by
 unfold Bv at h;split at h
 ·rename_i k e a;exact⟨k,e,a,h⟩
 ·cases h
def aep{P}{t:aW}(h:JV P t=aq):∃a,P.underlying t=aa (.struct a):=by
 unfold JV at h;split at h
 ·rename_i e b;exact⟨e,b⟩
 ·cases h
def E7{P}{t:aW}(h:JU P t=aq):∃m,P.underlying t=aa (.interface m):=by
 unfold JU at h;split at h
 ·rename_i e a;exact⟨e,a⟩
 ·cases h
def XJ{P}{t:aW}(h:IP P t=aq):∃d,P.underlying t=aa d/\∀m,d≠.interface m:=by
 unfold IP at h;split at h
 ·cases h
 ·rename_i d a b;exact⟨d,b,λm hm=>a m (by rw[<-hm])⟩
 ·cases h
def Sd{P}{t:aW}(h:EN P t=aq):∃e,P.underlying t=aa (.pointer e):=by
 unfold EN at h;split at h
 ·rename_i e a;exact⟨e,a⟩
 ·cases h
def Wz{P}{t:aW}(h:JP P t=aq):∃n e,P.underlying t=aa (.array n e):=by
 unfold JP at h;split at h
 ·rename_i n e a;exact⟨n,e,a⟩
 ·cases h
def Xb{P}{t:aW}(h:JQ P t=aq):P.underlying t=aa .bool:=by
 unfold JQ at h;split at h
 ·assumption
 ·cases h
def Xv{P}{t:aW}(h:JS P t=aq):∃d e,P.underlying t=aa (.chan d e):=by
 unfold JS at h;split at h
 ·rename_i d e a;exact⟨d,e,a⟩
 ·cases h
def Eo{op}(h:eqB op=aq):op=.eql\/op=.neq:=by cases op<;>first|exact aF rfl|exact aD rfl|cases h
def YR{P}{t:aW}{n}(h:Jc P t n=aq):∃a f i,P.underlying t=aa (.struct a)/\a[n]? =aa f/\P.info? f.type=aa i/\i.size≠0:=by
 unfold Jc at h;split at h
 ·rename_i a c;split at h
  ·rename_i f b;split at h
   ·rename_i i d;exact⟨a,f,i,c,b,d,by simpa using h⟩
   ·cases h
  ·cases h
 ·cases h
def Xa{P b c}(h:IG P b c=aq):oz P b c:=by
 rcases c with⟨c⟩;unfold IG at h;dsimp only at h;split at h
 ·simp at h;obtain⟨e,a⟩:=pz h.1;rcases h.2 with h2|h2
  ·obtain⟨d,l⟩:=pz h2;exact .append a l (aD ⟨d,rfl⟩)
  ·exact .append a (xR h2) (aF rfl)
 ·exact .close _
 ·obtain⟨e,a⟩:=pz h;exact .copy a
 ·rw[qx]at h;rcases h with h|h
  ·obtain⟨e,a⟩:=pz h;exact .Rf a
  ·exact .Rg (xR h)
 ·refine .min _ ?_;simpa[qx,wJ]using h
 ·obtain⟨e,a⟩:=pz h;exact .cap a
 ·obtain⟨e,a⟩:=pz h;exact .clear a
 ·obtain⟨k,e,f,h2⟩:=Kf h;obtain⟨n,m,g,i,j⟩:=EL h2;exact .delete g i j f
 ·exact .recover _
 ·exact .unsafeString _ _
 ·cases h
variable [aP]
def Reads(l:aB bN)(ρ:Ren)(a b:me->aE):Prop:=∀x,cQ l x=aq->VR ρ (a x) (b x)
def Sa{v}(h:KC v=aq)(ρ):VR ρ v v:=by
 unfold KC at h;split at h
 ·exact .bool _
 ·exact .int _ _
 ·exact .string _
 ·exact .gQ
 ·exact .gv _ _
 ·exact .mF
 ·exact .nN
 ·exact .nilFunc
 ·exact .nilIface
 ·cases h
def Reads.args{l ρ}{d e:me->aE}(h:Reads l ρ d e){xs:aK me}(c:xs.all (cQ l)=aq):bM ρ (xs.map d) (xs.map e):=by
 refine⟨aC,λi v f hv b=>?_⟩;rw[fT]at hv b;cases a:xs[i]? with
 |none=>rw[a]at hv;cases hv
 |some x=>
  rw[a]at hv b;cases hv;cases b;refine h x ?_;rw[qw]at c;exact c x (lV a)
def Reads.parts{l ρ}{c d:me->aE}(h:Reads l ρ c d){ps:aK (Nat×me)}(a:(ps.all λp=>cQ l p.2)=aq):rR ρ (ps.map λ(i,x)=>(i,c x)).toList (ps.map λ(i,x)=>(i,d x)).toList:=by
 rw[qw]at a;rcases ps with⟨ps⟩;simp;have b:∀p∈ps,cQ l p.2=aq:=λp g=>a p (by grind);clear a;unfold rR;induction ps with
 |nil=>exact .nil
 |cons p ps f=>exact .cons ⟨rfl,h _ (b p aC)⟩ (f λq e=>b q (by simp[e]))
def Reads.opt{l ρ η jD}(h:Reads l ρ η jD){x}(a:Ff l x=aq):VO ρ (x.map η) (x.map jD):=by
 cases x with
 |none=>trivial
 |some x=>exact h x a
end
section
variable [aP]
section
variable {P:aZ} {ρ:Ren} {K:Kn} {l:aB bN} {η jD:me->aE}
def acv{t:aW}(op:kQ){x y}(f:zn P t=aq\/tW P t=aq)(b:VR ρ (η x) (jD x))(c:VR ρ (η y) (jD y)):SR P VR ρ K (do wL op t x y (η x) (η y);fo op t (η x) (η y)) (do wL op t x y (jD x) (jD y);fo op t (jD x) (jD y)):=by
 rcases f with h|h
 ·obtain⟨j,i,a,d,e⟩:=EL h;exact SR.then (zF op a trivial x y b c) λ_ _ _ _ g _ _=>acs op a d e (b.mono g) (c.mono g)
 ·have a:=xR h;exact SR.then (zF op a trivial x y b c) λ_ _ _ _ g _ _=>acw op a (b.mono g) (c.mono g)
def acJ{s:SelectCase}(i:mU P)(h:s.send=ay)(hc:VR ρ (η s.chan) (jD s.chan)):SR P NR ρ K (do
   let cases <-#[s].mapM λs=>do pure {chan:=η s.chan,send:=s.send.map η,zero:=<-zeroValue s.elem:GD}
   pure (.comm cases av .select)) (do
   let cases <-#[s].mapM λs=>do pure {chan:=jD s.chan,send:=s.send.map jD,zero:=<-zeroValue s.elem:GD}
   pure (.comm cases av .select)):=by
 refine SR.then (Q:=λf y e=>∃c d,y=#[c]/\e=#[d]/\CR f c d) ?_ λ_ _ y e _ _ k=>?_
 ·rw[zX,zX];refine Gb _ _ (Q:=λf y e=>∃c d,y=[c]/\e=[d]/\CR f c d) ?_ λ_ a b _ j=>?_
  ·simp only[ux,Ap];refine SR.then (Q:=CR) ?_ λ_ _ c d _ _ hc=>?_
   ·refine SR.then (xP i s.elem) λ_ _ z n g _ m=>?_;exact .pure ⟨hc.mono g,by simp[h],by simp[h],m⟩
   ·exact .pure ⟨c,d,rfl,rfl,hc⟩
  ·obtain⟨c,d,rfl,rfl,hc⟩:=j;exact⟨c,d,rfl,rfl,hc⟩
 ·obtain⟨c,d,rfl,rfl,hc⟩:=k;exact .pure (.comm hc)
def FW(z:mU P)(hF:yO P)(N:∀f,l.contains f=aq->aP.ok f)(hR:Reads l ρ η jD)(V:∀F:me->aE,F=η->∀v,F (.const v)=v)(W:∀F:me->aE,F=jD->∀v,F (.const v)=v){o:kU}(j:okB P l o.op=aq):SR P NR ρ K (execOp η o) (execOp jD o):=by
 obtain⟨R,op,ty,pos,O,U⟩:=o;have B:∀{α:Prop},okB P l op=av->α:=λh=>by grind
 replace j:=j
 unfold execOp;cases op with
 |move x=>exact .pure (.value (hR x j))
 |assign x=>exact .pure (.value (hR x j))
 |pick c a b=>
  simp only[okB,cM]at j;exact adJ (hR _ j.1.1) (hR _ j.1.2) (hR _ j.2)
 |alloc t=>exact dS (acm z t)
 |box t x=>exact dS (acy (hR x j) t)
 |build t ps=>
  simp only[okB,cM]at j;obtain⟨T,Y⟩:=aep j.1;exact dS (acz z Y (hR.parts j.2))
 |buildSlice t n ps=>
  simp only[okB,cM]at j;obtain⟨e,q⟩:=pz j.1;exact dS (acA z q n (hR.parts j.2))
 |load t a=>exact dS (adn (hR a j) t)
 |store t a x=>
  simp only[okB,cM]at j;exact Tz (adR (hR _ j.1) (hR _ j.2) t)
 |nilCheck x=>exact adD (hR x j) (op:=⟨R,.nilCheck x,ty,pos,O,U⟩) rfl rfl rfl
 |binOp op t x y yt=>
  simp only[okB,cM,qx]at j;obtain⟨⟨w,A⟩,h⟩:=j;rcases h with((h|h)|h)|h
  ·exact dS (acv op h (hR _ w) (hR _ A))
  ·have E:=Xb h.1;exact dS (SR.then (zF op E trivial x y (hR _ w) (hR _ A)) λ_ _ _ _ g _ _=>Tb (Eo h.2) ((hR _ w).mono g) ((hR _ A).mono g) (acS E ((hR _ w).mono g) ((hR _ A).mono g)))
  ·obtain⟨e,E⟩:=Sd h.1;exact dS (SR.then (zF op E trivial x y (hR _ w) (hR _ A)) λ_ _ _ _ g _ _=>Tb (Eo h.2) ((hR _ w).mono g) ((hR _ A).mono g) (acU E ((hR _ w).mono g) ((hR _ A).mono g)))
  ·have p:=hR x w;have I:=V η rfl;have J:=W jD rfl;have aI:=hR y A;dsimp only;unfold RE at h;split at h
   ·obtain⟨m,hm⟩:=E7 h;rw[I,J];exact dS (SR.then (acR op t x p) λ_ _ _ _ g _ _=>acu op hm (p.mono g))
   ·simp only[cM]at h;obtain⟨e,q⟩:=Sd h.1;rw[I,J];exact dS (SR.then (zF op q trivial x _ p .gQ) λ_ _ _ _ g _ _=>Tc (Eo h.2) (aF rfl) (p.mono g) (acV q (p.mono g)))
   ·simp only[cM]at h;obtain⟨e,q⟩:=pz h.1;rw[I,J];exact dS (SR.then (zF op q trivial x _ p (.gv _ _)) λ_ _ _ _ g _ _=>Tc (Eo h.2) (aD ⟨_,_,rfl⟩) (p.mono g) (acW q _ _ (p.mono g)))
   ·cases h
 |unOp op t x=>
  cases op
  case not=>exact dS (adF (hR x j))
  case neg=>exact dS (adC (hR x j))
  all_goals exact B rfl
 |convert s d x=>
  simp only[okB,OA,cM,qx]at j;rcases j.1 with h|h
  ·split at h
   ·rename_i p u;exact dS (acM p u (hR x j.2))
   ·cases h
  ·obtain⟨e,q,Z⟩:=Xl h.1;exact dS (acL q (xR h.2) Z (hR x j.2))
 |makeInterface t x=>exact dS (adt (hR x j) t)
 |makeFunc S xs ys=>
  cases S
  case func f=>
   simp only[okB,cM]at j;exact dS (ads (.func f (N f j.1.1)) (hR.args j.1.2) (hR.args j.2))
  all_goals exact B rfl
 |makeSlice t a b=>
  simp only[okB,cM]at j;obtain⟨e,q⟩:=pz j.1.1;exact dS (adw z q (hR _ j.1.2) (hR _ j.2))
 |slice t x lo M mx=>
  cases mx with
  |some m=>
   cases M with
   |none=>exact B rfl
   |some M=>
    simp only[okB,cM]at j;obtain⟨e,q⟩:=pz j.1.1.1.1;exact dS (adM (hR _ j.1.1.1.2) (hR.opt j.1.1.2) (hR _ j.1.2) (hR _ j.2) q)
  |none=>
   simp only[okB,cM,qx]at j;have w:=hR _ j.1.1.2;have p:=hR.opt j.1.2;have u:=hR.opt j.2;rcases j.1.1.1 with(h|h)|h
   ·obtain⟨e,q⟩:=pz h;exact dS (Tu q aC λσ L g=>adO (w.mono g) (p.mono g) (u.mono g) q)
   ·exact dS (Tu (xR h) aC λσ L g=>adP (w.mono g) (p.mono g) (u.mono g) (xR h))
   ·obtain⟨n,e,q⟩:=Wz h;exact dS (adN w p u q)
 |makeMap t r=>
  cases r with
  |none=>exact dS (adu t)
  |some r=>exact B rfl
 |makeChan t x=>
  simp only[okB,cM]at j;obtain⟨d,e,q⟩:=Xv j.1;exact dS (adr q (hR _ j.2))
 |fieldAddr t x n=>
  simp only[okB,cM]at j;obtain⟨T,f,i,p,u,C,D⟩:=YR j.1;exact dS (acZ (hR _ j.2) p u C D)
 |indexAddr t x i=>
  simp only[okB,cM]at j;obtain⟨e,q⟩:=pz j.1.1;exact dS (adb (hR _ j.1.2) (hR _ j.2) q)
 |index t x i=>
  simp only[okB,cM]at j;exact dS (ade (hR _ j.1.2) (hR _ j.2) (xR j.1.1))
 |lookup t x i ok=>
  simp only[okB,cM]at j;obtain⟨k,e,p,u⟩:=Kf j.1.1;obtain⟨κ,ki,C,D,H⟩:=EL u;exact dS (adq C D H z p (hR _ j.1.2) (hR _ j.2) ok)
 |mapUpdate t m k x=>
  simp only[okB,cM]at j;obtain⟨kt,e,p,u⟩:=Kf j.1.1.1;obtain⟨κ,ki,C,D,H⟩:=EL u;exact Tz (ady C D H p (hR _ j.1.1.2) (hR _ j.1.2) (hR _ j.2))
 |typeAssert x xt t ok=>
  cases ok with
  |false=>exact B rfl
  |true=>
   simp only[okB,cM]at j;obtain⟨d,p,u⟩:=XJ j.1;exact dS (adV z (hR _ j.2) p u)
 |extract x n=>exact dS (acY (hR x j) n)
 |call c=>
  obtain⟨G,args,Q⟩:=c;simp only[okB,Om,cM]at j;cases G with
  |value f=>exact Tg hF (hR f j.2) (hR.args j.1)
  |builtin b=>
   simp only[cM,wJ]at j;exact acB z (Xa j.2.1) _ _ (hR.args j.1) (by grind)
  |invoke r m=>
   simp only[cM]at j;show SR P NR ρ K (invoke (.fn (.method m) #[]) (#[η r]++args.map η)) (invoke (.fn (.method m) #[]) (#[jD r]++args.map jD));exact adi hF (L5 N j.2.2) (hR _ j.2.1) (hR.args j.1)
 |defer c=>
  obtain⟨G,args,Q⟩:=c;simp only[okB,Oo,cM]at j;cases G with
  |value f=>exact SR.then (Ts (hR f j.2) (hR.args j.1)) λ_ _ _ _ _ _ X=>.pure (.defer X)
  |builtin b=>cases j.2
  |invoke r m=>cases j.2
 |panic x=>exact dS (adG (hR x j))
 |select cs bl=>
  cases bl with
  |true=>exact B rfl
  |false=>
   rcases cs with⟨cs⟩
   match cs,j with
   |[s],j=>
    have j:(s.send.isNone&&cQ l s.chan)=aq:=j;simp only[cM,yB]at j;exact acJ z j.1 (hR _ j.2)
 |_=>exact B rfl
end
end
section
variable [aP] {S:Nat->Prop}
abbrev Whole(S:Nat->Prop)(ρ:Ren)(w:az):Prop:=(∀a b,ρ a b->(¬S b/\∃o,w.heap[a]? =aa o/\o≠bZ)\/(S b/\w.heap[a]? =aa bZ))/\∀b,S b->∃a,ρ a b
def Whole.all{ρ w}(h:Whole S ρ w):∀a b,ρ a b->(¬S b/\∃o,w.heap[a]? =aa o/\o≠bZ)\/(S b/\w.heap[a]? =aa bZ):=h.1
def Whole.has{ρ w}(h:Whole S ρ w):∀b,S b->∃a,ρ a b:=h.2
def Whole.own{ρ w}(h:Whole S ρ w){a b}(d:ρ a b){o}(f:w.heap[a]? =aa o)(e:o≠bZ):¬S b:=by
 rcases h.all a b d with c|⟨_,c⟩
 ·exact c.1
 ·rw[f]at c;cases c;exact absurd rfl e
def gX(S:Nat->Prop)(ρ:Ren)(e:iR):Prop:=match e.loc with
 |.cell a=>∃x,ρ x a.block/\¬S a.block
 |.obj r=>∃x,ρ x r/\¬S r
 |.mark .noRoom=>True
 |.mark (.extern _)=>True
 |.output=>True
 |_=>False
def gX.mono{ρ σ}(h:ρ.le σ){e}(k:gX S ρ e):gX S σ e:=by
 unfold gX at k⊢;split
 ·rename_i a;rw[a]at k;exact k.imp λx b=>⟨h _ _ b.1,b.2⟩
 ·rename_i a;rw[a]at k;exact k.imp λx b=>⟨h _ _ b.1,b.2⟩
 ·trivial
 ·trivial
 ·trivial
 ·rename_i c d f g i;split at k
  ·rename_i a;exact c _ a
  ·rename_i a;exact d _ a
  ·rename_i a;exact f a
  ·rename_i a;exact g _ a
  ·rename_i a;exact i a
  ·exact k
def gw(S:Nat->Prop)(ρ:Ren)(es a:aK iR):Prop:=∃x,a=es++x/\∀e∈x,gX S ρ e
def gw.refl{ρ}(es):gw S ρ es es:=⟨#[],aC,aC⟩
def gw.push{ρ es e}(h:gX S ρ e):gw S ρ es (es.push e):=⟨#[e],aC,by simp;exact h⟩
def gw.cell{ρ es x a u v}(h:ρ x a.block)(b:¬S a.block):gw S ρ es (es.push ⟨.cell a,u,v⟩):=.push ⟨x,h,b⟩
def gw.obj{ρ es x r u v}(h:ρ x r)(a:¬S r):gw S ρ es (es.push ⟨.obj r,u,v⟩):=.push ⟨x,h,a⟩
def gw.room{ρ es u v}:gw S ρ es (es.push ⟨.mark .noRoom,u,v⟩):=.push trivial
def gw.ext{ρ es f u v}:gw S ρ es (es.push ⟨.mark (.extern f),u,v⟩):=.push trivial
def gw.many{ρ es}{x b:Nat}{t:aB fS}{u v:Bool}(h:ρ x b)(c:¬S b)(d:∀y∈t,y.block=b):gw S ρ es (es++t.toArray.map (⟨.cell ·,u,v⟩)):=⟨_,rfl,λe a=>by obtain⟨y,f,rfl⟩:=nE.1 a;have:=d y (by simpa using f);exact⟨x,by rw[this];exact h,by rw[this];exact c⟩⟩
def gw.out{ρ es u v}:gw S ρ es (es.push ⟨.output,u,v⟩):=.push trivial
def gw.trans{ρ σ}(g:ρ.le σ){a b c}(h:gw S ρ a b)(k:gw S σ b c):gw S σ a c:=by
 obtain⟨x,rfl,f⟩:=h;obtain⟨y,rfl,i⟩:=k;refine⟨x++y,aC,λe d=>?_⟩;rcases uj.1 d with h|h
 ·exact(f e h).mono g
 ·exact i e h
def cP{α j:Type}(S:Nat->Prop)(p:aZ)(Q:Ren->α->j->Prop)(ρ:Ren)(w w':az)(f:aK iR)(r:tB α)(g:tB j×aK iR):Prop:=
 match r with
  |.ok a d=>∃c b e x,g=(.ok b e,x)/\Q c a b/\cm p ρ c w d w' e/\Whole S c d/\gw S c f x
  |.halt (.panic v) d=>∃c i e x,g=(.halt (.panic i) e,x)/\VR c v i/\cm p ρ c w d w' e/\Whole S c d/\gw S c f x
  |.halt h _=>kV h
def VW{α c:Type}(S:Nat->Prop)(p:aZ)(Q:Ren->α->c->Prop)(ρ:Ren)(K:Kn)(s:Sem α)(d:Sem c):Prop:=
 ∀w a b,WR p ρ w a->Own K w->Whole S ρ w->cP S p Q ρ w a b (s.run p w) (d.runT p a b)
def cP.lost{α d:Type}{p Q ρ}{w w':az}{b:aK iR}{c:tB d×aK iR}{h:Halt}(a:kV h)(w1):cP S p Q ρ w w' b (.halt h w1:tB α) c:=by unfold cP;cases h<;>first|exact a|exact a.elim
def cP.step{α u:Type}{p Q ρ σ}{w w1 w' g:az}{d f:aK iR}{s s1:Sem α}{q s1':Sem u}(hm:cm p ρ σ w w1 w' g)(o:gw S σ d f)(e:s.run p w=s1.run p w1)(r:q.runT p w' d=s1'.runT p g f)(h:cP S p Q σ w1 g f (s1.run p w1) (s1'.runT p g f)):cP S p Q ρ w w' d (s.run p w) (q.runT p w' d):=by
 rw[e,r];revert h;unfold cP;cases s1.run p w1 with
 |ok a t=>rintro⟨n,b,m,x,i,j,c,k,l⟩;exact⟨n,b,m,x,i,j,hm.trans c,k,o.trans c.le l⟩
 |halt h t=>
  cases h with
  |panic v=>rintro⟨n,b,m,x,i,j,c,k,l⟩;exact⟨n,b,m,x,i,j,hm.trans c,k,o.trans c.le l⟩
  |_=>intro h;exact h
def Whole.set{ρ w}(h:Whole S ρ w)(a v):Whole S ρ (w.setCell a v):=⟨λx y d=>by
 rcases h.all x y d with⟨b,c⟩|⟨b,c⟩
 ·exact aF ⟨b,Own.set (K:=(·=x)) (λr hr=>by(obtain rfl:r=x:=hr;exact c)) a v x rfl⟩
 ·refine aD ⟨b,?_⟩;simp only[gm,lB,c];split<;>rfl,h.has⟩
def Whole.freeze{ρ w}(h:Whole S ρ w)(a n):Whole S ρ (w.freeze a n):=⟨λx y d=>by
 rcases h.all x y d with⟨c,b⟩|⟨c,b⟩
 ·exact aF ⟨c,Own.freeze (K:=(·=x)) (λr hr=>by(obtain rfl:r=x:=hr;exact b)) a n x rfl⟩
 ·refine aD ⟨c,?_⟩;unfold yG;split
  ·exact b
  ·simp only[lB,b];split<;>rfl,h.has⟩
def Whole.put{ρ w}(h:Whole S ρ w){r}(e:∃x,w.heap[r]? =aa x/\x≠bZ){o}(c:o≠bZ):Whole S ρ {w with heap:=w.heap.setIfInBounds r o}:=⟨λx y g=>by
 rcases h.all x y g with⟨b,a⟩|⟨b,a⟩
 ·exact aF ⟨b,Own.put (K:=(·=x)) (λr hr=>by(obtain rfl:r=x:=hr;exact a)) r c x rfl⟩
 ·refine aD ⟨b,?_⟩
  have f:x≠r:=by rintro rfl;obtain⟨q,d,c⟩:=e;rw[a]at d;cases d;exact c rfl
  exact(dP (dF f)).trans a,h.has⟩
def Whole.push{ρ w w' p}(h:Whole S ρ w)(e:WR p ρ w w'){o}(g:o≠bZ):Whole S (ρ.ext w.heap.size w'.heap.size) {w with heap:=w.heap.push o}:=by
 have hS:¬S w'.heap.size:=λi=>by obtain⟨a,c⟩:=h.has _ i;have:=(e.lt _ _ c).2;omega
 refine⟨?_,λb f=>(h.has b f).imp λa c=>aF c⟩;rintro a b (d|⟨rfl,rfl⟩)
 ·have j:=(e.lt _ _ d).1;rw[fG,aQ ak];exact h.all a b d
 ·exact aF ⟨hS,o,by show(w.heap.push o)[w.heap.size]? =_;simp,g⟩
def vU{α:Type}{p w m}{a:fS}{v:aE}{k:Sem α}{es:aK iR}(b:∀x,v≠.agg x)(c:∀x,v≠.tuple x):(tC m a v k).runT p w es=(match w.cell? a with
  |some _=>if w.frozen? a then(.halt (.unsupported (.unsafePointer "a write to bytes that a string shares")) w,es)else k.runT p (w.setCell a v) (es.push ⟨.cell a,aq,m==.atomic⟩)
  |none=>match w.farStore p a v (m==.atomic)with
   |.ok (w,d)=>k.runT p w (es++d.toArray.map (⟨.cell ·,aq,m==.atomic⟩))
   |.error h=>(.halt h w,es)):=by
 cases v<;>first|rfl|exact absurd rfl (b _)|exact absurd rfl (c _)
def dI{α j:Type}{p}{f:α->Sem j}(s:Sem α):∀(w:az) (es:aK iR),(s.bind f).runT p w es=(match s.runT p w es with
  |(.ok a i,x)=>(f a).runT p i x
  |(.halt h i,x)=>(.halt h i,x)):=by
 induction s with
 |pure a=>intro w es;rfl
 |load m a k b=>
  intro w es;simp only[cV,dD];cases w.cell? a with
  |some v=>exact b v w _
  |none=>
   dsimp only;cases w.farLoad p a (m==.atomic)with
   |ok r=>exact b _ w _
   |error h=>rfl
 |store m a v k b=>
  intro w es
  by_cases g:(∃x,v=.agg x)\/∃x,v=.tuple x
  ·rcases g with⟨x,rfl⟩|⟨x,rfl⟩<;>rfl
  ·have d:(∀x,v≠.agg x)/\∀x,v≠.tuple x:=⟨λx e=>g (aF ⟨x,e⟩),λx e=>g (aD ⟨x,e⟩)⟩;rw[show(tC m a v k).bind f=tC m a v (k.bind f) from rfl,vU d.1 d.2,vU d.1 d.2];cases w.cell? a with
   |some u=>
    dsimp only;split
    ·rfl
    ·exact b _ _
   |none=>
    dsimp only;cases w.farStore p a v (m==.atomic)with
    |ok r=>exact b _ _
    |error h=>rfl
 |new o k b=>intro w es;exact b _ _ _
 |shape r k b=>intro w es;exact b _ _ _
 |freeze a n k b=>intro w es;exact b _ _
 |frozen a k b=>intro w es;exact b _ _ _
 |getObj r k b=>
  intro w es;simp only[cV,dD];cases w.heap[r]? with
  |none=>rfl
  |some o=>cases o<;>first|rfl|exact b _ _ _
 |setObj r o k b=>
  intro w es;simp only[cV,dD];cases w.heap[r]? with
  |none=>rfl
  |some o=>cases o<;>first|rfl|exact b _ _
 |choose q k b=>
  intro w es;simp only[cV,dD];split
  ·exact b _ _ _
  ·exact b _ _ _
 |sys c k b=>intro w es;exact b _ _ _
 |program k b=>intro w es;exact b _ _ _
 |mark m k b=>intro w es;exact b _ _
 |halt h=>intro w es;rfl
def TE{p}(w a es):(Il a).runT p w es=(.ok (ru w a) w,es):=by
 unfold Il ru;show(Sem.frozen a _).runT p w es=_;unfold dD;cases b:w.frozen? a with
 |true=>rfl
 |false=>
  show(Ht a.block _).runT p w es=_;unfold dD;cases c:w.shape? a.block with
  |none=>rfl
  |some x=>rfl
def BE{p:aZ}(w a b es):(Ic a b).runT p w es=(.ok (sn w a b) w,es):=by
 unfold Ic;show(cV (Il a) _).runT p w es=_;rw[dI,TE];show(cV (Il b) _).runT p w es=_;rw[dI,TE];show(Ht a.block _).runT p w es=_;unfold dD;show(Ht b.block _).runT p w es=_;unfold dD;unfold sn emB;generalize ru w a=d;generalize ru w b=e;cases w.shape? a.block with
 |none=>
  cases w.shape? b.block with
  |none=>rfl
  |some y=>obtain⟨t,n⟩:=y;cases n<;>rfl
 |some x=>
  obtain⟨t,n⟩:=x;cases w.shape? b.block with
  |none=>cases n<;>rfl
  |some y=>obtain⟨f,c⟩:=y;cases n<;>cases c<;>rfl
def K4{p ρ w w'}(d:WR p ρ w w'){a a' b b'}(c:AR ρ a a')(g:AR ρ b b'):sn w' a' b'=sn w a b:=by
 have key:∀{a a':fS},AR ρ a a'->ru w' a'=ru w a/\emB w' a'=emB w a:=λ{a a'} c=>by
  unfold ru emB;rw[EK d c];obtain⟨o,f⟩:∃o,w.heap[a.block]? =aa o:=⟨_,cL (d.lt _ _ c.1).1⟩;rcases d.obj _ _ _ c.1 f with rfl|⟨v,q,r⟩
  ·obtain⟨x,t,m,h,s,u⟩:=d.calm _ _ c.1 f;have j:w'.shape? a'.block=aa (t,x.size):=by unfold gN;rw[h]
   have k:w.shape? a.block=ay:=by unfold gN;rw[f];rfl
   have l:∀n,w'.frozen? {block:=a'.block,off:=n}=av:=λn=>by have:=EK d (a:={block:=a.block,off:=n}) (a':={block:=a'.block,off:=n}) ⟨c.1,rfl,rfl⟩;rw[this];unfold pO;rw[f];rfl
   rw[j,k];refine⟨by simp only[l],?_⟩;cases i:x.size with
   |zero=>exact absurd i s
   |succ n=>rfl
  ·have e:w'.shape? a'.block=w.shape? a.block:=by
    unfold gN;rw[f,q];cases r with
    |cells t m h=>simp only[h.1]
    |_=>rfl
   rw[e];refine⟨?_,rfl⟩;cases i:w.shape? a.block with
   |none=>rfl
   |some y=>
    obtain⟨t,n⟩:=y;simp only;rw[EK d (a:={block:=a.block,off:=n}) (a':={block:=a'.block,off:=n}) ⟨c.1,rfl,rfl⟩]
 unfold sn;rw[(key c).1,(key g).1,(key c).2,(key g).2]
def U3{p w r o}(h:w.heap[r]? =aa o)(d:∀a l,o≠.number a l){ρ}(hr:∃x,ρ x r/\¬S r)(es):∃y,(numberAt r).runT p w es=(.ok ay w,y)/\gw S ρ es y:=by
 by_cases c:∃x t b,o=aA x t b
 ·obtain⟨x,t,b,rfl⟩:=c;exact⟨es,by simp only[numberAt,shape,dD,jU,cV,gN,h,ku,yC,cS],.refl es⟩
 ·refine⟨es.push ⟨.obj r,av,o.isChan⟩,?_,.push hr⟩;cases o<;>first|exact absurd rfl (d _ _)|exact absurd ⟨_,_,_,rfl⟩ c|simp only[numberAt,shape,getObj,dD,jU,cV,gN,h,ku,uA,eR,dQ]
def U4{p w r a l}(h:w.heap[r]? =aa (.number a l)){ρ}(hr:∃x,ρ x r/\¬S r)(es):∃y,(numberAt r).runT p w es=(.ok (aa (a,l)) w,y)/\gw S ρ es y:=
 ⟨es.push ⟨.obj r,av,av⟩,by simp only[numberAt,shape,getObj,dD,jU,cV,gN,h,ku,Hi,uA,eR,dQ],.push hr⟩
def afm{p w r o}(h:w.heap[r]? =aa o)(d:∀a l,o≠.view a l){ρ}(hr:∃x,ρ x r/\¬S r)(es):∃y,(viewAt r).runT p w es=(.ok ay w,y)/\gw S ρ es y:=by
 by_cases c:∃x t b,o=aA x t b
 ·obtain⟨x,t,b,rfl⟩:=c;exact⟨es,by simp only[viewAt,shape,dD,jU,cV,gN,h,ku,yC,cS],.refl es⟩
 ·refine⟨es.push ⟨.obj r,av,o.isChan⟩,?_,.push hr⟩;cases o<;>first|exact absurd rfl (d _ _)|exact absurd ⟨_,_,_,rfl⟩ c|simp only[viewAt,shape,getObj,dD,jU,cV,gN,h,ku,uA,eR,dQ]
def afo{p w r a}{t:aW}(h:w.heap[r]? =aa (.view a t)){ρ}(hr:∃x,ρ x r/\¬S r)(es):∃y,(viewAt r).runT p w es=(.ok (aa (a,t)) w,y)/\gw S ρ es y:=
 ⟨es.push ⟨.obj r,av,av⟩,by simp only[viewAt,shape,getObj,dD,jU,cV,gN,h,ku,Hi,uA,eR,dQ],.push hr⟩
def U2{p w r}(h:Calm w.heap[r]?)(es):(numberAt r).runT p w es=(.ok ay w,es):=by obtain⟨x,t,a,h,_⟩:=h;simp only[numberAt,shape,dD,jU,cV,gN,h,ku,yC,cS]
def afl{p w r}(h:Calm w.heap[r]?)(es):(viewAt r).runT p w es=(.ok ay w,es):=by obtain⟨x,t,a,h,_⟩:=h;simp only[viewAt,shape,dD,jU,cV,gN,h,ku,yC,cS]
def SR.ud{α β:Type}{p Q ρ}{K:Kn}{s:Sem α}{s':Sem β}(h:SR p Q ρ K s s'):VW S p Q ρ K s s':=by
 induction h with
 |pure h=>exact λw g B d _ j=>⟨_,_,_,_,rfl,h,cm.refl d,j,.refl _⟩
 |@load ρ K m a I k A E _ C=>
  intro w g B d z i;cases H:w.cell? a with
  |some v=>
   obtain⟨v',W,hv⟩:=Ea d E H;obtain⟨o,j,D⟩:=qY H;exact cP.step (cm.refl d) (.cell (u:=av) (v:=m==.atomic) E.1 (i.own E.1 j D)) (by simp only[Sem.run,H]) (by simp only[dD,W]) (C v v' hv w g _ d (z.and j D) i)
  |none=>
   rcases Pc d E (m==.atomic)with⟨x,G,Z⟩|⟨v,t,t',b,b',o,G,aC,hv,W,ht,V,⟨ob,nR,tT⟩,j,vw⟩
   ·have e:(Sem.load m a k).run p w=.halt x w:=by simp only[Sem.run,H,G]
    rw[e];exact cP.lost Z w
   ·exact cP.step (cm.refl d) (.many (u:=av) (v:=m==.atomic) V (i.own V nR tT) ht) (by simp only[Sem.run,H,G]) (by simp only[dD,W,aC]) (C v v hv w g _ d (z.and j vw) i)
 |@store ρ K m a I v v' k A E hv _ C=>
  intro w g B d z i
  by_cases h1:(∃x,v=.agg x)\/∃x,v=.tuple x
  ·have e:∃P,(tC m a v k).run p w=.halt (.stuck P) w:=by
    rcases h1 with⟨x,rfl⟩|⟨x,rfl⟩<;>exact⟨_,rfl⟩
   obtain⟨P,e⟩:=e;rw[e];trivial
  ·have D:(∀x,v≠.agg x)/\∀x,v≠.tuple x:=⟨λx e=>h1 (aF ⟨x,e⟩),λx e=>h1 (aD ⟨x,e⟩)⟩
   have aG:(∀x,v'≠.agg x)/\∀x,v'≠.tuple x:=by
    constructor
    ·rintro x rfl;cases hv;exact D.1 _ rfl
    ·rintro x rfl;cases hv;exact D.2 _ rfl
   cases H:w.cell? a with
   |some u=>
    obtain⟨u',W,_⟩:=Ea d E H;obtain⟨o,j,N⟩:=qY H;have aT:g.frozen? I=w.frozen? a:=Zu d E H;cases hf:w.frozen? a with
    |true=>
     have e:(tC m a v k).run p w=.halt (.unsupported (.unsafePointer "a write to bytes that a string shares")) w:=by rw[vV D.1 D.2,H];simp only[hf,cS]
     rw[e];trivial
    |false=>
     have e:(tC m a v k).run p w=k.run p (w.setCell a v):=by rw[vV D.1 D.2,H];simp[hf]
     have R:(tC m I v' A).runT p g B=A.runT p (g.setCell I v') (B.push ⟨.cell I,aq,m==.atomic⟩):=by rw[vU aG.1 aG.2,W];simp[aT,hf]
     exact cP.step (cm.set d E hv H) (.cell E.1 (i.own E.1 j N)) e R (C _ _ _ (d.set E hv H) ((z.and j N).set a v) (i.set a v))
   |none=>
    rcases Pd d E hv (m==.atomic)with⟨x,G,Z⟩|⟨b,b',o1,RL,t,t',o,G,aC,F,W,ht,V,⟨ob,nR,tT⟩,j,vw⟩
    ·have e:(tC m a v k).run p w=.halt x w:=by rw[vV D.1 D.2,H];simp only[G]
     rw[e];exact cP.lost Z w
    ·have hm:=cm.put d V F ⟨ob,nR,tT⟩;have e:(tC m a v k).run p w=k.run p {w with heap:=w.heap.setIfInBounds b o1}:=by rw[vV D.1 D.2,H];simp only[G]
     have R:(tC m I v' A).runT p g B=A.runT p {g with heap:=g.heap.setIfInBounds b' RL} (B++t'.toArray.map (⟨.cell ·,aq,m==.atomic⟩)):=by rw[vU aG.1 aG.2,W];simp only[aC]
     exact cP.step hm (.many V (i.own V nR tT) ht) e R (C _ _ _ hm.rel ((z.and j vw).put b (fF F)) (i.put ⟨ob,nR,tT⟩ (fF F)))
 |@new ρ K o J k A j _ C=>
  intro w g B d z i;have hm:=cm.new d j;exact cP.step hm (.refl _) rfl rfl (C _ _ _ _ _ hm.rel (z.push (fF j)) (i.push d (fF j)))
 |@shape ρ K r L k A hr _ _ h1 C xz=>
  intro w g B d z i;cases U:w.shape? r with
  |none=>
   by_cases aJ:K r
   ·have aM:g.shape? L=ay:=by
     obtain⟨o,j,D⟩:=z r aJ;rcases d.obj _ _ _ hr j with hp|⟨J,O,F⟩
     ·exact absurd hp D
     ·unfold gN at U⊢;rw[j]at U;rw[O];cases F<;>simp_all
    exact cP.step (s1:=k ay) (s1':=A ay) (cm.refl d) (.refl _) (by simp only[Sem.run,U]) (by simp only[dD,aM]) (xz aJ w g _ d z i)
   ·obtain⟨x,G,Z⟩:=h1 aJ;have e:(Ht r k).run p w=.halt x w:=by simp only[Sem.run,U,G]
    rw[e];exact cP.lost Z w
  |some x=>
   have aM:g.shape? L=aa x:=abT d hr U
   have j:∃o,w.heap[r]? =aa o/\o≠bZ:=by
    unfold gN at U;split at U
    ·rename_i c t T H;exact⟨_,H,by intro e;cases e⟩
    ·cases U
   obtain⟨o,j,D⟩:=j;exact cP.step (s1:=k (aa x)) (s1':=A (aa x)) (cm.refl d) (.refl _) (by simp only[Sem.run,U]) (by simp only[dD,aM]) (C x w g _ d (z.and j D) i)
 |@freeze ρ K a I n k A E X _ C=>
  intro w g B d z i;have hm:=cm.freeze d E n (z _ X);exact cP.step hm (.refl _) rfl rfl (C _ _ _ hm.rel (z.freeze a n) (i.freeze a n))
 |@frozen ρ K a I k A E X _ C=>
  intro w g B d z i;have hf:=PI d E (z _ X);exact cP.step (s1:=k (w.frozen? a)) (s1':=A (w.frozen? a)) (cm.refl d) (.refl _) rfl (by simp only[dD,hf]) (C _ w g _ d z i)
 |@getObj ρ K r L k A hr _ h0 C=>
  intro w g B d z i;obtain⟨o,j⟩:∃o,w.heap[r]? =aa o:=⟨_,cL (d.lt _ _ hr).1⟩
  by_cases M:∃x t T,o=aA x t T
  ·obtain⟨x,t,T,rfl⟩:=M;have e:∃P,(Ay r k).run p w=.halt (.stuck P) w:=⟨ "getObj: a row of cells",by simp only[Sem.run,j]⟩;obtain⟨P,e⟩:=e;rw[e];trivial
  ·have e:(Ay r k).run p w=(k o).run p w:=by
    simp only[Sem.run,j];cases o<;>first|rfl|exact absurd ⟨_,_,_,rfl⟩ M
   rcases d.obj _ _ _ hr j with rfl|⟨J,O,F⟩
   ·obtain⟨x,G,Z⟩:=h0;rw[e,G];exact cP.lost Z w
   ·have R:(Ay L A).runT p g B=(A J).runT p g (B.push ⟨.obj L,av,J.isChan⟩):=by
     simp only[dD,O];cases F<;>first|rfl|exact absurd ⟨_,_,_,rfl⟩ M
    exact cP.step (cm.refl d) (.obj hr (i.own hr j (fF F))) e R (C o J F w g _ d (z.and j (fF F)) i)
 |@setObj ρ K r L o J k A hr X j _ C=>
  intro w g B d z i;obtain⟨x,G,vD⟩:=z r X;rcases d.obj _ _ _ hr G with hp|⟨x',aC,F⟩
  ·exact absurd hp vD
  ·have hm:=cm.put d hr j ⟨x,G,vD⟩
   by_cases M:∃y t T,x=aA y t T
   ·obtain⟨y,t,T,rfl⟩:=M;have e:∃P,(MZ r o k).run p w=.halt (.stuck P) w:=⟨ "setObj: a row of cells",by simp only[Sem.run,G]⟩;obtain⟨P,e⟩:=e;rw[e];trivial
   ·have e:(MZ r o k).run p w=k.run p {w with heap:=w.heap.setIfInBounds r o}:=by
     simp only[Sem.run,G];cases x<;>first|rfl|exact absurd ⟨_,_,_,rfl⟩ M
    have R:(MZ L J A).runT p g B=A.runT p {g with heap:=g.heap.setIfInBounds L J} (B.push ⟨.obj L,aq,J.isChan⟩):=by simp only[dD,aC];cases F<;>first|rfl|exact absurd ⟨_,_,_,rfl⟩ M
    exact cP.step hm (.obj hr (i.own hr G vD)) e R (C _ _ _ hm.rel (z.put r (fF j)) (i.put ⟨x,G,vD⟩ (fF j)))
 |@choose ρ K q k A _ C=>
  intro w g B d z i
  by_cases hq:q.forced=aq
  ·exact cP.step (s1:=k 0) (s1':=A 0) (cm.refl d) (.refl _) (by simp only[Sem.run,hq,cS]) (by simp only[dD,hq,cS]) (C 0 w g _ d z i)
  ·have ht:g.tape g.drawn q=w.tape w.drawn q:=d.tape 0 q;have hm:=cm.draw d;exact cP.step (s1:=k (q.cut (w.tape w.drawn q))) (s1':=A (q.cut (w.tape w.drawn q))) hm (.refl _) (by simp only[Sem.run,hq,dQ,eR]) (by simp only[dD,hq,dQ,ht,eR]) (C _ _ _ _ hm.rel z i)
 |@program ρ K k A _ C=>
  intro w g B d z i;exact cP.step (cm.refl d) (.refl _) rfl rfl (C w g _ d z i)
 |@env ρ K k A _ C=>
  intro w g B d z i;exact cP.step (s1:=k (.strings w.os.env)) (s1':=A (.strings w.os.env)) (cm.refl d) (.out (u:=aq) (v:=av)) rfl (by rw[<-d.os.1];rfl) (C _ w g _ d z i)
 |@noRoom ρ K k A _ C=>
  intro w g B d z i;exact cP.step (cm.refl d) .room rfl rfl (C w g _ d z i)
 |panic h=>exact λw g B d _ i=>⟨_,_,_,_,rfl,h,cm.refl d,i,.refl _⟩
 |lost h=>exact λw g B _ _ _=>cP.lost h w
 |vi h=>
  intro w g B _ _ _;obtain⟨x,w1,e,G⟩:=h w;rw[e];exact cP.lost G w1
 |assume _ C=>exact λw g B d z i=>C ⟨d.one,d.low,d.os.2⟩ w g B d z i
 |@number ρ K r L k A hr _ _ xz aO=>
  intro w g B d z i;obtain⟨o,j⟩:∃o,w.heap[r]? =aa o:=⟨_,cL (d.lt _ _ hr).1⟩;rcases d.obj _ _ _ hr j with rfl|⟨J,O,F⟩
  ·have e:(numberAt r).run p w=.ok ay w:=Fc j (λa l e=>by cases e);exact cP.step (s1:=k ay) (s1':=A ay) (cm.refl d) (.refl _) (by rw[iu,e];rfl) (by rw[dI,U2 (d.calm _ _ hr j)]) (xz w g _ d z i)
  ·have N:=fF F
   by_cases D:∃a l,o=.number a l
   ·obtain⟨a,l,rfl⟩:=D;cases F with
    |@number _ I _ E=>
     obtain⟨y,hy,Y⟩:=U4 (p:=p) O ⟨_,hr,i.own hr j N⟩ B;exact cP.step (s1:=k (aa (a,l))) (s1':=A (aa (I,l))) (cm.refl d) Y (by rw[iu,RK j];rfl) (by rw[dI,hy]) (aO a I l E w g _ d (z.and j (by intro e;cases e)) i)
   ·have e:(numberAt r).run p w=.ok ay w:=Fc j (λa l e=>D ⟨a,l,e⟩);obtain⟨y,hy,Y⟩:=U3 (p:=p) O (λa l e=>by subst e;cases F;exact D ⟨_,_,rfl⟩) ⟨_,hr,i.own hr j N⟩ B;exact cP.step (s1:=k ay) (s1':=A ay) (cm.refl d) Y (by rw[iu,e];rfl) (by rw[dI,hy]) (xz w g _ d z i)
 |@icy ρ K a I k A E _ C=>
  intro w g B d z i;exact cP.step (s1:=k (w.frozen? a)) (s1':=A (w.frozen? a)) (cm.refl d) (.refl _) rfl (by simp only[dD,(EK d E)]) (C _ w g _ d z i)
 |@kin ρ K a I b b' k A E V _ C=>
  intro w g B d z i;have e:(Ic a b).run p w=.ok (sn w a b) w:=by rw[<-iW p _ w #[],BE]
  exact cP.step (s1:=k (sn w a b)) (s1':=A (sn w a b)) (cm.refl d) (.refl _) (by rw[iu,e];rfl) (by rw[dI,BE,K4 d E V]) (C _ w g _ d z i)
 |@Bl ρ K r L k A hr X _ C=>
  intro w g B d z i;obtain⟨o,j,N⟩:=z r X
  by_cases M:∃x t T,o=aA x t T
  ·obtain⟨x,t,T,rfl⟩:=M;have e:∃P,(Ay r k).run p w=.halt (.stuck P) w:=⟨ "getObj: a row of cells",by simp only[Sem.run,j]⟩;obtain⟨P,e⟩:=e;rw[e];trivial
  ·have e:(Ay r k).run p w=(k o).run p w:=by
    simp only[Sem.run,j];cases o<;>first|rfl|exact absurd ⟨_,_,_,rfl⟩ M
   rcases d.obj _ _ _ hr j with rfl|⟨J,O,F⟩
   ·exact absurd rfl N
   ·have R:(Ay L A).runT p g B=(A J).runT p g (B.push ⟨.obj L,av,J.isChan⟩):=by
     simp only[dD,O];cases F<;>first|rfl|exact absurd ⟨_,_,_,rfl⟩ M
    exact cP.step (cm.refl d) (.obj hr (i.own hr j N)) e R (C o J F w g _ d z i)
 |@ext ρ K f k A _ C=>
  intro w g B d z i;exact cP.step (cm.refl d) .ext rfl rfl (C w g _ d z i)
 |@view ρ K r L k A hr _ _ xz aO=>
  intro w g B d z i;obtain⟨o,j⟩:∃o,w.heap[r]? =aa o:=⟨_,cL (d.lt _ _ hr).1⟩;rcases d.obj _ _ _ hr j with rfl|⟨J,O,F⟩
  ·have e:(viewAt r).run p w=.ok ay w:=Gr j (λa t e=>by cases e);exact cP.step (s1:=k ay) (s1':=A ay) (cm.refl d) (.refl _) (by rw[iu,e];rfl) (by rw[dI,afl (d.calm _ _ hr j)]) (xz w g _ d z i)
  ·have N:=fF F
   by_cases D:∃a t,o=.view a t
   ·obtain⟨a,t,rfl⟩:=D;cases F with
    |@view _ I _ _ E=>
     obtain⟨y,hy,Y⟩:=afo (p:=p) O ⟨_,hr,i.own hr j N⟩ B;exact cP.step (s1:=k (aa (a,t))) (s1':=A (aa (I,t))) (cm.refl d) Y (by rw[iu,TX j];rfl) (by rw[dI,hy]) (aO a I t E w g _ d (z.and j (by intro e;cases e)) i)
   have e:(viewAt r).run p w=.ok ay w:=Gr j (λa t e=>D ⟨a,t,e⟩);obtain⟨y,hy,Y⟩:=afm (p:=p) O (λa t e=>by subst e;cases F;exact D ⟨_,_,rfl⟩) ⟨_,hr,i.own hr j N⟩ B;exact cP.step (s1:=k ay) (s1':=A ay) (cm.refl d) Y (by rw[iu,e];rfl) (by rw[dI,hy]) (xz w g _ d z i)
end
abbrev _root_.Go.World.tp(w:az)(a:Nat->lE->Nat):az:={w with tape:=a}
def kA(d c:Nat->lE->Nat)(a b:Nat):Prop:=∀i q,a<=i->i<b->d i q=c i q
def kA.sub{τ σ a b a' b'}(h:kA τ σ a b)(e:a<=a')(f:b'<=b):kA τ σ a' b':=λi q c d=>h i q (dm e c) (dy d f)
def _root_.Go.Result.world{α:Type}:tB α->az
 |.ok _ w=>w
 |.halt _ w=>w
def _root_.Go.Result.tp{α:Type}(b:Nat->lE->Nat):tB α->tB α
 |.ok a w=>.ok a (w.tp b)
 |.halt h w=>.halt h (w.tp b)
structure kG(w w1:az):Prop where
 drawn:w.drawn<=w1.drawn
 tape:w1.tape=w.tape
def kG.refl(w):kG w w:=⟨bC _,rfl⟩
def kG.trans{a b c}(h:kG a b)(k:kG b c):kG a c:=⟨dm h.drawn k.drawn,k.tape.trans h.tape⟩
def dY{α:Type}(p:aZ)(s:Sem α)(w:az):Prop:=
 (∃x c,s.run p w=.halt x c/\kV x)\/(kG w (s.run p w).world/\∀a b,kA b w.tape w.drawn (s.run p w).world.drawn->s.runT p (w.tp b) a=((s.runT p w a).1.tp b,(s.runT p w a).2))
def dY.step{α:Type}{p}{s s1:Sem α}{w w1:az}(f:kG w w1)(e:s.run p w=s1.run p w1)
  (h:∀b,∃c,s.runT p w b=s1.runT p w1 c/\∀a,kA a w.tape w.drawn (s1.run p w1).world.drawn->kG w1 (s1.run p w1).world->s.runT p (w.tp a) b=s1.runT p (w1.tp a) c) (k:dY p s1 w1):dY p s w:=by
 rcases k with⟨x,o,m,l⟩|⟨g,n⟩
 ·exact aF ⟨x,o,e.trans m,l⟩
 ·refine aD ⟨by rw[e];exact f.trans g,λb a d=>?_⟩;rw[e]at d;obtain⟨c,i,j⟩:=h b;rw[j a d g,i];exact n c a (by rw[f.tape];exact d.sub f.drawn (bC _))
def SO(w:az)(b:Nat->lE->Nat)(a:fS)(v:aE):(w.tp b).setCell a v=(w.setCell a v).tp b:=rfl
def Zt(w:az)(b:Nat->lE->Nat)(a:fS)(n:Nat):(w.tp b).freeze a n=(w.freeze a n).tp b:=by unfold yG;split<;>rfl
def Zs(w a n):kG w (w.freeze a n):=by
 unfold yG;split
 ·exact .refl w
 ·exact⟨bC _,rfl⟩
def YM{p}(w:az)(b:Nat->lE->Nat)(a:fS)(v:aE)(m:Bool):(w.tp b).farStore p a v m=match w.farStore p a v m with|.ok (d,t)=>.ok (d.tp b,t)|.error h=>.error h:=by
 have hv:∀at_ u,(w.tp b).viewStore p at_ u a v m=match w.viewStore p at_ u a v m with|.ok (d,t)=>.ok (d.tp b,t)|.error h=>.error h:=λat_ u=>by
  unfold td;have e:(w.tp b).seen p at_ u a m=w.seen p at_ u a m:=rfl;simp only[bind,GG,pure,GH,e];have f:∀{g:Type} (s:String),(CY s:Except String g)=.error s:=λ_=>rfl;simp only[f]
  repeat' (split<;>try rfl)
  all_goals simp_all
 unfold vn;split
 ·rename_i x y c;have c:=c;rw[c];dsimp only;rw[hv];cases w.viewStore p x y a v m<;>rfl
 ·rename_i o c;split
  ·rename_i h;cases h
  ·rename_i h;rw[<-h];rfl
def U5{p r a l}(es):∃y,∀v:az,v.heap[r]? =aa (.number a l)->(numberAt r).runT p v es=(.ok (aa (a,l)) v,y):=
 ⟨es.push ⟨.obj r,av,av⟩,λv hv=>by simp only[numberAt,shape,getObj,dD,jU,cV,gN,hv,ku,uA,eR,dQ,Hi]⟩
def RJ{p r o}(d:∀a l,o≠.number a l)(es):∃y,∀v:az,v.heap[r]? =aa o->(numberAt r).runT p v es=(.ok ay v,y):=by
 by_cases c:∃x t b,o=aA x t b
 ·obtain⟨x,t,b,rfl⟩:=c;exact⟨es,λv hv=>by simp only[numberAt,shape,dD,jU,cV,gN,hv,ku,yC,cS]⟩
 ·refine⟨es.push ⟨.obj r,av,o.isChan⟩,λv hv=>?_⟩;cases o<;>first|exact absurd rfl (d _ _)|exact absurd ⟨_,_,_,rfl⟩ c|simp only[numberAt,shape,getObj,dD,jU,cV,gN,hv,ku,uA,eR,dQ]
def afp{p r a}{t:aW}(es):∃y,∀v:az,v.heap[r]? =aa (.view a t)->(viewAt r).runT p v es=(.ok (aa (a,t)) v,y):=
 ⟨es.push ⟨.obj r,av,av⟩,λv hv=>by simp only[viewAt,shape,getObj,dD,jU,cV,gN,hv,ku,uA,eR,dQ,Hi]⟩
def afn{p r o}(d:∀a l,o≠.view a l)(es):∃y,∀v:az,v.heap[r]? =aa o->(viewAt r).runT p v es=(.ok ay v,y):=by
 by_cases c:∃x t b,o=aA x t b
 ·obtain⟨x,t,b,rfl⟩:=c;exact⟨es,λv hv=>by simp only[viewAt,shape,dD,jU,cV,gN,hv,ku,yC,cS]⟩
 ·refine⟨es.push ⟨.obj r,av,o.isChan⟩,λv hv=>?_⟩;cases o<;>first|exact absurd rfl (d _ _)|exact absurd ⟨_,_,_,rfl⟩ c|simp only[viewAt,shape,getObj,dD,jU,cV,gN,hv,ku,uA,eR,dQ]
section
variable [aP] {S:Nat->Prop}
def SR.loc{α β:Type}{p Q ρ}{K:Kn}{s:Sem α}{s':Sem β}(h:SR p Q ρ K s s'):∀w A,WR p ρ w A->Own K w->Whole S ρ w->dY p s w:=by
 induction h with
 |pure h=>exact λw A _ _ _=>aD ⟨.refl w,λ_ _ _=>rfl⟩
 |@load ρ K m a N k G H _ C=>
  intro w A d i z;cases F:w.cell? a with
  |some v=>
   obtain⟨v',Bp,hv⟩:=Ea d H F;obtain⟨o,g,D⟩:=qY F;refine dY.step (s1:=k v) (.refl w) (by simp only[Sem.run,F]) (λj=>⟨_,by simp only[dD,F];rfl,λB _ _=>?_⟩) (C v v' hv w A d (i.and g D) z);have P:(w.tp B).cell? a=aa v:=F;simp only[dD,P]
  |none=>
   rcases Pc d H (m==.atomic)with⟨x,E,R⟩|⟨v,t,t',b,b',o,E,aP,hv,Bp,ht,hb,⟨ob,nR,tT⟩,g,vw⟩
   ·exact aF ⟨x,w,by simp only[Sem.run,F,E],R⟩
   ·refine dY.step (s1:=k v) (.refl w) (by simp only[Sem.run,F,E]) (λj=>⟨_,by simp only[dD,F,E];rfl,λB _ _=>?_⟩) (C v v hv w A d (i.and g vw) z);have P:(w.tp B).cell? a=ay:=F;have JN:(w.tp B).farLoad p a (m==.atomic)=.ok (v,t):=E;simp only[dD,P,JN]
 |@store ρ K m a N v v' k G H hv _ C=>
  intro w A d i z
  by_cases X:(∃x,v=.agg x)\/∃x,v=.tuple x
  ·rcases X with⟨x,rfl⟩|⟨x,rfl⟩<;>exact aF ⟨_,w,rfl,trivial⟩
  ·have D:(∀x,v≠.agg x)/\∀x,v≠.tuple x:=⟨λx e=>X (aF ⟨x,e⟩),λx e=>X (aD ⟨x,e⟩)⟩;cases F:w.cell? a with
   |some u=>
    obtain⟨u',Bp,_⟩:=Ea d H F;obtain⟨o,g,aj⟩:=qY F;cases hf:w.frozen? a with
    |true=>exact aF ⟨.unsupported (.unsafePointer "a write to bytes that a string shares"),w,by rw[vV D.1 D.2,F];simp only[hf,cS],trivial⟩
    |false=>
     refine dY.step (s1:=k) (w1:=w.setCell a v) ⟨bC _,rfl⟩ (by rw[vV D.1 D.2,F];simp[hf]) (λj=>⟨j.push ⟨.cell a,aq,m==.atomic⟩,by rw[vU D.1 D.2,F];simp[hf],λB _ _=>?_⟩) (C _ _ (d.set H hv F) ((i.and g aj).set a v) (z.set a v));have P:(w.tp B).cell? a=aa u:=F;have aM:(w.tp B).frozen? a=av:=hf;rw[vU D.1 D.2,P];simp only[aM,eR,dQ];rfl
   |none=>
    rcases Pd d H hv (m==.atomic)with⟨x,E,R⟩|⟨b,b',o1,RL,t,t',o,E,aP,L,Bp,ht,hb,⟨ob,nR,tT⟩,g,vw⟩
    ·exact aF ⟨x,w,by rw[vV D.1 D.2,F];simp only[E],R⟩
    ·have hm:=cm.put d hb L ⟨ob,nR,tT⟩;refine dY.step (s1:=k) (w1:={w with heap:=w.heap.setIfInBounds b o1}) ⟨bC _,rfl⟩ (by rw[vV D.1 D.2,F];simp only[E]) (λj=>⟨j++t.toArray.map (⟨.cell ·,aq,m==.atomic⟩),by rw[vU D.1 D.2,F];simp only[E],λB _ _=>?_⟩) (C _ _ hm.rel ((i.and g vw).put b (fF L)) (z.put ⟨ob,nR,tT⟩ (fF L)));have P:(w.tp B).cell? a=ay:=F
     have JN:(w.tp B).farStore p a v (m==.atomic)=.ok ({w.tp B with heap:=w.heap.setIfInBounds b o1},t):=by have e:=YM (p:=p) w B a v (m==.atomic);rw[E]at e;exact e
     rw[vU D.1 D.2,P];simp only[JN]
 |@new ρ K o T k G g _ C=>
  intro w A d i z;have hm:=cm.new d g;exact dY.step (s1:=k w.heap.size) (w1:={w with heap:=w.heap.push o}) ⟨bC _,rfl⟩ rfl (λj=>⟨j,rfl,λB _ _=>rfl⟩) (C _ _ _ _ hm.rel (i.push (fF g)) (z.push d (fF g)))
 |@shape ρ K r Z k G hr _ _ X C W=>
  intro w A d i z;cases M:w.shape? r with
  |none=>
   by_cases aH:K r
   ·refine dY.step (s1:=k ay) (.refl w) (by simp only[Sem.run,M]) (λj=>⟨j,by simp only[dD,M],λB _ _=>?_⟩) (W aH w A d i z);have gh:(w.tp B).shape? r=ay:=M;simp only[dD,gh]
   ·obtain⟨x,E,R⟩:=X aH;exact aF ⟨x,w,by simp only[Sem.run,M,E],R⟩
  |some x=>
   have g:∃o,w.heap[r]? =aa o/\o≠bZ:=by
    unfold gN at M;split at M
    ·rename_i c t O F;exact⟨_,F,by intro e;cases e⟩
    ·cases M
   obtain⟨o,g,D⟩:=g;refine dY.step (s1:=k (aa x)) (.refl w) (by simp only[Sem.run,M]) (λj=>⟨j,by simp only[dD,M],λB _ _=>?_⟩) (C x w A d (i.and g D) z);have gh:(w.tp B).shape? r=aa x:=M;simp only[dD,gh]
 |@freeze ρ K a N n k G H U _ C=>
  intro w A d i z;have hm:=cm.freeze d H n (i _ U);exact dY.step (s1:=k) (w1:=w.freeze a n) (Zs w a n) rfl (λj=>⟨j,rfl,λB _ _=>by rw[<-Zt];rfl⟩) (C _ _ hm.rel (i.freeze a n) (z.freeze a n))
 |@frozen ρ K a N k G H U _ C=>
  intro w A d i z;exact dY.step (s1:=k (w.frozen? a)) (.refl w) rfl (λj=>⟨j,rfl,λB _ _=>rfl⟩) (C _ w A d i z)
 |@getObj ρ K r Z k G hr _ h0 C=>
  intro w A d i z;obtain⟨o,g⟩:∃o,w.heap[r]? =aa o:=⟨_,cL (d.lt _ _ hr).1⟩
  by_cases I:∃x t O,o=aA x t O
  ·obtain⟨x,t,O,rfl⟩:=I;exact aF ⟨.stuck "getObj: a row of cells",w,by simp only[Sem.run,g],trivial⟩
  ·rcases d.obj _ _ _ hr g with rfl|⟨T,ak,L⟩
   ·obtain⟨x,E,R⟩:=h0;refine aF ⟨x,w,?_,R⟩;simp only[Sem.run,g,bZ];rw[<-bZ,E];rfl
   ·refine dY.step (s1:=k o) (.refl w) ?_ (λj=>⟨j.push ⟨.obj r,av,o.isChan⟩,?_,λB _ _=>?_⟩) (C o T L w A d (i.and g (fF L)) z)
    ·simp only[Sem.run,g];cases o<;>first|rfl|exact absurd ⟨_,_,_,rfl⟩ I
    ·simp only[dD,g];cases o<;>first|rfl|exact absurd ⟨_,_,_,rfl⟩ I
    ·have Y:(w.tp B).heap[r]? =aa o:=g;simp only[dD,Y];cases o<;>first|rfl|exact absurd ⟨_,_,_,rfl⟩ I
 |@setObj ρ K r Z o T k G hr U g _ C=>
  intro w A d i z;obtain⟨x,E,vD⟩:=i r U;have hm:=cm.put d hr g ⟨x,E,vD⟩
  by_cases I:∃y t O,x=aA y t O
  ·obtain⟨y,t,O,rfl⟩:=I;exact aF ⟨.stuck "setObj: a row of cells",w,by simp only[Sem.run,E],trivial⟩
  ·refine dY.step (s1:=k) (w1:={w with heap:=w.heap.setIfInBounds r o}) ⟨bC _,rfl⟩ ?_ (λj=>⟨j.push ⟨.obj r,aq,o.isChan⟩,?_,λB _ _=>?_⟩) (C _ _ hm.rel (i.put r (fF g)) (z.put ⟨x,E,vD⟩ (fF g)))
   ·simp only[Sem.run,E];cases x<;>first|rfl|exact absurd ⟨_,_,_,rfl⟩ I
   ·simp only[dD,E];cases x<;>first|rfl|exact absurd ⟨_,_,_,rfl⟩ I
   ·have Y:(w.tp B).heap[r]? =aa x:=E;simp only[dD,Y];cases x<;>first|rfl|exact absurd ⟨_,_,_,rfl⟩ I
 |@choose ρ K q k G _ C=>
  intro w A d i z
  by_cases V:q.forced=aq
  ·exact dY.step (s1:=k 0) (.refl w) (by simp only[Sem.run,V,cS]) (λj=>⟨j,by simp only[dD,V,cS],λB _ _=>by simp only[dD,V,cS]⟩) (C 0 w A d i z)
  ·have hm:=cm.draw d;refine dY.step (s1:=k (q.cut (w.tape w.drawn q))) (w1:={w with drawn:=w.drawn+1}) ⟨kr _,rfl⟩ (by simp only[Sem.run,V,dQ,eR]) (λj=>⟨j,by simp only[dD,V,dQ,eR],λB hA g=>?_⟩) (C _ _ _ hm.rel i z);have e:B w.drawn q=w.tape w.drawn q:=hA _ _ (bC _) (dy (yx _) g.drawn);simp only[dD,V,dQ,eR,e]
 |@program ρ K k G _ C=>
  intro w A d i z;exact dY.step (s1:=k p) (.refl w) rfl (λj=>⟨j,rfl,λB _ _=>rfl⟩) (C w A d i z)
 |@env ρ K k G _ C=>
  intro w A d i z;exact dY.step (s1:=k (.strings w.os.env)) (.refl w) rfl (λj=>⟨_,rfl,λB _ _=>rfl⟩) (C _ w A d i z)
 |@noRoom ρ K k G _ C=>
  intro w A d i z;exact dY.step (s1:=k) (.refl w) rfl (λj=>⟨_,rfl,λB _ _=>rfl⟩) (C w A d i z)
 |panic h=>exact λw A _ _ _=>aD ⟨.refl w,λ_ _ _=>rfl⟩
 |lost h=>exact λw A _ _ _=>aF ⟨_,w,rfl,h⟩
 |vi h=>
  intro w A _ _ _;obtain⟨x,w1,e,E⟩:=h w;exact aF ⟨x,w1,e,E⟩
 |assume _ C=>exact λw A d i z=>C ⟨d.one,d.low,d.os.2⟩ w A d i z
 |@number ρ K r Z k G hr _ _ W an=>
  intro w A d i z;obtain⟨o,g⟩:∃o,w.heap[r]? =aa o:=⟨_,cL (d.lt _ _ hr).1⟩;rcases d.obj _ _ _ hr g with rfl|⟨T,ak,L⟩
  ·have D:∀a l,bZ≠.number a l:=λa l e=>by cases e
   refine dY.step (s1:=k ay) (.refl w) (by rw[iu,Fc g D];rfl) (λj=>?_) (W w A d i z);obtain⟨y,J⟩:=RJ (p:=p) (r:=r) D j;exact⟨y,by rw[dI,J w g],λB _ _=>by rw[dI,J (w.tp B) g]⟩
  ·by_cases D:∃a l,o=.number a l
   ·obtain⟨a,l,rfl⟩:=D;cases L with
    |@number _ N _ H=>
     refine dY.step (s1:=k (aa (a,l))) (.refl w) (by rw[iu,RK g];rfl) (λj=>?_) (an a N l H w A d (i.and g (by intro e;cases e)) z);obtain⟨y,J⟩:=U5 (p:=p) (r:=r) (a:=a) (l:=l) j;exact⟨y,by rw[dI,J w g],λB _ _=>by rw[dI,J (w.tp B) g]⟩
   ·refine dY.step (s1:=k ay) (.refl w) (by rw[iu,Fc g (λa l e=>D ⟨a,l,e⟩)];rfl) (λj=>?_) (W w A d i z);obtain⟨y,J⟩:=RJ (p:=p) (r:=r) (λa l e=>D ⟨a,l,e⟩) j;exact⟨y,by rw[dI,J w g],λB _ _=>by rw[dI,J (w.tp B) g]⟩
 |@icy ρ K a N k G H _ C=>
  intro w A d i z;exact dY.step (s1:=k (w.frozen? a)) (.refl w) rfl (λj=>⟨j,rfl,λB _ _=>rfl⟩) (C _ w A d i z)
 |@kin ρ K a N b b' k G H hb _ C=>
  intro w A d i z;have e:(Ic a b).run p w=.ok (sn w a b) w:=by rw[<-iW p _ w #[],BE]
  exact dY.step (s1:=k (sn w a b)) (.refl w) (by rw[iu,e];rfl) (λj=>⟨j,by rw[dI,BE],λB _ _=>by rw[dI,BE];rfl⟩) (C _ w A d i z)
 |@Bl ρ K r Z k G hr U _ C=>
  intro w A d i z;obtain⟨o,g,aj⟩:=i r U
  by_cases I:∃x t O,o=aA x t O
  ·obtain⟨x,t,O,rfl⟩:=I;exact aF ⟨.stuck "getObj: a row of cells",w,by simp only[Sem.run,g],trivial⟩
  ·rcases d.obj _ _ _ hr g with rfl|⟨T,ak,L⟩
   ·exact absurd rfl aj
   ·refine dY.step (s1:=k o) (.refl w) ?_ (λj=>⟨j.push ⟨.obj r,av,o.isChan⟩,?_,λB _ _=>?_⟩) (C o T L w A d i z)
    ·simp only[Sem.run,g];cases o<;>first|rfl|exact absurd ⟨_,_,_,rfl⟩ I
    ·simp only[dD,g];cases o<;>first|rfl|exact absurd ⟨_,_,_,rfl⟩ I
    ·have Y:(w.tp B).heap[r]? =aa o:=g;simp only[dD,Y];cases o<;>first|rfl|exact absurd ⟨_,_,_,rfl⟩ I
 |@ext ρ K f k G _ C=>
  intro w A d i z;exact dY.step (s1:=k) (.refl w) rfl (λj=>⟨_,rfl,λB _ _=>rfl⟩) (C w A d i z)
 |@view ρ K r Z k G hr _ _ W an=>
  intro w A d i z;obtain⟨o,g⟩:∃o,w.heap[r]? =aa o:=⟨_,cL (d.lt _ _ hr).1⟩
  by_cases hv:∃a t,o=.view a t
  ·obtain⟨a,t,rfl⟩:=hv;rcases d.obj _ _ _ hr g with h|⟨T,ak,L⟩
   ·cases h
   ·cases L with
    |@view _ N _ _ H=>
     refine dY.step (s1:=k (aa (a,t))) (.refl w) (by rw[iu,TX g];rfl) (λj=>?_) (an a N t H w A d (i.and g (by intro e;cases e)) z);obtain⟨y,J⟩:=afp (p:=p) (r:=r) (a:=a) (t:=t) j;exact⟨y,by rw[dI,J w g],λB _ _=>by rw[dI,J (w.tp B) g]⟩
  have D:∀a t,o≠.view a t:=λa t e=>hv ⟨a,t,e⟩
  ·refine dY.step (s1:=k ay) (.refl w) (by rw[iu,Gr g D];rfl) (λj=>?_) (W w A d i z);obtain⟨y,J⟩:=afn (p:=p) (r:=r) D j;exact⟨y,by rw[dI,J w g],λB _ _=>by rw[dI,J (w.tp B) g]⟩
end
section
variable [aP]
def qD(v:aE):Prop:=∀a:Ren,VR a v v
def zx:Nat->aE->Bool
 |_,.bool _|_,.int _ _|_,.string _|_,.pointer ay|_,.slice ay _ _|_,.map ay|_,.chan ay|_,.nilFunc|_,.nilIface=>aq
 |n+1,.agg a=>a.all (zx n)
 |n+1,.tuple a=>a.all (zx n)
 |_,_=>av
def DM{xs}(h:∀v∈xs,qD v):qD (.agg xs):=λc=>.agg rfl λi v d a b=>by rw[a]at b;cases b;exact h v (lV a) c
def WC{xs}(h:∀v∈xs,qD v):qD (.tuple xs):=λc=>.tuple rfl λi v d a b=>by rw[a]at b;cases b;exact h v (lV a) c
def Y5:∀(n:Nat) (v:aE),zx n v=aq->qD v:=by
 intro n;induction n with
 |zero=>
  intro v h a;unfold zx at h;split at h<;>first|exact .bool _|exact .int _ _|exact .string _|exact .gQ|exact .gv _ _|exact .mF|exact .nN|exact .nilFunc|exact .nilIface|cases h|contradiction
 |succ n b=>
  intro v h;unfold zx at h;split at h
  all_goals first
   |exact λa=>.bool _
   |exact λa=>.int _ _
   |exact λa=>.string _
   |exact λa=>.gQ
   |exact λa=>.gv _ _
   |exact λa=>.mF
   |exact λa=>.nN
   |exact λa=>.nilFunc
   |exact λa=>.nilIface
   |(rename_i e;cases e;exact DM λv hv=>b v (qw.1 h v hv))
   |(rename_i e;cases e;exact WC λv hv=>b v (qw.1 h v hv))
   |cases h
def Oe{v}(h:qD v):∀x∈v.cells,qD x:=λx b c=>by obtain⟨i,a⟩:=Array.mem_iff_getElem?.1 b;exact(h c).cells.2 i x x a a
def wX(i:kv):Prop:=∀z,i.zero=aa z->qD z
def zT(d:lF)(s:String)(c n){z}(h:qD z):wX (Made.word d s z c n):=λa e=>by cases e;exact h
def PD{α c:Type}{Inv:c->Prop}{f:α->c->aY (ForInStep c)}(hf:∀a s r,Inv s->f a s=aa r->Inv r.value):∀(xs:aB α) (s r:c),Inv s->forIn xs s f=aa r->Inv r
 |[],s,r,d,h=>by simp only[List.forIn_nil]at h;cases h;exact d
 |a::xs,s,r,d,h=>by
  rw[List.forIn_cons]at h;obtain⟨x,g,e⟩:=eN.1 h;have:=hf a s x d g;cases x with
  |done b=>cases e;exact this
  |yield b=>exact PD hf xs b r this e
def aer{k:aW->aY kv}{f:aK Field}{i:kv}(m:∀t j,k t=aa j->wX j)(h:Vi k f=aa i):wX i:=by
 unfold Vi at h;obtain⟨s,g,h⟩:=eN.1 h;rw[<-lg]at g;have o:=PD (Inv:=λs=>∀d:aK aE,s.2.2.2.2.2.2.2.1=aa d->∀v∈d,qD v) (λa s r hI b=>?_) f.toList _ s (λd e v hv=>by cases e;simp at hv) g
 ·dsimp only at h;split at h
  all_goals
   cases h;intro z e;obtain⟨d,b,rfl⟩:=eI.1 e;exact DM (o d b)
 ·obtain⟨j,n,b⟩:=eN.1 b
  have fin:∀{c:Nat} {d:aK aE},(if c>Made.mostCells then ay else do pure ((<-s.2.2.2.2.2.2.2.1)++(<-j.zero).cells))=aa d->∀v∈d,qD v:=λ{c d} e v hv=>by
   split at e
   ·cases e
   ·obtain⟨q,h0,e⟩:=eN.1 e;obtain⟨u,l,e⟩:=eN.1 e;cases e;rcases uj.1 hv with hv|hv
    ·exact hI q h0 v hv
    ·exact Oe (m _ _ n u l) v hv
  dsimp only at b;split at b
  ·cases b
  ·split at b
   ·cases b
   ·split at b
    ·obtain⟨p,_,b⟩:=eN.1 b;split at b<;>(cases b;exact λd e=>fin e)
    ·obtain⟨p,_,b⟩:=eN.1 b;split at b<;>(cases b;exact λd e=>fin e)
def aas{c:aW->aY kv}(b:∀t j,c t=aa j->wX j){d:lF}{i:kv}(h:kq c d=aa i):wX i:=by
 unfold kq at h;cases d with
 |pointer e=>
  obtain⟨j,_,h⟩:=eN.1 h;split at h
  ·cases h
  ·split at h
   ·cases h
   ·obtain⟨s,_,h⟩:=eN.1 h;cases h;exact zT _ _ _ _ λ_=>.gQ
  ·obtain⟨s,_,h⟩:=eN.1 h;cases h;exact zT _ _ _ _ λ_=>.gQ
 |slice e=>
  obtain⟨j,_,h⟩:=eN.1 h;obtain⟨s,_,h⟩:=eN.1 h;cases h;exact zT _ _ _ _ λ_=>.gv _ _
 |map k e=>
  obtain⟨j,_,h⟩:=eN.1 h;obtain⟨s,_,h⟩:=eN.1 h;obtain⟨j,_,h⟩:=eN.1 h;obtain⟨s,_,h⟩:=eN.1 h;cases h;exact zT _ _ _ _ λ_=>.mF
 |chan m e=>
  obtain⟨j,_,h⟩:=eN.1 h;obtain⟨s,_,h⟩:=eN.1 h;cases h;exact zT _ _ _ _ λ_=>.nN
 |func p q v=>
  obtain⟨s,_,h⟩:=eN.1 h;cases h;exact zT _ _ _ _ λ_=>.nilFunc
 |array n e=>
  obtain⟨j,f,h⟩:=eN.1 h;obtain⟨s,_,h⟩:=eN.1 h;cases h;intro z a;dsimp only at a;split at a
  ·cases a
  ·split at a
   ·cases a;exact DM λv hv=>by simp at hv
   ·obtain⟨l,h0,rfl⟩:=eI.1 a;refine DM λv hv=>?_;obtain⟨x,g,hv⟩:=Array.mem_flatten.1 hv;obtain rfl:=Array.eq_of_mem_replicate g;exact Oe (b _ _ f l h0) v hv
 |struct o=>exact aer b h
 |_=>cases h
def Md(P:aZ):Bool:=P.types.all λi=>match i.zero with|some z=>zx 16 z|none=>aq
def age{P}(h:Md P=aq):mU P:=by
 have c:∀{t:aW} {i:kv},P.types[t]? =aa i->wX i:=λ{t i} k z b=>by have:=qw.1 h i (lV k);rw[b]at this;exact Y5 16 z this
 have m:∀(n:Nat) (t:aW) (i:kv),sw P.toTables n t=aa i->wX i:=by
  intro n;induction n with
  |zero=>intro t i h;cases h
  |succ n l=>
   intro t i h;unfold sw at h;split at h
   ·exact c h
   ·obtain⟨d,_,f⟩:=eN.1 h;exact aas (λt j g=>l t j g) f
 intro t i z a b e;unfold HS at a;split at a
 ·exact c a z b e
 ·exact m _ _ _ a z b e
end
def C9{p s c}(f fn)(hn:c.program=p.name)(hs:c.sum=p.sum)(aL:c.spec=s.name)(e:c.start=.entering)(g:c.outside=[])(aj:c.inits=[])(aO:c.under=ay)(ah:c.initsInPlace=[]/\c.initsUnfollowed=av/\c.initsRecurse=av/\c.initsNamed=[]/\c.initsPassed=[])(t:c.noBlocks=av)(an:c.leaving=aq)(j:c.followed=ay)(aH:c.narrowed=s.cond.isSome)(aM:c.still=av)(af:p.checked.prog.funcNamed c.func=aa f)(hf:p.checked.prog.funcs[f]? =aa fn)(closed:joinedFacts p.checked.prog f fn s.bare c=aq)(ak:fn.isInstance p.checked.prog c.origin c.targs)(aP:fn.isWrapper p.checked.prog c.wrapper c.mainSum)(h:∀os:Os,os.Started->∀(H:Type) (d:aW×aE->H),(∀a b,d a=d b->a=b)->∀F:Stop.Interp,
   ReturnsInLeavingWide c.assume p.checked os f .any (c.pre d p.checked.prog fn s) ((s.at F).post d p.checked.prog fn c.apart c.fresh c.handsOn c.again)):c.holds p s:=by
 simp only[joinedFacts,cM,wJ,qw,nF,uD]at closed;obtain⟨⟨⟨⟨⟨⟨⟨⟨⟨⟨⟨⟨⟨⟨⟨⟨⟨⟨⟨⟨⟨⟨⟨⟨⟨⟨⟨⟨⟨⟨⟨w,K⟩,V⟩,W⟩,X⟩,o⟩,Y⟩,Z⟩,i⟩,x⟩,y⟩,z⟩,A⟩,B⟩,C⟩,D⟩,E⟩,G⟩,I⟩,J⟩,L⟩,M⟩,N⟩,l⟩,O⟩,m⟩,P⟩,Q⟩,R⟩,S⟩,T⟩,U⟩:=closed;have told:c.startTold p.checked.prog:=by unfold OpenClaim.startTold;rw[e];exact⟨aj,aO,ah⟩
 have fits:c.startFits p.checked.prog:=by unfold OpenClaim.startFits;rw[e];exact m
 have calm:∀os:Os,Stop.quiet p.checked.prog os:=λos k r=>by rw[i]at r;cases r
 refine⟨w,hn,hs,aL,K,V,fits,told,f,fn,af,hf,⟨W,J⟩,λq=>by(rw[t]at q;cases q),by(unfold OpenClaim.namedList;rw[j];exact X),ak,aP,
  o.trans Y.symm,⟨Z.trans i.symm,by(unfold Program.envWorded;rw[i];rfl),O⟩,x,y,z,A,B,⟨C,T,U⟩,⟨D,L⟩,⟨E,M,R,S⟩,⟨N,P,Q,G⟩,
  ?_,λn aG=>varReadable_some (I n aG),⟨_,by(unfold Vo;rw[g,e];exact WideRow.started_initial),calm _⟩,[],by(unfold OpenClaim.lists;rw[j]),λos st _ H d aR=>?_⟩
 ·rw[g,aH];cases aJ:c.shortTexts with
  |none=>simp
  |some _=>rw[aJ]at l;cases l
 ·have aS:os.Started:=by unfold Vo at st;rw[g,e]at st;exact st
  have key:=λF=>h os aS H d aR F m;rw[OpenClaim.post_not_still aM];unfold OpenClaim.form;rw[e,o];intro F;have a1:c.okInput=Input.okWide:=by unfold OpenClaim.okInput;rw[t]
  have u:c.atReturn p.checked.prog=leavingAtReturn p.checked.prog:=by unfold OpenClaim.atReturn;rw[an]
  have a3:c.always p.checked.prog []=nothingAlways:=by unfold OpenClaim.always;rw[j]
  have v:s.post d p.checked.prog fn F c.outside c.apart c.fresh c.handsOn c.again=(s.at F).post d p.checked.prog fn c.apart c.fresh c.handsOn c.again:=by rw[g];rfl
  rw[a1,u,a3];show ReturnsInOpen _ _ _ _ _ _ _ _ (s.post d p.checked.prog fn F c.outside c.apart c.fresh c.handsOn c.again) _ _;rw[v];exact key F
end
section
open Go.Conc
def zo:Op->Bool
 |.defer _=>av
 |_=>aq
def qW(P:aZ)(l:aB bN)(r:Bool)(o:Op):Bool:=okB P l o&&(!r||zo o)
def zO(P:aZ)(l:aB bN)(o:kU):Bool:=match o.op with
 |.call c=>(match c.callee,c.args.toList with
  |.builtin .unsafeSliceData,[x]=>cQ l x&&(match P.underlying o.type with|some (.pointer e)=>FK P e|_=>av)
  |.value (.func f),[x]=>cQ l x&&ze P f
  |_,_=>av)
 |_=>av
def sx(P:aZ)(l:aB bN)(r:Bool)(o:kU):Bool:=qW P l r o.op||zO P l o
def TP(P:aZ)(l:aB bN)(h j k:kU):Bool:=match h.op,j.op,k.op with
 |.convert s d x,.call c,.convert m o y=>(match c.callee,c.args.toList,h.dst,j.dst,y with
   |.value (.func f),[.tmp a],aa b,aa e,.tmp g=>a==b&&e==g&&ze P f&&(match P.funcs[f]? with|some n=>n.name== "internal/abi.NoEscape" |none=>av)
   |_,_,_,_,_=>av)
  &&d==m&&s==o&&cQ l x&&(match P.underlying s,P.underlying d with|some (.pointer t),aa .unsafePointer=>FK P t&&(match P.info? t with|some i=>i.size !=0|none=>av)|_,_=>av)
  &&h.guard.isNone&&j.guard.isNone&&k.guard.isNone
 |_,_,_=>av
def spB(P:aZ)(l:aB bN)(ops:aK kU):Bool:=match ops.toList with
 |[a,b,c,d,e,f,g,h]=>qW P l aq a.op&&qW P l aq b.op&&qW P l aq f.op&&qW P l aq g.op&&qW P l aq h.op&&TP P l c d e
 |_=>av
def Kg(s:String):Bool:=match s.toList with
 |[]=>aq
 |c::_=>c.toNat==120
def eK(P:aZ)(l:aB bN):Bool->jV->Bool
 |_,.skip|_,.exit _|_,.ret=>aq
 |r,.region _ d dr=>(d.all (sx P l r))||(!dr&&spB P l d)
 |r,.seq a b=>eK P l r a&&eK P l r b
 |r,.cond c a b=>cQ l c&&eK P l r a&&eK P l r b
 |r,.block _ b=>eK P l r b
 |r,.loop b=>eK P l r b
 |_,.rangeFunc f _ a b=>cQ l f&&eK P l aq a&&eK P l aq b
 |_,.refuse s=>!Kg s
 |_,.scope _|_,.label _|_,.goto _=>av
def zv{P l r o}(h:qW P l aq o=aq):qW P l r o=aq:=by
 unfold qW at h⊢;cases r
 ·simp at h;simp[h.1]
 ·exact h
def V4{P l r o}(h:sx P l aq o=aq):sx P l r o=aq:=by unfold sx at h⊢;rw[qx]at h⊢;exact h.imp zv id
def xD{P l r}:∀{c:jV},eK P l aq c=aq->eK P l r c=aq
 |.skip,_|.exit _,_|.ret,_=>by cases r<;>rfl
 |.refuse _,h=>h
 |.region _ d dr,h=>by
  have h:(d.all (sx P l aq)||(!dr&&spB P l d))=aq:=h;show(d.all (sx P l r)||(!dr&&spB P l d))=aq;rw[qx]at h⊢;rcases h with h|h
  ·left;rw[qw]at h⊢;exact λo e=>V4 (h o e)
  ·exact aD h
 |.seq a b,h=>by simp only[eK,cM]at h⊢;exact⟨xD h.1,xD h.2⟩
 |.cond c a b,h=>by simp only[eK,cM]at h⊢;exact⟨⟨h.1.1,xD h.1.2⟩,xD h.2⟩
 |.block _ b,h=>by simp only[eK]at h⊢;exact xD h
 |.loop b,h=>by simp only[eK]at h⊢;exact xD h
 |.rangeFunc f _ a b,h=>by simp only[eK]at h⊢;exact h
 |.scope _,h|.label _,h|.goto _,h=>by simp[eK]at h
class bw where
 wall:String->ir
 good:∀s,(∃c,wall s=.code c)\/∃c,wall s=.inLoop c
section
variable [aP] [bw]
structure Fit(P:aZ)(l:aB bN):Prop where
 zeros:mU P
 fns:yO P
 ok:∀f,aP.ok f↔l.contains f=aq
 code:∀c,aP.code c↔eK P l aq c=aq
 body:∀f,l.contains f=aq->∃fn c,P.funcs[f]? =aa fn/\fn.body=aa c/\eK P l av c=aq
 inits:∀f,aP.known f->P.inits.idxOf? f=ay
 known:∀f,aP.known f->∃fn c,P.funcs[f]? =aa fn/\fn.body=aa c
 U8:∀f,aP.ok f->aP.known f
 prog:P=aP.prog
inductive IR(P:aZ)(l:aB bN)(ρ:Ren)(r:Bool):ir->ir->Prop
 |code {c:jV} (h:eK P l r c=aq):IR P l ρ r (.code c) (.code c)
 |inBlock (id:Nat):IR P l ρ r (.inBlock id) (.inBlock id)
 |inLoop {b:jV} (h:eK P l r b=aq):IR P l ρ r (.inLoop b) (.inLoop b)
 |inRegion {ops:aK kU} (todo:aB Nat) (h:ops.all (sx P l r)=aq):IR P l ρ r (.inRegion ops todo) (.inRegion ops todo)
 |spec {ops:aK kU} (n:Nat) (h:spB P l ops=aq):IR P l ρ r (.inRegion ops ((eF ops.size).drop n)) (.inRegion ops ((eF ops.size).drop n))
 |inRangeFunc {n a:Nat} (h:ρ n a):IR P l ρ r (.inRangeFunc n) (.inRangeFunc a)
 |endRangeFunc {n a:Nat} (h:ρ n a):IR P l ρ r (.endRangeFunc n) (.endRangeFunc a)
 |beginRound:IR P l ρ r .beginRound .beginRound
 |stop (s:String):IR P l ρ r (.code (.refuse s)) (bw.wall s)
def rS(ρ:Ren)(e a:zL):Prop:=VR ρ e.v a.v/\a.recovered=e.recovered/\e.goexit=av/\a.goexit=av
inductive pV(ρ:Ren):py->py->Prop
 |run:pV ρ .run .run
 |returning:pV ρ .returning .returning
 |panicking {c a:aB zL} (h:dh (rS ρ) c a):pV ρ (.panicking c) (.panicking a)
structure cC(P:aZ)(l:aB bN)(ρ:Ren)(fr a:aU):Prop where
 fn:a.fn=fr.fn
 ok:aP.known fr.fn
 tmps:bM ρ fr.tmps a.tmps
 todo:dh (IR P l ρ fr.roundOf.isSome) fr.todo a.todo
 defers:dh (DR ρ) fr.defers a.defers
 mode:pV ρ fr.mode a.mode
 kind:a.kind=fr.kind
 kinds:fr.kind=.normal\/fr.kind=.deferred
 round:wT ρ fr.roundOf a.roundOf
def dh.mono{α e:Type}{R S}(h:∀a b,R a b->S a b){x:aB α}{y:aB e}(k:dh R x y):dh S x y:=by
 induction k with
 |nil=>exact .nil
 |cons c _ d=>exact .cons (h _ _ c) d
def dh.append{α c:Type}{R x}{y:aB c}{a:aB α}{b:aB c}(k:dh R x y)(f:dh R a b):dh R (x++a) (y++b):=by
 induction k with
 |nil=>exact f
 |cons d _ e=>exact .cons d e
def IR.mono{P l ρ σ r}(g:ρ.le σ){a b}(h:IR P l ρ r a b):IR P l σ r a b:=by
 cases h with
 |code h=>exact .code h
 |inBlock id=>exact .inBlock id
 |inLoop h=>exact .inLoop h
 |inRegion t h=>exact .inRegion t h
 |spec n h=>exact .spec n h
 |inRangeFunc h=>exact .inRangeFunc (g _ _ h)
 |endRangeFunc h=>exact .endRangeFunc (g _ _ h)
 |beginRound=>exact .beginRound
 |stop s=>exact .stop s
def rS.mono{ρ σ}(g:ρ.le σ){a b}(h:rS ρ a b):rS σ a b:=⟨h.1.mono g,h.2⟩
def pV.mono{ρ σ}(g:ρ.le σ){a b:py}(h:pV ρ a b):pV σ a b:=by
 cases h with
 |run=>exact .run
 |returning=>exact .returning
 |panicking h=>exact .panicking (h.mono λ_ _=>rS.mono g)
def wT.mono{ρ σ}(g:ρ.le σ){a b}(h:wT ρ a b):wT σ a b:=by
 cases h with
 |none=>exact .none
 |some h=>exact .some (g _ _ h)
def cC.mono{P l}{ρ c:Ren}(g:ρ.le c){a b:aU}(h:cC P l ρ a b):cC P l c a b:=
 ⟨h.fn,h.ok,h.tmps.mono g,h.todo.mono λ_ _=>IR.mono g,h.defers.mono λ_ _=>DR.mono g,h.mode.mono g,h.kind,h.kinds,h.round.mono g⟩
def cC.eval{P l ρ fr fr'}(h:cC P l ρ fr fr')(e:∀f,l.contains f=aq->aP.ok f):Reads l ρ fr.eval fr'.eval:=by
 intro x c;cases x with
 |tmp t=>
  show VR ρ (fr.tmps.getD t au) (fr'.tmps.getD t au)
  by_cases a:t<fr.tmps.size
  ·have b:t<fr'.tmps.size:=by rw[h.tmps.1];exact a
   simp;exact h.tmps.2 t _ _ (by simp[a]) (by simp[b])
  ·have b:¬t<fr'.tmps.size:=by rw[h.tmps.1];exact a
   simp only[wj,a,b,hO,Ig];exact .tuple rfl (λi v d hv=>by simp at hv)
 |const v=>exact Sa c ρ
 |global g=>cases c
 |func f=>exact .func (.func f (e f c)) rfl (λi v d hv=>by simp at hv) rfl (λi v d hv=>by simp at hv)
def sF(ρ):VR ρ au au:=.tuple rfl (λi v a hv=>by simp at hv)
def cC.finish{P l ρ fr fr'}(h:cC P l ρ fr fr'){v v'}(hv:VR ρ v v'):cC P l ρ (fr.finish v) (fr'.finish v'):=by
 have h0:=h;obtain⟨m,o,g,b,p,q,r,t,u⟩:=h;unfold Frame.finish;revert b;cases E:fr.todo with
 |nil=>intro b;cases z:fr'.todo with
  |nil=>exact h0
  |cons a k=>rw[z]at b;cases b
 |cons i k=>
  intro b;cases y:fr'.todo with
  |nil=>rw[y]at b;cases b
  |cons F G=>
   rw[y]at b;cases b with
   |cons B w=>
    cases B with
    |@inRegion f D x=>
     cases D with
     |nil=>exact h0
     |cons j rest=>
      refine⟨m,o,?_,.cons (.inRegion rest x) w,p,q,r,t,u⟩;show bM ρ (match(f[j]?).bind (·.dst)with|some d=>fr.tmps.setIfInBounds d v|none=>fr.tmps) (match(f[j]?).bind (·.dst)with|some d=>fr'.tmps.setIfInBounds d v'|none=>fr'.tmps);cases (f[j]?).bind (·.dst)with
      |none=>exact g
      |some d=>exact g.set hv d
    |@spec f n x=>
     cases A:(eF f.size).drop n with
     |nil=>exact h0
     |cons j rest=>
      have hr:rest=(eF f.size).drop (n+1):=by rw[<-List.tail_drop,A];rfl
      refine⟨m,o,?_,.cons (by rw[hr];exact .spec (n+1) x) w,p,q,r,t,u⟩;show bM ρ (match(f[j]?).bind (·.dst)with|some d=>fr.tmps.setIfInBounds d v|none=>fr.tmps) (match(f[j]?).bind (·.dst)with|some d=>fr'.tmps.setIfInBounds d v'|none=>fr'.tmps);cases (f[j]?).bind (·.dst)with
      |none=>exact g
      |some d=>exact g.set hv d
    |inRangeFunc C=>exact⟨m,o,g,.cons (.endRangeFunc C) w,p,q,r,t,u⟩
    |beginRound=>exact⟨m,o,g,w,p,q,r,t,u⟩
    |stop s=>rcases bw.good s with⟨c,e⟩|⟨c,e⟩<;>(rw[e];exact h0)
    |_=>exact h0
def cC.raise{P l}{ρ:Ren}{fr a:aU}(h:cC P l ρ fr a){c m:aB zL}(hc:dh (rS ρ) c m):cC P l ρ (fr.raise c) (a.raise m):=by
 obtain⟨f1,f2,f3,f4,f5,f6,f7⟩:=fr;obtain⟨o,p,q,r,s,t,u⟩:=a;obtain⟨b,d,e,f,g,n,i,j,k⟩:=h;unfold Frame.raise;simp only at n⊢;cases n with
 |run=>exact⟨b,d,e,f,g,.panicking hc,i,j,k⟩
 |returning=>exact⟨b,d,e,f,g,.panicking hc,i,j,k⟩
 |panicking hm=>exact⟨b,d,e,f,g,.panicking (hc.append hm),i,j,k⟩
end
section
variable [aP] [bw] {S:Nat->Prop}
def Still(base:aB aU):Prop:=∀b∈base,b.mode=.run\/b.mode=.panicking [AG]
def aen:Still []:=λ_ h=>by cases h
def Still.recover:∀{base:aB aU},Still base->∀a,tryRecover a base=ay
 |[],_,a=>by unfold tryRecover;cases a.kind<;>rfl
 |b::rest,h,a=>by
  unfold tryRecover;have hr:Still rest:=λx c=>h x (by simp[c]);cases a.kind with
  |deferred=>rcases h b aC with hm|hm<;>simp only[hm,AG]
  |wrapped=>simp only[Still.recover hr b];rfl
  |_=>rfl
def Still.loop:∀{base:aB aU},Still base->∀n,tryRecoverLoop n base=ay
 |[],_,_=>rfl
 |b::rest,h,n=>by
  have hr:Still rest:=λx a=>h x (by simp[a]);unfold tryRecoverLoop;split
  ·simp only[Still.loop hr];rfl
  ·split
   ·simp only[Still.recover hr];rfl
   ·simp only[Still.loop hr];rfl
  ·simp only[Still.loop hr];rfl
def NF(bl:aB aU)(g:bQ):Prop:=∃b rest,bl=b::rest/\(g=G b rest\/(∃v,g=G (b.finish v) rest)\/∃c,g=G (b.raise c) rest)
def oG(fr:aU):Prop:=fr.mode=.run/\∃a j rest k,fr.todo=.inRegion a (j::rest)::k
def Dr(P:aZ)(bl:aB aU)(g:bQ)(u:az):Prop:=NF bl g\/∀n a cs w,runN P n (solo g u)=.next (lone a (cs++bl) w)->oG a
def AV(u:az)(sL:(Nat->lE->Nat)->HL)(mk:az->HL)(u1:az):Prop:=kG u u1/\∀a,kA a u.tape u.drawn u1.drawn->sL a=mk (u1.tp a)
def SG(S:Nat->Prop)(P:aZ)(l:aB bN)(ρ:Ren)(bl base:aB aU)(u w:az)(s:HL)(sL:(Nat->lE->Nat)->HL)(s':HL):Prop:=
 match s with
 |.go a u1 j=>Dr P bl a u1\/∃h d σ i f w1 g,a=G h (d++bl)/\s'=.go (G i (f++base)) w1 g/\cC P l σ h i/\dh (cC P l σ) d f/\cm P ρ σ u u1 w w1/\Whole S σ u1/\(∀e∈g,gX S σ e)/\AV u sL (λx=>.go a x j) u1
 |.comm a cs b sh u1 j=>∃h d σ i f c k w1 g,a=G h (d++bl)/\cs=#[c]/\b=av/\sh=.select/\s'=.comm (G i (f++base)) #[k] av .select w1 g/\CR σ c k/\cC P l σ h i/\dh (cC P l σ) d f/\cm P ρ σ u u1 w w1/\Whole S σ u1/\(∀e∈g,gX S σ e)/\AV u sL (λx=>.comm a cs b sh x j) u1
 |.ended _ _ _=>True
 |_=>False
section
variable {P:aZ} {l:aB bN} {ρ σ:Ren} {bl base:aB aU} {u w u1 w1:az} {s s':HL} {sL sL1:(Nat->lE->Nat)->HL}
def AV.trans{mk u2}(b:kG u u1)(d:∀a,kA a u.tape u.drawn u1.drawn->sL a=sL1 a)(h:AV u1 sL1 mk u2):AV u sL mk u2:=
 ⟨b.trans h.1,λa c=>(d a (c.sub (bC _) h.1.drawn)).trans (h.2 a (by rw[b.tape];exact c.sub b.drawn (bC _)))⟩
def abR(hm:cm P ρ σ u u1 w w1)(B:kG u u1)(C:∀a,kA a u.tape u.drawn u1.drawn->sL a=sL1 a)(h:SG S P l σ bl base u1 w1 s sL1 s'):SG S P l ρ bl base u w s sL s':=by
 cases s with
 |go g v e=>
  rcases h with h|h
  ·exact aF h
  obtain⟨j,d,a,k,f,A,i,m,n,p,q,r,t,y,z⟩:=h;exact aD ⟨j,d,a,k,f,A,i,m,n,p,q,hm.trans r,t,y,z.trans B C⟩
 |comm g x b sh v e=>
  obtain⟨j,d,a,k,f,c,D,A,i,m,n,p,q,r,t,y,z,H,E,F,G⟩:=h;exact⟨j,d,a,k,f,c,D,A,i,m,n,p,q,r,t,y,z,hm.trans H,E,F,G.trans B C⟩
 |ended o v e=>trivial
 |_=>exact h
def abM(es d)(he:∀e∈d,gX S ρ e)(h:SG S P l ρ bl base u w s sL s'):SG S P l ρ bl base u w (jX es s) (λa=>jX es (sL a)) (jX d s'):=by
 cases s with
 |go g v e=>
  rcases h with h|h
  ·exact aF h
  obtain⟨m,j,a,n,k,B,x,p,q,r,t,f,y,z,i⟩:=h;subst q;refine aD ⟨m,j,a,n,k,B,d++x,p,rfl,r,t,f,y,λe hx=>?_,i.1,λa A=>by(simp only[i.2 a A];rfl)⟩;rcases uj.1 hx with hx|hx
  ·exact(he e hx).mono f.le
  ·exact z e hx
 |comm g x b sh v e=>
  obtain⟨m,j,a,n,k,c,E,B,x,p,q,r,t,f,y,z,i,D,F,G,C⟩:=h;subst f;refine⟨m,j,a,n,k,c,E,B,d++x,p,q,r,t,rfl,y,z,i,D,F,λe hx=>?_,C.1,λa A=>by(simp only[C.2 a A];rfl)⟩;rcases uj.1 hx with hx|hx
  ·exact(he e hx).mono D.le
  ·exact G e hx
 |ended o v e=>trivial
 |_=>exact h.elim
def SQ{eX vm gZ rV}(es a)(he:∀e∈a,gX S σ e)(c:cC P l σ eX vm)(d:dh (cC P l σ) gZ rV)(f:cm P ρ σ u u1 w w1)(g:Whole S σ u1)(h:kG u u1)(i:∀b,kA b u.tape u.drawn u1.drawn->sL b=.go (G eX (gZ++bl)) (u1.tp b) es):
  SG S P l ρ bl base u w (.go (G eX (gZ++bl)) u1 es) sL (.go (G vm (rV++base)) w1 a):=aD ⟨eX,gZ,σ,vm,rV,w1,a,rfl,rfl,c,d,f,g,he,h,i⟩
def dj{eX vm gZ rV}(f:WR P ρ u w)(d:Whole S ρ u)(b:cC P l ρ eX vm)(c:dh (cC P l ρ) gZ rV)(e:∀a,sL a=.go (G eX (gZ++bl)) (u.tp a)):
  SG S P l ρ bl base u w (.go (G eX (gZ++bl)) u) sL (.go (G vm (rV++base)) w):=SQ #[] #[] aC b c (cm.refl f) d (.refl u) (λa _=>e a)
def xA{σ x}(h:gw S σ #[] x):∀e∈x,gX S σ e:=by obtain⟨y,rfl,a⟩:=h;simpa using a
def FL{σ x}(f)(h:∀e∈x,gX S σ e):∀e∈seen P f x,gX S σ e:=λe a=>h e (mem_seen a)
def Em(a:Fit P l){f}(hf:aP.ok f){x x'}(d:bM ρ x x'){k}(j:k=.normal\/k=.deferred):cC P l ρ (Frame.enter P f x k) (Frame.enter P f x' k):=by
 obtain⟨m,c,e,g,h⟩:=a.body f ((a.ok f).1 hf);refine⟨rfl,a.U8 f hf,?_,?_,.nil,.run,rfl,j,.none⟩
 ·show bM ρ (x++_) (x'++_);rw[d.1];refine d.append ⟨rfl,λi v n hv b=>?_⟩;rw[hv]at b;cases b;rw[Cm]at hv;split at hv
  ·cases hv;exact sF ρ
  ·cases hv
 ·show dh _ [_] [_];simp only[e,qv,g,mO];exact .cons (.code h) .nil
def Sy(c:Fit P l){n n'}(e:ρ n n'){f a b}(h0:aP.known f/\aP.code a/\aP.code b){x x'}(g:bM ρ x x'){k}(d:k=.normal\/k=.deferred):cC P l ρ (Vp n f x a b k) (Vp n' f x' a b k):=
 ⟨rfl,h0.1,g,.cons (.code ((c.code a).1 h0.2.1)) (.cons .beginRound (.cons (.code ((c.code b).1 h0.2.2)) .nil)),.nil,.run,rfl,d,.some e⟩
def Fw{fr fr' cs cs'}(h:cC P l ρ fr fr')(I:dh (cC P l ρ) cs cs')(F:Still bl)(H:Still base):
  (tryRecover fr (cs++bl)=ay/\tryRecover fr' (cs'++base)=ay)\/∃v n c f,tryRecover fr (cs++bl)=aa (v,c++bl)/\tryRecover fr' (cs'++base)=aa (n,f++base)/\VR ρ v n/\dh (cC P l ρ) c f:=by
 have d:=h.kind;rcases h.kinds with h1|h1
 ·rw[h1]at d;refine aF ⟨?_,?_⟩
  ·unfold tryRecover;rw[h1]
  ·unfold tryRecover;rw[d]
 ·rw[h1]at d;cases I with
  |nil=>exact aF ⟨F.recover fr,H.recover fr'⟩
  |@cons a b x y G L=>
   obtain⟨a1,o,a3,p,X,q,r⟩:=a;obtain⟨b1,z,A,B,Y,C,D⟩:=b;obtain⟨M,N,O,Q,R,i,T,U,V⟩:=G;simp only at i;cases i with
   |run=>exact aF ⟨by unfold tryRecover;rw[h1];rfl,by unfold tryRecover;rw[d];rfl⟩
   |returning=>exact aF ⟨by unfold tryRecover;rw[h1];rfl,by unfold tryRecover;rw[d];rfl⟩
   |panicking hm=>
    cases hm with
    |nil=>exact aF ⟨by unfold tryRecover;rw[h1];rfl,by unfold tryRecover;rw[d];rfl⟩
    |@cons e E t W J K=>
     obtain⟨g,Z,e3⟩:=e;obtain⟨d1,d2,d3⟩:=E;obtain⟨p1,j,k,m⟩:=J;simp only at p1 j k m;subst j k m;cases d2 with
     |true=>exact aF ⟨by unfold tryRecover;rw[h1];rfl,by unfold tryRecover;rw[d];rfl⟩
     |false=>
      refine aD ⟨g,d1,⟨a1,o,a3,p,.panicking (⟨g,aq,av⟩::t),q,r⟩::x,⟨b1,z,A,B,.panicking (⟨d1,aq,av⟩::W),C,D⟩::y,by unfold tryRecover;rw[h1];rfl,by unfold tryRecover;rw[d];rfl,p1,.cons ⟨M,N,O,Q,R,.panicking (.cons ⟨p1,rfl,rfl,rfl⟩ K),T,U,V⟩ L⟩
def aat(C:ρ.one){cs cs'}(H:dh (cC P l ρ) cs cs')(D:Still bl)(E:Still base):∀{n q:Nat},ρ n q->
  (tryRecoverLoop n (cs++bl)=ay/\tryRecoverLoop q (cs'++base)=ay)\/∃v f c d,tryRecoverLoop n (cs++bl)=aa (v,c++bl)/\tryRecoverLoop q (cs'++base)=aa (f,d++base)/\VR ρ v f/\dh (cC P l ρ) c d:=by
 induction H with
 |nil=>exact λ_=>aF ⟨D.loop _,E.loop _⟩
 |@cons a b x y B K p=>
  intro n q h
  have j:∀{r t:aY (aE×aB aU)},((r=ay/\t=ay)\/∃v f c d,r=aa (v,c++bl)/\t=aa (f,d++base)/\VR ρ v f/\dh (cC P l ρ) c d)->
    ((r.map λ(v,rest)=>(v,a::rest))=ay/\(t.map λ(v,rest)=>(v,b::rest))=ay)\/∃v f c d,(r.map λ(v,rest)=>(v,a::rest))=aa (v,c++bl)/\(t.map λ(v,rest)=>(v,b::rest))=aa (f,d++base)/\VR ρ v f/\dh (cC P l ρ) c d:=by
   rintro r t (⟨rfl,rfl⟩|⟨v,f,c,d,rfl,rfl,hv,G⟩)
   ·exact aF ⟨rfl,rfl⟩
   ·exact aD ⟨v,f,a::c,b::d,rfl,rfl,hv,.cons B G⟩
  rw[jY,jY];unfold tryRecoverLoop;obtain⟨T,U,V,g,W,X,Y,Z,L⟩:=id B;have hr:=L;revert g;cases N:a.todo with
  |nil=>
   intro g;cases A:b.todo with
   |nil=>exact j (p h)
   |cons i k=>rw[A]at g;cases g
  |cons i k=>
   intro g;cases A:b.todo with
   |nil=>rw[A]at g;cases g
   |cons Q R=>
    rw[A]at g;cases g with
    |cons I O=>
     cases I with
     |@inRangeFunc m M hm=>
      have F:(M==q)=(m==n):=by
       rw[um,wJ,wJ];constructor
       ·rintro rfl;exact C.2 _ _ _ hm h
       ·rintro rfl;exact C.1 _ _ _ hm h
      revert hr;cases a.roundOf with
      |none=>
       intro hr;cases z:b.roundOf with
       |some _=>rw[z]at hr;cases hr
       |none=>
        simp only;rw[F];split
        ·exact j (Fw B K D E)
        ·exact j (p h)
      |some o=>
       intro hr;cases z:b.roundOf with
       |none=>rw[z]at hr;cases hr
       |some o'=>
        rw[z]at hr;cases hr with
        |some J=>
         simp only;rw[F];split
         ·exact j (p J)
         ·exact j (p h)
     |stop s=>rcases bw.good s with⟨c,e⟩|⟨c,e⟩<;>(rw[e];exact j (p h))
     |_=>exact j (p h)
end
end
section
variable [aP] [bw] {S:Nat->Prop}
section
variable {P:aZ} {l:aB bN} {ρ σ:Ren} {bl base:aB aU} {u w u1 w1:az} {K:Kn}
def ij{s s' sL sL1}(hm:cm P ρ σ u u1 w w1)(c:kG u u1)(es a)(d:∀b,kA b u.tape u.drawn u1.drawn->sL b=jX es (sL1 b))(he:∀e∈a,gX S σ e)(h:SG S P l σ bl base u1 w1 s sL1 s'):SG S P l ρ bl base u w (jX es s) sL (jX a s'):=
 abR hm c d (abM es a he h)
def FH{α k:Type}{Q s}{j:Sem k}(h:SR P Q ρ K s j)(e:Own K u)(i:WR P ρ u w)(f:Whole S ρ u){r:tB α}(hr:s.run P u=r)(g:∀x v,r=.halt x v->¬kV x):
  kG u r.world/\∀a,kA a u.tape u.drawn r.world.drawn->s.runT P (u.tp a) #[]=(r.tp a,(s.runT P u #[]).2):=by
 rcases h.loc u w i e f with⟨x,v,b,c⟩|⟨b,c⟩
 ·exact absurd c (g x v (hr.symm.trans b))
 ·rw[hr]at b c;refine⟨b,λa d=>?_⟩;rw[c #[] a d,iW,hr]
def OY{x}(f b)(h:∀e∈x,gX S σ e):∀e∈seen P f (if b=aq then #[]else x),gX S σ e:=by
 intro e a;have:=mem_seen a;split at this
 ·simp at this
 ·exact h e this
def ny{α:Type}(s:Sem α)(u):s.runT P u #[]=(s.run P u,(s.runT P u #[]).2):=by rw[<-iW P s u #[]]
def S6{r x y}(h:dh (IR P l ρ r) x y):(∀d b n s k,x≠.call d b n s::k)/\∀d b n s k,y≠.call d b n s::k:=by
 cases h with
 |nil=>exact⟨λ_ _ _ _ _ e=>(by cases e),λ_ _ _ _ _ e=>(by cases e)⟩
 |cons f _=>
  cases f with
  |stop s=>exact⟨λ_ _ _ _ _ e=>(by cases e),λ_ _ _ _ _ e=>by rcases bw.good s with⟨c,a⟩|⟨c,a⟩<;>(rw[a]at e;cases e)⟩
  |_=>exact⟨λ_ _ _ _ _ e=>(by cases e),λ_ _ _ _ _ e=>(by cases e)⟩
def PX{c c'}(h:dh (rS ρ) c c'):c.dropWhile (!·.goexit)=[]/\c'.dropWhile (!·.goexit)=[]:=by
 induction h with
 |nil=>exact⟨rfl,rfl⟩
 |cons a _ b=>exact⟨by simp only[UU,a.2.2.1,Cs,cS,b.1],by simp only[UU,a.2.2.2,Cs,cS,b.2]⟩
def DG(S:Nat->Prop)(P:aZ)(ρ:Ren)(u w:az)(s a:Sem Next):Prop:=cP S P NR ρ u w #[] (s.run P u) (a.runT P w #[])/\dY P s u
def SR.abV{s s'}(c:SR P NR ρ K s s')(a:Own K u)(d:WR P ρ u w)(b:Whole S ρ u):DG S P ρ u w s s':=⟨c.ud u w #[] d a b,c.loc u w d a b⟩
def J2{s}(f:dY P s u){r:tB Next}(hr:s.run P u=r)(e:∀x v,r=.halt x v->¬kV x):
  kG u r.world/\∀a,kA a u.tape u.drawn r.world.drawn->s.runT P (u.tp a) #[]=(r.tp a,(s.runT P u #[]).2):=by
 rcases f with⟨x,v,b,c⟩|⟨b,c⟩
 ·exact absurd c (e x v (hr.symm.trans b))
 ·rw[hr]at b c;refine⟨b,λa d=>?_⟩;rw[c #[] a d,iW,hr]
def Ll(R:Fit P l)(J:Still bl)(L:Still base){s s'}(V:DG S P ρ u w s s'){fr k:aU}{cs D:aB aU}(h:cC P l ρ fr k)(T:dh (cC P l ρ) cs D):
  SG S P l ρ bl base u w (stepG.apply P aq fr (cs++bl) ay s u) (λd=>stepG.apply P aq fr (cs++bl) ay s (u.tp d)) (stepG.apply P aq k (D++base) ay s' w):=by
 have hr:=V.1;have U:=λ{r:tB Next}=>J2 V.2 (r:=r);obtain⟨hk,ah⟩:=S6 h.todo;generalize A:(λd=>stepG.apply P aq fr (cs++bl) ay s (u.tp d))=sL;unfold stepG.apply;simp only[cS];unfold cP at hr;cases z:s.run P u with
 |ok n u1=>
  obtain⟨p,C⟩:=U z (λx v e=>by cases e);rw[ny s u,z];generalize (s.runT P u #[]).2=H at C;have j:∀d,kA d u.tape u.drawn u1.drawn->s.runT P (u.tp d) #[]=(.ok n (u1.tp d),H):=C;rw[z]at hr;obtain⟨σ,n',w1,x,I,O,hm,m,N⟩:=hr;rw[I];have B:=λ(b:Bool)=>OY (P:=P) k.fn b (xA N);have g:=h.mono hm.le;have o:=T.mono λ_ _=>cC.mono hm.le;cases O with
  |value hv=>exact ij hm p _ _ (λd i=>by rw[<-A];unfold stepG.apply;simp only[cS];rw[j d i];rfl) (B _) (dj hm.rel m (g.finish hv) o λ_=>rfl)
  |skip=>exact ij hm p _ _ (λd i=>by rw[<-A];unfold stepG.apply;simp only[cS];rw[j d i];rfl) (B _) (dj hm.rel m (g.finish (sF σ)) o λ_=>rfl)
  |@enter f x x' Z Q=>
   have Y:cC P l σ (Frame.enter P f x (match fr.todo with|.call _ aq _ _::_=>.wrapped|_=>.normal)) (Frame.enter P f x' (match k.todo with|.call _ aq _ _::_=>.wrapped|_=>.normal)):=by
    split
    ·exact absurd ‹fr.todo=_› (hk _ _ _ _ _)
    ·split
     ·exact absurd ‹k.todo=_› (ah _ _ _ _ _)
     ·exact Em R Z Q (aF rfl)
   exact ij hm p _ _ (λd i=>by rw[<-A];unfold stepG.apply;simp only[cS];rw[j d i];rfl) (B _) (dj (gZ:=_::_) (rV:=_::_) hm.rel m Y (.cons g o) λ_=>rfl)
  |round f a b h0 hl Q=>
   exact ij hm p _ _ (λd i=>by rw[<-A];unfold stepG.apply;simp only[cS];rw[j d i];rfl) (B _) (dj (gZ:=_::_) (rV:=_::_) hm.rel m (Sy R hl h0 Q (aF rfl)) (.cons g o) λ_=>rfl)
  |defer W=>
   refine ij hm p _ _ (λd i=>by rw[<-A];unfold stepG.apply;simp only[cS];rw[j d i];rfl) (B _) (dj hm.rel m (cC.finish ?_ (sF σ)) o λ_=>rfl);exact⟨g.fn,g.ok,g.tmps,g.todo,.cons W g.defers,g.mode,g.kind,g.kinds,g.round⟩
  |recover=>
   have key:∀{r E:aY (aE×aB aU)},((r=ay/\E=ay)\/∃v F c G,r=aa (v,c++bl)/\E=aa (F,G++base)/\VR σ v F/\dh (cC P l σ) c G)->
     SG S P l σ bl base u1 w1 (match r with|some (v,callers)=>.go {frame:=fr.finish v,callers,status:=.running,dying:=ay} u1|none=>.go {frame:=fr.finish .nilIface,callers:=cs++bl,status:=.running,dying:=ay} u1)
      (λd=>match r with|some (v,callers)=>.go {frame:=fr.finish v,callers,status:=.running,dying:=ay} (u1.tp d)|none=>.go {frame:=fr.finish .nilIface,callers:=cs++bl,status:=.running,dying:=ay} (u1.tp d))
      (match E with|some (v,callers)=>.go {frame:=k.finish v,callers,status:=.running,dying:=ay} w1|none=>.go {frame:=k.finish .nilIface,callers:=D++base,status:=.running,dying:=ay} w1):=by
    rintro r E (⟨rfl,rfl⟩|⟨v,F,c,G,rfl,rfl,hv,M⟩)
    ·exact dj hm.rel m (g.finish .nilIface) o λ_=>rfl
    ·exact dj hm.rel m (g.finish hv) M λ_=>rfl
   refine ij hm p _ _ (λd i=>by rw[<-A];unfold stepG.apply;simp only[cS];rw[j d i];rfl) (B _) (key ?_);have t:=g.round;revert t;cases fr.roundOf with
   |none=>
    intro t;cases j:k.roundOf with
    |none=>exact Fw g o J L
    |some _=>rw[j]at t;cases t
   |some n=>
    intro t;cases j:k.roundOf with
    |none=>rw[j]at t;cases t
    |some n'=>
     rw[j]at t;cases t with
     |some O=>
      simp only;split
      ·exact Fw g o J L
      ·exact aat hm.rel.one o J L O
  |comm M=>exact⟨fr,cs,σ,k,D,_,_,w1,_,rfl,rfl,rfl,rfl,rfl,M,g,o,hm,m,λe X=>B (k.kind==.early) e (by simpa using X),p,λd i=>by rw[<-A];unfold stepG.apply;simp only[cS];rw[j d i];rfl⟩
 |halt x u1=>
  rw[z]at hr;cases x with
  |panic v=>
   obtain⟨p,C⟩:=U z (λx v e=>by cases e;exact id);rw[ny s u,z];generalize (s.runT P u #[]).2=H at C;have j:∀d,kA d u.tape u.drawn u1.drawn->s.runT P (u.tp d) #[]=(.halt (.panic v) (u1.tp d),H):=C;obtain⟨σ,F,w1,y,I,hv,hm,m,N⟩:=hr;rw[I];exact ij hm p _ _ (λd i=>by rw[<-A];unfold stepG.apply;simp only[cS];rw[j d i];rfl) (OY (P:=P) k.fn _ (xA N)) (dj hm.rel m ((h.mono hm.le).raise (.cons ⟨hv,rfl,rfl,rfl⟩ .nil)) (T.mono λ_ _=>cC.mono hm.le) λ_=>rfl)
  |stuck _=>rw[ny s u,z];trivial
  |unsupported q=>
   rw[ny s u,z];cases q with
   |initOrder _=>exact hr.elim
   |_=>trivial
  |_=>exact hr.elim
def zE(b:Fit P l)(d:Still bl)(e:Still base){s s'}(g:SR P NR ρ K s s')(a:Own K u)(i:WR P ρ u w)(c:Whole S ρ u){fr fr' cs cs'}(h:cC P l ρ fr fr')(f:dh (cC P l ρ) cs cs'):
  SG S P l ρ bl base u w (stepG.apply P aq fr (cs++bl) ay s u) (λj=>stepG.apply P aq fr (cs++bl) ay s (u.tp j)) (stepG.apply P aq fr' (cs'++base) ay s' w):=
 Ll b d e (g.abV a i c) h f
def SU{main}(E:bl≠[])(D:Still bl)(s:WR P ρ u w)(p:Whole S ρ u){fr fr' cs cs'}(h:cC P l ρ fr fr')(F:dh (cC P l ρ) cs cs'){v v'}(hv:VR ρ v v'):
  SG S P l ρ bl base u w (Di P aq fr (cs++bl) ay v u) (λJ=>Di P aq fr (cs++bl) ay v (u.tp J)) (Di P main fr' (cs'++base) ay v' w):=by
 cases F with
 |nil=>
  cases bl with
  |nil=>exact absurd rfl E
  |cons b rest=>
   have hm:=D b aC;unfold Di;rcases h.kinds with hk|hk
   ·simp only[pI,hk];exact aF (aF ⟨b,rest,rfl,aD (aF ⟨v,rfl⟩)⟩)
   ·rcases hm with hm|hm<;>simp only[pI,hk,hm,AG]<;>exact aF (aF ⟨b,rest,rfl,aF rfl⟩)
 |@cons a b x y q z=>
  unfold Di;have n:=h.kind;rcases h.kinds with hk|hk
  ·rw[hk]at n;simp only[jY,hk,n];exact dj s p (q.finish hv) z λ_=>rfl
  ·rw[hk]at n;simp only[jY,hk,n];refine dj s p ?_ z λ_=>rfl;obtain⟨a1,L,a3,M,N,O,Q⟩:=a;obtain⟨b1,R,T,U,V,W,X⟩:=b;obtain⟨c,d,f,g,i,A,j,k,m⟩:=q;simp only at A⊢;cases A with
   |run=>exact⟨c,d,f,g,i,.run,j,k,m⟩
   |returning=>exact⟨c,d,f,g,i,.returning,j,k,m⟩
   |panicking hm=>
    cases hm with
    |nil=>exact⟨c,d,f,g,i,.panicking .nil,j,k,m⟩
    |@cons e C t t' r o=>
     obtain⟨Y,Z,e3⟩:=e;obtain⟨d1,d2,d3⟩:=C;have G:=r;obtain⟨p1,B,H,I⟩:=r;simp only at p1 B H I;subst B;cases d2 with
     |false=>exact⟨c,d,f,g,i,.panicking (.cons G o),j,k,m⟩
     |true=>
      simp only[(PX o).1,(PX o).2];exact⟨c,d,f,g,i,.returning,j,k,m⟩
def Tp{α:Type}{f f'}(h:∀x σ L,ρ.le σ->SR P VR σ L (f x) (f' x)):∀(xs:aB α) (σ:Ren) (L:Kn),ρ.le σ->SR P (λa y b=>dh (VR a) y b) σ L (xs.mapM f) (xs.mapM f')
 |[],σ,L,_=>.pure .nil
 |x::xs,σ,L,g=>by rw[ux,ux];refine SR.then (h x σ L g) λa M v i c _ hv=>?_;refine SR.then (Tp h xs a M (Ren.le_trans g c)) λj N y b d _ e=>?_;exact .pure (.cons (hv.mono d) e)
def afy{x y}(h:dh (VR ρ) x y):bM ρ x.toArray y.toArray:=by
 have c:y.length=x.length:=by
  induction h with
  |nil=>rfl
  |cons _ _ b=>simp[b]
 refine⟨by simpa using c,?_⟩;induction h with
 |nil=>intro i v d hv;simp at hv
 |cons e _ b=>
  intro i v d hv a;cases i with
  |zero=>simp at hv a;subst hv a;exact e
  |succ i=>exact b (by simpa using c) i v d (by simpa using hv) (by simpa using a)
def Jq{x x'}(h:bM ρ x x')(t):VR ρ (x.getD t au) (x'.getD t au):=by
 by_cases a:t<x.size
 ·have b:t<x'.size:=by rw[h.1];exact a
  simp;exact h.2 t _ _ (by simp[a]) (by simp[b])
 ·have b:¬t<x'.size:=by rw[h.1];exact a
  simp only[wj,a,b,hO,Ig];exact sF ρ
def xO(fn){x x'}(f:bM ρ x x'):SR P VR ρ K (results fn x) (results fn x'):=by
 unfold results;rw[zX,zX];refine SR.then (Q:=bM) ?_ λσ L y h _ _ d=>?_
 ·refine Gb _ _ (Tp (λr σ L g=>?_) _ ρ K (Ren.le_refl _)) λ_ a b _ i=>afy i;cases r with
  |tmp t=>exact .pure ((Jq f t).mono g)
  |cell a t=>exact SR.then (aco ((Jq f a).mono g)) λm M b k _ _ j=>To j t
 ·refine .pure ?_
  by_cases c:y.size=1
  ·have e:h.size=1:=by rw[d.1];exact c
   simp only[c,e,qA];exact d.2 0 _ _ (by simp[c]) (by simp[e])
  ·have e:¬h.size=1:=by rw[d.1];exact c
   simp only[c,e,hO,Ig];exact .tuple d.1 d.2
end
end
section
variable [aP] [bw] {S:Nat->Prop}
section
variable {P:aZ} {ρ σ:Ren} {u w u1 w1:az} {es x:aK iR}
def cP.bind{α n p q:Type}{Q:Ren->α->n->Prop}{R:Ren->p->q->Prop}{s:Sem α}{o:Sem n}{f:α->Sem p}{f':n->Sem q}(h:cP S P Q ρ u w es (s.run P u) (o.runT P w es))
  (k:∀a u1 σ b w1 x,s.run P u=.ok a u1->Q σ a b->cm P ρ σ u u1 w w1->Whole S σ u1->cP S P R σ u1 w1 x ((f a).run P u1) ((f' b).runT P w1 x)):cP S P R ρ u w es ((s.bind f).run P u) ((o.bind f').runT P w es):=by
 cases hr:s.run P u with
 |ok a u1=>
  have h0:=h;rw[hr]at h0;obtain⟨σ,b,w1,x,g,j,c,l,m⟩:=h0;exact cP.step (s1:=f a) (s1':=f' b) c m (by rw[iu,hr];rfl) (by rw[dI,g]) (k a u1 σ b w1 x hr j c l)
 |halt z u1=>
  rw[hr]at h;have e:(s.bind f).run P u=.halt z u1:=by rw[iu,hr];rfl
  rw[e];cases z with
  |panic v=>
   obtain⟨σ,r,w1,x,g,j,c,l,m⟩:=h;exact⟨σ,r,w1,x,by rw[dI,g],j,c,l,m⟩
  |_=>exact h
def dY.bind{α l:Type}{s}{f:α->Sem l}(h:dY P s u)(k:∀a u1,s.run P u=.ok a u1->dY P (f a) u1):dY P (s.bind f) u:=by
 rcases h with⟨x,w1,b,c⟩|⟨b,c⟩
 ·exact aF ⟨x,w1,by rw[iu,b];rfl,c⟩
 ·cases hr:s.run P u with
  |ok a u1=>
   rw[hr]at b c;refine dY.step b (by rw[iu,hr];rfl) (λes=>⟨(s.runT P u es).2,?_,λg e j=>?_⟩) (k a u1 hr)
   ·rw[dI];have:(s.runT P u es).1=.ok a u1:=by rw[iW,hr]
    revert this;cases s.runT P u es with
    |mk r y=>intro this;simp only at this;subst this;rfl
   ·rw[dI,c es g (e.sub (bC _) j.drawn),iW,hr];rfl
  |halt z u1=>
   rw[hr]at b c;refine aD ⟨by rw[iu,hr];exact b,λes g e=>?_⟩;rw[iu,hr]at e;rw[dI,dI,c es g e];have:(s.runT P u es).1=.halt z u1:=by rw[iW,hr]
   revert this;cases s.runT P u es with
   |mk r y=>intro this;simp only at this;subst this;rfl
def xS{t:aW}{d:lF}(h:P.underlying t=aa d)(u es):(underlying t).runT P u es=(.ok d u,es):=by simp only[underlying,jf,bind,cV,dD,h,pure]
def Eh{s d t:aW}(g:P.underlying s=aa (.pointer t))(c:P.underlying d=aa .unsafePointer)(a u es):(convert s d (.pointer (aa a))).runT P u es=((sN a).bind (toRest t)).runT P u es:=by
 have e:∀(f:lF->Sem aE) (u:az) (es:aK iR),((underlying s) >>= f).runT P u es=(f (.pointer t)).runT P u es:=λf u es=>by show((underlying s).bind f).runT P u es=_;rw[dI,xS g]
 have b:∀(f:lF->Sem aE) (u:az) (es:aK iR),((underlying d) >>= f).runT P u es=(f .unsafePointer).runT P u es:=λf u es=>by show((underlying d).bind f).runT P u es=_;rw[dI,xS c]
 unfold convert;rw[e,b];unfold Ac;rw[e,b];rfl
def Eg{s d t:aW}(g:P.underlying s=aa (.pointer t))(c:P.underlying d=aa .unsafePointer)(a u es):(convert d s (.pointer (aa a))).runT P u es=((sN a).bind (yY t)).runT P u es:=by
 have e:∀(f:lF->Sem aE) (u:az) (es:aK iR),((underlying s) >>= f).runT P u es=(f (.pointer t)).runT P u es:=λf u es=>by show((underlying s).bind f).runT P u es=_;rw[dI,xS g]
 have b:∀(f:lF->Sem aE) (u:az) (es:aK iR),((underlying d) >>= f).runT P u es=(f .unsafePointer).runT P u es:=λf u es=>by show((underlying d).bind f).runT P u es=_;rw[dI,xS c]
 unfold convert;rw[b,e];unfold Ac;rw[b,e];rfl
def SV{r}(h:u.heap[r]? =aa bZ):u.shape? r=ay:=by unfold gN;rw[h];rfl
def SX{t:aW}{i:kv}(h:P.info? t=aa i)(u):(sizeOf t).run P u=.ok i.size u:=by simp only[sizeOf,oc,jf,bind,cV,Sem.run,h,pure]
def toRest_poison{t:aW}{i:kv}(h:P.info? t=aa i)(e:i.size≠0){a}(b:u.heap[a.block]? =aa bZ):(toRest t a).run P u=.ok (.pointer (aa a)) u:=by
 have c:(kS a.block).run P u=.ok ay u:=by simp only[kS,shape,getObj,bind,cV,Sem.run,(SV b),b,bZ,pure]
 unfold toRest;show((kS a.block).bind _).run P u=_;rw[iu,c];show((sizeOf t).bind _).run P u=_;rw[iu,SX h];simp only[Vv,e,decide_false,Uw,eR,dQ,pure,Sem.run]
def II{t:aW}{i:kv}(h:P.info? t=aa i)(b:i.size≠0){a}(c:u.heap[a.block]? =aa bZ):∃x,(yY t a).run P u=.halt x u/\kV x:=by unfold yY;refine⟨.unsupported (.unsafePointer "memory that has no shape (a package-level variable that still waits for its initialiser), seen as another type"),?_,trivial⟩;show((sizeOf t).bind _).run P u=_;rw[iu,SX h];simp only[Dq,jf,shape,jv,Vv,bind,cV,Sem.run,(SV c),pure,b,decide_false,Uw,eR,dQ]
def aby{a}(b:u.heap[a.block]? =aa bZ):(sN a).run P u=.ok a u:=by have hv:(viewAt a.block).run P u=.ok ay u:=Gr b (λ_ _ e=>by cases e);unfold sN;show((viewAt a.block).bind _).run P u=_;rw[iu,hv];rfl
section
variable {s d t:aW} {i:kv}
def Ei{s:Sem aE}{s1:Sem aE}(h:∀u es,s.runT P u es=s1.runT P u es):(∀u,s.run P u=s1.run P u):=λu=>by rw[<-iW P s u #[],h,iW]
def dY.congr{α:Type}{s s1:Sem α}(h:∀u es,s.runT P u es=s1.runT P u es)(k:dY P s1 u):dY P s u:=by
 have e:s.run P u=s1.run P u:=by rw[<-iW P s u #[],h,iW]
 rcases k with⟨x,w1,a,b⟩|⟨a,b⟩
 ·exact aF ⟨x,w1,e.trans a,b⟩
 ·exact aD ⟨by rw[e];exact a,λes f c=>by rw[h,h];exact b es f (by rw[<-e];exact c)⟩
def abW(n:P.underlying s=aa (.pointer t))(m:P.underlying d=aa .unsafePointer)(A:uR t)(y:P.info? t=aa i)(B:i.size≠0)(q:WR P ρ u w)(l:Whole S ρ u){a a':fS}(D:AR ρ a a'):
  DG S P ρ u w (do pure (.value (<-convert d s (.pointer (aa a))))) (do pure (.value (<-convert d s (.pointer (aa a'))))):=by
 have p:=(Tt (P:=P) (K:=λ_=>False) D);constructor
 ·refine cP.bind (Q:=VR) ?_ λv u1 σ E w1 x _ hv hm c=>⟨σ,_,w1,x,rfl,.value hv,cm.refl hm.rel,c,.refl _⟩;rw[Ei (Eg n m a),Eg n m a'];refine cP.bind (p.ud u w #[] q (λ_ h=>h.elim) l) λb u1 σ C w1 x _ e hm c=>?_;obtain⟨o,f⟩:∃o,u1.heap[b.block]? =aa o:=⟨_,cL (hm.rel.lt _ _ e.1).1⟩
  by_cases g:o=bZ
  ·subst g;obtain⟨z,j,k⟩:=II y B f;rw[j];exact cP.lost k u1
  ·exact(Ta (K:=λr=>r=b.block) A e rfl).ud u1 w1 x hm.rel (λr hr=>by cases hr;exact⟨o,f,g⟩) c
 ·refine dY.bind (dY.congr (Eg n m a) (dY.bind (p.loc u w q (λ_ h=>h.elim) l) λb u1 hr=>?_)) λv u1 _=>aD ⟨.refl u1,λ_ _ _=>rfl⟩;have h0:=p.ud u w #[] q (λ_ h=>h.elim) l;rw[hr]at h0;obtain⟨σ,C,w1,x,j,e,hm,c,_⟩:=h0;obtain⟨o,f⟩:∃o,u1.heap[b.block]? =aa o:=⟨_,cL (hm.rel.lt _ _ e.1).1⟩
  by_cases g:o=bZ
  ·subst g;obtain⟨z,j,k⟩:=II y B f;exact aF ⟨z,u1,j,k⟩
  ·exact(Ta (K:=λr=>r=b.block) A e rfl).loc u1 w1 hm.rel (λr hr=>by cases hr;exact⟨o,f,g⟩) c
def abX(m:P.underlying s=aa (.pointer t))(l:P.underlying d=aa .unsafePointer)(y:uR t)(D:P.info? t=aa i)(E:i.size≠0)(z:WR P ρ u w)(p:Whole S ρ u){a a':fS}(C:AR ρ a a'):
  DG S P ρ u w (do pure (.value (<-convert s d (.pointer (aa a))))) (do pure (.value (<-convert s d (.pointer (aa a')))))\/
   ∃b u1,(do pure (Next.value (<-convert s d (.pointer (aa a)))):Sem Next).run P u=.ok (.value (.pointer (aa b))) u1/\u1.heap[b.block]? =aa bZ:=by
 have q:=(Tt (P:=P) (K:=λ_=>False) C);have h0:=q.ud u w #[] z (λ_ h=>h.elim) p
 have B:(∃b u1,(sN a).run P u=.ok b u1/\u1.heap[b.block]? =aa bZ)\/∀b u1,(sN a).run P u=.ok b u1->u1.heap[b.block]? ≠aa bZ:=by
  by_cases h:∃b u1,(sN a).run P u=.ok b u1/\u1.heap[b.block]? =aa bZ
  ·exact aF h
  ·exact aD λb u1 j k=>h ⟨b,u1,j,k⟩
 rcases B with⟨b,u1,j,k⟩|good
 ·refine aD ⟨b,u1,?_,k⟩
  have e:(convert s d (.pointer (aa a))).run P u=.ok (.pointer (aa b)) u1:=by rw[Ei (Eh m l a),iu,j];exact toRest_poison D E k
  show((convert s d (.pointer (aa a))).bind _).run P u=_;rw[iu,e];rfl
 ·left;constructor
  ·refine cP.bind (Q:=VR) ?_ λv u1 σ F w1 x _ hv hm c=>⟨σ,_,w1,x,rfl,.value hv,cm.refl hm.rel,c,.refl _⟩;rw[Ei (Eh m l a),Eh m l a'];refine cP.bind h0 λb u1 σ A w1 x hr f hm c=>?_;obtain⟨o,g⟩:∃o,u1.heap[b.block]? =aa o:=⟨_,cL (hm.rel.lt _ _ f.1).1⟩;exact(Tx (K:=λr=>r=b.block) y f rfl).ud u1 w1 x hm.rel (λr n=>by cases n;exact⟨o,g,λe=>good b u1 hr (e▸g)⟩) c
  ·refine dY.bind (dY.congr (Eh m l a) (dY.bind (q.loc u w z (λ_ h=>h.elim) p) λb u1 hr=>?_)) λv u1 _=>aD ⟨.refl u1,λ_ _ _=>rfl⟩;have h0:=h0;rw[hr]at h0;obtain⟨σ,A,w1,x,j,f,hm,c,_⟩:=h0;obtain⟨o,g⟩:∃o,u1.heap[b.block]? =aa o:=⟨_,cL (hm.rel.lt _ _ f.1).1⟩;exact(Tx (K:=λr=>r=b.block) y f rfl).loc u1 w1 hm.rel (λr n=>by cases n;exact⟨o,g,λe=>good b u1 hr (e▸g)⟩) c
def Ti{K}(j:P.underlying s=aa (.pointer t))(f:P.underlying d=aa .unsafePointer){x x'}(h:VR ρ x x')(k:∀a,x≠.pointer (aa a)):SR P VR ρ K (convert s d x) (convert s d x')/\SR P VR ρ K (convert d s x) (convert d s x'):=by
 constructor
 ·unfold convert;refine SR.then (bE j) λ_ _ p q g _ b=>?_;obtain⟨rfl,rfl⟩:=b;refine SR.then (bE f) λ_ _ p q e _ c=>?_;obtain⟨rfl,rfl⟩:=c;have h:=(h.mono g).mono e;unfold Ac;cases h with
  |ptr l=>exact absurd rfl (k _)
  |gQ=>
   refine SR.then (bE j) λ_ _ p q g _ b=>?_;obtain⟨rfl,rfl⟩:=b;refine SR.then (bE f) λ_ _ p q e _ c=>?_;obtain⟨rfl,rfl⟩:=c;exact .pure .gQ
  |_=>
   refine SR.then (bE j) λ_ _ p q g _ b=>?_;obtain⟨rfl,rfl⟩:=b;refine SR.then (bE f) λ_ _ p q e _ c=>?_;obtain⟨rfl,rfl⟩:=c;exact .lost aC
 ·unfold convert;refine SR.then (bE f) λ_ _ p q g _ b=>?_;obtain⟨rfl,rfl⟩:=b;refine SR.then (bE j) λ_ _ p q e _ c=>?_;obtain⟨rfl,rfl⟩:=c;unfold Ac;cases ((h.mono g).mono e)with
  |ptr l=>exact absurd rfl (k _)
  |gQ=>
   refine SR.then (bE f) λ_ _ p q g _ b=>?_;obtain⟨rfl,rfl⟩:=b;refine SR.then (bE j) λ_ _ p q e _ c=>?_;obtain⟨rfl,rfl⟩:=c;exact .pure .gQ
  |_=>
   refine SR.then (bE f) λ_ _ p q g _ b=>?_;obtain⟨rfl,rfl⟩:=b;refine SR.then (bE j) λ_ _ p q e _ c=>?_;obtain⟨rfl,rfl⟩:=c;exact .lost aC
end
end
end
section
variable [aP] [bw] {S:Nat->Prop}
section
variable {P:aZ} {l:aB bN} {ρ σ:Ren} {bl base:aB aU} {u w u1 w1:az} {main:Bool}
def su{α k:Type}{Q:Ren->α->k->Prop}{s:Sem α}{j:Sem k}{K:Kn}(g:SR P Q ρ K s j)(d:Own K u)(i:WR P ρ u w)(f:Whole S ρ u){a:α}{u1:az}(h:s.run P u=.ok a u1):
  (kG u u1/\∀c,kA c u.tape u.drawn u1.drawn->s.runT P (u.tp c) #[]=(.ok a (u1.tp c),(s.runT P u #[]).2))/\
  ∃σ b w1 x,j.runT P w #[]=(.ok b w1,x)/\Q σ a b/\cm P ρ σ u u1 w w1/\Whole S σ u1/\∀e∈x,gX S σ e:=by
 refine⟨FH g d i f h (λx v e=>by cases e),?_⟩;have hr:=g.ud u w #[] i d f;unfold cP at hr;rw[h]at hr;obtain⟨σ,b,w1,x,m,n,o,p,q⟩:=hr;exact⟨σ,b,w1,x,m,n,o,p,xA q⟩
def iN(u):Own (λ_=>False) u:=λ_ h=>h.elim
def YI{r}(id){x y}(h:dh (IR P l ρ r) x y):(exitTo id x=ay/\exitTo id y=ay)\/∃k b,exitTo id x=aa k/\exitTo id y=aa b/\dh (IR P l ρ r) k b:=by
 induction h with
 |nil=>exact aF ⟨rfl,rfl⟩
 |cons d t a=>
  cases d with
  |inBlock i=>
   unfold exitTo;split
   ·exact aD ⟨_,_,rfl,rfl,t⟩
   ·exact a
  |stop s=>rcases bw.good s with⟨c,e⟩|⟨c,e⟩<;>(rw[e];exact a)
  |_=>exact a
def agc{x a}(h:bM ρ x a)(ops):yielded ops a=yielded ops x:=by
 funext j
 unfold yielded;cases (ops[j]?).bind (·.dst)with
 |none=>rfl
 |some d=>
  simp;cases b:x[d]? with
  |none=>
   have:a[d]? =ay:=by rw[xZ]at b⊢;rw[h.1];exact b
   rw[this]
  |some v=>
   obtain⟨e,_⟩:=bp.1 b;have f:d<a.size:=by rw[h.1];exact e
   have c:=cL f;rw[c];have hv:=h.2 d v _ b c;generalize a[d]=g at hv;cases hv<;>rfl
def Lm(I:bl≠[])(H:Still bl)(z:WR P ρ u w)(s:Whole S ρ u){fr b:aU}{cs j:aB aU}(h:cC P l ρ fr b)(t:dh (cC P l ρ) cs j)(d:aY jV)(J:∀c,d=aa c->aP.code c)(q){k B:aB ir}(y:dh (IR P l ρ fr.roundOf.isSome) k B)(m o:String)(p p' A O:String):
  SG S P l ρ bl base u w
   (match fr.roundOf with
    |none=>if q=aq then .go {frame:={fr with todo:=k,mode:=.returning},callers:=cs++bl,status:=.running,dying:=ay} u else .ended (.stuck m p) u
    |some n=>match(sO n d).runT P u #[]with
     |(r,e)=>jX (seen P fr.fn e) (match r with
      |.ok v w=>Di P aq fr (cs++bl) ay v w
      |.halt _ w=>.ended (.stuck o A) w))
   (λf=>match fr.roundOf with
    |none=>if q=aq then .go {frame:={fr with todo:=k,mode:=.returning},callers:=cs++bl,status:=.running,dying:=ay} (u.tp f)else .ended (.stuck m p) (u.tp f)
    |some n=>match(sO n d).runT P (u.tp f) #[]with
     |(r,e)=>jX (seen P fr.fn e) (match r with
      |.ok v w=>Di P aq fr (cs++bl) ay v w
      |.halt _ w=>.ended (.stuck o A) w))
   (match b.roundOf with
    |none=>if q=aq then .go {frame:={b with todo:=B,mode:=.returning},callers:=j++base,status:=.running,dying:=ay} w else .ended (.stuck m p') w
    |some n=>match(sO n d).runT P w #[]with
     |(r,e)=>jX (seen P b.fn e) (match r with
      |.ok v w=>Di P main b (j++base) ay v w
      |.halt _ w=>.ended (.stuck o O) w)):=by
 have a:=h.round;revert a;cases N:fr.roundOf with
 |none=>
  intro a;cases i:b.roundOf with
  |some _=>rw[i]at a;cases a
  |none=>
   cases q with
   |true=>
    refine dj z s ⟨h.fn,h.ok,h.tmps,?_,h.defers,.returning,h.kind,h.kinds,.none⟩ t λ_=>rfl;rw[N]at y;exact y
   |false=>trivial
 |some n=>
  intro a;cases i:b.roundOf with
  |none=>rw[i]at a;cases a
  |some Q=>
   rw[i]at a;cases a with
   |some L=>
    simp only;rw[ny (sO n d) u];cases hr:(sO n d).run P u with
    |halt x v=>trivial
    |ok v u1=>
     obtain⟨⟨M,K⟩,σ,R,w1,x,C,D,g,E,F⟩:=su (acP L d J) (iN u) z s hr;rw[C];exact ij g M _ _ (λf G=>by rw[K f G]) (FL _ F) (SU I H g.rel E (h.mono g.le) (t.mono λ_ _=>cC.mono g.le) D)
def zI{fr cs}(h:fr.mode=.run):stepG P main (G fr cs) w=gV P main aq fr cs ay w:=by unfold stepG G;simp only[h]
def Gj{fr cs}(h:fr.mode≠.run):stepG P main (G fr cs) w=yK P main fr cs ay w:=by
 unfold stepG G;cases hm:fr.mode with
 |run=>exact absurd hm h
 |returning=>simp only[hm]
 |panicking c=>simp only[hm]
def Rj{fr C ops j rest k o}(hm:fr.mode=.run)(c:fr.todo=.inRegion ops (j::rest)::k)(b:ops[j]? =aa o)(e:dw o (yielded ops fr.tmps)=aq)(a:zo o.op=aq)(u):
  stepG P aq (G fr C) u=stepG.apply P aq fr C ay (execOp fr.eval o) u:=by
 rw[zI hm];unfold gV;rw[c];simp only[b,tr,mO,e,cS];unfold stepG.oper Wx;rw[c];simp only[b];split
 ·rename_i f d;rw[d]at a;cases a
 ·rfl
def NW{fr C s v u u1}(h:s.run P u=.ok (.value v) u1):∃a,stepG.apply P aq fr C ay s u=.go (G (fr.finish v) C) u1 a:=by unfold stepG.apply;simp only[cS];rw[ny s u,h];exact⟨_,rfl⟩
def Wy{fr C s x u u1}(h:s.run P u=.halt x u1)(a:kV x):∃o w b,stepG.apply P aq fr C ay s u=.ended o w b:=by
 unfold stepG.apply;simp only[cS];rw[ny s u,h];cases x with
 |stuck _=>exact⟨_,_,_,rfl⟩
 |unsupported q=>
  cases q with
  |initOrder _=>exact a.elim
  |_=>exact⟨_,_,_,rfl⟩
 |_=>exact a.elim
def aek{g w w1 o es}(a:g.status=.running)(h:stepG P aq g w=.ended o w1 es):step P (solo g w)=.ended o w1:=by rw[step,yJ a];simp[runT,solo,zZ,zY,h]
def SY{fr eX C cs bl u w}(h:solo (G fr C) u=lone eX (cs++bl) w):eX=fr:=by have a:=dX Machine.gs h;simp[lone,solo,G]at a;exact a.1.symm
def Pp{fr:aU}{ops:aK kU}{j:Nat}{rest:aB Nat}{k:aB ir}(a:fr.todo=.inRegion ops (j::rest)::k)(v):(fr.finish v).todo=.inRegion ops rest::k/\(fr.finish v).mode=fr.mode/\(fr.finish v).tmps=(match(ops[j]?).bind (·.dst)with|some d=>fr.tmps.setIfInBounds d v|none=>fr.tmps):=by unfold Frame.finish;rw[a];exact⟨rfl,rfl,rfl⟩
def PM(x:aK aE)(d:Nat)(v:aE):(x.setIfInBounds d v).getD d au=v\/(x.setIfInBounds d v).getD d au=au:=by
 by_cases h:d<x.size
 ·left;simp[wj,h]
 ·right;simp[wj,h]
def WA{fr:aU}{C:aB aU}{ops:aK kU}{rest:aB Nat}{k:aB ir}{h j:kU}{f:bN}{d e:Nat}{s t dt:aW}{i:kv}{K:aK aW}(hm:fr.mode=.run)(r:fr.todo=.inRegion ops (3::4::rest)::k)
  (A:ops[3]? =aa h) (N:ops[4]? =aa j) (T:h.guard=ay) (U:j.guard=ay) (H:h.op=.call {callee:=.value (.func f),args:=#[.tmp d],argTypes:=K}) (O:h.dst=aa e) (I:j.op=.convert dt s (.tmp e))
  (hf:ze P f=aq) (W:∃m,P.funcs[f]? =aa m/\m.name= "internal/abi.NoEscape") (q:P.underlying s=aa (.pointer t)) (D:P.underlying dt=aa .unsafePointer) (V:P.info? t=aa i) (Y:i.size≠0)
  {u:az} (hv:(∃b,fr.eval (.tmp d)=.pointer (aa b)/\u.heap[b.block]? =aa bZ)\/fr.eval (.tmp d)=au):∀n p cs w,runN P n (solo (G fr C) u)=.next (lone p (cs++bl) w)->oG p:=by
 have w3:dw h (yielded ops fr.tmps)=aq:=by unfold dw;rw[T]
 obtain⟨m,E,F⟩:=W
 have r3:(execOp fr.eval h).run P u=.ok (.value (fr.eval (.tmp d))) u:=by
  unfold ze at hf;rw[E]at hf;simp at hf;obtain⟨Z,k2⟩:=Po F hf.1.2;unfold execOp;rw[H];have c:(m.name== "runtime.NumGoroutine")=av:=by rw[F];decide
  show(callFunc f ((#[]++#[Vq d].map fr.eval)++#[])).run P u=_;rw[show(#[]++#[Vq d].map fr.eval)++#[]=#[fr.eval (.tmp d)] by simp];unfold callFunc;simp only[jf,bind,cV,Sem.run,E,c,hf.1.1,eR,dQ,cS,Z,k2,mark,pure];rfl
 obtain⟨aI,s1⟩:=NW (fr:=fr) (C:=C) r3;have J:step P (solo (G fr C) u)=.next (solo (G (fr.finish (fr.eval (.tmp d))) C) u):=step_solo_go rfl ((Rj hm r A w3 (by rw[H];rfl) u).trans s1)
 obtain⟨t1,t2,t3⟩:=Pp r (fr.eval (.tmp d));have w4:dw j (yielded ops (fr.finish (fr.eval (.tmp d))).tmps)=aq:=by unfold dw;rw[U]
 have X:(∃b,(fr.finish (fr.eval (.tmp d))).eval (.tmp e)=.pointer (aa b)/\u.heap[b.block]? =aa bZ)\/(fr.finish (fr.eval (.tmp d))).eval (.tmp e)=au:=by
  have R:(fr.finish (fr.eval (.tmp d))).eval (.tmp e)=(fr.finish (fr.eval (.tmp d))).tmps.getD e au:=rfl;rw[R,t3];simp only[A,qv,O];rcases PM fr.tmps e (fr.eval (.tmp d))with g|g
  ·rw[g];exact hv
  ·exact aD g
 have y:∃x,(execOp (fr.finish (fr.eval (.tmp d))).eval j).run P u=.halt x u/\kV x:=by
  unfold execOp;rw[I]
  have key:∀v:aE,((∃b,v=.pointer (aa b)/\u.heap[b.block]? =aa bZ)\/v=au)->∃x,(convert dt s v).run P u=.halt x u/\kV x:=by
   rintro v (⟨b,rfl,B⟩|rfl)
   ·rw[Ei (Eg q D b),iu,aby B];exact II V Y B
   ·refine⟨.stuck ?_,?_,trivial⟩;rotate_left;have u1:=λa=>xS q u a;rw[<-iW P _ u #[]];have e:∀(f:lF->Sem aE) (u:az) (a:aK iR),((underlying s) >>= f).runT P u a=(f (.pointer t)).runT P u a:=λf u a=>by show((underlying s).bind f).runT P u a=_;rw[dI,xS q]
    have z:∀(f:lF->Sem aE) (u:az) (a:aK iR),((underlying dt) >>= f).runT P u a=(f .unsafePointer).runT P u a:=λf u a=>by show((underlying dt).bind f).runT P u a=_;rw[dI,xS D]
    unfold convert;rw[z,e];show((Ac dt s au).runT P u #[]).1=_;unfold Ac;rw[z,e];rfl
  obtain⟨x,L,M⟩:=key _ X;refine⟨x,?_,M⟩;show((convert dt s _).bind _).run P u=_;rw[iu,L];rfl
 obtain⟨x,y,Q⟩:=y;obtain⟨o,w2,aJ,s2⟩:=Wy (fr:=fr.finish (fr.eval (.tmp d))) (C:=C) y Q;have an:step P (solo (G (fr.finish (fr.eval (.tmp d))) C) u)=.ended o w2:=aek rfl ((Rj (t2.trans hm) t1 N w4 (by rw[I];rfl) u).trans s2);intro n p cs w c
 match n with
 |0=>
  simp only[runN]at c;obtain rfl:=SY (uB c);exact⟨hm,_,_,_,_,r⟩
 |1=>
  simp only[runN,J]at c;obtain rfl:=SY (uB c);exact⟨t2.trans hm,_,_,_,_,t1⟩
 |n+2=>
  simp only[runN,J,an]at c;cases c
def SS{fr fr' cs cs'}(q:WR P ρ u w)(g:Whole S ρ u)(h:cC P l ρ fr fr')(i:dh (cC P l ρ) cs cs'){ops j rest k k'}(r:fr.todo=.inRegion ops (j::rest)::k)(s:fr'.todo=.inRegion ops (j::rest)::k')(x:∀o,ops[j]? =aa o->(fr.roundOf.isSome=aq->zo o.op=aq)/\(dw o (yielded ops fr.tmps)=aq->SG S P l ρ bl base u w (stepG.apply P aq fr (cs++bl) ay (execOp fr.eval o) u) (λf=>stepG.apply P aq fr (cs++bl) ay (execOp fr.eval o) (u.tp f)) (stepG.apply P aq fr' (cs'++base) ay (execOp fr'.eval o) w))):
  SG S P l ρ bl base u w (gV P aq aq fr (cs++bl) ay u) (λf=>gV P aq aq fr (cs++bl) ay (u.tp f)) (gV P main aq fr' (cs'++base) ay w):=by
 have m:=h.finish (sF ρ);unfold gV;rw[r,s];simp only;rw[agc h.tmps];cases p:ops[j]? with
 |none=>exact dj q g m i λ_=>rfl
 |some o=>
  obtain⟨v,main⟩:=x o p;simp
  by_cases e:dw o (yielded ops fr.tmps)=aq
  ·have main:=main e;simp only[e,cS];unfold stepG.oper Wx;rw[r,s];simp only[p];have a:=h.round;revert a;cases y:fr.roundOf with
   |none=>
    intro a;cases d:fr'.roundOf with
    |some _=>rw[d]at a;cases a
    |none=>exact main
   |some n=>
    intro a;cases d:fr'.roundOf with
    |none=>rw[d]at a;cases a
    |some z=>
     have b:zo o.op=aq:=v (by rw[y];rfl)
     try simp only
     split
     ·rename_i t c;rw[c]at b;cases b
     ·split
      ·rename_i t c;rw[c]at b;cases b
      ·exact main
  ·simp only[e,dQ];exact dj q g m i λ_=>rfl
def aea{g h}(hR:Reads l ρ g h)(t:∀f,g (.func f)=.func (.func f) #[] #[])(y:∀f,h (.func f)=.func (.func f) #[] #[]){o}(j:zO P l o=aq){K}:SR P NR ρ K (execOp g o) (execOp h o):=by
 obtain⟨E,op,r,pos,C,F⟩:=o;unfold zO at j;split at j
 ·rename_i c q;simp only at q;subst q;obtain⟨D,args,p⟩:=c;split at j
  ·rename_i x m k;simp only at m k;subst m;obtain rfl:args=#[x]:=by rw[<-k]
   simp at j;obtain⟨s,n⟩:=j;split at n
   ·rename_i e A;refine .assume λz=>?_;rw[z.2.2]at n;show SR P NR ρ K (do pure (.value (<-Ct p r (#[x].map g)))) (do pure (.value (<-Ct p r (#[x].map h))));rw[show #[x].map g=#[g x] by simp,show #[x].map h=#[h x] by simp];exact dS (adX (hR x s) A (SL n) p)
   ·cases n
  ·rename_i f x m k;simp only at m k;subst m;obtain rfl:args=#[x]:=by rw[<-k]
   simp at j;show SR P NR ρ K (do let d <-wA (g (.func f)) (#[x].map g);invoke d.target d.args) (do let d <-wA (h (.func f)) (#[x].map h);invoke d.target d.args);rw[t,y,show #[x].map g=#[g x] by simp,show #[x].map h=#[h x] by simp];show SR P NR ρ K (callFunc f ((#[]++#[g x])++#[])) (callFunc f ((#[]++#[h x])++#[]));rw[show(#[]++#[g x])++#[]=#[g x] by simp,show(#[]++#[h x])++#[]=#[h x] by simp]
   have B:bM ρ #[g x] #[h x]:=⟨rfl,λi v G a b=>by
    match i,a,b with
    |0,a,b=>cases a;cases b;exact hR x j.1
    |i+1,a,_=>simp at a⟩
   exact acC j.2 B rfl
  ·cases j
 ·cases j
def abP(A:Fit P l)(I:Still bl)(J:Still base)(B:WR P ρ u w)(D:Whole S ρ u){fr z:aU}{cs U:aB aU}(h:cC P l ρ fr z)(E:dh (cC P l ρ) cs U)(bH:fr.mode=.run){ops:aK kU}{j:Nat}{rest:aB Nat}{k:aB ir}(X:fr.todo=.inRegion ops (j::rest)::k):
  SG S P l ρ bl base u w (gV P aq aq fr (cs++bl) ay u) (λT=>gV P aq aq fr (cs++bl) ay (u.tp T)) (gV P main aq z (U++base) ay w):=by
 have hl:∀f,l.contains f=aq->aP.ok f:=λf hf=>(A.ok f).2 hf;have W:=h.eval hl;have xy:=h.todo
 have norm:∀{o:kU},qW P l fr.roundOf.isSome o.op=aq->(fr.roundOf.isSome=aq->zo o.op=aq)/\(dw o (yielded ops fr.tmps)=aq->SG S P l ρ bl base u w (stepG.apply P aq fr (cs++bl) ay (execOp fr.eval o) u) (λT=>stepG.apply P aq fr (cs++bl) ay (execOp fr.eval o) (u.tp T)) (stepG.apply P aq z (U++base) ay (execOp z.eval o) w)):=λ{o} p=>by simp only[qW,cM]at p;exact⟨λhr=>by simpa[hr]using p.2,λ_=>zE A I J (FW A.zeros A.fns hl W (λζ G v=>by(subst G;rfl)) (λζ G v=>by(subst G;rfl)) p.1) (iN u) B D h E⟩
 have bk:∀{o:kU},zO P l o=aq->(fr.roundOf.isSome=aq->zo o.op=aq)/\(dw o (yielded ops fr.tmps)=aq->SG S P l ρ bl base u w (stepG.apply P aq fr (cs++bl) ay (execOp fr.eval o) u) (λT=>stepG.apply P aq fr (cs++bl) ay (execOp fr.eval o) (u.tp T)) (stepG.apply P aq z (U++base) ay (execOp z.eval o) w)):=λ{o} p=>by
  refine⟨λ_=>?_,λ_=>zE A I J (aea W (λ_=>rfl) (λ_=>rfl) p) (iN u) B D h E⟩;unfold zO at p;split at p
  ·rename_i hc;rw[hc];rfl
  ·cases p
 rw[X]at xy;generalize hy:z.todo=y at xy;cases xy with
 |@cons _ i' _ k' q hk=>
  revert q;generalize aG:Item.inRegion ops (j::rest)=it;intro q;cases q with
  |@inRegion bT cv F=>
   cases aG;refine SS B D h E X hy λo m=>?_;have p:=qw.1 F o (lV m);unfold sx at p;rw[qx]at p;exact p.elim norm bk
  |@spec bT n F=>
   injection aG with e1 L;subst e1;rw[<-L]at hy
   have hn:n<ops.size:=by
    rcases lZ n ops.size with h|h
    ·exact h
    ·rw[List.drop_eq_nil_of_le (by simpa using h)]at L;cases L
   have hj:j=n/\rest=(eF ops.size).drop (n+1):=by rw[An (by simpa using hn)]at L;injection L with a b;exact⟨by simpa using a,b⟩
   obtain⟨rfl,E2⟩:=hj;refine SS B D h E X hy λo m=>?_;unfold spB at F;split at F
   ·rename_i Z o1 Q o3 R o5 o6 o7 bG;obtain rfl:ops=#[Z,o1,Q,o3,R,o5,o6,o7]:=by rw[<-bG]
    simp only[cM]at F;obtain⟨⟨⟨⟨⟨p0,p1⟩,p5⟩,p6⟩,p7⟩,pt⟩:=F;unfold TP at pt;split at pt
    ·rename_i s d x c d' s' y q2 q3 q4;simp only[cM]at pt;obtain⟨⟨⟨⟨⟨⟨⟨m1,m2⟩,m3⟩,m4⟩,Y⟩,m6⟩,m7⟩,m8⟩:=pt;obtain rfl:d=d':=by simpa using m2
     obtain rfl:s=s':=by simpa using m3
     rw[yB]at m6 m7 m8;split at m1
     ·rename_i f a b e g c1 c2 c3 c4;simp only[cM,wJ]at m1;obtain⟨⟨⟨rfl,rfl⟩,aT⟩,aI⟩:=m1
      have bJ:∃V,P.funcs[f]? =aa V/\V.name= "internal/abi.NoEscape" :=by
       split at aI
       ·rename_i V bE;exact⟨V,bE,by simpa using aI⟩
       ·cases aI
      obtain⟨cg,args,b9⟩:=c;simp only at c1 c2;subst c1;obtain rfl:args=#[.tmp a]:=by rw[<-c2]
      split at Y
      ·rename_i t O M;simp only[cM]at Y;obtain⟨bR,aJ⟩:=Y
       have q:∃i,P.info? t=aa i/\i.size≠0:=by
        split at aJ
        ·rename_i i q;exact⟨i,q,by simpa using aJ⟩
        ·cases aJ
       obtain⟨i,q,G⟩:=q;have ht:=SL (by rw[<-B.os.2];exact bR)
       match j,m with
       |0,m=>
        obtain rfl:Z=o:=by simpa using m
        exact norm (zv p0)
       |1,m=>
        obtain rfl:o1=o:=by simpa using m
        exact norm (zv p1)
       |2,m=>
        obtain rfl:Q=o:=by simpa using m
        refine⟨λ_=>by rw[q2];rfl,λ_=>?_⟩;have C:=W x m4;have ex:∀H:me->aE,execOp H Q=(do pure (.value (<-convert s d (H x)))):=λH=>by unfold execOp;rw[q2]
        rw[ex,ex];revert C;generalize fr.eval x=v;generalize z.eval x=v';intro C
        by_cases N:∃r,v=.pointer (aa r)
        ·obtain⟨r,rfl⟩:=N;cases C with
         |@ptr _ bn hA=>
          rcases abX O M ht q G B D hA with bM|⟨b,u1,bL,bK⟩
          ·exact Ll A I J bM h E
          ·obtain⟨cj,s1⟩:=NW bL;rw[s1];obtain⟨t1,t2,t3⟩:=Pp X (.pointer (aa b));refine aF (aD (WA (ops:=#[Z,o1,Q,o3,R,o5,o6,o7]) (t2.trans bH) (by rw[t1,E2];rfl) rfl rfl m7 m8 q3 c4 q4 aT bJ O M q G ?_));have he:(fr.finish (.pointer (aa b))).eval (.tmp a)=(fr.finish (.pointer (aa b))).tmps.getD a au:=rfl;rw[he,t3];have bA:(#[Z,o1,Q,o3,R,o5,o6,o7][2]?).bind (·.dst)=aa a:=c3;rw[bA];rcases PM fr.tmps a (.pointer (aa b))with g|g
           ·exact aF ⟨b,g,bK⟩
           ·exact aD g
        ·exact zE A I J (K:=λ_=>False) (dS (Ti O M C λr e=>N ⟨r,e⟩).1) (iN u) B D h E
       |3,m=>
        obtain rfl:o3=o:=by simpa using m
        refine bk ?_;unfold zO;rw[q3];simp only[cM];exact⟨rfl,aT⟩
       |4,m=>
        obtain rfl:R=o:=by simpa using m
        refine⟨λ_=>by rw[q4];rfl,λ_=>?_⟩;have C:=W (.tmp e) rfl;have ex:∀H:me->aE,execOp H R=(do pure (.value (<-convert d s (H (.tmp e))))):=λH=>by unfold execOp;rw[q4]
        rw[ex,ex];revert C;generalize fr.eval (.tmp e)=v;generalize z.eval (.tmp e)=v';intro C
        by_cases N:∃r,v=.pointer (aa r)
        ·obtain⟨r,rfl⟩:=N;cases C with
         |@ptr _ bn hA=>exact Ll A I J (abW O M ht q G B D hA) h E
        ·exact zE A I J (K:=λ_=>False) (dS (Ti O M C λr e=>N ⟨r,e⟩).2) (iN u) B D h E
       |5,m=>
        obtain rfl:o5=o:=by simpa using m
        exact norm (zv p5)
       |6,m=>
        obtain rfl:o6=o:=by simpa using m
        exact norm (zv p6)
       |7,m=>
        obtain rfl:o7=o:=by simpa using m
        exact norm (zv p7)
       |n+8,m=>simp at m
      ·cases Y
     ·cases m1
    ·cases pt
   ·cases F
  |_=>cases aG
def abN(D:Fit P l)(xu:bl≠[])(N:Still bl)(Z:Still base)(o:WR P ρ u w)(g:Whole S ρ u){fr C:aU}{cs an:aB aU}(h:cC P l ρ fr C)(p:dh (cC P l ρ) cs an)(bh:fr.mode=.run):
  SG S P l ρ bl base u w (gV P aq aq fr (cs++bl) ay u) (λB=>gV P aq aq fr (cs++bl) ay (u.tp B)) (gV P main aq C (an++base) ay w):=by
 have hl:∀f,l.contains f=aq->aP.ok f:=λf hf=>(D.ok f).2 hf;have aG:=h.eval hl;have xy:=h.todo;have aH:=h.fn;have A:∀{k V:aB ir},dh (IR P l ρ fr.roundOf.isSome) k V->cC P l ρ {fr with todo:=k} {C with todo:=V}:=λq=>⟨h.fn,h.ok,h.tmps,q,h.defers,h.mode,h.kind,h.kinds,h.round⟩
 by_cases af:∃r j rest k,fr.todo=.inRegion r (j::rest)::k
 ·obtain⟨r,j,rest,k,U⟩:=af;exact abP D N Z o g h p bh U
 unfold gV;revert xy;generalize U:fr.todo=x;generalize hy:C.todo=y;intro xy;cases xy with
 |nil=>exact Lm xu N o g h p ay aC _ .nil _ _ _ _ _ _
 |@cons i i' k V hi q=>
  cases hi with
  |stop s=>trivial
  |inBlock id=>exact dj o g (A q) p λ_=>rfl
  |inLoop hc=>exact dj o g (A (.cons (.code hc) (.cons (.inLoop hc) q))) p λ_=>rfl
  |inRangeFunc O=>trivial
  |@endRangeFunc n n' O=>
   simp only;rw[ny (yh n) u];have hr:=(Ls O).ud u w #[] o (iN u) g;unfold cP at hr;cases T:(yh n).run P u with
   |ok j u1=>
    rw[T]at hr;obtain⟨σ,j',w1,x,G,⟨E,aO⟩,d,H,M⟩:=hr;obtain⟨L,J⟩:=FH (Ls O) (iN u) o g T (λx v e=>by cases e);subst E;rw[G];refine ij d L _ _ (λB I=>by rw[J B I];rfl) (FL _ (xA M)) (dj d.rel H ?_ (p.mono λ_ _=>cC.mono d.le) λ_=>rfl);have hm:=h.mono d.le;refine⟨hm.fn,hm.ok,hm.tmps,?_,hm.defers,hm.mode,hm.kind,hm.kinds,hm.round⟩;refine dh.append ?_ (q.mono λ_ _=>IR.mono d.le);cases j' with
    |none=>exact .nil
    |some c=>exact .cons (.code (xD ((D.code c).1 (aO c rfl)))) .nil
   |halt z u1=>
    rw[T]at hr;cases z with
    |panic v=>
     obtain⟨σ,W,w1,y,G,E,d,H,M⟩:=hr;obtain⟨L,J⟩:=FH (Ls (P:=P) (K:=λ_=>False) O) (iN u) o g T (λx v e=>by cases e;exact id);rw[G];exact ij d L _ _ (λB I=>by rw[J B I];rfl) (FL _ (xA M)) (dj d.rel H ((h.mono d.le).raise (.cons ⟨E,rfl,rfl,rfl⟩ .nil)) (p.mono λ_ _=>cC.mono d.le) λ_=>rfl)
    |_=>trivial
  |beginRound=>
   simp only;refine zE D N Z (K:=λ_=>False) ?_ (iN u) o g h p;have F:=h.round;revert F;cases fr.roundOf with
   |none=>
    intro F;cases R:C.roundOf with
    |some _=>rw[R]at F;cases F
    |none=>exact SR.then (Q:=dK) (jl _ _) λ_ _ _ _ _ _ _=>.pure .skip
   |some n=>
    intro F;cases R:C.roundOf with
    |none=>rw[R]at F;cases F
    |some n'=>
     rw[R]at F;cases F with
     |some O=>exact SR.then (acr O) λ_ _ _ _ _ _ _=>.pure .skip
  |@inRegion r todo bk=>
   cases todo with
   |nil=>exact dj o g (A q) p λ_=>rfl
   |cons j rest=>exact absurd ⟨r,j,rest,k,U⟩ af
  |@spec r n bk=>
   cases hd:(eF r.size).drop n with
   |nil=>exact dj o g (A q) p λ_=>rfl
   |cons j rest=>exact absurd ⟨r,j,rest,k,by rw[U,hd]⟩ af
  |@code c hc=>
   cases c with
   |skip=>exact dj o g (A q) p λ_=>rfl
   |region id r draw=>
    simp only;cases draw with
    |false=>
     have hc:(r.all (sx P l fr.roundOf.isSome)||(!av&&spB P l r))=aq:=hc;rw[qx]at hc;rcases hc with hc|hc
     ·exact dj o g (A (.cons (.inRegion _ hc) q)) p λ_=>rfl
     ·exact dj o g (A (.cons (.spec 0 hc) q)) p λ_=>rfl
    |true=>
     simp only[Ux,eR,dQ];have hc:(r.all (sx P l fr.roundOf.isSome)||(!aq&&spB P l r))=aq:=hc;simp only[Ux,Bool.false_and,Bool.or_false]at hc;rw[aH];cases hr:(choose (.order fr.fn id)).run P u with
     |halt z v=>trivial
     |ok t u1=>
      obtain⟨⟨L,J⟩,σ,t',w1,x,G,E,d,H,M⟩:=su (vR (P:=P) (K:=λ_=>False) (.order fr.fn id)) (iN u) o g hr;have aM:(choose (.order fr.fn id)).run P w=.ok t' w1:=by rw[<-iW P _ w #[],G]
      obtain rfl:t'=t:=E;rw[aM];have hm:=h.mono d.le;refine SQ _ _ aC ⟨rfl,hm.ok,hm.tmps,.cons (.inRegion _ hc) (q.mono λ_ _=>IR.mono d.le),hm.defers,hm.mode,hm.kind,hm.kinds,hm.round⟩ (p.mono λ_ _=>cC.mono d.le) d H L λB I=>?_;have hL:(choose (.order fr.fn id)).run P (u.tp B)=.ok t' (u1.tp B):=by rw[<-iW P _ (u.tp B) #[],J B I]
      rw[hL];rfl
   |seq a b=>
    simp only[eK,cM]at hc;exact dj o g (A (.cons (.code hc.1) (.cons (.code hc.2) q))) p λ_=>rfl
   |cond c a b=>
    simp only[eK,cM]at hc;have hv:=aG c hc.1.1;simp only;generalize fr.eval c=v at hv;generalize C.eval c=W at hv;cases hv with
    |bool t=>
     refine dj o g (A (.cons (.code ?_) q)) p λ_=>rfl;cases t
     ·exact hc.2
     ·exact hc.1.2
    |_=>trivial
   |block id b=>exact dj o g (A (.cons (.code hc) (.cons (.inBlock id) q))) p λ_=>rfl
   |loop b=>exact dj o g (A (.cons (.code hc) (.cons (.inLoop hc) q))) p λ_=>rfl
   |rangeFunc f ps a b=>
    simp only[eK,cM]at hc;simp only;rw[ny (yj fr.fn fr.tmps ps a b fr.roundOf) u,aH];cases hr:(yj fr.fn fr.tmps ps a b fr.roundOf).run P u with
    |halt z v=>trivial
    |ok y u1=>
     obtain⟨⟨L,J⟩,σ,y',w1,x,G,E,d,H,M⟩:=su (acQ (P:=P) (K:=λ_=>False) h.ok h.tmps ps ((D.code a).2 hc.1.2) ((D.code b).2 hc.2) h.round) (iN u) o g hr;rw[G];obtain⟨n,ds⟩:=y;obtain⟨n',aL⟩:=y';have hm:=h.mono d.le
     have aV:cC P l σ {fr with todo:=.inRangeFunc n::k,defers:=ds++fr.defers} {C with fn:=fr.fn,todo:=.inRangeFunc n'::V,defers:=aL++C.defers}:=
      ⟨rfl,hm.ok,hm.tmps,.cons (.inRangeFunc E.1) (q.mono λ_ _=>IR.mono d.le),E.2.append hm.defers,hm.mode,hm.kind,hm.kinds,hm.round⟩
     refine ij d L _ _ (λB I=>by rw[J B I]) (FL _ M) (zE D N Z (K:=λ_=>False) ?_ (iN u1) d.rel H aV (p.mono λ_ _=>cC.mono d.le));have hv:VR σ (fr.eval f) (C.eval f):=(aG f hc.1.1).mono d.le
     exact Tg D.fns hv ⟨aC,λi v W hv aI=>by
      cases i with
      |zero=>
       simp[Frame.eval]at hv aI;subst hv aI;exact .func (.yield E.1) rfl (λi v W hv=>by simp at hv) rfl (λi v W hv=>by simp at hv)
      |succ i=>simp at hv⟩
   |exit id=>
    simp only;rcases YI id q with⟨X,Y⟩|⟨m,m',X,Y,hm⟩
    ·rw[X,Y];exact Lm xu N o g h p (aa (.exit id)) (λc e=>by cases e;exact(D.code _).2 rfl) _ (.cons (.code hc) q) _ _ _ _ _ _
    ·rw[X,Y];exact dj o g (A hm) p λ_=>rfl
   |scope b=>simp[eK]at hc
   |label n=>simp[eK]at hc
   |goto n=>simp[eK]at hc
   |ret=>exact Lm xu N o g h p (aa .ret) (λc e=>by cases e;exact(D.code _).2 rfl) _ (.cons (.code hc) q) _ _ _ _ _ _
   |refuse bz=>trivial
end
end
section
variable [aP] [bw] {S:Nat->Prop}
section
variable {P:aZ} {l:aB bN} {ρ σ:Ren} {bl base:aB aU} {u w u1 w1:az} {main:Bool}
def Es{x}(f)(h:∀e∈x,gX S σ e):∀e∈seen P f x,gX S σ e:=λe a=>h e (mem_seen a)
def O2:∀{t b:Target} {m a:py},TR ρ t b->pV ρ m a->((b matches .nil)&&(a matches .panicking _))=((t matches .nil)&&(m matches .panicking _)):=by intro t b m a c hm;cases c<;>cases hm<;>rfl
def abO{b a}(d:a=b){x x' s s' xL sL}(f:SG S P l ρ bl base u w x xL x')(e:SG S P l ρ bl base u w s sL s'):SG S P l ρ bl base u w (if b=aq then x else s) (λc=>if b=aq then xL c else sL c) (if a=aq then x' else s'):=by
 subst d;cases a
 ·exact e
 ·exact f
def SP(F:Fit P l)(R:Still bl)(T:Still base)(Q:WR P ρ u w)(L:Whole S ρ u){fr z cs cs'}(h:cC P l ρ fr z)(M:dh (cC P l ρ) cs cs'){d d'}(G:DR ρ d d'):
  SG S P l ρ bl base u w (Hy P fr (cs++bl) ay d u) (λg=>Hy P fr (cs++bl) ay d (u.tp g)) (Hy P z (cs'++base) ay d' w):=by
 have O:=Tn (P:=P) (K:=λ_=>False) F.fns G.1 G.2;have hr:=O.ud u w #[] Q (iN u) L;have N:=λ{r:tB Next}=>FH O (iN u) Q L (r:=r);unfold Hy;refine abO (xL:=λg=>.ended (.unsupported (.noEntry "machine/Return: a deferred call of a nil function value, made while the frame is unwinding") (fr.pos P)) (u.tp g)) (O2 G.1 h.mode) trivial ?_;unfold cP at hr;cases s:(invoke d.target d.args).run P u with
 |ok n u1=>
  obtain⟨o,A⟩:=N s (λx v e=>by cases e);rw[ny (invoke d.target d.args) u,s];generalize ((invoke d.target d.args).runT P u #[]).2=B at A;have p:∀g,kA g u.tape u.drawn u1.drawn->(invoke d.target d.args).runT P (u.tp g) #[]=(.ok n (u1.tp g),B):=A;rw[s]at hr;obtain⟨σ,n',w1,x,E,X,hm,j,H⟩:=hr;rw[E];have t:=Es (P:=P) z.fn (xA H);have k:=h.mono hm.le;have m:=M.mono λ_ _=>cC.mono hm.le;cases X with
  |enter f V J=>exact ij hm o _ _ (λg i=>by rw[p g i]<;>rfl) t (dj (gZ:=_::_) (rV:=_::_) hm.rel j (Em F V J (aD rfl)) (.cons k m) λ_=>rfl)
  |round f a b h0 W J=>exact ij hm o _ _ (λg i=>by rw[p g i]<;>rfl) t (dj (gZ:=_::_) (rV:=_::_) hm.rel j (Sy F W h0 J (aD rfl)) (.cons k m) λ_=>rfl)
  |value hv=>exact ij hm o _ _ (λg i=>by rw[p g i]<;>rfl) t (dj hm.rel j k m λ_=>rfl)
  |skip=>exact ij hm o _ _ (λg i=>by rw[p g i]<;>rfl) t (dj hm.rel j k m λ_=>rfl)
  |defer _=>exact ij hm o _ _ (λg i=>by rw[p g i]<;>rfl) t (dj hm.rel j k m λ_=>rfl)
  |comm _=>exact ij hm o _ _ (λg i=>by rw[p g i]<;>rfl) t (dj hm.rel j k m λ_=>rfl)
  |recover=>
   have I:=k.mode;refine ij hm o _ _ (λg i=>by rw[p g i]<;>rfl) t ?_;simp only;revert I;generalize fr.mode=mo;generalize z.mode=ah;intro I;cases I with
   |returning=>
    rcases(Fw k m R T)with⟨C,D⟩|⟨v,Y,c,Z,C,D,_,U⟩
    ·rw[C,D];exact dj hm.rel j k m λ_=>rfl
    ·rw[C,D];exact dj hm.rel j k U λ_=>rfl
   |run=>exact dj hm.rel j k m λ_=>rfl
   |panicking _=>exact dj hm.rel j k m λ_=>rfl
 |halt x u1=>
  rw[s]at hr;cases x with
  |panic v=>
   obtain⟨o,A⟩:=N s (λx v e=>by cases e;exact id);rw[ny (invoke d.target d.args) u,s];generalize ((invoke d.target d.args).runT P u #[]).2=B at A;have p:∀g,kA g u.tape u.drawn u1.drawn->(invoke d.target d.args).runT P (u.tp g) #[]=(.halt (.panic v) (u1.tp g),B):=A;obtain⟨σ,Y,w1,y,E,hv,hm,j,H⟩:=hr;rw[E];exact ij hm o _ _ (λg i=>by rw[p g i]<;>rfl) (Es (P:=P) z.fn (xA H)) (dj hm.rel j ((h.mono hm.le).raise (.cons ⟨hv,rfl,rfl,rfl⟩ .nil)) (M.mono λ_ _=>cC.mono hm.le) λ_=>rfl)
  |stuck _=>rw[ny (invoke d.target d.args) u,s];trivial
  |unsupported q=>rw[ny (invoke d.target d.args) u,s];trivial
  |_=>exact hr.elim
def abS(p:Fit P l)(K:bl≠[])(q:Still bl)(J:Still base)(k:WR P ρ u w)(i:Whole S ρ u){fr a cs cs'}(h:cC P l ρ fr a)(j:dh (cC P l ρ) cs cs'):
  SG S P l ρ bl base u w (yK P aq fr (cs++bl) ay u) (λm=>yK P aq fr (cs++bl) ay (u.tp m)) (yK P main a (cs'++base) ay w):=by
 have B:=h.defers;have N:∀{x O:aB Deferred},dh (DR ρ) x O->cC P l ρ {fr with defers:=x} {a with defers:=O}:=λM=>⟨h.fn,h.ok,h.tmps,h.todo,M,h.mode,h.kind,h.kinds,h.round⟩;unfold yK;revert B;generalize M:fr.defers=x;generalize hy:a.defers=y;intro B;cases B with
 |@cons d T ds aJ X C=>
  obtain⟨t,args⟩:=d;obtain⟨t',an⟩:=T;obtain⟨L,s⟩:=X;simp only at L s;cases L with
  |@fn f f' c c' Y A=>exact SP p q J k i (N C) j ⟨.fn Y A,s⟩
  |nil=>exact SP p q J k i (N C) j ⟨.nil,s⟩
  |@collected r r' hr=>
   simp only;rw[ny (CB r) u];cases G:(CB r).run P u with
   |halt z v=>trivial
   |ok cl u1=>
    obtain⟨⟨F,D⟩,σ,aH,w1,z,e,I,g,U,V⟩:=su (adU hr) (iN u) k i G;rw[e];obtain⟨rfl,rfl⟩:=I;have hm:=h.mono g.le;exact ij g F _ _ (λm o=>by rw[D m o]<;>rfl) (Es _ V) (dj g.rel U ⟨hm.fn,hm.ok,hm.tmps,hm.todo,C.mono λ_ _=>DR.mono g.le,hm.mode,hm.kind,hm.kinds,hm.round⟩ (j.mono λ_ _=>cC.mono g.le) λ_=>rfl)
 |nil=>
  simp only;obtain⟨fn,c,e,I⟩:=p.known _ h.ok;have H:P.funcs[a.fn]? =aa fn:=by rw[h.fn];exact e
  have Q:fr.catches P=av:=by unfold Ms;rw[e]
  have R:a.catches P=av:=by unfold Ms;rw[H]
  have E:=h.mode;revert E;generalize hq:fr.mode=mo;generalize a.mode=aR;intro E;cases E with
  |run=>trivial
  |panicking A=>
   simp only[Q,R,eR,dQ];cases j with
   |nil=>
    cases bl with
    |nil=>exact absurd rfl K
    |cons b rest=>exact aF (aF ⟨b,rest,rfl,aD (aD ⟨_,rfl⟩)⟩)
   |cons W Z=>exact dj k i (W.raise A) Z λ_=>rfl
  |returning=>
   simp only[e,H];rw[ny (results fn fr.tmps) u];cases G:(results fn fr.tmps).run P u with
   |halt z v=>
    cases z<;>trivial
   |ok v u1=>
    obtain⟨⟨F,D⟩,σ,v',w1,z,k1,k2,n,k4,k5⟩:=su (xO fn h.tmps) (iN u) k i G;rw[k1];exact ij n F _ _ (λm o=>by rw[D m o]<;>rfl) (Es _ k5) (SU K q n.rel k4 (h.mono n.le) (j.mono λ_ _=>cC.mono n.le) k2)
def abQ(d:Fit P l)(j:bl≠[])(g:Still bl)(i:Still base)(n:WR P ρ u w)(f:Whole S ρ u){fr b cs cs'}(h:cC P l ρ fr b)(k:dh (cC P l ρ) cs cs'):
  SG S P l ρ bl base u w (stepG P aq (G fr (cs++bl)) u) (λa=>stepG P aq (G fr (cs++bl)) (u.tp a)) (stepG P main (G b (cs'++base)) w):=by
 by_cases hr:fr.mode=.run
 ·have c:b.mode=.run:=by
   have:=h.mode;rw[hr]at this;generalize b.mode=m at this;cases this;rfl
  rw[zI hr,zI c,show(λa=>stepG P aq (G fr (cs++bl)) (u.tp a))=λa=>gV P aq aq fr (cs++bl) ay (u.tp a) from funext λa=>zI hr];exact abN d j g i n f h k hr
 ·have c:b.mode≠.run:=by
   intro e;have:=h.mode;rw[e]at this;generalize hm:fr.mode=m at this;cases this;exact hr hm
  rw[Gj hr,Gj c,show(λa=>stepG P aq (G fr (cs++bl)) (u.tp a))=λa=>yK P aq fr (cs++bl) ay (u.tp a) from funext λa=>Gj hr];exact abS d j g i n f h k
end
end
inductive jd(P:aZ)(main:Bool)(g:bQ)(w:az):bQ->az->aK MemAct->Prop
 |go {b:bQ} {w1:az} {es:aK iR} (h:stepG P main g w=.go b w1 es):jd P main g w b w1 (es.map .ofEvent)
 |shut {fr:aU} {cs:aB aU} {r:Nat} {z:aE} {w1:az} {es:aK iR} {cap s a:Nat} {tm:Bool} (h:stepG P main g w=.comm (G fr cs) #[rcase r z] av .select w1 es) (hc:w1.heap[r]? =aa (.chan cap #[] aq s a tm)):
   jd P main g w (G (fr.finish (.tuple #[goInt 0,.bool av,z])) cs) w1 ((es.map .ofEvent).push (.recvClosed r))
 |qO {fr:aU} {cs:aB aU} {r:Nat} {z:aE} {w1:az} {es:aK iR} {cap s a:Nat} {tm:Bool} (h:stepG P main g w=.comm (G fr cs) #[rcase r z] av .select w1 es) (hc:w1.heap[r]? =aa (.chan cap #[] av s a tm)):
   jd P main g w (G (fr.finish (.tuple #[goInt (-1),.bool av,z])) cs) w1 (es.map .ofEvent)
 |qP {fr:aU} {cs:aB aU} {z:aE} {w1:az} {es:aK iR} (h:stepG P main g w=.comm (G fr cs) #[rcaseNil z] av .select w1 es):
   jd P main g w (G (fr.finish (.tuple #[goInt (-1),.bool av,z])) cs) w1 (es.map .ofEvent)
section
variable {P:aZ} {l:aB bN} {S:Nat->Prop}
def vY{g g1 w w1 cy}(a:g.status=.running)(h:jd P aq g w g1 w1 cy):step P (solo g w)=.next (solo g1 w1):=by
 cases h with
 |go h=>exact step_solo_go a h
 |@shut e cs r z w1 d f s j k h b=>
  have i:=partners_alone (c:=r) aq;rw[step,yJ a];simp[runT,solo,G,zZ,zY,h,Mt,wK,ways,rcase,b,i,choose,Sem.run,Vt,bind,cV,pure,Ae,AD]at h⊢
 |@qO e cs r z w1 d f s j k h b=>
  rw[step,yJ a];simp[runT,solo,G,zZ,zY,h,Mt,wK,ways,rcase,b,(partners_alone (c:=r) aq),Ae,AD]at h⊢
 |@qP e cs z w1 d h=>
  rw[step,yJ a];simp[runT,solo,G,zZ,zY,h,Mt,wK,ways,rcaseNil,Ae,AD]at h⊢
def TL{gs i g g1 w w1 sl cy}(d:gs[i]? =aa g)(p:∀(j:Nat) h,gs[j]? =aa h->h.status=.blocked->h.offers=ay)(h:jd P (i==0) g w g1 w1 cy):
  ∃f k,runT P (crowd gs w sl) i=(.next (crowd ((gs.map f).setIfInBounds i g1) w1 sl),k)/\(f=woken P g g1 w1\/f=id)/\k.map (·.act)=cy/\∀op∈k,op.g=i:=by
 have n:∀r,partners (gs.setIfInBounds i ph) r aq=[]:=λr=>partners_nil λj x b=>by
  have t:x.status=.blocked->x.offers=ay:=by
   by_cases m:i=j
   ·subst m;rw[zW]at b;simp only[cS]at b;split at b
    ·cases b;exact λ_=>rfl
    ·cases b
   ·rw[dP m]at b;exact p j x b
  unfold offersAt;cases q:x.status with
  |blocked=>rw[t q]
  |_=>rfl
 have hm:∀(a:aK iR) (fn:bN) (pos:String),(ko i fn pos a).map (·.act)=a.map .ofEvent/\∀op∈ko i fn pos a,op.g=i:=λa fn pos=>by exact⟨by rw[ofEvents_eq];simp[Cn,Cw],MemOp.ofEvents_g i fn pos a⟩
 cases h with
 |go h=>exact⟨_,_,runT_crowd_go d h,aF rfl,(hm _ _ _).1,(hm _ _ _).2⟩
 |@shut c cs r z w1 a o s u v h e=>
  refine⟨id,ko i g.frame.fn g.frame.place a++#[{g:=i,fn:=c.fn,pos:=c.place,act:=.recvClosed r}],?_,aD rfl,?_,λop hop=>?_⟩
  ·rw[Ii d h,Mf];simp[wK,ways,rcase,e,n,choose,Sem.run,Vt,bind,cV,pure,Ae,AD,G,crowd]
  ·rw[Array.map_append,(hm _ _ _).1];simp
  ·rcases uj.1 hop with hop|hop
   ·exact(hm _ _ _).2 op hop
   ·simp at hop;subst hop;rfl
 |@qO c cs r z w1 a o s u v h e=>
  refine⟨id,ko i g.frame.fn g.frame.place a,?_,aD rfl,(hm _ _ _).1,(hm _ _ _).2⟩;rw[Ii d h,Mf];simp[wK,ways,rcase,e,n,Ae,AD,G,crowd]
 |@qP c cs z w1 a h=>
  refine⟨id,ko i g.frame.fn g.frame.place a,?_,aD rfl,(hm _ _ _).1,(hm _ _ _).2⟩;rw[Ii d h,Mf];simp[wK,ways,rcaseNil,Ae,AD,G,crowd]
def ael{g g1 w w1 c es}(b:g.status=.running)(h:stepG P aq g w=.comm g1 #[c] av .select w1 es)(hc:AH w1 c=aq):∃o d,step P (solo g w)=.ended o d:=by
 refine⟨.stuck "a communication at a channel whose block is no channel's" (g1.frame.pos P),w1,?_⟩;rw[step,yJ b,solo_eq_crowd,Ii (i:=0) rfl h];show(wK P _ _ 0 g1 #[c] av .select w1).1=_;unfold wK;have a:(#[c].any (AH w1))=aq:=by simp[hc]
 show(if(#[c].any (AH w1))=aq then _ else _:Stepped×aK MemOp).1=_;rw[aX a]
def Le[aP]{σ z z'}(d:VR σ z z')(n):∀(i:Nat) v c,(#[goInt n,.bool av,z]:aK aE)[i]? =aa v->(#[goInt n,.bool av,z']:aK aE)[i]? =aa c->VR σ v c:=by
 intro i v c a b
 match i with
 |0=>simp at a b;subst a b;exact .int _ _
 |1=>simp at a b;subst a b;exact .bool _
 |2=>simp at a b;subst a b;exact d
 |n+3=>simp at a
def tF(S:Nat->Prop)(b:Ren)(a:MemAct):Prop:=(∃e,a=.ofEvent e/\gX S b e)\/∃r x,a=.recvClosed r/\b x r/\¬S r
def AY{σ}{es:aK iR}(h:∀e∈es,gX S σ e):∀a∈es.map MemAct.ofEvent,tF S σ a:=λa b=>by obtain⟨e,c,rfl⟩:=nE.1 b;exact aF ⟨e,rfl,h e c⟩
variable [aP] [bw]
structure GR(P:aZ)(l:aB bN)(ρ:Ren)(base:aB aU)(fr:aU)(cs:aB aU)(g':bQ):Prop where
 of:∃b a,g'=G b (a++base)/\cC P l ρ fr b/\dh (cC P l ρ) cs a
def Kh(hT:Fit P l){bl base}(xu:bl≠[])(I:Still bl)(hb:Still base){ρ u w}(hw:WR P ρ u w)(hW:Whole S ρ u){fr:aU}{cs:aB aU}{g':bQ}(h:GR P l ρ base fr cs g'){m:Machine}(f:step P (lone fr (cs++bl) u)=.next m)(main):
  (∃C d,m=solo C d/\Dr P bl C d)\/∃x k d j Q q N,m=lone x (k++bl) d/\jd P main g' w Q q N/\GR P l j base x k Q/\cm P ρ j u d w q/\Whole S j d/\(∀a∈N,tF S j a)/\
   kG u d/\∀g,kA g u.tape u.drawn d.drawn->step P (lone fr (cs++bl) (u.tp g))=.next (lone x (k++bl) (d.tp g)):=by
 obtain⟨aO,aM,rfl,aG,aC⟩:=h.of;have A:=abQ (main:=main) hT xu I hb hw hW aG aC;rw[lone_eq_solo]at f;cases i:stepG P aq (G fr (cs++bl)) u with
 |go C d O=>
  rw[i]at A;rw[(vY rfl (.go i))]at f;cases f;rcases A with L|⟨x,k,j,vm,Z,q,af,rfl,D,E,F,t,y,H,n⟩
  ·exact aF ⟨C,d,rfl,L⟩
  exact aD ⟨x,k,d,j,_,q,_,rfl,.go D,⟨_,_,rfl,E,F⟩,t,y,AY H,n.1,λg v=>vY rfl (.go (n.2 g v))⟩
 |comm C aL b sh d O=>
  rw[i]at A;obtain⟨x,k,j,vm,Z,c,W,q,af,rfl,rfl,rfl,rfl,D,hc,E,F,t,y,H,n⟩:=A;obtain⟨X,c2,B⟩:=c;obtain⟨d1,d2,d3⟩:=W;obtain⟨T,U,V,J⟩:=hc;simp only at T U V J;subst U V
  have K:AH d ⟨X,ay,B⟩=aq->False:=λB6=>by have:=ael (P:=P) rfl i B6;obtain⟨o,u2,e⟩:=this;rw[e]at f;cases f
  cases T with
  |nN=>
   have:=vY rfl (.qP i);rw[this]at f;cases f;exact aD ⟨_,k,d,j,_,q,_,rfl,.qP D,⟨_,_,rfl,E.finish (.tuple rfl (Le J _)),F⟩,t,y,AY H,n.1,λg v=>vY rfl (.qP (n.2 g v))⟩
  |@chan r M hr=>
   obtain⟨o,p⟩:∃o,d.heap[r]? =aa o:=⟨_,cL (t.rel.lt _ _ hr).1⟩;rcases t.rel.obj _ _ _ hr p with L|⟨o',R,xx⟩
   ·subst L;exact(K (by simp[AH,p,bZ])).elim
   ·cases xx with
    |chan aJ Y s rc tm=>
     cases Y with
     |true=>
      have:=vY rfl (.shut (r:=r) (z:=B) i p);rw[this]at f;cases f;refine aD ⟨_,k,d,j,_,q,_,rfl,.shut (r:=M) (z:=d3) D R,⟨_,_,rfl,E.finish (.tuple rfl (Le J _)),F⟩,t,y,λa I=>?_,n.1,λg v=>vY rfl (.shut (r:=r) (z:=B) (n.2 g v) p)⟩;rcases Array.mem_push.1 I with I|rfl
      ·exact AY H a I
      ·exact aD ⟨M,r,rfl,hr,y.own hr p (by intro e;cases e)⟩
     |false=>
      have:=vY rfl (.qO (r:=r) (z:=B) i p);rw[this]at f;cases f;exact aD ⟨_,k,d,j,_,q,_,rfl,.qO (r:=M) (z:=d3) D R,⟨_,_,rfl,E.finish (.tuple rfl (Le J _)),F⟩,t,y,AY H,n.1,λg v=>vY rfl (.qO (r:=r) (z:=B) (n.2 g v) p)⟩
    |_=>exact(K (by simp[AH,p])).elim
  |_=>exact(K rfl).elim
 |ended o d O=>
  have:step P (solo (G fr (cs++bl)) u)=.ended o d:=by rw[step,yJ rfl];simp[runT,solo,G,zZ,zY,i]at i⊢
  rw[this]at f;cases f
 |_=>rw[i]at A;exact A.elim
end
end
end Go.Proofs.YtpobhljcainmdaaGreat
