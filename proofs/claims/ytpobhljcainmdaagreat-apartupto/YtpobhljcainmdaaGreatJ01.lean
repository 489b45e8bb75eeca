/- Parts of the proof. -/
import Derived.Conc.Beside
import Derived.Conc.CrowdCom2
import Derived.Conc.CrowdComm
import Derived.Conc.Holds
import Derived.Conc.LoneSelect
import Derived.Deep.RegionHeld3
import Derived.JoinedCond
import Derived.OwnWalkIn
import Derived.RangeFuncNested
import Derived.WalkKit
set_option maxRecDepth 100000
set_option maxHeartbeats 8000000
set_option linter.all false
namespace Go.Proofs.YtpobhljcainmdaaGreat
open Go renaming World->aq,Frame->aP,Value->aB,TypeId->aY,Program->bM,FuncId->aZ,TypeDesc->jD,TypeInfo->jE,Question->kK,Goroutine->bK,GStep->fD,Event->gv,FloatKind->rK,doReturn->lZ,Result->lV,Deferred->rJ,communicate->xZ,unsupported->zZ,program->rT,Oper->ep,callMethod->zV,PanicEntry->zL,Operand->lU,variablesAt->CC,typeInfo->yf,commResult->Cp,Addr->iL,IntKind->vK,goInt->qI,getD_set_ne->KV,viewAt->wB,mayBeOne->Cu,MapEntry->Cb,CommCase->BD,cellsIn->zW,newObj->yc,wp_region_noPanic->eu,BinOp->uj,stringish->Lb,setObj->zY,store->wA,goexitEntry->Cs,eqGuard->FL,YieldsIf->KP,ready_mono->ez,newRow->Cv,asNumber->KQ,freeze->Cr,unwind->CB,mem_ready->kq,about_put->kS,NoPanic->lg,strVal->mm,asBool->oc,Code->fu,Next->tw,Exit->xl,load->xq
open Go.Sem renaming runT->eA,runT_fst->iM,run_bind'->nF,bind->fK,bind_assoc'->Ci,shape->zO,getObj->Cj,store->KI
open Go.stepG renaming exec->fy,oper->zg
open _root_.Option renaming map->gI,bind_some->F9,isSome->qL,isNone->qV
open Go.Region renaming ready->fS,wanted->cY,Mode->zM,binds->zN,free_spec->G2,noSelect->G3,free->G1,schedule->G4
open Go.World renaming shape?->mK,putObj_heap_other->gq,farStore->FI,putObj_heap_same->QN,frozen?->qG,freeze->KN,viewStore->QO,cell?->gp,alloc_heap_new->H9,setCell->iQ,farLoad->QM,cell?->kD,alloc->lL,frozen?->nc,shape?->nL
open Go.MemAct renaming ofEvent->dW,touch?->vX
open Go.Stepped.next renaming inj->wj
open Go.GStep renaming after->iw,es->Qi
open Go.Builtin renaming unsafeAdd_->zA,unsafeSliceData_->EL,unsafeString_->Qc,firstCells->PZ,zeroCells->qA,min2->JI,append_->rD,delete_->PY,clear_->um,close_->PX,lenOf->EK,copy_->uq,holdsCells->Zw,len_->Qa,cap_->PW,min_->Qb,mayShare->Zx
open Go.Goroutine renaming finishComm->BH
open Go.Extern.BytealgMakeNoZero renaming makeNoZero->Qg,digits->ZI
open Go.Deferred renaming ofValue->uu
open Go.Conv renaming unsafePointer->BE,bytesToString->EM,seenAt->zC,runesToString->ZF,floatToFloat->ZD,floatToInt->ZE
open Go.Op renaming equal->oJ,maxDepth->vZ,eqGuardIn->FC,addrSub->KB,addrCmp->Kz,addrMod->KA,equalIn->KC,twoPlaces->QI,stringOp->QH,complexOp->py
open _root_.List renaming range->dA,dropWhile_cons->A5,map_inj_left->B9,forIn_cons->A9,foldlM->qv
open Go.Instr renaming sliceBounds->EV,findNow->BK,findKey->BJ,fill->xQ,checkKey->EU,endRound->zD,enterLoop->BI,keyThatStays->Qm,sameNow->JZ,sureAddr->EW,makeInterface->ZV,extract->Ql,getLoop->zE,takeDeferred->l7,sliceBound->j8,buildSlice->ZP,findAsking->ZR,typeAssert->Ka,beginRound->ET,makeSlice->JY,mapUpdate->ZX,makeChan->ZU,sameBits->ZZ,panicnil->ZY,storeAt->j9,sliceAt->e8,indexAt->ZS,fieldAt->ZQ,makeMap->ZW,endLoop->JW,loadAt->JX,lookup->ZT,slice->ru,index->so,build->tj,box->zq
open Go.MemOp renaming ofEvents->sZ,ofEvents_g->xT
open Go.Act renaming put_comm->zu
open _root_.Array renaming replicate->oG,range->BA,setIfInBounds_comm->Zr,swapAt!->JG,swapAt->JF,getD->rB,forIn_toList->Zn,map_id->PV,map_push->Zp,map->HO,setIfInBounds->mP,size->pB
open Go.Extern renaming allNextRows->JP,findNext->JR,allGenericRows->ZK,find->JQ,allTypedRows->ZL
open Go.IntKind renaming i64->cJ
open Go.Conc renaming runT_crowd_comm->KY,stepT_solo->FW,Deaf_other->JM,step_solo_go->Rc,illMade->Ct,rcase->vq
open _root_.Except renaming bind->EO,pure->EP
open _root_.MonadExcept renaming throw->QE
open Go.Made renaming reckonStruct->QB,depth->Fy,infoAt->Qz,reckon->QA
open Go.Value renaming pointer->Co,func->KL,ofBytes->G7,bytes?->G5,slice->fM,int->BX,tuple->θ,agg->ν
open Go.Oper renaming semAt_plain->QJ,uponIn->KE,wpIn->FD,wp->tr
open _root_.Bind renaming bind->BC
open _root_.Pure renaming pure->Ch
open Go.Extern.AbiNoEscape renaming same->ZH
open Go.Tables renaming info?->KJ
open Go.Code renaming region->JJ
open Go.Frame renaming round->JS,catches->Qh,oper?->vn,finish->ns
open Go.Result renaming andThen->QK
open Go.Op.Complex renaming quotient->F6
open _root_.Classical renaming not_not->ZB
open _root_.Nat renaming strongRecOn->Ky,add_assoc->jv
open Go.OpenClaim renaming world->F7
open Go.Question renaming forced->G0
open Go.NoPanic renaming normal->F0
open Go.Fence renaming wide->ig
open _root_.Bool renaming false_and->Zt,not_true->Zu
open Go.Machine renaming gs->Qy
open Go.Fn.func renaming injEq->ZM
open Go.Obj renaming cells->QG
open Go.Target.collected renaming injEq->akH
open _root_.UInt8 renaming ofNat->ji
open Go.Operand renaming tmp->F8
open Go.Value.pointer renaming injEq->xa
open Go renaming undef->y
open Go.Ending renaming returned->aG
open Go.Obj renaming cells->au
open _root_.Bool renaming false->aa,true->M
open _root_.Option renaming none->aj,some->Z
open _root_.Or renaming inl->aA,inr->az
open Go.RowKit.Below renaming heap_alloc->bj
open Go renaming tryRecoverLoop->ii,behindNumber->ec,callDeferred->jn,movedNumber->jx,underlying->dq,tryRecover->fm,OpenClaim->io,zeroValue->jq,callFunc->ie,results->bo,yielded->co,execOp->a7,exitTo->fp,stepG->bi,binOp->ju,runN->jF,Act->eQ,Sem->fb
open Go.Frame renaming enter->ba
open Go.stepG renaming apply->ce
open Go.Sem renaming run->ee
open Go.ConcN renaming sumTo->fa
open Go.Program renaming underlying->nf
abbrev _root_.Eq.E:=@Eq.trans
abbrev _root_.Eq.y:=@Eq.symm
abbrev _root_.Iff.E:=@Iff.trans
abbrev _root_.Iff.y:=@Iff.symm
abbrev _root_.Ne.y:=@Ne.symm
abbrev _root_.False.e:=@False.elim
abbrev _root_.Or.e:=@Or.elim
abbrev _root_.Go.RowKit.Below.E:=@Go.RowKit.Below.trans
abbrev _root_.Go.RowKit.Hid.H:=@Go.RowKit.Hid.out
abbrev _root_.Go.CallsIn.V:=@Go.CallsIn.mono
abbrev _root_.Go.Calls.V:=@Go.Calls.mono
abbrev _root_.Go.RowsIn.V:=@Go.RowsIn.mono
abbrev _root_.Go.RoundIn.V:=@Go.RoundIn.mono
abbrev _root_.Go.RowKit.Below.V:=@Go.RowKit.Below.mono
abbrev _root_.Exists.e:=@Exists.elim
abbrev _root_.Go.Conc.Past.V:=@Go.Conc.Past.mono
abbrev bf:=@Array.getElem?_eq_some_iff
abbrev bY:=@List.getElem?_eq_some_iff
abbrev aR:=@Nat.le_refl
abbrev dj:=@List.getElem?_eq_getElem
abbrev aI:=@if_neg
abbrev cS:=@Nat.lt_of_lt_of_le
abbrev gn:=@Array.getElem?_setIfInBounds_ne
abbrev aO:=@if_pos
abbrev cQ:=@Bool.and_eq_true
abbrev eY:=@Option.bind_eq_some_iff
abbrev gi:=@Array.getElem?_eq_getElem
abbrev cM:=@Nat.le_trans
abbrev ff:=@Bool.false_eq_true
abbrev ey:=@Option.some.inj
abbrev cO:=@Nat.zero_le
abbrev gJ:=@Option.map_eq_some_iff
abbrev fJ:=@List.mem_cons_self
abbrev fQ:=@List.length_append
abbrev gC:=@List.mem_cons_of_mem
abbrev eO:=@Option.map_some
abbrev iy:=@List.getElem?_set_self
abbrev gQ:=@List.getElem?_set_ne
abbrev cG:=@congrArg
abbrev iz:=@List.mem_singleton
abbrev jC:=@List.mem_of_getElem?
abbrev gH:=@List.length_cons
abbrev ny:=@Classical.byContradiction
abbrev jL:=@Array.getElem?_map
abbrev jK:=@Array.append_empty
abbrev iA:=@Option.map_none
abbrev fI:=@Int.le_refl
abbrev nx:=@Array.append_singleton
abbrev jg:=@List.mem_append
abbrev dM:=@if_false
abbrev lQ:=@Array.length_toList
abbrev jB:=@List.length_set
abbrev oH:=@ByteArray.size_extract
abbrev ud:=@Array.all_eq_true_iff_forall_mem
abbrev jZ:=@List.nil_append
abbrev dB:=@Ne.y
abbrev lS:=@List.append_assoc
abbrev jh:=@List.mem_cons
abbrev pL:=@List.take_append_drop
abbrev pJ:=@List.mem_iff_getElem?
abbrev dN:=@if_true
abbrev mM:=@of_decide_eq_true
abbrev qE:=@List.take_of_length_le
abbrev lT:=@List.cons_append
abbrev oF:=@Array.getElem?_push
abbrev lf:=@List.append_nil
abbrev qB:=@ByteArray.size_append
abbrev ue:=@Array.getD_eq_getD_getElem?
abbrev nE:=@List.size_toArray
abbrev mJ:=@Array.toList_map
abbrev lX:=@decide_eq_false
abbrev uz:=@List.getElem_cons_zero
abbrev rE:=@ByteArray.data_extract
abbrev nA:=@List.all_eq_true
abbrev jM:=@Nat.zero_add
abbrev lY:=@decide_eq_true
abbrev jY:=@List.mem_map
abbrev oK:=@Option.getD_some
abbrev nB:=@List.length_nil
abbrev pH:=@List.flatMap_cons
abbrev qF:=@Nat.eq_zero_or_pos
abbrev vO:=@List.getElem?_append_right
abbrev rN:=@List.map_congr_left
abbrev rL:=@List.flatMap_append
abbrev pM:=@List.take_length
abbrev lq:=@Nat.lt_or_ge
abbrev nD:=@List.mem_range
abbrev th:=@Nat.mul_le_mul_right
abbrev qC:=@List.getElem?_map
abbrev kJ:=@Nat.le_succ
abbrev pI:=@List.length_map
abbrev zv:=@Array.eq_empty_of_size_eq_zero
abbrev vQ:=@List.length_eq_zero_iff
abbrev qD:=@List.prefix_refl
abbrev nC:=@List.map_cons
abbrev rQ:=@List.take_add_one
abbrev rM:=@List.getElem?_set
abbrev uf:=@Array.map_congr_left
abbrev uA:=@List.mem_of_mem_take
abbrev vC:=@Array.getElem?_eq_none
abbrev sX:=@List.mem_filterMap
abbrev sY:=@List.pairwise_cons
abbrev uh:=@Array.toList_append
abbrev vF:=@Array.mem_of_getElem?
abbrev tB:=@decide_eq_true_eq
abbrev EF:=@Array.getElem?_setIfInBounds_self_of_lt
abbrev Fq:=@List.setIfInBounds_toArray
abbrev uF:=@Option.isSome_none
abbrev vH:=@Array.replicate_succ
abbrev vI:=@Array.replicate_zero
abbrev vG:=@Array.mem_toList_iff
abbrev rR:=@Nat.not_lt_zero
abbrev rO:=@List.mem_filter
abbrev BT:=@List.getElem_cons_succ
abbrev oI:=@Nat.le_of_lt
abbrev sW:=@List.map_toArray
abbrev vN:=@List.append_toArray
abbrev uk:=@Bool.not_eq_true'
abbrev ux:=@List.ext_getElem?
abbrev sR:=@Bool.eq_iff_iff
abbrev sV:=@List.map_append
abbrev pK:=@List.set_set
abbrev mL:=@beq_iff_eq
abbrev vP:=@List.getElem?_take
abbrev zy:=@Array.map_setIfInBounds
abbrev uw:=@List.any_eq_true
abbrev rC:=@Array.mem_map
abbrev rG:=@ByteArray.ext
abbrev we:=@Option.some.injEq
abbrev vW:=@List.push_toArray
abbrev vM:=@List.any_eq_false
abbrev uy:=@List.foldl_cons
abbrev uB:=@List.range_succ
abbrev uE:=@Nat.min_eq_left
abbrev Cg:=@Option.isNone_iff_eq_none
abbrev BQ:=@List.drop_eq_getElem_cons
abbrev BS:=@List.getElem?_append_left
abbrev zK:=@Nat.eq_of_beq_eq_true
abbrev zw:=@Array.getElem?_toList
abbrev zB:=@ByteArray.data_append
abbrev vE:=@Array.mem_append
abbrev vS:=@List.length_take
abbrev BP:=@List.append_cancel_right
abbrev ug:=@Array.size_map
abbrev zz:=@Array.toList_extract
abbrev zH:=@List.getElem?_append
abbrev Cd:=@Nat.add_sub_cancel_left
abbrev vJ:=@Bool.or_eq_true
abbrev vD:=@Array.map_empty
abbrev vV:=@List.nodup_cons
abbrev BR:=@List.drop_of_length_le
abbrev uD:=@Nat.lt_irrefl
abbrev xN:=@Array.map_append
abbrev xW:=@Nat.le_of_not_lt
abbrev Fv:=@List.set_cons_zero
abbrev Fu:=@List.set_cons_succ
abbrev vU:=@List.mapM_cons
abbrev zQ:=@UInt8.toNat_ofNat'
abbrev EY:=@Int.tmod_eq_emod_of_nonneg
abbrev zF:=@List.filter_append
abbrev EX:=@Int.tdiv_eq_ediv_of_nonneg
abbrev Fe:=@List.exists_cons_of_ne_nil
abbrev Bz:=@Array.getElem?_modify
abbrev zG:=@List.foldl_append
abbrev BZ:=@List.mem_of_mem_drop
abbrev xS:=@List.nodup_nil
abbrev Kc:=@Int.mul_le_mul_of_nonneg_left
abbrev Kg:=@List.drop_append_of_le_length
abbrev By:=@Array.ext_getElem?
abbrev Fc:=@List.append_eq_nil_iff
abbrev xO:=@Array.map_id'
abbrev EG:=@Array.mem_iff_getElem
abbrev Ca:=@List.nodup_append
abbrev BW:=@List.mapM_toArray
abbrev B4:=@List.getElem_toArray
abbrev JH:=@Array.toList_setIfInBounds
abbrev Fh:=@List.map_eq_cons_iff
abbrev Fl:=@List.mem_append_left
abbrev xV:=@Nat.le_of_eq
abbrev xU:=@Nat.add_zero
abbrev BB:=@Array.toList_inj
abbrev xR:=@List.map_nil
abbrev xX:=@Nat.zero_mul
abbrev BY:=@List.mem_flatMap
abbrev JC:=@Array.mapM_eq_mapM_toList
abbrev Ks:=@List.mem_or_eq_of_mem_set
abbrev Kh:=@List.extract_eq_take_drop
abbrev Fg:=@List.filter_eq_self
abbrev Fi:=@List.map_eq_nil_iff
abbrev zx:=@Array.map_map
abbrev KF:=@Option.isSome_iff_exists
abbrev BL:=@Int.tmod_nonneg
abbrev EE:=@Array.foldl_toList
abbrev FF:=@Option.isSome_some
abbrev EZ:=@Int.tmod_lt_of_pos
abbrev Kn:=@List.getElem?_replicate
abbrev PU:=@Array.getElem?_setIfInBounds_self
abbrev zJ:=@Nat.add_comm
abbrev ES:=@Function.comp_def
abbrev JE:=@Array.mem_iff_getElem?
abbrev tA:=@congrFun
abbrev EH:=@Bool.eq_false_iff
abbrev Fp:=@List.pairwise_map
abbrev Kk:=@List.flatMap_singleton
abbrev Kf:=@List.Perm.append_right
abbrev Kl:=@List.getElem?_eq_none
abbrev Ko:=@List.length_filter_le
abbrev Kq:=@List.mem_append_right
abbrev FA:=@Nat.lt_succ_self
abbrev Fo:=@List.not_mem_nil
abbrev BV:=@List.mapM_nil
abbrev Km:=@List.getElem?_of_mem
abbrev Kt:=@List.pairwise_append
abbrev Kr:=@List.mem_of_mem_tail
abbrev C8:=@List.take_append_of_le_length
abbrev sS:=@Iff.rfl
abbrev Ce:=@Nat.succ_mul
abbrev Kw:=@Nat.lt_of_le_of_lt
abbrev EJ:=@Bool.not_false
abbrev JD:=@Array.map_inj_left
abbrev Kj:=@List.find?_eq_none
abbrev Ki:=@List.filterMap_nil
abbrev Kx:=@Nat.lt_succ_of_lt
abbrev Ke:=@Int.toNat_natCast
abbrev EI:=@Bool.false_or
abbrev xY:=@and_true
abbrev Qx:=@List.mem_toArray
abbrev Qw:=@List.getElem_mem
abbrev wy:=@dif_pos
abbrev Bx:=@Array.ext'
abbrev Fj:=@List.map_set
abbrev ej:=@Nat.add_mul
abbrev U:=@rfl
abbrev av:=@List
abbrev aF:=@Array
abbrev aV:=@Option
abbrev I(n:Int):Value:=.int .i64 n
abbrev F(b n:Nat):Addr:=⟨b,n,none⟩
abbrev aQ(b:Nat):Value:=.pointer (some ⟨b,0,none⟩)
variable{w w1 w' kH u1:aq}{p X:Prop}{n i ma j s:Nat}{P:bM}{jt:aF ep}{Q:xl->eQ->aq->Prop}{md:zM}{v v':aB}{ly:aF Bool}{d a':eQ}{li:Fence}{T:aq->Prop}{oi:ep}{e α β γ δ:Type}{o':Obj}{η lP:lU->aB}{fr fr' og:aP}{km:Bool}{bl base cs':av aP}{sL:(Nat->kK->Nat)->fD}{kj:List Nat}{g1:bK}{A:Nat->Prop}{kw:aP->av aP->aq->Prop}{kp:Loc->Prop}{s':fb β}
theorem bq{o:Obj}:RowKit.Below w.1.size w (lL w o):=(RowKit.Below.refl _ _).alloc (Nat.le_refl _) _
theorem aX(h:p):RowKit.Hid p:=h
abbrev aK(w v:World):Prop:=RowKit.Below w.1.size w v
theorem Y(h:p:=by omega):p:=h
theorem ay(h:p:=by simp):p:=h
theorem bV(h:p:=by (simp;omega)):p:=h
theorem aW(h:p:=by kernel_rfl):p:=h
theorem aM(h:p:=by decide):p:=h
theorem iZ(h:p:=by (intro _ _;unfold execOp;simp[go_sem,Act.put,Act.eval])):p:=h
theorem jc(h:p:=by (intro _ _ _ h;unfold execOp at h;simp[go_sem,Act.put,Act.eval]at h)):p:=h
theorem j4(h:p:=by grind):p:=h
theorem j5(h:p:=by simp[rv]):p:=h
theorem j6(h:p:=by trivial):p:=h
theorem j7(h:p:=by simp[base]):p:=h
theorem n7(h:p:=by rfl):p:=h
theorem p9(h:p:=by (intro e;cases e)):p:=h
theorem A1(h:p:=by (simp[Lit.wf,IntKind.min,IntKind.max,Qq,Qp];omega)):p:=h
theorem A2(h:p:=by simp only[rv]):p:=h
theorem A6(h:p:=by cases e):p:=h
theorem B5(h:p:=by (unfold cP;omega)):p:=h
theorem C0(h:p:=by simp[G,stepG,fy,rf,Frame.at]):p:=h
theorem C1(h:p:=by (rw[e];rfl)):p:=h
theorem D2(h:p:=by simp[a]):p:=h
theorem D3(h:p:=by simp[bh.cells]):p:=h
theorem D4(h:p:=by simpa[lW]using e):p:=h
theorem D5(h:p:=by (rw[mJ];exact OP hk hi hn q a.toList)):p:=h
theorem D8(h:p:=by simp[eD]):p:=h
theorem H6(h:p:=by simp[ro,cC]):p:=h
theorem H8(h:p:=by (have:=q.H.IK g e;omega)):p:=h
theorem J6(h:p:=by simp[Frame.enter,Frame.at,func116,base,f116]):p:=h
theorem L4(h:p:=by simp[results,hr]):p:=h
theorem L8(h:p:=by simp[Proofs.YtpobhljcainmdaaGreat.gZ,a,b]):p:=h
theorem M3(h:p:=by cases a):p:=h
theorem M6(h:p:=by (cases c;exact⟨⟨smA Wg,U,U⟩,ay⟩)):p:=h
theorem O3(h:p:=by simp[pR]):p:=h
theorem P2(h:p:=by (cases e;rfl)):p:=h
theorem R2(h:p:=by simp[Aside]):p:=h
theorem R3(h:p:=by simp[Proofs.YtpobhljcainmdaaGreat.gZ,a]):p:=h
theorem T4(h:p:=by rw[AG<|λc h=>(hf c<|uA h).2,vS,uE Y]):p:=h
theorem T6(h:p:=by (rw[hd];exact aR _)):p:=h
theorem T9(h:p:=by simp[iQ]):p:=h
theorem W5(h:p:=by (rw[c.to a b d];exact(h.dom a b d).1)):p:=h
theorem X2(h:p:=by simp[results,results100]):p:=h
theorem X6(h:p:=by (rw[e];exact h.eR)):p:=h
theorem K4(h:p:=by assumption):p:=h
theorem Hx(h:p:=by simp[zS]):p:=h
theorem Pa(h:p:=by simpa using h):p:=h
theorem Og(h:p:=by injection e):p:=h
theorem Ut(h:p:=by simp[Ck.fresh]):p:=h
theorem Hq(h:p:=by cases c):p:=h
theorem Us(h:p:=by (subst e;simp[first])):p:=h
theorem Uw(h:p:=by cases h):p:=h
theorem Uc(h:p:=by simp[Act.eval,stA]):p:=h
theorem NE(h:p:=by simp[h.size]):p:=h
theorem Rd(h:p:=by simp[h.cs.len]):p:=h
theorem NB(h:p:=by simp[Fx.new]):p:=h
theorem T2(h:p:=by simpa using a):p:=h
theorem QQ(h:p:=by simp[qI,rv]):p:=h
theorem QP(h:p:=by simp[rv,ra]):p:=h
theorem Hn(h:p:=by simp[h]):p:=h
theorem Nm(h:p:=by simp[lC]):p:=h
theorem Nf(h:p:=by simp[ro]):p:=h
theorem DP(h:p:=by simpa using this):p:=h
theorem K3(h:p:=by exact FX.rt (fin a j _ E b)):p:=h
theorem Nd(h:p:=by exact Bv _ _ _ _ (yA (n:=0) U)):p:=h
theorem PQ(h:p:=by exact⟨U,hS.1.2.2.2.2.2.2⟩):p:=h
structure bh where
 wh:Int
 nm:ByteArray
 kd:Int
 fl:Int
 ck:Int
 of:Int
 ln:Int
 dt:ByteArray
 er:Int
def bh.zero:bh:=⟨0,⟨#[]⟩,0,0,0,0,0,⟨#[]⟩,0⟩
def bh.closing:bh:=⟨4,⟨#[]⟩,0,0,0,0,0,⟨#[]⟩,0⟩
def bt(s:ByteArray)(i:Nat):Int:=((s.1.getD i 0).toNat:Int)
def pV(s i)(h:i<s.size):(s[i].toNat:Int)=bt s i:=by rw[bt];rw[show s[i]=s.1[i] from U];simp[rB,h]
def nU(s i):0<=bt s i/\bt s i<=255:=by rw[bt];have:=(s.1.getD i 0).toNat_lt;omega
def two(s:ByteArray)(i:Nat):Int:=bt s i+256*bt s (i+1)
abbrev xB(s d:ByteArray)(e:Int):bh:=⟨3,⟨#[]⟩,bt s 1,bt s 2,two s 3,two s 5,two s 7,d,e⟩
def pF(s i):0<=two s i/\two s i<=65535:=by let a:=nU s i;let b:=nU s (i+1);rw[two];omega
def tt(sz kd fl of ln:Int):Int:=
 if 5<kd\/1<fl then 22
 else if fl=1/\kd≠3/\kd≠1/\kd≠4 then 22
 else if kd≠0/\kd≠3/\kd≠1/\kd≠4 then(if of≠0\/ln≠0 then 22 else 0)
 else if ln=0\/ln %4≠0\/of %4≠0 then 22
 else if sz<of+ln then(if kd=1\/kd=4 then 28 else 22)
 else 0
def qg(i:Nat):Int:=if i=0 then 70 else if i=1 then 69 else if i=2 then 82 else if i=3 then 82 else 89
def cL(s:ByteArray):Nat->Nat->bh×Int
 |0,_=>if s.size<6 then(.zero,0)else(⟨1,s.extract 5 6,0,0,0,0,0,⟨#[]⟩,0⟩,6)
 |f+1,i=>if s.size<=i then(.zero,0)else if bt s i=qg i then cL s f (i+1)else(.closing,i+1)
def qb(s:ByteArray):bh×Int:=cL s 5 0
def CK(s:ByteArray):bh×Int:=if s.size=0 then(.zero,0)else if bt s 0<97\/122<bt s 0 then(.closing,1)else(⟨2,s.extract 0 1,0,0,0,0,0,⟨#[]⟩,0⟩,1)
def mH(sz a:Int)(used:av Int)(s:ByteArray):bh×Int:=
 if s.size<9 then(.zero,0)
 else if bt s 0≠81\/a<two s 7\/two s 3∈used then(.closing,9)
 else if bt s 1=1 then
  (if(s.size:Int)<9+two s 7 then(.zero,0)
   else((xB s (s.extract 9 (9+two s 7).toNat)<|tt sz (bt s 1) (bt s 2) (two s 5)<|two s 7),9+two s 7))
 else(⟨3,⟨#[]⟩,bt s 1,bt s 2,two s 3,two s 5,two s 7,⟨#[]⟩,tt sz (bt s 1) (bt s 2) (two s 5)<|two s 7⟩,9)
def first(sz a ph:Int)(used:av Int)(s:ByteArray):bh×Int:=if ph=0 then qb s else if ph=1 then CK s else if ph=2 then mH sz a used s else(.zero,0)
def ua(ph:Int)(m:bh):Int:=if m.1=1/\(m.2.toList==[97])=M then 1 else if m.1=2/\(m.2.toList==[103])=M then 2 else if m.1=3/\m.3=5/\m.9=0 then 3 else if m.1=4 then 4 else ph
def ta(m:bh):Bool:=decide (m.1=3/\m.9=0/\m.3≠5)
abbrev Key:=Int×Int
def eI(a b:Key):Bool:=decide (a.1<b.1)||(decide (a.1=b.1)&&decide (a.2<b.2))
def iI(a b:Key):Prop:=a.1<b.1\/(a.1=b.1/\a.2<=b.2)
def Gn(a b:Key):eI a b=M↔¬iI b a:=by unfold eI iI;simp;omega
def DF{a b}(h:eI a b=M):iI a b:=by rw[Gn]at h;unfold iI at*;omega
def DG{a b}(h:eI a b=aa):iI b a:=by
 have:¬eI a b=M:=by rw[h];simp
 rw[Gn]at this;exact ZB.1 this
def iI.E{a b c}(h:iI a b)(k:iI b c):iI a c:=by unfold iI at*;omega
def iI.refl(a:Key):iI a a:=by rw[iI];omega
def gZ{a:Type}(f:Nat->a)(i k:Nat):Nat->a:=λx=>if x=i then f k else if x=k then f i else f x
abbrev wn(i:Nat):Nat:=(i-1) / 2
def Hp(n:Nat)(f:Nat->Key):Prop:=∀j,0<j->j<n->iI (f<|wn j) (f j)
structure yp(n:Nat)(f:Nat->Key)(i:Nat):Prop where
 rest:∀j,0<j->j<n->j≠i->iI (f (wn j)) (f j)
 over:0<i->∀c,0<c->c<n->wn c=i->iI (f (wn i)) (f c)
structure ym(n:Nat)(f:Nat->Key)(i:Nat):Prop where
 rest:∀j,0<j->j<n->wn j≠i->iI (f (wn j)) (f j)
 over:0<i->∀c,0<c->c<n->wn c=i->iI (f (wn i)) (f c)
variable{f:Nat->Key}{a:eQ}{o:ep}{p:bM}
def yp.done(h:yp n f i)(hi:i=0\/eI (f i) (f<|wn i)=aa):Hp n f:=λj h0 a=>by by_cases e:j=i;subst e;obtain hi|hi:=hi;omega;exact DG hi;exact h.1 j h0 a e
def yp.step(h:yp n f i)(h0:0<i)(t:i<n)(m:eI (f i) (f<|wn i)=M):yp n (gZ f i<|wn i) (wn i):=by
 let u:wn i<i:=j4;let o:=DF m;refine⟨λj d g s=>?_,λl c p q r=>?_⟩;unfold gZ;by_cases e:j=i;subst e;rwa [aI Y,aO U,aO U];rw[aI e,aI s];by_cases a:wn j=i;rw[aO a];exact h.2 h0 j d g a;rw[aI a];by_cases b:wn j=wn i;rw[aO b];exact o.E (b▸h.1 j d g e);rw[aI b];exact h.1 j d g e;let v:wn (wn i)<wn i:=by simp only[wn]at l⊢;omega
 let k:=h.1 (wn i) l Y Y;unfold gZ;rw[aI Y,aI Y];by_cases e:c=i;rw[aO e];exact k;rw[aI e,aI j4];have:=h.1 c p q e;rw[r]at this;exact k.E this
def kT(n:Nat)(f:Nat->Key)(i c:Nat)(m:Nat):Nat:=if c<n/\eI (f c) (f m)=M then c else m
def ym.done(h:ym n f i)(hm:kT n f i (2*i+2) (kT n f i (2*i+1) i)=i):Hp n f:=λj h0 g=>by
 by_cases e:wn j=i;have l:j=2*i+1\/j=2*i+2:=by simp[wn]at e;omega
 have b:kT n f i (2*i+1) i=i:=by
  by_cases c:kT n f i (2*i+1) i=i;exact c;exfalso;let k:kT n f i (2*i+1) i=2*i+1:=by unfold kT at c⊢;split at c;rw[aO K4];cases c U
  rw[k]at hm;rw[kT]at hm;split at hm<;>omega
 rw[b]at hm;rw[e];obtain rfl|rfl:=l;rw[kT]at b;split at b;omega;rename_i d;cases a:eI (f<|2*i+1) (f i)with
 |true=>cases d ⟨g,a⟩
 |false=>exact DG a
 rw[kT]at hm;split at hm;omega;rename_i d;cases a:eI (f<|2*i+2) (f i)with
 |true=>cases d ⟨g,a⟩
 |false=>exact DG a
 exact h.1 j h0 g e
def Up{m}(hm:kT n f i (2*i+2) (kT n f i (2*i+1) i)=m)(k:m≠i):(m=2*i+1\/m=2*i+2)/\m<n/\eI (f m) (f i)=M/\∀c,c<n->(c=2*i+1\/c=2*i+2)->iI (f m) (f c):=by
 unfold kT at hm;by_cases e:2*i+1<n/\eI (f<|2*i+1) (f i)=M;rw[aO e]at hm;by_cases d:2*i+2<n/\eI (f<|2*i+2) (f<|2*i+1)=M;rw[aO d]at hm;subst hm;have b:=DF d.2;refine⟨az U,d.1,?_,λc j h=>?_⟩;have:=e.2;have:=d.2;rw[Gn]at*;unfold iI at*;omega;obtain rfl|rfl:=h;exact b;exact iI.refl _;rw[aI d]at hm;subst hm;refine⟨aA rfl,e.1,e.2,λc j h=>?_⟩;obtain rfl|rfl:=h;exact iI.refl _;cases g:eI (f<|2*i+2) (f<|2*i+1)with
 |true=>cases d ⟨j,g⟩
 |false=>exact DG g
 rw[aI e]at hm;by_cases d:2*i+2<n/\eI (f<|2*i+2) (f i)=M;rw[aO d]at hm;subst hm;refine⟨az U,d.1,d.2,λc j h=>?_⟩;obtain rfl|rfl:=h;cases g:eI (f<|2*i+1) (f i)with
 |true=>cases e ⟨j,g⟩
 |false=>exact(DF d.2).E<|DG g
 exact iI.refl _;rw[aI d]at hm;cases k hm.y
def ym.step{m}(h:ym n f i)(hm:kT n f i (2*i+2) (kT n f i (2*i+1) i)=m)(w:m≠i):ym n (gZ f i m) m:=by
 let⟨z,o,p,q⟩:=Up hm w;let d:wn m=i:=j4;refine⟨λj k l x=>?_,λA c r u g=>?_⟩;unfold gZ;by_cases e:wn j=i;rw[aO e];let v:j≠i:=j4;rw[aI v];by_cases a:j=m;rw[aO a];exact(DF p);rw[aI a];exact q j l j4;rw[aI e,aI x];by_cases a:j=i;subst a;rw[aO U];exact h.2 k m Y o d;rw[aI a];let b:j≠m:=λb=>e (b▸d);rw[aI b];exact h.1 j k l e;let t:c≠m:=by simp only[wn]at g;omega
 let s:c≠i:=j4;unfold gZ;rw[d,aO U,aI s,aI t];exact g▸h.1 c r u Y
def Hp.top(h:Hp n f):∀j,j<n->iI (f 0) (f j):=by
 intro j;induction j using Ky with
 |ind j b=>intro a;by_cases e:j=0;subst e;exact iI.refl _;exact(b (wn j) j4 j4).E<|h j Y a
structure St where
 ph:Int
 used:av Int
 pos:Nat
def St.step(st:St)(x:bh×Int):St:=⟨ua st.1 x.1,if ta x.1 then st.2++[x.1.5]else st.2,st.3+x.2.toNat⟩
def St.run(st:St)(xs:av (bh×Int)):St:=xs.foldl St.step st
def St.Oz(st:St)(xs:av (bh×Int))(x:bh×Int):st.run (xs++[x])=(st.run xs).step x:=by simp[St.run,zG]
def St.next(sz a:Int)(s:ByteArray)(st:St):bh×Int:=first sz a st.1 st.2 (s.extract st.3 s.size)
def mR(sz a:Int)(s:ByteArray):St->av (bh×Int)->Prop
 |_,[]=>True|st,x::b=>st.next sz a s=x/\x.2≠0/\mR sz a s (st.step x) b
def XE(sz mx s)(st:St)(xs:av (bh×Int))(x:bh×Int):mR sz mx s st (xs++[x])↔mR sz mx s st xs/\(st.run xs).next sz mx s=x/\x.2≠0:=by
 induction xs generalizing st with
 |nil=>simp[mR,St.run]
 |cons g h f=>simp only[lT,mR,f];simp;constructor;rintro⟨a,b,c,d,e⟩;exact⟨⟨a,b,c⟩,d,e⟩;rintro⟨⟨a,b,c⟩,d,e⟩;exact⟨a,b,c,d,e⟩
def abZ(s f i):0<=(cL s f i).2/\(cL s f i).2<=s.size:=by
 induction f generalizing i with
 |zero=>rw[cL];split<;>simp<;>omega
 |succ f a=>rw[cL];grind
def Mm(sz mx ph used s):0<=(first sz mx ph used s).2/\(first sz mx ph used s).2<=s.size:=by
 let a:=pF s 7;rw[first]
 split;exact abZ s 5 0;split
 ·rw[CK];repeat' split
  all_goals simp
  all_goals omega
 split
 ·rw[mH];repeat' split
  all_goals simp
  all_goals omega
 simp
def Wu(sz mx s)(st:St):0<=(st.next sz mx s).2/\(st.next sz mx s).2<=(s.size-st.3:Nat):=by
 have h:=Mm sz mx st.1 st.2 (s.extract st.3 s.size);let e:(s.extract st.3 s.size).size=s.size-st.3:=by simp[oH]
 rwa [e]at h
def OA(sz mx s)(st:St)(xs:av (bh×Int))(h0:st.3<=s.size)(h:mR sz mx s st xs):st.3+xs.length<=(st.run xs).3/\(st.run xs).3<=s.size:=by
 induction xs generalizing st with
 |nil=>simp[St.run];omega
 |cons x xs d=>let⟨a,f,b⟩:=h;have c:=Wu sz mx s st;rw[a]at c;let e:(st.step x).3=st.3+x.2.toNat:=U;have:=d (st.step x) Y b;simp[St.run,uy,gH]at this⊢;omega
def cu(n:Int):av UInt8:=[ji (n %256).toNat,ji (n / 256).toNat]
def vt(sz a:Int)(m:bh):ByteArray:=
 if m.1=1 then(if(m.2.toList==[97])=M then⟨#[89]⟩else⟨#[78]⟩)
 else if m.1=2 then(if(m.2.toList==[105])=M then⟨#[73]⟩++⟨(cu sz).toArray⟩++⟨(cu a).toArray⟩else if(m.2.toList==[103])=M then⟨#[71]⟩else⟨#[85]⟩++m.2)
 else⟨#[]⟩
structure Cl where
 no:Int
 wt:Int
 ph:Int
 aN:ByteArray
 H:ByteArray
 tok:Int
def acf(s f i):(cL s f i).1.1=0/\(cL s f i).2=0\/(cL s f i).1.1=1\/(cL s f i).1=.closing:=by
 induction f generalizing i with
 |zero=>rw[cL];split<;>simp[bh.zero]
 |succ f a=>rw[cL];split;simp[bh.zero];split;exact a<|i+1;simp
structure bS(is:av Nat)(X b:Prop):Prop where
 H:X->b
def bS.nil:bS [] X X:=⟨λh=>h⟩
def bS.h{S:aq->Prop}{b:ep}{is:av Nat}(hS:S w:=by assumption) (j:jt[i]? =Z b:=by rfl)
  (k:G3 jt=M:=by kernel_rfl) (hf:G1 md jt ly i=M:=by kernel_rfl) (hr:(fS md jt ly).contains i=M:=by kernel_rfl)
  (e:∀c a w,Q (.panic c) (a.put b.1 v) w->Q (.panic c) a w:=by exact λ_ _ _ h=>h)
  (hy:KP P jt S b v a:=by first|(refine aA ⟨rfl,λl f=>?_⟩;(try dsimp only at f);go_simp;(try with_reducible rfl);done)|exact az ⟨rfl,rfl⟩)
  (g:a.put b.1 v=d:=by(first|(simp only[Act.put,B4,uz,BT,Fq,Fv,Fu];rfl)|rfl)) (h:bS is X (wpAnyH P md jt Q S ma (mP ly i M) d w)):bS (i::is) X (wpAnyH P md jt Q S (ma+1) ly a w):=
 ⟨λx=>wpAnyH_take j k hf hr e hy hS (g▸h.H x)⟩
variable{b:Prop}
def tl(is:av Nat)(h:X)(t:bS is X b:=by first|exact bS.h (h:=.nil)|exact bS.h (h:=bS.h (h:=.nil))|exact bS.h (h:=bS.h (h:=bS.h (h:=.nil)))|exact bS.h (h:=bS.h (h:=bS.h (h:=bS.h (h:=.nil))))|exact bS.h (h:=bS.h (h:=bS.h (h:=bS.h (h:=bS.h (h:=.nil)))))|exact bS.h (h:=bS.h (h:=bS.h (h:=bS.h (h:=bS.h (h:=bS.h (h:=.nil))))))|exact bS.h (h:=bS.h (h:=bS.h (h:=bS.h (h:=bS.h (h:=bS.h (h:=bS.h (h:=.nil)))))))|exact bS.h (h:=bS.h (h:=bS.h (h:=bS.h (h:=bS.h (h:=bS.h (h:=bS.h (h:=bS.h (h:=.nil))))))))):b:=t.H h
def bS.z{S:aq->Prop}{b:ep}{is:av Nat}(hS:S w:=by assumption) (g:jt[i]? =Z b:=by rfl)
  (j:G3 jt=M:=by kernel_rfl) (hf:G1 md jt ly i=M:=by kernel_rfl) (hr:(fS md jt ly).contains i=M:=by kernel_rfl)
  (e:∀c a w,Q (.panic c) (a.put b.1 y) w->Q (.panic c) a w:=by exact λ_ _ _ h=>h) (k:cY b (co jt a.1)=aa:=by rfl)
  (f:a.put b.1 y=d:=by(first|(simp only[Act.put,B4,uz,BT,Fq,Fv,Fu];rfl)|rfl)) (h:bS is X (wpAnyH P md jt Q S ma (mP ly i M) d w)):bS (i::is) X (wpAnyH P md jt Q S (ma+1) ly a w):=
 ⟨λx=>wpAnyH_take g j hf hr e (az ⟨k,U⟩) hS (f▸h.H x)⟩
def CH(is:av Nat)(h:X)(t:bS is X b:=by first|exact bS.z (h:=.nil)|exact bS.z (h:=bS.z (h:=.nil))|exact bS.z (h:=bS.z (h:=bS.z (h:=.nil)))|exact bS.z (h:=bS.z (h:=bS.z (h:=bS.z (h:=.nil))))|exact bS.z (h:=bS.z (h:=bS.z (h:=bS.z (h:=bS.z (h:=.nil)))))|exact bS.z (h:=bS.z (h:=bS.z (h:=bS.z (h:=bS.z (h:=bS.z (h:=.nil))))))|exact bS.z (h:=bS.z (h:=bS.z (h:=bS.z (h:=bS.z (h:=bS.z (h:=bS.z (h:=.nil)))))))|exact bS.z (h:=bS.z (h:=bS.z (h:=bS.z (h:=bS.z (h:=bS.z (h:=bS.z (h:=bS.z (h:=.nil))))))))):b:=t.H h
open Go
def rH{S:aq->Prop}(i)(h:∀b:eQ->aq->Prop,Shut (∀a w,S w->(S w->wpAnyH P md jt Q S ma (mP ly i M) a w)->b a w)->if cY o (co jt a.1)=M then tr P o a w b Q else b (a.put o.1 y) w)(c:jt[i]? =Z o:=by rfl) (hr:fS md jt ly=[i]:=by kernel_rfl):wpAnyH P md jt Q S (ma+1) ly a w:=wpAnyH_ready hr ay (.cons c h .nil)
def aH{S:aq->Prop}(rs)(h:AllReadyH P md jt Q S ma ly a w rs)(hr:fS md jt ly=rs:=by kernel_rfl) (b:rs≠[]:=by simp):wpAnyH P md jt Q S (ma+1) ly a w:=wpAnyH_ready hr b h
def ga{S:aq->Prop}{id:Nat}(hS:S w.drew)(h:S w.drew->wpAnyH P .any jt (lg Q) S jt.size (oG jt.size aa) a w.drew)(hm:P.follows .mixedOrders=M:=by kernel_rfl):(JJ id jt M).wp P Q a w:=eu (wp_region_held_drew hm hS h)
def dJ{S:aq->Prop}(h:Q .normal a w)(hr:fS md jt ly=[]:=by kernel_rfl):wpAnyH P md jt (lg Q) S ma ly a w:=wpAnyH_done hr (F0 h) _
def acd(s f i):(cL s f i).1.2.size<=1:=by
 induction f generalizing i with
 |zero=>rw[cL];split
        exact(by decide:(0:Nat)<=1);show(s.extract 5 6).size<=1;simp[oH];omega
 |succ f a=>rw[cL];split;exact(by decide:(0:Nat)<=1);split;exact a<|i+1;exact(by decide:(0:Nat)<=1)
def TZ(sz mx ph us s):(first sz mx ph us s).1.2.size<=1:=by
 rw[first]
 split;exact acd s 5 0;split;rw[CK];split;exact(by decide:(0:Nat)<=1);split;exact(by decide:(0:Nat)<=1);show(s.extract 0 1).size<=1;simp[oH];omega;split
 ·rw[mH]
  repeat' split
  all_goals exact(by decide:(0:Nat)<=1)
 exact(by decide:(0:Nat)<=1)
def ub(md:zM)(jt:aF ep)(i:Nat):Nat->Nat->Bool
 |0,j=>j==i|n+1,j=>ub md jt i n j||(match jt[j]? with|some o=>o.5.any λe=>zN md e&&ub md jt i n e.1|none=>aa)
def MO:∀{n:Nat},ub md jt i n j=M->j=i\/∃o e,jt[j]? =Z o/\e∈o.5/\zN md e=M/\ub md jt i n e.1=M
 |0,h=>aA (by simpa[ub]using h)|n+1,h=>by
  simp[ub,vJ]at h;obtain h|h:=h;obtain e|⟨o,e,c,d,f,g⟩:=MO h;exact aA e;exact az ⟨o,e,c,d,f,by simp[ub,g]⟩;cases b:jt[j]? with
  |none=>rw[b]at h;cases h
  |some o=>rw[b]at h;simp only[Array.any_eq_true']at h;let⟨e,k,h⟩:=h;rw[cQ]at h;exact az ⟨o,e,U,k,h.1,by simp[ub,h.2]⟩
def LM{ly}(h:∀k,ub md jt i n k=M->ly.getD k M=aa)(c:j∈fS md jt ly)(d:j≠i):
  ∀k,ub md jt i n k=M->(mP ly j M).getD k M=aa:=λk b=>by
 by_cases e:j=k
 subst e;obtain e|⟨o,e,f,g,l,m⟩:=MO b;cases d e
 let⟨_,r,q,p⟩:=kq.1 c
 grind
 rw[KV M e];exact h k b
def wS(li:Fence)(P:bM)(jt:aF ep)(T:aq->Prop)(o:ep)(v:aB)(a:eQ):Prop:=KP P jt T o v a/\∀w f,o.about P w a.eval=Z f->li.1 f
def wS.wpOpIn(f:∀c,o.2≠.defer c)(e:jt[i]? =Z o)(hy:wS li P jt T o v a){K}(d:T w)(h:K (a.put o.1 v) w):wpOpIn li n P jt Q i K a w:=by rw[Go.wpOpIn];simp[e];obtain⟨b,hv⟩|⟨b,rfl⟩:=hy.1;simp[b,dN,FD,QJ li _ _ f,hv w d,KE];exact⟨hy.2 w,h⟩;simp[b,ff,dM];exact⟨hy.2 w,h⟩
def akp{g}(B:∀c,g.2≠.defer c)(E:jt[j]? =Z g)(D:oi.apart jt g=M)(G:∀cs b,oi.2≠.select cs b)(H:∀cs b,g.2≠.select cs b)(t:∀c a w,Q (.panic c) (a.put oi.1 v) w->Q (.panic c) a w){K}(hy:wS li P jt T oi v a)(h:wpOpIn li n P jt Q j K (a.put oi.1 v) w):
  wpOpIn li n P jt Q j (λa' A=>wS li P jt T oi v a'/\K (a'.put oi.1 v) A) a w:=by
 let⟨p,m,q⟩:=Oper.apart_spec D
 have keep:∀(a:eQ),wS li P jt T oi v a->∀u,wS li P jt T oi v (a.put g.1 u):=λa hy u=>⟨hy.1.of_same (execOp_put oi G a g.1 u q)<|wanted_put oi a g.1 u q,λw=>by rw[kS oi w a g.1 u q];exact hy.2 w⟩
 have J:∀d,wS li P jt T oi v {a with defers:=d::a.2}:=λd=>hy;unfold wpOpIn at*;simp only[E]at*;rw[wanted_put g a oi.1 v p,kS g w a oi.1 v p]at h;split
 ·rename_i z;simp only[z,dN]at h;unfold FD at*;rw[kS g w a oi.1 v p]at h;refine⟨h.1,?_⟩;have h:=h.2;rw[QJ li _ _ B,execOp_put g H a oi.1 v p]at h;rw[QJ li _ _ B];generalize (a7 a.eval g).run P w=r at*;cases r with
  |ok x A=>
   cases x<;>simp[KE]at h⊢;case value u=>exact⟨keep a hy u,by rw[<-zu a v u m];exact h⟩
   case skip=>exact⟨keep a hy _,by rw[<-zu a v y m];exact h⟩
   case defer d=>refine⟨keep _ (J d) _,?_⟩;rwa [<-zu _ v y m,<-eQ.put_defers]
   case enter f args=>
    refine⟨h.1,CallsIn.V h.2 λe C k=>?_⟩;cases e with
    |returned u=>exact⟨keep a hy u,by rw[<-zu a v u m];exact k⟩
    |panicked c=>exact t _ _ _ k
    |outgrown=>exact k
   case row row args=>exact⟨h.1,RowsIn.V h.2 λu C k=>⟨keep a hy u,by rw[<-zu a v u m];exact k⟩⟩
   case round l f tmps assign body=>
    refine⟨h.1,RoundIn.V h.2 λe C k=>?_⟩;cases e with
    |returned u=>exact⟨keep a hy u,by rw[<-zu a v u m];exact k⟩
    |panicked c=>exact t _ _ _ k
    |outgrown=>exact k
  |halt x A=>cases x<;>simp[KE]at h⊢;case panic u=>exact t _ _ _ h
 rename_i z;simp[z]at h;exact⟨h.1,keep a hy _,by rw[<-zu a v y m];exact h.2⟩
def oC(li:Fence)(n:Nat)(P:bM)(md:zM)(jt:aF ep)(Q:xl->eQ->aq->Prop)(S:aq->Prop)(s:Nat):Nat->aF Bool->eQ->aq->Prop
 |0,ly,a,w=>fS md jt ly=[]/\Q .normal a w|ma+1,ly,a,w=>
  (fS md jt ly=[]->Q .normal a w)/\
  ∀i∈fS md jt ly,wpOpIn li n P jt Q i (λa' b=>((mP ly i M).getD s M=aa->S b)/\oC li n P md jt Q S s ma (mP ly i M) a' b) a w
def Zc{S:aq->Prop}:∀(ma:Nat) (ly:aF Bool) (a:eQ) (w:aq),oC li n P md jt Q S s ma ly a w->wpAnyIn li n P md jt Q ma ly a w
 |0,_,_,_,h=>h|ma+1,_,_,_,h=>⟨h.1,λi c=>wpOpIn_mono (λa' d b=>Zc ma _ a' d b.2) (h.2 i c)⟩
def Mc(jt:aF ep):Bool:=G3 jt&&jt.all λo=>match o.2 with|.defer _=>aa|_=>M
def Nw(h:Mc jt=M)(b:jt[j]? =Z o):∀c,o.2≠.defer c:=λc e=>by rw[Mc]at h;grind
def Zd{S:aq->Prop}{m}(l:jt[i]? =Z oi)(r:Mc jt=M)
  (R:∀c a w,Q (.panic c) (a.put oi.1 v) w->Q (.panic c) a w) (J:i≠s) (z:(∀w,T w)\/((∀w,S w->T w)/\ub md jt i m s=M)):
  ∀(ma:Nat) (ly:aF Bool) (a:eQ) (w:aq),
   (∀j g,jt[j]? =Z g->j≠i->ly.getD j M=aa->(∀e∈g.5,zN md e=M->e.1≠i)->oi.apart jt g=M)->
   i∈fS md jt ly->((∀k,ub md jt i m k=M->ly.getD k M=aa)\/∀w,T w)->wS li P jt T oi v a->(ly.getD s M=aa->S w)->
   oC li n P md jt Q S s ma (mP ly i M) (a.put oi.1 v) w->oC li n P md jt Q S s (ma+1) ly a w:=by
 let G:=Region.noSelect_spec ((cQ _ _).mp r).1
 let L:∀{ly:aF Bool} {w:aq},((∀k,ub md jt i m k=M->ly.getD k M=aa)\/(∀w,T w))->(ly.getD s M=aa->S w)->T w:=λh hS=>by obtain h|h:=h;obtain z|⟨f,O⟩:=z;exact z _;exact f _<|hS<|h s O;exact h _
 let E:∀{ly:aF Bool} {w:aq},(ly.getD s M=aa->S w)->(mP ly i M).getD s M=aa->S w:=λh e=>h (by rw[KV M J]at e;exact e);intro ma;induction ma with
 |zero=>refine λly a w _ hr q u hS H=>⟨λh=>(by rw[h]at hr;cases hr),λj p=>?_⟩;by_cases d:j=i;subst d;exact u.wpOpIn (Nw r l) l (L q hS) ⟨E hS,H⟩;have:=ez p d;rw[H.1]at this;cases this
 |succ ma ih=>
  refine λly a w B hr q u hS H=>⟨λh=>(by rw[h]at hr;cases hr),λj p=>?_⟩;by_cases d:j=i;subst d;exact u.wpOpIn (Nw r l) l (L q hS) ⟨E hS,H⟩;have f:=H.2 j (ez p d);let⟨D,g,t,V⟩:=kq.1 p;let aD:∀e∈g.5,zN md e=M->e.1≠i:=λe X W af=>by have f:=V e X W;have h0:=(kq.1 hr).1;rw[af]at f;obtain h'|h':=lq i ly.size;simp[h']at h0 f;rw[h0]at f;cases f;simp[vC h']at f
  let ah:∀k ok,jt[k]? =Z ok->k≠i->(mP ly j M).getD k M=aa->
    (∀e∈ok.5,zN md e=M->e.1≠i)->oi.apart jt ok=M:=λk ok hk an K aC=>by
   refine B k ok hk an ?_ aC
   by_cases C:j=k
   subst C;exact D;rw[KV M C]at K;exact K
  refine wpOpIn_mono (λa' N x=>?_)<|akp (Nw r t) t (B j g t d D aD) (λcs b=>G i oi cs b l) (λcs b=>G j g cs b t) R u f;let A:(mP ly j M).getD s M=aa->S N:=λe=>x.2.1 (by rw[Zr _ _<|dB d,KV M J];exact e);refine⟨A,ih (mP ly j M) a' N ah (ez hr<|dB d) (q.imp (λh=>LM h p d) id) x.1 A ?_⟩;rw[Zr _ _ d];exact x.2.2
def g0{S:aq->Prop}(i)(h:oC li n P md jt Q S s ma (mP ly i M) a' w)(hS:S w:=by assumption) (b:jt[i]? =Z oi:=by rfl)
  (j:Mc jt=M:=by kernel_rfl) (hf:G1 md jt ly i=M:=by kernel_rfl) (hr:(fS md jt ly).contains i=M:=by kernel_rfl) (k:i≠s:=by decide)
  (d:∀c a w,Q (.panic c) (a.put oi.1 y) w->Q (.panic c) a w:=by exact λ_ _ _ h=>h) (l:cY oi (co jt a.1)=aa:=by rfl) (g:∀w f,oi.about P w a.eval=Z f->li.1 f:=by first|exact λ_ _ _=>trivial|(intro _ _ h;cases h))
  (e:a.put oi.1 y=a':=by(first|(simp only[Act.put,B4,uz,BT,Fq,Fv,Fu];rfl)|rfl)):oC li n P md jt Q S s (ma+1) ly a w:=
 Zd (T:=λ_=>True) (m:=0) b j d k (aA λ_=>trivial) ma ly a w (G2 b hf) (by simpa using hr) (az λ_=>trivial) ⟨az ⟨l,U⟩,g⟩ (λ_=>hS) (e▸h)
def bS.g{S:aq->Prop}{is:av Nat}(hS:ly.getD s M=aa->S w:=by first|(intro e;cases e;done)|(intro _;assumption)) (b:jt[i]? =Z oi:=by rfl)
  (r:Mc jt=M:=by kernel_rfl) (hf:G1 md jt ly i=M:=by kernel_rfl) (hr:(fS md jt ly).contains i=M:=by kernel_rfl) (t:i≠s:=by decide)
  (j:∀c a w,Q (.panic c) (a.put oi.1 v) w->Q (.panic c) a w:=by exact λ_ _ _ h=>h) (p:∀w f,oi.about P w a.eval=Z f->li.1 f:=by first|exact λ_ _ _=>trivial|(intro _ _ h;cases h))
  (hy:KP P jt (λ_=>True) oi v a\/((ub md jt i 6 s&&((dA jt.size).all λk=>!(ub md jt i 6 k)||!(ly.getD k M)))=M/\KP P jt S oi v a):=by
   first
   |(refine aA (aA ⟨rfl,λB _=>?_⟩);go_simp;(try with_reducible rfl);done)
   |exact aA (az ⟨rfl,rfl⟩)
   |(refine az ⟨by kernel_rfl,aA ⟨rfl,λB z=>?_⟩⟩;(try dsimp only at z);go_simp;(try with_reducible rfl);done))
  (l:a.put oi.1 v=a':=by(first|(simp only[Act.put,B4,uz,BT,Fq,Fv,Fu];rfl)|rfl)) (h:bS is X (oC li n P md jt Q S s ma (mP ly i M) a' w)):bS (i::is) X (oC li n P md jt Q S s (ma+1) ly a w):=by
 refine⟨λx=>?_⟩;obtain hy|⟨d,hy⟩:=hy
 ·exact Zd (T:=λ_=>True) (m:=0) b r j t (aA λ_=>trivial) ma ly a w (G2 b hf) (by simpa using hr) (az λ_=>trivial) ⟨hy,p⟩ hS (l▸h.H x)
 rw[cQ,nA]at d;refine Zd (T:=S) (m:=6) b r j t (az ⟨λ_ h=>h,d.1⟩) ma ly a w (G2 b hf) (by simpa using hr) (aA λk q=>?_) ⟨hy,p⟩ hS (l▸h.H x)
 let A:k<pB jt:=by
  obtain e|⟨o,e,u,_⟩:=MO q;·subst e;exact(bf.1 b).1
  ·exact(bf.1 u).1
 have:=d.2 k (nD.2 A);rw[q]at this;exact DP
def tg(is:av Nat)(h:X)(t:bS is X b:=by first|exact bS.g (h:=.nil)|exact bS.g (h:=bS.g (h:=.nil))|exact bS.g (h:=bS.g (h:=bS.g (h:=.nil)))|exact bS.g (h:=bS.g (h:=bS.g (h:=bS.g (h:=.nil))))|exact bS.g (h:=bS.g (h:=bS.g (h:=bS.g (h:=bS.g (h:=.nil)))))|exact bS.g (h:=bS.g (h:=bS.g (h:=bS.g (h:=bS.g (h:=bS.g (h:=.nil))))))|exact bS.g (h:=bS.g (h:=bS.g (h:=bS.g (h:=bS.g (h:=bS.g (h:=bS.g (h:=.nil)))))))|exact bS.g (h:=bS.g (h:=bS.g (h:=bS.g (h:=bS.g (h:=bS.g (h:=bS.g (h:=bS.g (h:=.nil))))))))):b:=t.H h
def jr{S:aq->Prop}(i)(h:∀b:eQ->aq->Prop,Shut (∀a w,S w->(S w->oC li n P md jt Q S s ma (mP ly i M) a w)->b a w)->if cY o (co jt a.1)=M then FD li n P o a w b Q else(∀f,o.about P w a.eval=Z f->li.1 f)/\b (a.put o.1 y) w)(e:jt[i]? =Z o:=by rfl) (hr:fS md jt ly=[i]:=by kernel_rfl):oC li n P md jt Q S s (ma+1) ly a w:=by refine⟨λh0=>j4,?_⟩;rw[hr];intro j d;obtain rfl:=iz.1 d;rw[wpOpIn];simp[e];exact h _<|λa w c h=>⟨λ_=>c,h c⟩
def jz{S:aq->Prop}(h:∀b:eQ->aq->Prop,Shut (∀a w,oC li n P md jt Q S s ma (mP ly s M) a w->b a w)->if cY o (co jt a.1)=M then FD li n P o a w b Q else(∀f,o.about P w a.eval=Z f->li.1 f)/\b (a.put o.1 y) w)(k:jt[s]? =Z o:=by rfl) (hr:fS md jt ly=[s]:=by kernel_rfl) (g:s<pB ly:=by decide):oC li n P md jt Q S s (ma+1) ly a w:=by
 refine⟨λh0=>j4,?_⟩;rw[hr];intro j d;obtain rfl:=iz.1 d;rw[wpOpIn];simp only[k];let c:(mP ly j M).getD j M≠aa:=by simp[g]
 exact h _<|λa w h=>⟨λe=>absurd e c,h⟩
def Jz{S:aq->Prop}(hr:fS md jt ly=[])(h:Q .normal a w):∀ma,oC li n P md jt Q S s ma ly a w
 |0=>⟨hr,h⟩|_+1=>⟨λ_=>h,by rw[hr];simp⟩
def JA{S:aq->Prop}{id}(s)(hm:P.follows .mixedOrders=M)(hS:S w.drew)
  (h:S w.drew->oC li n P .any jt Q S s jt.size (oG jt.size aa) a w.drew):(JJ id jt M).wpIn li n P Q a w:=
 wpIn_region_any hm (Zc _ _ _ _<|h hS)
abbrev pG:=oC ig 0
def PS{K}(h:tr P o a w K Q):FD ig n P o a w K Q:=by
 refine⟨λ_ _=>trivial,?_⟩;have e:o.semAt ig.4 a.eval=a7 a.eval o:=U;rw[e];rw[tr]at h;generalize (a7 a.eval o).run P w=r at*;cases r with
 |ok x b=>
  cases x<;>simp[Oper.upon,KE]at h⊢;all_goals first
   |exact h|exact⟨nofun,callsIn_wide.2 h⟩|exact⟨nofun,λi cs _=>let⟨v,b,r,s⟩:=h i cs;⟨v,b,r,stepsIn_wide.2 s⟩⟩
 |halt x b=>cases x<;>exact h
def gr{S:aq->Prop}(i)(h:∀b:eQ->aq->Prop,Shut (∀a w,S w->(S w->pG P md jt Q S s ma (mP ly i M) a w)->b a w)->if cY o (co jt a.1)=M then tr P o a w b Q else b (a.put o.1 y) w)(d:jt[i]? =Z o:=by rfl) (hr:fS md jt ly=[i]:=by kernel_rfl):pG P md jt Q S s (ma+1) ly a w:=jr i (λK c=>by have:=h K c;split;rw[aO K4]at this;exact PS this;rw[aI K4]at this;exact⟨λ_ _=>trivial,this⟩) d hr
def gz{S:aq->Prop}(h:∀b:eQ->aq->Prop,Shut (∀a w,pG P md jt Q S s ma (mP ly s M) a w->b a w)->if cY o (co jt a.1)=M then tr P o a w b Q else b (a.put o.1 y) w)(e:jt[s]? =Z o:=by rfl) (hr:fS md jt ly=[s]:=by kernel_rfl) (d:s<pB ly:=by decide):pG P md jt Q S s (ma+1) ly a w:=jz (λK c=>by have:=h K c;split;rw[aO K4]at this;exact PS this;rw[aI K4]at this;exact⟨λ_ _=>trivial,this⟩) e hr d
def ako{S:aq->Prop}(hr:fS md jt ly=[])(h:Q .normal a w):∀ma,oC li n P md jt Q S s ma ly a w:=Jz hr h
def Ze{S:aq->Prop}{id}(s)(hm:P.follows .mixedOrders=M)(hS:S w.drew)
  (h:S w.drew->pG P .any jt Q S s jt.size (oG jt.size aa) a w.drew):(JJ id jt M).wp P Q a w:=
 wpIn_wide.1 (JA s hm hS h)
def gY{S:aq->Prop}{id:Nat}(s:Nat)(hS:S w.drew)(h:S w.drew->pG P .any jt (lg Q) S s jt.size (oG jt.size aa) a w.drew)(hm:P.follows .mixedOrders=M:=by kernel_rfl):(JJ id jt M).wp P Q a w:=eu (Ze s hm hS h)
def gl{S:aq->Prop}(h:Q .normal a w)(hr:fS md jt ly=[]:=by kernel_rfl):oC li n P md jt (lg Q) S s ma ly a w:=ako hr (F0 h) _
class an where
 ok:aZ->Prop
 code:fu->Prop
 known:aZ->Prop
 /-- slots of a function's frames that may hold what nobody knows -/
 dU:aZ->av Nat
 /-- blocks that are only looked at there, and what they hold -/
 tY:Nat->aV Obj
 /-- the program that runs -/
 prog:bM
variable[an]
def wL(t:aY):Prop:=∀lz v,plainCell an.prog an.prog.depth t lz=Z v->∃k,v=.int k 0
@[simp] def nJ:Halt->Prop
 |.stuck _=>True|.unsupported (.initOrder _)=>False|.unsupported _=>True|_=>False
def cC:Obj:=.coro aj
def CT(o:aV Obj):Prop:=∃x t fz,o=Z (au x t fz)/\pB x≠0/\fz.2<=fz.1
abbrev _root_.Go.World.tp(w:aq)(a:Nat->kK->Nat):aq:={w with tape:=a}
def tC(c aL:Nat->kK->Nat)(a b:Nat):Prop:=∀i q,a<=i->i<b->c i q=aL i q
variable{b:Nat}{d:Type}{o:Obj}{s:fb α}{Q:α->β->Prop}{K:Nat×Bool->Prop}{g:γ->δ->Prop}
def tC.sub{τ aL a a' b'}(h:tC τ aL a b)(e:a<=a')(f:b'<=b):tC τ aL a' b':=λi q c d=>h i q (cM e c) (cS d f)
def _root_.Go.Result.world{a:Type}:lV a->aq
 |.ok _ w=>w|.halt _ w=>w
def _root_.Go.Result.tp{b:Type}(c:Nat->kK->Nat):lV b->lV b
 |.ok a w=>.ok a (w.tp c)|.halt h w=>.halt h (w.tp c)
structure qM(w w1:aq):Prop where
 drawn:w.3<=w1.3
 tape:w1.2=w.2
def qM.refl(w):qM w w:=⟨aR _,U⟩
def qM.E{a b c}(h:qM a b)(k:qM b c):qM a c:=⟨cM h.1 k.1,k.2.E h.2⟩
def IU(w:aq)(b:Nat->kK->Nat)(a v):(w.tp b).setCell a v=(w.setCell a v).tp b:=U
def aaK(w:aq)(b:Nat->kK->Nat)(a v m):(w.tp b).farStore p a v m=match w.farStore p a v m with|.ok (c,t)=>.ok (c.tp b,t)|.error h=>.error h:=by
 have hv:∀at_ u,(w.tp b).viewStore p at_ u a v m=match w.viewStore p at_ u a v m with|.ok (c,t)=>.ok (c.tp b,t)|.error h=>.error h:=λat_ u=>by
  unfold QO;have d:(w.tp b).seen p at_ u a m=w.seen p at_ u a m:=U;simp only[bind,EO,pure,EP,d];have Ha:∀{f:Type} (s:String),(QE s:Except String f)=.error s:=λ_=>U;simp only[Ha]
  repeat' (split<;>try rfl)
  all_goals simp_all
 unfold FI;split;rename_i x g e;grind;rename_i o e;split;rename_i h;cases h;rename_i h;rw[<-h];rfl
variable{a:iL}
def Pd{m}{k:fb d}(b:∀x,v≠ν x)(c:∀x,v≠θ x):(KI m a v k).run p w=(match kD w a with
  |some _=>if nc w a then .halt (.unsupported<|.unsafePointer "a write to bytes that a string shares") w else k.run p (w.setCell a v)
  |none=>match w.farStore p a v (m==.atomic)with|.ok (w,_)=>k.run p w|.error h=>.halt h w):=by
 cases v<;>first|rfl|exact absurd rfl (b _)|cases c _ rfl
def ajN{r}(h:w.1[r]? =Z o)(b:∀a l,o≠.view a l):(wB r).run p w=.ok aj w:=by rw[wB];cases o<;>first|exact absurd rfl (b _ _)|simp[shape,getObj,ee,BC,fK,mK,h,Ch]
def rm(w:aq)(x:iL):Bool:=nc w x||(match nL w x.1 with|some (_,n)=>nc w {block:=x.1,off:=n}|none=>aa)
def Jo(w:aq)(x:iL):Bool:=match nL w x.1 with|some (_,0)=>M|_=>aa
def yN(w:aq)(a b:iL):Bool:=(rm w a&&rm w b)||(rm w a&&Jo w a)||(rm w b&&Jo w b)
def Bn{m}{k:fb e}{es}(b:∀x,v≠ν x)(c:∀x,v≠θ x):(KI m a v k).runT p w es=(match kD w a with
  |some _=>if nc w a then(.halt (.unsupported<|.unsafePointer "a write to bytes that a string shares") w,es)else k.runT p (w.setCell a v) (es.push ⟨.cell a,M,m==.atomic⟩)
  |none=>match w.farStore p a v (m==.atomic)with|.ok (w,d)=>k.runT p w (es++d.toArray.map (⟨.cell ·,M,m==.atomic⟩))|.error h=>(.halt h w,es)):=by
 cases v<;>first|rfl|exact absurd rfl (b _)|cases c _ rfl
def kX{j l:Type}{f:j->fb l}(s:fb j):∀(w:aq) (es:aF gv),(s.bind f).runT p w es=(match s.runT p w es with
  |(.ok a i,x)=>(f a).runT p i x|(.halt h i,x)=>(.halt h i,x)):=by
 induction s with
 |pure a=>intro w es;rfl|load m a k b=>intro w es;simp only[fK,eA];grind|store m a v k b=>intro w es;by_cases g:(∃x,v=ν x)\/∃x,v=θ x;obtain⟨x,rfl⟩|⟨x,rfl⟩:=g<;>rfl;let d:(∀x,v≠ν x)/\∀x,v≠θ x:=⟨λx e=>g (aA ⟨x,e⟩),λx e=>g (az ⟨x,e⟩)⟩;rw[show(KI m a v k).bind f=KI m a v (k.bind f) from U,Bn d.1 d.2,Bn d.1 d.2];grind
 |new o k b=>exact λw es=>b _ _ _|shape r k b=>intro w es;exact b _ _ _|freeze a n k b=>exact λw es=>b _ _|frozen a k b=>intro w es;exact b _ _ _|getObj r k b=>intro w es;simp only[fK,eA];grind|setObj r o k b=>intro w es;simp only[fK,eA];grind|choose q k b=>intro w es;simp only[fK,eA];grind|sys c k b=>exact λw es=>b _ _ _|program k b=>intro w es;exact b _ _ _|mark m k b=>exact λw es=>b _ _|halt h=>intro w es;rfl
def Yr(w a es):(Lb a).runT p w es=(.ok (rm w a) w,es):=by
 unfold Lb rm;show(fb.frozen a _).runT p w es=_;rw[eA];cases b:nc w a with
 |true=>rfl
 |false=>show(zO a.1 _).runT p w es=_;rw[eA];rcases h2:nL w a.1 with _|x;rfl;rfl
def VX(w a b es):(Cu a b).runT p w es=(.ok (yN w a b) w,es):=by rw[Cu];show(fK (Lb a) _).runT p w es=_;rw[kX,Yr];show(fK (Lb b) _).runT p w es=_;rw[kX,Yr];unfold eA;show(zO b.1 _).runT p w es=_;unfold eA;unfold yN Jo;generalize rm w a=sa;generalize rm w b=d;obtain _|x:=nL w a.1;obtain _|lm:=nL w b.1;rfl;let⟨t,n⟩:=lm;cases n<;>rfl;let⟨t,n⟩:=x;obtain _|lm:=nL w b.1;cases n<;>rfl;let⟨e,c⟩:=lm;cases n<;>cases c<;>rfl
open an renaming code->ij
open an renaming prog->ae
open an renaming known->il
open Go.ConcN (sumTo upd sumTo_upd upd_ne upd_same)
class Sg where
 aL:Nat->Nat
 S:Nat->Prop
 bad:Bool
 okf:aZ->Bool
 lJ:Loop->Bool
 okv:aY->Bool
 IZ:∀{t},okv t=M->wL t
 hv:∀{t},wL t->okv t=M
 hf:∀f,okf f=M↔an.ok f
 hl:∀l:Loop,lJ l=M↔(il l.fn/\ij l.6/\ij l.body/\∀c,l.2=Z c->ij c)
 inj:∀{a b},aL a=aL b->a=b
 low:∀b,aL b<ae.globals.size->b<ae.globals.size
class Tp where
 top:Nat
open Sg Tp
variable[Sg][Tp]
def ra(a:iL):iL:={a with block:=aL a.1}
def mn:Bool->String
 |false=> ""|true=> " "
def kG:Fn->Fn
 |.func f=>.func (if okf f then f else pB ae.2+bad.toNat)|.yield l=>.yield (aL l)|.method _=>.method (mn bad)|_=>.func (pB ae.2+bad.toNat)
def rv:aB->aB
 |.pointer a=>.pointer (a.map ra)|.slice a l c=>.slice (a.map ra) l c|.map r=>.map (r.map aL)|.chan r=>.chan (r.map aL)|.func f x b=>.func (kG f) (x.map rv) (b.map rv)|.iface t v=>.iface t (rv v)|ν x=>ν (x.map rv)|θ x=>θ (x.map rv)|v=>v
def re(e:Cb):Cb:={e with key:=rv e.1,val:=rv e.2}
def ro:Obj->Obj
 |.cells c t f=>au (c.map rv) t f|.map d k=>.map (d.map re) k|.chan kh b cl s r t=>if pB b=0 then .chan kh #[] cl s r t else cC
 |.loop l=>if lJ l then .loop {l with tmps:=l.4.map rv,defers:=aL l.8}else cC
 |.deferred aj=>.deferred aj|.deferred (Z [])=>.deferred (Z [])|.number a l=>.number (ra a) l|.view a t=>.view (ra a) t|_=>cC
def fo:Obj->Bool
 |.view _ t=>okv t|_=>M
def NP(w:aq)(r:Nat):Prop:=∃o,w.1[r]? =Z o/\o≠cC
def rX(w:aq):Nat×Bool->Prop
 |(r,M)=>NP w r|(r,aa)=>r<w.1.size
structure cW(w w':aq):Prop where
 own:∀b,aL b<w.1.size->¬S b->∃o,w'.1[b]? =Z o/\w.1[aL b]? =Z (ro o)/\fo o=M
 qX:∀b,aL b<w.1.size->S b->w.1[aL b]? =Z cC/\CT w'.1[b]?
 fut:∀i,w.1.size+i<top->aL (w'.1.size+i)=w.1.size+i/\¬S (w'.1.size+i)
 tape:∀i q,w'.2 (w'.3+i) q=w.2 (w.3+i) q
 os:w'.os=w.os
structure Mv(w w1 w' kH:aq):Prop where
 kZ:cW w1 kH
 cm:∀b,b<w'.1.size->(aL b<w.1.size->S b)->kH.1[b]? =w'.1[b]?
 lone:∀a,a<w.1.size->(∀b,aL b≠a)->w1.1[a]? =w.1[a]?
 size:w.1.size<=w1.1.size
 xx:w1.1.size+w'.1.size=kH.1.size+w.1.size
 np:∀r,NP w r->NP w1 r
 fresh:∀r,w.1.size<=r->r<w1.1.size->NP w1 r
 drawn:kH.3+w.3=w'.3+w1.3
 rest:kH.os=w'.os/\kH.output=w'.output/\kH.2=w'.2
def Mv.has(h:Mv w w1 w' kH):∀{k:Nat×Bool},rX w k->rX w1 k
 |(r,M),a=>h.6 r a|(r,aa),a=>cS a h.4
def Mv.refl(h:cW w w'):Mv w w w' w':=⟨h,λ_ _ _=>U,λ_ _ _=>U,aR _,zJ _ _,λ_ h=>h,λ_ a b=>by omega,U,U,U,U⟩
def Mv.E{w2 w2'}(v:pB w2.1<=top)(h0:cW w w')(h:Mv w w1 w' kH)(k:Mv w1 w2 kH w2'):Mv w w2 w' w2':=by let m:=h.4;let n:=h.5;let o:=k.5;let p:=k.4;let q:=h.8;let t:=k.8;refine⟨k.1,λb j d=>(k.2 b Y λu=>?_).E (h.2 b j d),λa i c=>(k.3 a Y c).E (h.3 a i c),Y,Y,λr hr=>k.6 r (h.6 r hr),λr a b=>?_,Y,k.9.1.E h.9.1,k.9.2.1.E h.9.2.1,k.9.2.2.E h.9.2.2⟩;by_cases l:aL b<pB w.1;exact d l;let e:=(h0.3 (aL b-pB w.1) Y).1;have:=inj (e.E (show _=aL b by omega));omega;by_cases hr:r<pB w1.1;exact k.6 r<|h.7 r a hr;exact k.7 r Y b
def Ev(e:gv):Prop:=match e.1 with
 |.cell a=>aL a.1<top/\¬S a.1|.obj r=>aL r<top/\¬S r|.mark .noRoom|.mark (.extern _)|.output=>True
 |_=>False
inductive RR(f:α->β->Prop):lV α->lV β->Prop
 |ok (a:α) (b:β) (w w':aq) (h:f a b):RR f (.ok a w) (.ok b w')
 |pn (v:aB) (w w':aq):RR f (.halt (.panic (rv v)) w) (.halt (.panic v) w')
def Dd(s:fb α)(w:aq):Prop:=∃h w1,s.run ae w=.halt h w1/\nJ h
def Lo(s:fb α)(w:aq):Prop:=qM w (s.run ae w).world/\∀b a,tC a w.2 w.3 (s.run ae w).world.3->s.runT ae (w.tp a) b=((s.run ae w).tp a,(s.runT ae w b).2)
def SX(K:Nat×Bool->Prop)(f:α->β->Prop)(s:fb α)(s':fb β):Prop:=∀w w' b,cW w w'->(∀r,K r->rX w r)->pB (s.run ae w).world.1<=top->
 Dd s w\/∃a x,s'.runT ae w' b=(a,b++x)/\RR f (s.run ae w) a/\Mv w (s.run ae w).world w' a.world/\(∀e∈x,Ev e)/\Lo s w
def UR(f:β->α)(a:α)(b:β):Prop:=a=f b
abbrev SQ(K:Nat×Bool->Prop)(f:β->α)(s:fb α)(s':fb β):Prop:=SX K (UR f) s s'
def aaL{u:aq}{m t}(h:w.farStore P a v m=.ok (u,t)):pB u.1=pB w.1:=by
 rw[FI]at h;split at h
 ·split at h
  ·rename_i r hr;cases h;rw[QO]at hr;let Ha:∀{α:Type} (s:String),(QE s:Except String α)=.error s:=λ_=>U;simp[bind,EO,pure,EP,Ha]at hr
   repeat' (split at hr<;>try cases hr)
   all_goals simp
  cases h
 cases h
def zj(s:fb α):∀w,pB w.1<=pB (s.run P w).world.1:=by
 induction s with
 |pure a=>exact λw=>aR _
 |load m a k d=>intro w;rw[ee];split;exact d _ w;split;exact d _ w;exact aR _
 |store m a v k d=>intro w;by_cases i:(∀x,v≠ν x)/\∀x,v≠θ x;rw[Pd i.1 i.2];split;split;exact aR _;exact cM T9<|d _;split;rename_i j;exact cM (xV (aaL j).y)<|d _;exact aR _;cases v<;>first|exact aR _|cases i ⟨λ_ e=>A6,λ_ e=>A6⟩
 |new o k d=>exact λw=>cM ay (d _ {w with heap:=w.1.push o})
 |shape r k d=>exact λw=>d _ w
 |freeze a n k d=>refine λw=>cM ?_ (d<|w.freeze a n);rw[KN];split<;>simp
 |frozen a k d=>exact λw=>d _ w
 |getObj r k d=>intro w;rw[ee];split;exact aR _;exact d _ w;exact aR _
 |setObj r o k d=>intro w;rw[ee];split;exact aR _;exact cM ay<|d {w with heap:=mP w.1 r o};exact aR _
 |choose q k d=>intro w;rw[ee];grind
 |sys c k d=>
  intro w;have:(w.sys c).2.1=w.1:=by
   let l:∀{β:Type} (q:Ask β) (w:aq),(w.ask q).2.1=w.1:=λq=>by
    induction q with
    |done a=>exact λw=>U
    |ask a b k d=>intro w;rw[World.ask];grind
   rw[World.sys];grind
  exact cM j4<|d (w.sys c).1 (w.sys c).2
 |program k d=>exact λw=>d _ w
 |mark m k d=>exact λw=>d w
 |halt h=>exact λw=>aR _
def Lo.bind{c:α->fb γ}{a}(hr:s.run ae w=.ok a w1)(h:Lo s w)(k:Lo (c a) w1):Lo (s.bind c) w:=by
 let⟨b,j⟩:=h;let⟨l,o⟩:=k;rw[hr]at b j;have b:qM w w1:=b;let e:(s.bind c).run ae w=(c a).run ae w1:=by rw[nF,hr];rfl
 refine⟨by rw[e];exact b.E l,λd m i=>?_⟩;rw[e]at i⊢;let n:(s.runT ae w d)=(.ok a w1,(s.runT ae w d).2):=by rw[<-hr,<-iM ae s w d]
 rw[kX,kX,j d m<|i.sub (aR _) l.1,n];exact o _ m (by rw[b.2];exact i.sub b.1 (aR _))
def SA(Q:α->β->Prop)(w w':aq)(s:fb α)(s':fb β):Prop:=∀b,pB (s.run ae w).world.1<=top->
 Dd s w\/∃a x,s'.runT ae w' b=(a,b++x)/\RR Q (s.run ae w) a/\Mv w (s.run ae w).world w' a.world/\(∀e∈x,Ev e)/\Lo s w
def SX.at (h:SX K Q s s')(hS:cW w w')(b:∀r,K r->rX w r):SA Q w w' s s':=λa c=>h w w' a hS b c
variable{f:β->α}{t:aY}{u:aB}
def SA.bind{li F'}(h:SA (UR f) w w' s s')(hS:cW w w')(k:∀b w1 kH,s.run ae w=.ok (f b) w1->Mv w w1 w' kH->SA g w1 kH (li<|f b) (F' b)):SA g w w' (s >>= li) (s' >>= F'):=by
 intro c d;let e:(s >>= li).run ae w=(s.run ae w).andThen λa w1=>(li a).run ae w1:=nF ae s li w;rw[Dd];rw[e]at d⊢;cases hr:s.run ae w with
 |ok a w1=>
  rw[hr]at d;have d:=d;let B:=cM (zj (li a) w1) d;rcases h c (by rw[hr];exact B)with⟨x,u,j,_⟩|⟨H,x,o,l,i,ev,r⟩;rw[hr]at j;cases j;rw[hr]at l i;cases l with
  |ok _ b _ kH C=>obtain rfl:_=f b:=C;obtain q|⟨J,N,p,L,G,A,E⟩:=k b w1 kH hr i (c++x) d;exact aA q;refine az ⟨J,x++N,?_,L,i.E d hS G,λz D=>(vE.1 D).e (ev z) (A z),r.bind hr E⟩;show(s'.bind F').runT ae w' c=_;rw[kX,o];exact p.E j4
 |halt z w1=>
  rw[hr]at d;rcases h c (by rw[hr];exact d)with⟨x,u,j,q⟩|⟨H,x,o,l,i,ev,r⟩;rw[hr]at j;cases j;exact aA ⟨_,_,rfl,q⟩;rw[hr]at l i;let⟨l1,t⟩:=r;rw[hr]at l1 t;cases l with
  |pn v _ kH=>
   refine az ⟨.halt (.panic v) kH,x,?_,.pn v w1 kH,i,ev,?_⟩;show(s'.bind F').runT ae w' c=_;rw[kX,o];let e:(s.bind li).run ae w=.halt (.panic<|rv v) w1:=by rw[nF,hr];rfl
   refine⟨by show qM w ((s.bind li).run ae w).world;rw[e];exact l1,λc n m=>?_⟩;show(s.bind li).runT ae (w.tp n) c=(((s.bind li).run ae w).tp n,((s.bind li).runT ae w c).2);have m:tC n w.2 w.3 ((s.bind li).run ae w).world.3:=m;let p:(s.runT ae w c)=(.halt (.panic<|rv v) w1,(s.runT ae w c).2):=by rw[<-hr,<-iM ae s w c]
   rw[e]at m⊢;rw[kX,kX,t c n m,p];rfl
def SX.bind{li F'}(h:SQ K f s s')(k:∀b,SX K g (li<|f b)<|F' b):SX K g (s >>= li) (s' >>= F'):=λw w' c hS a d=>SA.bind (h.at hS a) hS (λb w1 kH _ hm=>(k b).at hm.1 λr q=>hm.has (a r q)) c d
def AS(r:α)(es:aF gv):(r,es)=(r,es++#[]):=by grind
def SX.mk{a b}(h:Q a b):SX K Q (pure a) (pure b):=λw w' c hS _ _=>az ⟨.ok b w',#[],AS _ _,.ok a b w w' h,.refl hS,ay,.refl w,λ_ _ _=>U⟩
def SX.ret(b:β):SQ K f (pure<|f b) (pure b):=.mk U
def SX.lost{h}(hd:nJ h):SX K Q (.halt h) s':=λw _ _ _ _ _=>aA ⟨h,w,U,hd⟩
def SX.panic(v:aB):SX K Q (.halt<|.panic<|rv v) (.halt (.panic v):fb β):=λw w' a hS _ _=>az ⟨_,#[],AS _ _,.pn v w w',.refl hS,ay,.refl w,λ_ _ _=>U⟩
def SX.pX(h:∀w,Dd s w):SX K Q s s':=λw _ _ _ _ _=>aA (h w)
def acw{p s c}(f fn)(hn:c.1=p.1)(hs:c.2=p.2)(aS:c.4=s.1)(e:c.20=.entering)(g:c.18=[])(aD:c.21=[])(aW:c.22=aj)(aC:c.23=[]/\c.24=aa/\c.25=aa/\c.26=[]/\c.27=[])(r:c.28=aa)(aH:c.29=M)(i:c.30=aj)(aL:c.17=qL s.4)(aT:c.43=aa)(an:p.3.2.funcNamed c.3=Z f)(hf:p.3.2.2[f]? =Z fn)(closed:joinedFacts p.3.2 f fn s.bare c=M)(aE:fn.isInstance p.3.2 c.5 c.6)(aX:fn.isWrapper p.3.2 c.7 c.8)(h:∀os:Os,os.Started->∀(H:Type) (enc:aY×aB->H),(∀a b,enc a=enc b->a=b)->∀d:Stop.Interp,
   ReturnsInLeavingWide c.assume p.3 os f .any (c.pre enc p.3.2 fn s)<|(s.at d).post enc p.3.2 fn c.11 c.12 c.13 c.14):c.holds p s:=by
 simp only[joinedFacts,cQ,mL,ud,nA,tB]at closed;let⟨⟨⟨⟨⟨⟨⟨⟨⟨⟨⟨⟨⟨⟨⟨⟨⟨⟨⟨⟨⟨⟨⟨⟨⟨⟨⟨⟨⟨⟨⟨t,J⟩,W⟩,X⟩,c5⟩,m⟩,c7⟩,c8⟩,o⟩,u⟩,v⟩,w⟩,x⟩,z⟩,A⟩,B⟩,C⟩,D⟩,E⟩,G⟩,K⟩,L⟩,N⟩,j⟩,O⟩,l⟩,P⟩,Q⟩,R⟩,S⟩,T⟩,V⟩:=closed;let told:c.startTold p.3.2:=by unfold io.startTold;rw[e];exact⟨aD,aW,aC⟩
 let fits:c.startFits p.3.2:=by unfold io.startFits;rw[e];exact l
 let calm:∀os:Os,Stop.quiet p.3.2 os:=λos k hk=>by grind
 refine⟨t,hn,hs,aS,J,W,fits,told,f,fn,an,hf,⟨X,G⟩,λq=>by(rw[r]at q;cases q),by(unfold io.namedList;rw[i];exact c5),aE,aX,
  m.E c7.y,⟨c8.E o.y,by(unfold Program.envWorded;rw[o];rfl),O⟩,u,v,w,x,z,⟨A,T,V⟩,⟨B,K⟩,⟨C,L,R,S⟩,⟨N,P,Q,D⟩,
  ?_,λn aK=>varReadable_some (E n aK),⟨_,by(unfold F7;rw[g,e];exact WideRow.started_initial),calm _⟩,[],by(rw[io.lists];rw[i]),λos st _ H enc bg=>?_⟩
 rw[g,aL];cases aQ:c.33 with
 |none=>simp
 |some _=>rw[aQ]at j;cases j
 let bh:os.Started:=by rw[F7]at st;rw[g,e]at st;exact st
 let l0:=λd=>h os bh H enc bg d l;rw[io.post_not_still aT];rw[io.form];rw[e,m];intro d;let a1:c.okInput=Input.okWide:=by rw[io.okInput];rw[r]
 let a2:c.atReturn p.3.2=leavingAtReturn p.3.2:=by rw[io.atReturn];rw[aH]
 let a3:c.always p.3.2 []=nothingAlways:=by rw[io.always];rw[i]
 let a4:s.post enc p.3.2 fn d c.18 c.11 c.12 c.13 c.14=(s.at d).post enc p.3.2 fn c.11 c.12 c.13 c.14:=by rw[g];rfl
 grind
def SX.to(h:∀w w',cW w w'->(∀r,K r->rX w r)->pB w.1<=top->Dd s w\/∃(t:fb α) (i:fb β) (c:Nat×Bool->Prop) (x j:aF gv),SX c Q t i/\(∀r,c r->rX w r)/\(∀b a,s.runT ae (w.tp b) a=t.runT ae (w.tp b) (a++j))/\(∀a,s'.runT ae w' a=i.runT ae w' (a++x))/\∀e∈x,Ev e):SX K Q s s':=by
 intro w w' a hS p g;rcases h w w' hS p (cM (zj s w) g)with h|⟨t,i,c,x,j,k,l,d,m,n⟩;·exact aA h
 let e:s.run ae w=t.run ae w:=by rw[<-iM ae s w #[],<-iM ae t w (#[]++j)];exact cG _<|d w.2 #[]
 unfold Dd Lo;rw[e]at g⊢;obtain h|⟨E,z,u,v,A,B,C,D⟩:=k w w' (a++x) hS l g;·exact aA h
 refine az ⟨E,x++z,by rw[m,u,Array.append_assoc],v,A,λe q=>(vE.1 q).e (n e) (B e),C,λa b o=>?_⟩;rw[d,D _ b o];exact cG _ (cG Prod.snd<|d w.2 a).y
def SX.act(h:∀w w',cW w w'->(∀r,K r->rX w r)->pB (s.run ae w).world.1<=top->Dd s w\/∃b c d x k,(∀j a,s.runT ae (w.tp j) a=(.ok (f b)<|c.tp j,a++k))/\(c.3=w.3/\c.2=w.2)/\(∀a,s'.runT ae w' a=(.ok b d,a++x))/\Mv w c w' d/\∀e∈x,Ev e):SQ K f s s':=by
 intro w w' a hS p q;obtain h|⟨b,c,d,x,k,g,i,m,n,o⟩:=h w w' hS p q;·exact aA h
 let e:s.run ae w=.ok (f b) c:=by
  let l:c.tp w.2=c:=by rw[<-i.2]
  rw[<-iM ae s w #[],<-l];exact cG Prod.fst<|g w.2 #[]
 rw[Lo];rw[e];exact az ⟨_,x,m a,.ok _ b c d U,n,o,⟨xV i.1.y,i.2⟩,λa j _=>by rw[g];exact cG _ (cG Prod.snd<|g w.2 a).y⟩
def cW.get(h:cW w w'){o1}(e:w.1[aL b]? =Z o1)(d:o1≠cC):aL b<pB w.1/\¬S b/\∃o,w'.1[b]? =Z o/\o1=ro o/\fo o=M:=by
 let c:=(bf.1 e).1;let a:¬S b:=λa=>by have:=(h.2 b c a).1;rw[e]at this;cases this;exact d U
 let⟨o,g,i,j⟩:=h.1 b c a;grind
def Om{c}{z}(h:QG c t z=ro o):∃a,o=au a t z/\c=a.map rv:=by unfold ro at h;split at h<;>first|(split at h<;>cases h)|(cases h;exact⟨_,rfl,rfl⟩)|cases h
def On(h:Obj.view a t=ro o):∃b,o=.view b t/\a=ra b:=by unfold ro at h;split at h<;>first|(split at h<;>cases h)|(cases h;exact⟨_,rfl,rfl⟩)|cases h
def Mv.put(h:cW w w'){x lm}(k:w.1[aL b]? =Z x)(v:x≠cC)(l:w'.1[b]? =Z lm)(n:ro o≠cC)(p:¬S b)(hf:fo o=M:=by rfl):Mv w {w with heap:=mP w.1 (aL b)<|ro o} w' {w' with heap:=mP w'.1 b o}:=by let l1:=(bf.1 k).1;let t:=(bf.1 l).1;let ne:∀{c},c≠b->aL b≠aL c:=λd e=>d (inj e).y;refine⟨⟨λc d hS=>?_,λc d hS=>?_,λi A=>by simpa using h.3 i j4,h.4,h.5⟩,λc d hS=>?_,λa z m=>?_,ay,bV,λr hr=>?_,λr a b=>by simp at b;omega,zJ _ _ |>.E (zJ _ _),U,U,U⟩;by_cases e:c=b;subst e;exact⟨o,by simp[t],by simp[l1],hf⟩;let⟨q,g,j,u⟩:=h.1 c j4 hS;exact⟨q,by rw[gn<|dB e];exact g,by rw[gn<|ne e];exact j,u⟩;have e:c≠b:=λe=>p (e▸hS);rw[gn<|dB e,gn<|ne e];exact h.2 c j4 hS;exact gn j4;exact gn<|m b;by_cases e:r=aL b;subst e;exact⟨ro o,by simp[l1],n⟩;let⟨q,g,j⟩:=hr;exact⟨q,by rw[gn<|dB e];exact g,j⟩
variable{h:aF Obj}
def Wd{x}(g:Obj->Obj)(e:h[i]? =Z x):h.modify i g=mP h i (g x):=by grind
def cW.row(h:cW w w'){c}{z}(e:w.1[aL b]? =Z (au c t z)):aL b<pB w.1/\¬S b/\∃a,w'.1[b]? =Z (au a t z)/\c=a.map rv:=by let⟨d,i,o,g,e,_⟩:=h.get e p9;obtain⟨a,rfl,rfl⟩:=Om e;exact⟨d,i,a,g,U⟩
def XG{b}(h:(rv v).bytes?=Z b):v.bytes?=Z b:=by cases v<;>first|(simp[rv,G5]at h;done)|simpa[rv,G5]using h
def XO(c e):∀n x z l,seenCells ae (c.map rv) e n x z=.ok l->seenCells ae c e n x z=.ok l
 |0,_,_,_=>λh=>h|n+1,x,z,l=>by
  unfold seenCells;simp[jL];split;exact id;split;exact id;split;exact id;rename_i i s _;cases c[i]? with
  |none=>exact id
  |some v=>
   simp[eO];cases g:(rv v).bytes? with
   |none=>exact λh=>by cases h
   |some b=>
    rw[XG g];cases b with
    |nil=>exact id
    |cons b d=>
     dsimp only;intro h;cases a:seenCells ae (c.map rv) e n (s+(b::d).length) z with
     |error j=>rw[a]at h;cases h
     |ok q=>rw[a]at h;rw[XO c e n _ z q a];exact h
def agG{b}(h:(rv v).ofBytes b=Z u):v.ofBytes b=Z u/\rv u=u:=by
 cases v<;>simp only[rv,G7]at h⊢<;>first|(cases h;done)|skip
 ·split at h<;>first|(cases h;done)|(cases h;exact⟨rfl,j5⟩)
 all_goals
  split at h;cases h;exact⟨aO ‹_›,j5⟩;cases h
def Ha(s:String):(QE s:Except String α)=.error s:=U
def XM{k}{m q}(hS:cW w w')(h:w.seen ae (ra a) t (ra k) m=.ok q):aL a.1<pB w.1/\¬S a.1/\∃c,w'.1[a.1]? =Z (au c q.2.1 q.2.2.1)/\w.1[aL a.1]? =Z (au (c.map rv) q.2.1 q.2.2.1)/\q.1=c.map rv/\plainCell ae ae.depth t k.2=Z q.2.2.2.2.1/\w'.seen ae a t k m=.ok (c,q.2):=by
 unfold World.seen at h⊢;simp[bind,EO,pure,EP,Ha,show(ra a).3=a.3 from U,show(ra k).3=k.3 from U,show(ra k).2=k.2 from U,show(ra a).2=a.2 from U]at h⊢
 repeat' (split at h<;>try(cases h;done))
 all_goals
  cases h;let d:w.1[(ra a).1]? =Z (.cells _ _ _):=‹_›;obtain⟨g,j,b,e,rfl⟩:=hS.row d;let i:=XO _ _ _ _ _ _ ‹seenCells ae (b.map rv) _ _ _ _=.ok _›;refine⟨g,j,b,e,d,U,‹_›,?_⟩;simp[e,i, *,dM,dN,ff]
def ajO{k m q}(hS:cW w w')(o:okv t=M)(h:w.viewLoad ae (ra a) t (ra k) m=.ok q):∃l,aL a.1<pB w.1/\¬S a.1/\w'.viewLoad ae a t k m=.ok (q.1,l)/\rv q.1=q.1/\∀d∈l,d.1=a.1:=by
 unfold World.viewLoad at h⊢;cases b:w.seen ae (ra a) t (ra k) m with
 |error e=>rw[b]at h;cases h
 |ok s=>let⟨i,j,c,_,_,_,n,g⟩:=XM hS b;rw[b]at h;rw[g];let⟨r,u,x,z,A,B⟩:=s;simp only[bind,EO,pure,EP,Ha]at h⊢;split at h;cases h;rename_i v hv;exact⟨_,i,j,U,(by obtain⟨C,rfl⟩:=Sg.IZ o k.2 ((r,u,x,z,A,B).2.2.2.2.1) n;simp only[G7]at hv;split at hv<;>cases hv;simp[rv]),λd p=>by obtain⟨_,_,rfl⟩:=jY.1 p;rfl⟩;cases h
def Um{b:aF aB->Nat×Nat×av UInt8->Except String (aF aB)}(hF:∀c p d,b (c.map rv) p=.ok d->∃a,b c p=.ok a/\d=a.map rv):∀l c d,qv b (c.map rv) l=.ok d->∃a,qv b c l=.ok a/\d=a.map rv
 |[],c,d,h=>by cases h;exact⟨c,U,U⟩
 |p::l,c,d,h=>by
  simp[List.foldlM_cons]at h⊢;cases g:b (c.map rv) p with
  |error x=>rw[g]at h;cases h
  |ok e=>rw[g]at h;obtain⟨a,j,rfl⟩:=hF c p e g;let⟨i,k,m⟩:=Um hF l a d h;exact⟨i,by rw[j];exact k,m⟩
def ajU{k m q}(hS:cW w w')(h:w.viewStore ae (ra a) t (ra k) (rv v) m=.ok q):∃c e z g l,aL a.1<pB w.1/\¬S a.1/\w'.1[a.1]? =Z (au c e z)/\w.1[aL a.1]? =Z (au (c.map rv) e z)/\q.1={w with heap:=mP w.1 (aL a.1)<|ro<|au g e z}/\w'.viewStore ae a t k v m=.ok ({w' with heap:=mP w'.1 a.1<|au g e z},l)/\∀B∈l,B.1=a.1:=by
 unfold QO at h⊢;simp only[bind,EO,pure,EP,Ha]at h⊢;split at h;·cases h
 rename_i H;cases n:w.seen ae (ra a) t (ra k) m with
 |error e=>rw[n]at h;cases h
 |ok s=>
  let⟨G,j,c,r,x,A,_,C⟩:=XM hS n;rw[n]at h;rw[C];let⟨W,P,R,X,q5,T⟩:=s;simp only at h r x A⊢;subst A;rcases hb:(rv v).bytes? with _|b;rw[hb]at h;cases h;rw[hb]at h;simp only at h;split at h;cases h;split at h;cases h;rename_i L _ d E;cases h;obtain⟨g,D,rfl⟩:=Um (λc p d=>by
   let⟨i,s,V⟩:=p;dsimp only;split;exact λh=>by cases h
   split;exact λh=>by cases h
   rw[jL];cases c[i]? with
   |none=>exact λh=>by cases h
   |some o=>
    simp;cases j:(rv o).ofBytes _ with
    |none=>exact λh=>by cases h
    |some u=>let⟨N,O⟩:=agG j;intro h;cases h;exact⟨_,by rw[N],by rw[zy,O]⟩) _ _ _ E
  refine⟨c,P,R,g,T.map λp=>{block:=a.1,off:=p.1},G,j,r,x,U,?_,λB J=>by obtain⟨_,_,rfl⟩:=jY.1 J;rfl⟩;simp only[H,dM,XG hb,L,D,ff]
def TD(h:∀x b,w.1[a.1]? ≠Z (.pending x b))(q:String):nJ (w.noCell a q):=by rw[World.noCell];split;exact absurd ‹_› (h _ _);trivial;trivial
def cW.pend(h:cW w w')(b x lm):w.1[aL b]? ≠Z (.pending x lm):=λe=>by let⟨_,_,o,_,e,_⟩:=h.get e p9;unfold ro at e;split at e<;>first|(split at e<;>cases e)|cases e
def cW.cell(h:cW w w')(hc:kD w (ra a)=Z v):aL a.1<pB w.1/\¬S a.1/\¬qL a.3=M/\∃c t z b,w'.1[a.1]? =Z (au c t z)/\w.1[aL a.1]? =Z (au (c.map rv) t z)/\v=rv b/\kD w' a=Z b:=by rw[gp]at hc;split at hc;rename_i c t z d;split at hc;cases hc;rename_i g;obtain⟨j,k,i,e,rfl⟩:=h.row d;rw[jL]at hc;obtain⟨b,hv,rfl⟩:=gJ.1 hc;exact⟨j,k,g,i,t,z,b,e,d,U,by rw[gp];rw[e];exact(aI g).E hv⟩;cases hc
def ve(hl:aL b<pB w.1)(c:pB w.1<=top)(a:¬S b):aL b<top/\¬S b:=⟨cS hl c,a⟩
def WT(h:aL b<top/\¬S b){l:av iL}(c:∀g∈l,g.1=b){u m}:∀e∈l.toArray.map (λa=>(⟨.cell a,u,m⟩:gv)),Ev e:=λe d=>by obtain⟨p,i,rfl⟩:=rC.1 d;have:=c p j4;show _/\_;rwa [this]
def SX.as'{a b}(h:a=f b):SQ K f (pure a) (pure b):=h▸.ret b
def OQ(a)(m:Mode):SQ K rv (xq (ra a) m) (xq a m):=by
 refine .to λw w' hS j s=>?_;cases d:kD w (ra a)with
 |some v=>obtain⟨k,p,_,_,_,_,g,_,_,rfl,A⟩:=hS.cell d;let B:∀c,kD (w.tp c) (ra a)=Z (rv g):=λc=>d;exact az ⟨pure<|rv g,pure g,K,#[⟨.cell a,aa,m==.atomic⟩],#[⟨.cell<|ra a,aa,m==.atomic⟩],.ret g,j,λc i=>by simp only[xq,eA,B,pure,nx],λi=>by simp only[xq,eA,A,pure,nx],by simp;exact ve k s p⟩
 |none=>
  cases b:w.farLoad ae (ra a) (m==.atomic)with
  |error h=>refine aA ⟨h,w,by simp only[xq,ee,d,b],?_⟩;unfold QM at b;split at b;split at b<;>cases b<;>trivial;cases b;exact TD (hS.pend a.1) _
  |ok q=>
   let f1:∀c,(w.tp c).farLoad ae (ra a) (m==.atomic)=.ok q:=λc=>b;unfold QM at b;split at b;rename_i x t C;split at b;rename_i r hr;cases b;let⟨k,p,o,n,e,G⟩:=hS.get C p9;obtain⟨x,rfl,rfl⟩:=On e;let⟨l,H,J,E,hv,D⟩:=ajO hS G hr;let u:∀c,kD (w.tp c) (ra a)=aj:=λc=>d;let z:kD w' a=aj:=by unfold gp;rw[n]
   let f2:w'.farLoad ae a (m==.atomic)=.ok (q.1,l):=by unfold QM;rw[n];dsimp only;rw[E]
   exact az ⟨pure q.1,pure q.1,K,l.toArray.map (⟨.cell ·,aa,m==.atomic⟩),q.2.toArray.map (⟨.cell ·,aa,m==.atomic⟩),.as' hv.y,j,λc i=>by simp only[xq,eA,u,f1,pure],λi=>by simp only[xq,eA,z,f2,pure],WT (ve H s J) D⟩;cases b;cases b
def aiv(a v)(m:Mode):SQ K id (wA (ra a) (rv v) m) (wA a v m):=by
 refine .act λw w' hS X A=>?_;let A:=cM (zj _ w) A;by_cases d:¬((∀x,rv v≠ν x)/\∀x,rv v≠θ x);·generalize rv v=u at d;cases u<;>first|exact aA ⟨.stuck "store: not the value of one cell",w,rfl,trivial⟩|cases d ⟨λ_ e=>A6,λ_ e=>A6⟩
 have d:=ZB.1 d;let p:(∀x,v≠ν x)/\∀x,v≠θ x:=⟨λx e=>d.1 (x.map rv) (by rw[e,rv]),λx e=>d.2 (x.map rv) (by rw[e,rv])⟩;cases k:kD w (ra a)with
 |some u=>
  obtain⟨H,G,s,n,t,z,V,i,j,rfl,E⟩:=hS.cell k;have J:nc w' a=nc w (ra a):=by unfold qG;have:w.1[(ra a).1]? =_:=j;rw[this,i];rfl
  cases b:nc w (ra a)with
  |true=>exact aA ⟨.unsupported<|.unsafePointer "a write to bytes that a string shares",w,by simp only[wA];rw[Pd d.1 d.2,k];simp only[b,dN],trivial⟩
  |false=>
   rw[b]at J;let O:w.setCell (ra a) (rv v)={w with heap:=mP w.1 (aL a.1)<|ro<|au (mP n a.2 v) t z}:=by unfold iQ;rw[Wd _<|show w.1[(ra a).1]? =_ from j];have s:¬qL (ra a).3=M:=s;simp only[s,ff,dM,ro,zy];rfl
   let P:w'.setCell a v={w' with heap:=mP w'.1 a.1<|au (mP n a.2 v) t z}:=by unfold iQ;rw[Wd _ i];simp only[s,ff,dM]
   refine az ⟨(),{w with heap:=mP w.1 (aL a.1)<|ro<|au (mP n a.2 v) t z},{w' with heap:=mP w'.1 a.1<|au (mP n a.2 v) t z},#[⟨.cell a,M,m==.atomic⟩],#[⟨.cell<|ra a,M,m==.atomic⟩],λg D=>?_,⟨U,U⟩,λD=>?_,Mv.put hS j p9 i p9 G,by simp;exact ve H A G⟩;let C:kD (w.tp g) (ra a)=Z (rv V):=k;let f2:nc (w.tp g) (ra a)=aa:=b;simp only[wA];rw[Bn d.1 d.2,C];simp only[f2,ff,dM,nx,eA,IU,O];simp only[wA];rw[Bn p.1 p.2,E];simp only[J,ff,dM,nx,eA,P]
 |none=>
  cases b:w.farStore ae (ra a) (rv v) (m==.atomic)with
  |error h=>refine aA ⟨h,w,by simp only[wA];rw[Pd d.1 d.2,k];simp only[b],?_⟩;unfold FI at b;split at b;split at b<;>cases b<;>trivial;cases b;exact TD (hS.pend a.1) _
  |ok q=>
   let f1:∀g,(w.tp g).farStore ae (ra a) (rv v) (m==.atomic)=.ok (q.1.tp g,q.2):=λg=>by rw[aaK,b]
   unfold FI at b;split at b;rename_i x t j;split at b;rename_i r hr;cases b;let⟨H,G,o,i,e,_⟩:=hS.get j p9;obtain⟨x,rfl,rfl⟩:=On e;let⟨c,e,z,B,l,W,L,R,T,S,E,Q⟩:=ajU hS hr;let N:∀g,kD (w.tp g) (ra a)=aj:=λg=>k;let C:kD w' a=aj:=by unfold gp;rw[i]
   let f2:w'.farStore ae a v (m==.atomic)=.ok ({w' with heap:=mP w'.1 x.1<|au B e z},l):=by unfold FI;rw[i];dsimp only;rw[E]
   exact az ⟨(),{w with heap:=mP w.1 (aL x.1)<|ro<|au B e z},{w' with heap:=mP w'.1 x.1<|au B e z},l.toArray.map (⟨.cell ·,M,m==.atomic⟩),q.2.toArray.map (⟨.cell ·,M,m==.atomic⟩),λg D=>by simp only[wA];rw[Bn d.1 d.2,N];simp only[f1,eA,S],⟨U,U⟩,λD=>by simp only[wA];rw[Bn p.1 p.2,C];simp only[f2,eA],Mv.put hS T p9 R p9 L,WT (ve W A L) Q⟩;cases b;cases b
def Mv.new(h:cW w w')(o)(n:ro o≠cC)(hf:fo o=M)(t:pB w.1<top):aL w'.1.size=pB w.1/\Mv w {w with heap:=w.1.push<|ro o} w' {w' with heap:=w'.1.push o}:=by
 let⟨e,j⟩:=h.3 0 j4;rw[xU,xU]at e;rw[xU]at j;let cm:∀{b},aL b<pB w.1->(S b->b<pB w'.1):=λc hS=>by obtain⟨_,_,_,q,_⟩:=(h.2 _ c hS).2;exact(bf.1 q).1
 refine⟨e,⟨λb c hS=>?_,λb c hS=>?_,λi s=>?_,h.4,h.5⟩,λb c hS=>Array.getElem?_push_lt c▸(by simp[c]),λa m _=>by simp[oF,Nat.ne_of_lt m],ay,bV,λr ⟨x,d,g⟩=>⟨x,?_,g⟩,λr a b=>?_,zJ _ _ |>.E (zJ _ _),U,U,U⟩;by_cases q:b=pB w'.1;subst q;exact⟨o,ay,by rw[e];simp,hf⟩;have c:aL b<pB w.1:=by have:aL b≠pB w.1:=λx=>q (inj<|x.E e.y);simp at c;omega
 let⟨x,d,g,p⟩:=h.1 b c hS;exact⟨x,by rw[oF,aI q];exact d,by rw[oF,aI Y];exact g,p⟩;have q:b≠pB w'.1:=λx=>j (x▸hS);have c:aL b<pB w.1:=by have:aL b≠pB w.1:=λx=>q (inj<|x.E e.y);simp at c;omega
 let k:(w'.1.push o)[b]? =w'.1[b]? :=j4;let l:(w.1.push<|ro o)[aL b]? =w.1[aL b]? :=j4;exact k▸l▸h.2 b c hS;have:=h.3 (i+1) j4;grind;have:=(bf.1 d).1;rwa [oF,aI Y];obtain rfl:r=pB w.1:=by simp at b;omega
 exact⟨ro o,ay,n⟩
def vk(o)(e:o'=ro o)(b:ro o≠cC)(hf:fo o=M:=by rfl):SQ K aL (yc o') (yc o):=by subst e;refine .act λw w' hS g c=>?_;let⟨e,d⟩:=Mv.new hS o b hf (cS (by show pB w.1<pB (w.1.push<|ro o);simp) c);exact az ⟨pB w'.1,{w with heap:=w.1.push<|ro o},{w' with heap:=w'.1.push o},#[],#[],λh a=>by rw[e,<-AS];rfl,⟨U,U⟩,λa=>by rw[<-AS];rfl,d,ay⟩
def tW(q:kK):SQ K id (choose q) (choose q):=by
 intro w w' c hS m n;by_cases d:q.forced=M;have e:∀w,(choose q).run ae w=.ok 0 w:=λw=>by simp only[choose,ee,d,dN]
 let g:∀w c,(choose q).runT ae w c=(.ok 0 w,c):=λw c=>by simp only[choose,eA,d,dN]
 unfold Lo;rw[e w];exact az ⟨.ok 0 w',#[],by rw[<-AS,g],.ok 0 0 w w' U,.refl hS,ay,.refl w,λc l _=>by rw[g,g];rfl⟩;have e:=hS.4 0 q;rw[xU,xU]at e;let r:∀w,(choose q).run ae w=.ok (q.cut<|w.2 w.3 q) {w with drawn:=w.3+1}:=λw=>by simp only[choose,ee,d,dM,ff]
 let k:∀w c,(choose q).runT ae w c=(.ok (q.cut<|w.2 w.3 q) {w with drawn:=w.3+1},c):=λw c=>by simp only[choose,eA,d,dM,ff]
 unfold Lo;rw[r w,<-e];refine az ⟨.ok (q.cut<|w'.2 w'.3 q) {w' with drawn:=w'.3+1},#[],by rw[<-AS,k],.ok _ _ _ _ U,⟨⟨hS.1,hS.2,hS.3,λi q=>?_,hS.5⟩,λ_ _ _=>U,λ_ _ _=>U,aR _,zJ _ _,λ_ h=>h,λr a b=>absurd (Kw a b) (uD _),?_,U,U,U⟩,ay,⟨kJ _,U⟩,λc l j=>?_⟩;have:=hS.4 (1+i) q;rwa [<-jv,<-jv]at this;show w'.3+1+w.3=w'.3+(w.3+1);omega;let j:l w.3 q=w.2 w.3 q:=j _ _ (aR _) (FA _);rw[k,k];show(Result.ok (q.cut<|l w.3 q) _,c)=(.ok (q.cut<|w'.2 w'.3 q) _,c);rw[j,e]
def SX.Uu{a F'}(r)(i:K (aL r,M)\/∀w,Dd (a cC) w)(h:∀o,ro o≠cC->SX (λx=>K x\/x=(aL r,M)) g (a<|ro o) (F' o)):SX K g (getObj (aL r) >>= a) (getObj r >>= F'):=by
 refine .to λw w' hS j A=>?_;let e:∀(a:Obj->fb γ),(getObj (aL r) >>= a)=Cj (aL r) a:=λ_=>U;let l:∀(a:Obj->fb δ),(getObj r >>= a)=Cj r a:=λ_=>U;rw[e,l];rw[Dd];rcases hb:w.1[aL r]? with _|o1;exact aA ⟨.stuck "getObj: no such block",w,by simp[ee,hb],trivial⟩;by_cases d:∃c t z,o1=au c t z;·obtain⟨c,t,z,rfl⟩:=d;exact aA ⟨.stuck "getObj: a row of cells",w,by simp[ee,hb],trivial⟩
 let n:∀k,(w.tp k).1[aL r]? =Z o1:=λ_=>hb;let go:∀(a:Obj->fb γ),(Cj (aL r) a).run ae w=(a o1).run ae w:=λa=>by simp only[ee,hb];cases o1<;>first|rfl|cases d ⟨_,_,_,rfl⟩
 by_cases b:o1=cC;left;rw[go];subst b;refine i.e (λp=>?_) λi=>i w;let⟨x,C,D⟩:=j _ p;grind;obtain⟨q,v,o,u,rfl,_⟩:=hS.get hb b;refine az ⟨a<|ro o,F' o,_,#[⟨.obj r,aa,o.isChan⟩],#[⟨.obj<|aL r,aa,(ro o).isChan⟩],h o b,λx B=>B.e (j x) λe=>e▸⟨_,hb,b⟩,λk m=>?_,λm=>?_,by simp;exact ve q A v⟩;simp only[eA,n,nx];grind;simp only[eA,u,nx];cases o<;>first|rfl|cases d ⟨_,_,_,rfl⟩
def SX.get{li F'}(r)(a:∀w,Dd (li cC) w)(h:∀o,ro o≠cC->SX (λx=>K x\/x=(aL r,M)) g (li<|ro o) (F' o)):SX K g (getObj (aL r) >>= li) (getObj r >>= F'):=.Uu r (az a) h
def kd:Obj->Nat
 |.cells .. =>0|.map .. =>1|.chan .. =>2|.loop _=>3|_=>4
def yM{o}(h:ro o≠cC):kd (ro o)=kd o:=by revert h;unfold ro;split<;>(try split)<;>intro h<;>first|rfl|cases h rfl
def SX.GU{b c}(r)(h:∀a k,SX (λx=>K x\/x=(aL r,M)) g (b<|.map (a.map re) k)<|c<|.map a k)(hd:∀o,(∀a k,o≠.map a k)->∀w,Dd (b o) w:=by intro o h w;cases o<;>first|exact absurd rfl (h _ _)|exact⟨_,_,rfl,trivial⟩):SX K g (getObj (aL r) >>= b) (getObj r >>= c):=
 .get r (hd _ (λ_ _ e=>by cases e)) λo d=>by
  cases o;case map a k=>exact h a k
  all_goals exact .pX (hd _ λ_ _ e=>by have:=yM d;rw[e]at this;cases this)
def SX.getLoop{a c}(r)(h:∀l,lJ l=M->SX (λx=>K x\/x=(aL r,M)) g (a<|.loop {l with tmps:=l.4.map rv,defers:=aL l.8}) (c<|.loop l)) (hd:∀o,(∀l,o≠.loop l)->∀w,Dd (a o) w:=by intro o h w;cases o<;>first|exact absurd rfl (h _)|exact⟨_,_,rfl,trivial⟩):SX K g (getObj (aL r) >>= a) (getObj r >>= c):=
 .get r (hd _ (λ_ e=>by cases e)) λo d=>by
  cases o;case loop l=>by_cases b:lJ l=M;simp[ro,b,dN];exact h l b;simp[ro,b]at d
  all_goals exact .pX (hd _ λ_ e=>by have:=yM d;rw[e]at this;cases this)
def SX.abP{a d}(r)(h:∀c cl s q t,SX (λx=>K x\/x=(aL r,M)) g (a<|.chan c #[] cl s q t)<|d<|.chan c #[] cl s q t)(hd:∀o,(∀c b cl s q t,o≠.chan c b cl s q t)->∀w,Dd (a o) w:=by intro o h w;cases o<;>first|exact absurd rfl (h _ _ _ _ _ _)|exact⟨_,_,rfl,trivial⟩):SX K g (getObj (aL r) >>= a) (getObj r >>= d):=
 .get r (hd _ (λ_ _ _ _ _ _ e=>by cases e)) λo j=>by
  cases o;case chan c b cl s q t=>by_cases i:pB b=0;obtain rfl:b=#[]:=zv i;exact h _ _ _ _ _;simp[ro,i]at j
  all_goals exact .pX (hd _ λ_ _ _ _ _ _ e=>by have:=yM j;rw[e]at this;cases this)
def tX{r}(o)(e:o'=ro o)(v:ro o≠cC)(q:K (aL r,M))(hf:fo o=M:=by rfl):SQ K id (zY (aL r) o') (zY r o):=by
 subst e;refine .act λw w' hS n b=>?_;let⟨x,a,j⟩:=n _ q;let b:=cM (zj _ w) b;by_cases d:∃c t z,x=au c t z;·obtain⟨c,t,z,rfl⟩:=d;exact aA ⟨.stuck "setObj: a row of cells",w,by simp[zY,ee,a],trivial⟩
 obtain⟨u,i,k,h,rfl,_⟩:=hS.get a j;let p:∀l,(w.tp l).1[aL r]? =Z (ro k):=λ_=>a;refine az ⟨(),{w with heap:=mP w.1 (aL r)<|ro o},{w' with heap:=mP w'.1 r o},#[⟨.obj r,M,o.isChan⟩],#[⟨.obj<|aL r,M,(ro o).isChan⟩],λl m=>?_,⟨U,U⟩,λm=>?_,Mv.put hS a j h v i hf,by simp;exact ve u b i⟩;simp only[zY,eA,p,nx];grind;simp only[zY,eA,h,nx];cases k<;>first|rfl|cases d ⟨_,_,_,rfl⟩
def SX.shp{a F'}(r)(v:∀w,Dd (a aj) w)(h:∀x,SX (λd=>K d\/d=(aL r,M)) g (a<|Z x)<|F'<|Z x):SX K g (shape (aL r) >>= a) (shape r >>= F'):=by
 refine .to λw w' hS o D=>?_;rcases b:nL w (aL r)with _|x;left;let⟨x,u,m,n⟩:=v w;exact⟨x,u,by show(zO (aL r) a).run ae w=_;simp[ee,b];exact m,n⟩;let p:∀k,nL (w.tp k) (aL r)=Z x:=λ_=>b;rw[mK]at b;split at b;rename_i c t z i;obtain⟨C,j,B,q,rfl⟩:=hS.row i;let j:nL w' r=Z x:=by rw[mK];rw[q];simp only;rw[<-b,ug]
 exact az ⟨a<|Z x,F'<|Z x,_,#[],#[],h x,λd A=>A.e (o d) λe=>e▸⟨_,i,by intro e;cases e⟩,λk l=>by show(zO (aL r) a).runT ae _ _=_;simp[eA,p,jK],λl=>by show(zO r F').runT ae _ _=_;simp[eA,j,jK],ay⟩;cases b
def SX.XY{li F'}(r)(j:K (aL r,M))(h:∀x,SX K g (li x)<|F' x):SX K g (shape (aL r) >>= li) (shape r >>= F'):=by
 refine .to λw w' hS a o=>?_;let⟨x,b,d⟩:=a _ j;obtain⟨m,n,l,k,rfl,_⟩:=hS.get b d;let e:nL w (aL r)=nL w' r:=by
  unfold mK;rw[b,k];have:=yM d;cases l;case cells c t z=>simp only[ro,ug]
  all_goals (generalize ro _=q at this;cases q<;>first|rfl|cases this)
 exact az ⟨li<|nL w<|aL r,F'<|nL w<|aL r,K,#[],#[],h _,a,λp i=>by show(zO (aL r) li).runT ae _ _=_;simp only[eA,jK];rfl,λi=>by show(zO r F').runT ae _ _=_;simp only[eA,e,jK],ay⟩
def SX.prog{li F'}(h:SX K g (li ae) (F' ae)):SX K g (rT >>= li) (rT >>= F'):=.to λw w' hS b c=>az ⟨_,_,K,#[],#[],h,b,λd a=>by rw[jK];rfl,λa=>by rw[jK];rfl,ay⟩
def SX.und{a:jD->fb γ}{c:jD->fb δ}(t)(h:∀d,nf ae t=Z d->SX K g (a d) (c d)):SX K g (dq t >>= a) (dq t >>= c):=by refine .to λw w' hS i j=>?_;let e:∀{γ:Type} (a:jD->fb γ) w b,(dq t >>= a).runT ae w b=((match nf ae t with|some d=>(pure d:fb jD)|none=>stuck "no such type") >>= a).runT ae w b:=λa w b=>U;rcases hd:nf ae t with _|d;exact aA ⟨.stuck "no such type",w,by rw[<-iM ae _ w #[],e,hd];rfl,trivial⟩;exact az ⟨a d,c d,K,#[],#[],h d hd,i,λk b=>by rw[jK,e,hd];rfl,λb=>by rw[jK,e,hd];rfl,ay⟩
def SX.inf{a:jE->fb γ}{c:jE->fb δ}(t)(h:∀d,ae.info? t=Z d->SX K g (a d) (c d)):SX K g (yf t >>= a) (yf t >>= c):=by refine .to λw w' hS i j=>?_;let e:∀{γ:Type} (a:jE->fb γ) w b,(yf t >>= a).runT ae w b=((match ae.info? t with|some d=>(pure d:fb jE)|none=>stuck "no such type") >>= a).runT ae w b:=λa w b=>U;rcases hd:ae.info? t with _|d;exact aA ⟨.stuck "no such type",w,by rw[<-iM ae _ w #[],e,hd];rfl,trivial⟩;exact az ⟨a d,c d,K,#[],#[],h d hd,i,λk b=>by rw[jK,e,hd];rfl,λb=>by rw[jK,e,hd];rfl,ay⟩
def SX.siz{a F'}(t)(h:∀d,ae.info? t=Z d->SX K g (a d.3) (F' d.3)):SX K g (sizeOf t >>= a) (sizeOf t >>= F'):=by let e:∀{γ:Type} (a:Nat->fb γ),(sizeOf t >>= a)=yf t >>= λi=>a i.3:=λa=>Ci _ _ _;rw[e,e];exact .inf t h
def OS(m:Mark)(hm:m=.noRoom\/∃f,m=.extern f):SQ K id (mark m) (mark m):=.to λw w' hS b c=>az ⟨pure (),pure (),K,#[⟨.mark m,aa,M⟩],#[⟨.mark m,aa,M⟩],.ret (),b,λd a=>by rw[nx];rfl,λa=>by rw[nx];rfl,by obtain rfl|⟨f,rfl⟩:=hm<;>simp[Ev]⟩
def ahS:SQ K id (sys .env) (sys .env):=.to λw w' hS b c=>az ⟨pure<|.strings w.4.2,pure<|.strings w.4.2,K,#[⟨.output,M,aa⟩],#[⟨.output,M,aa⟩],.ret _,b,λd a=>by rw[nx];rfl,λa=>by rw[nx,<-hS.5];rfl,by simp[Ev]⟩
def SX.as{a}(b:β)(h:a=f b):SQ K f (pure a) (pure b):=h▸.ret b
def bR(q:String)(s':fb β):SX K Q (stuck q) s':=.lost j6
def SX.pb{g:Type}{a b}{c:e->fb α}{d:g->fb β}(h:SX K Q (c a) (d b)):SX K Q (pure a >>= c) (pure b >>= d):=h
variable{b c:Type}{i:jE}
def zc(q:String)(a:b->fb α)(s':fb β):SX K Q (stuck q >>= a) s':=.lost j6
def Ep(v a)(h:v=rv a):SX K Q (goPanic v) (goPanic a:fb β):=h▸.panic a
def Tu:RuntimeError->Bool
 |.bounds .. |.error _|.plain _|.nilDeref=>M
 |_=>aa
def oz{e}(he:Tu e=M):SX K Q (runtimePanic e) (runtimePanic e:fb β):=by refine .prog ?_;cases e<;>first|cases he;done|exact Ep _ _ (by simp[rv,mm])
def Jd(v):SQ K id (asIntOf<|rv v) (asIntOf v):=by obtain _|_|_|_|_|(_|_):=v<;>simp[rv,asIntOf,gI]<;>first|exact .as _ rfl|exact .lost j6
def Bj(v):SQ K id (asInt<|rv v) (asInt v):=.bind (Jd v) λb=>.as _ U
def Yc(v):SQ K id (oc<|rv v) (oc v):=by cases v<;>simp[rv,oc]<;>first|exact .as _ rfl|exact .lost j6
def Yb(v):SQ K ra (asAddr<|rv v) (asAddr v):=by obtain _|_|_|_|_|(_|a):=v<;>simp[rv,asAddr,gI]<;>first|exact .as _ rfl|exact .lost j6|exact oz rfl
def oA(t):SQ K id (sizeOf t) (sizeOf t):=.inf t λd _=>.as _ U
def aia(t):SQ K id (isAgg t) (isAgg t):=.und t λd _=>by split<;>exact .as _ U
def Zs:Prop:=∀t i z,ae.info? t=Z i->i.8=Z z->rv z=z
def vm(a:Zs)(t):SQ K rv (jq t) (jq t):=.inf t λd b=>by rcases hz:d.8 with _|z;exact .lost j6;exact .as _ (a t d z b hz).y
def xy(a n):ra (a.add n)=(ra a).add n:=by unfold Addr.add;split<;>rfl
def Ye(a):∀n i (x:aF aB),SQ K (·.map rv) (loadCellsFrom (ra a) i n<|x.map rv) (loadCellsFrom a i n x)
 |0,i,x=>.as _ U|n+1,i,x=>.bind (xy a i▸OQ (a.add i) .plain) λv=>by rw[<-Zp];exact Ye a n (i+1)<|x.push v
def OO(a n):SQ K (·.map rv) (loadCells (ra a) n) (loadCells a n):=by have:=Ye (K:=K) a n 0 #[];rwa [vD]at this
def Yj(t a):SQ K rv (loadVar t<|ra a) (loadVar t a):=.bind (aia t) λb=>by cases b;exact OQ a .plain;exact .bind (oA t) λn=>.bind (OO a n) λx=>.as _ (by rw[rv])
def Er(a):∀(x:av aB) i,SQ K id (storeCells (ra a) (x.map rv) i) (storeCells a x i)
 |[],i=>.as _ U|v::x,i=>.bind (xy a i▸aiv (a.add i) v .plain) λ_=>Er a x (i+1)
def wV(v):(rv v).cells=v.cells.map rv:=by cases v<;>simp[rv,Value.cells]
def aix(t a v):SQ K id (storeVar t (ra a)<|rv v) (storeVar t a v):=.bind (oA t) λn=>by rw[wV,ug,mJ];dsimp only[id];by_cases h:pB v.cells≠n;rw[aO h];exact .lost j6;rw[aI h,aI h];exact Er a _ 0
def Em(t x):SQ K ra (Cv t<|x.map rv) (Cv t x):=.bind (vk (au x t) U p9) λn=>.as _ U
def OT(t v):SQ K ra (newVar t<|rv v) (newVar t v):=by rw[newVar];rw[wV];exact Em t _
inductive Qt(p:α->Prop):fb α->Prop
 |pure {a:α} (h:p a):Qt p (.pure a)
 |choose (q:kK) {k:Nat->fb α} (h:∀n,Qt p (k n)):Qt p (.choose q k)
 |halt {h:Halt} (hd:nJ h):Qt p (.halt h)
def Qt.bind{p q}{b:α->fb β}(h:Qt p s)(k:∀a,p a->Qt q (b a)):Qt q (s >>= b):=by
 induction h with
 |pure h=>exact k _ h
 |choose q _ d=>exact .choose q d
 |halt c=>exact .halt c
def Qt.sq{f}(h:Qt (λv=>v=f v) s):SQ K f s s:=by
 induction h with
 |pure h=>exact .as _ h
 |choose q _ b=>exact .bind (tW q) b
 |halt a=>exact .lost a
def Any(_:α):Prop:=True
def Xe(op:uj)(k:rK)(x lm):Qt (λv=>v=rv v) (Op.floatArith op k x lm):=by
 let e:∀r:aV Nat,Qt (λv=>v=rv v) (match r with|some r=>pure (.float k r)|none=>do pure (.float k<|<-choose (.nanBits k x lm))):=λr=>by cases r;exact .choose _ λ_=>.pure A2;exact .pure A2
 cases op<;>first|exact e _|exact .halt trivial
def Xg(op:uj)(k:rK)(x lm):Qt (λv=>v=rv v) (Op.floatCmp op k x lm):=by cases op<;>first|exact .pure A2|exact .halt trivial
def afz(s:rK)(b)(d:rK):Qt (λv=>v=rv v) (ZD s b d):=by
 rw[ZD];dsimp only
 repeat' split
 all_goals first|exact .pure A2|exact .choose _ λ_=>.pure A2
def Xd(op:uj)(k:rK)(x lm):Qt Any (Op.Complex.arith op k x lm):=.bind (Xe op k x lm) λv _=>by cases v<;>first|exact .pure trivial|exact .halt trivial
def Xf(op:uj)(k:rK)(x lm):Qt Any (Op.Complex.cmp op k x lm):=.bind (Xg op k x lm) λv _=>by cases v<;>first|exact .pure trivial|exact .halt trivial
def afy(s:rK)(x)(d:rK):Qt Any (Op.Complex.conv s x d):=by rw[Op.Complex.conv];split;exact .pure trivial;exact .bind (afz s x d) λv _=>by cases v<;>first|exact .pure trivial|exact .halt trivial
def afB(a b c d):Qt Any (F6 a b c d):=by
 unfold F6 Op.Complex.corrected Op.Complex.quo Op.Complex.add Op.Complex.mul Op.Complex.sub
 repeat' first|exact .pure trivial|exact Xd _ _ _ _|exact Xf _ _ _ _|split|(refine .bind (p:=Any) ?_ λ_ _=>?_)|dsimp only
def afx(op:uj)(k:rK)(a b c d):Qt (λv=>v=rv v) (py op k a b c d):=by
 unfold py Op.Complex.product Op.Complex.add Op.Complex.mul Op.Complex.sub
 repeat' first|exact .pure A2|exact .halt trivial|exact Xd _ _ _ _|exact Xf _ _ _ _|exact afy _ _ _|exact afB _ _ _ _|exact .pure trivial|split|(refine .bind (p:=Any) ?_ λ_ _=>?_)|dsimp only
def ahW(k:rK)(x lm)(l:rK):SQ K rv (JI (.float k x)<|.float l lm) (JI (.float k x)<|.float l lm):=by refine Qt.sq ?_;simp[JI];split<;>first|exact .pure A2|exact .choose _ λ_=>.pure A2
def afA(s:rK)(b)(d:vK):Qt (λv=>v=rv v) (ZE s b d):=by
 unfold ZE;dsimp only
 repeat' split
 all_goals first|exact .pure A2|exact .choose _ λ_=>.pure A2
def Jj(v):SQ K ra (EW<|rv v) (EW v):=by obtain _|_|_|_|_|(_|a):=v<;>simp[rv,EW,gI]<;>first|exact .as _ rfl|exact .lost j6
def aid(t v):SQ K rv (JX t<|rv v) (JX t v):=.bind (Jj v) λa=>Yj t a
def aiw(t v x):SQ K id (j9 t (rv v)<|rv x) (j9 t v x):=.bind (Jj v) λa=>aix t a x
def ahG(t v):SQ K rv (zq t<|rv v) (zq t v):=.bind (OT t v) λa=>.as _ (by rw[rv];rfl)
def ain(t v):SQ K rv (ZV t<|rv v) (ZV t v):=.und t λd _=>by split;exact .lost j6;exact .as _ (by rw[rv])
def ahU(v i):SQ K rv (Ql (rv v) i) (Ql v i):=by
 cases v<;>simp[rv,Ql,jL]<;>first|exact .lost j6|skip
 rename_i x;obtain _|v:=x[i]?;exact .lost j6;exact .as _ rfl
def Jf(k:vK)(x a)(c:BoundsCode):SX K Q (boundsPanic k x a c) (boundsPanic k x a c:fb β):=by unfold boundsPanic;dsimp only;split;exact .bind (.bind (tW _) λ_=>.as _ U) λb=>oz n7;exact .pb<|oz n7
def ahF(v lm)(c:BoundsCode):SQ K id (j8 (rv v) lm c) (j8 v lm c):=.bind (Jd v) λ⟨k,i⟩=>by by_cases h:0<=i/\i<=lm;simp[id,h,and_self,dN];exact .as _ U;simp[id,h,dM];exact Jf _ _ _ _
def Je(b l c)(lo hi mx:aV aB):SQ K id (EV b l c (lo.map rv) (hi.map rv)<|mx.map rv) (EV b l c lo hi mx):=by unfold EV;obtain _|lo:=lo<;>obtain _|hi:=hi<;>obtain _|mx:=mx<;>dsimp only[gI];all_goals repeat' with_reducible first|refine .bind (ahF _ _ _) λ_=>?_|refine .pb ?_|exact zc _ _ _|exact .as _ rfl
def Xh(c:Prop)[Decidable c](a n):(if c then ra a else(ra a).add n)=ra (if c then a else a.add n):=by split<;>simp[xy]
def ais(t v)(c b g:aV aB):SQ K rv (ru t (rv v) (c.map rv) (b.map rv)<|g.map rv) (ru t v c b g):=.und t λd _=>by
 cases d<;>(try(exact .lost j6));case string=>
  cases v<;>simp[rv]<;>(try(exact .lost j6));cases g with
  |some m=>exact .lost j6
  |none=>exact .bind (Je aa _ _ c b aj) λx=>.as _ j5
 case pointer e _=>
  let l0:SQ K rv (do
   let a <-asAddr (rv v)
   let .array n i <-dq e|stuck "Slice: array type expected"
   let(l,h,m) <-EV aa n n (c.map rv) (b.map rv) (g.map rv)
   let size <-sizeOf i
   pure (.slice (Z<|if m=l then a else a.add (l*size)) (h-l)<|m-l)) (do
   let a <-asAddr v
   let .array n i <-dq e|stuck "Slice: array type expected"
   let(l,h,m) <-EV aa n n c b g
   let size <-sizeOf i
   pure (.slice (Z<|if m=l then a else a.add (l*size)) (h-l)<|m-l)):=.bind (Yb v) λa=>.und e λd _=>by
   cases d<;>(try(exact .lost j6));exact .bind (Je aa _ _ c b g) λx=>.bind (oA _) λn=>.as _ (by simp[id,rv,gI,Xh])
  cases v<;>exact l0
 case slice e _=>cases v<;>simp[rv]<;>(try(exact .lost j6));refine .bind (Je M _ _ c b g) λx=>.bind (oA _) λn=>.as _ ?_;rename_i a _ _;obtain _|a:=a;simp[rv];simp[rv,id,gI];split<;>simp[xy]
def ait(t v)(c b e:aV aB):SQ K rv (e8 t (rv v) (c.map rv) (b.map rv)<|e.map rv) (e8 t v c b e):=.und t λd _=>by cases d<;>(try(exact ais t v c b e));exact .bind (Jj v) λa=>.bind (Je aa _ _ c b e) λx=>.bind (oA _) λn=>.as _ (by simp[id,rv,gI,Xh])
def ahY{e:aY}(g:nf ae t=Z (.slice e))(v x):SQ K rv (ZS t (rv v)<|rv x) (ZS t v x):=.bind (Jd x) λ⟨k,i⟩=>.und t λd b=>by rw[g]at b;cases b;cases v<;>simp only[rv]<;>(try(exact zc _ _ _));rename_i a l c;refine .bind (f:=λ(q:aV iL×Nat×aY)=>(q.1.map ra,q.2)) (.as (a,l,e) U) λ⟨a,l,e⟩=>.und t λd b=>?_;rw[g]at b;cases b;obtain _|a:=a;exact Jf _ _ _ _;dsimp only[gI,id];by_cases h:0<=i/\i<l;rw[aO h,aO h];exact .bind (oA e) λn=>.as _ (by simp[rv,xy]);rw[aI h,aI h];simp;exact Jf _ _ _ _
def ahZ(b:nf ae t=Z .string)(v x):SQ K rv (so t (rv v)<|rv x) (so t v x):=.bind (Jd x) λ⟨k,i⟩=>.und t λd a=>by rw[b]at a;cases a;cases v<;>simp[rv]<;>(try(exact bR _ _));split;exact .as _ j5;exact Jf _ _ _ _
def ahV{fs fd}(g:nf ae t=Z (.struct fs))(hf:fs[n]? =Z fd)(e:ae.info? fd.2=Z i)(h0:i.3≠0)(v):SQ K rv (ZQ t (rv v) n) (ZQ t v n):=.und t λd b=>by rw[g]at b;cases b;simp[hf];refine .bind (Jj v) λa=>.bind (.siz fd.2 λj c=>?_) λa=>.as _ (by rw[rv];rfl);rw[e]at c;cases c;rw[aI h0,aI h0];exact .as _ (xy a _).y
def abQ(x:aF aB)(i:Nat):(x.map rv)[i]! =rv x[i]!:=by by_cases h:i<pB x;rw[getElem!_pos (x.map rv) i j4,getElem!_pos x i h];simp;rw[getElem!_neg (x.map rv) i j4,getElem!_neg x i h];simp[default,instInhabitedValue.default,rv]
def LY(x:aF aB)(n:Nat):(BA n).map ((x.map rv)[· %pB (x.map rv)]!)=((BA n).map (x[· %pB x]!)).map rv:=by
 simp only[zx,ug]
 congr 1;funext i;exact abQ x _
def VI(lz):∀(l:av (aB×Nat)) (c:aF aB),(l.map λp=>(rv p.1,p.2)).foldl (λcs p=>mP cs (lz+p.2) p.1) (c.map rv)=(l.foldl (λcs p=>mP cs (lz+p.2) p.1) c).map rv
 |[],c=>rfl|p::l,c=>by simp only[nC,uy,<-zy];exact VI lz l _
def GG(a:Nat->aV (Nat×Nat)):∀(ps:av (Nat×aB)) (c:aF aB),xQ a (c.map rv) (ps.map λp=>(p.1,rv p.2))=(xQ a c ps).map (·.map rv)
 |[],c=>rfl|(i,v)::ps,c=>by
  simp only[nC,xQ];cases a i with
  |none=>rfl
  |some q=>
   let⟨lz,size⟩:=q;simp only[wV,ug];split;rfl;rw[<-GG a ps]
   congr 1;have:=VI lz (v.cells.zipIdx).1 c;rw[<-EE,<-EE,<-this]
   congr 1;simp[Array.toList_zipIdx,List.zipIdx_map]
def aij{i:Type}{d:e->fb i}(h:∀a,SQ K id (d a)<|d a)(xs:aF e):SQ K id (xs.mapM d) (xs.mapM d):=by
 rw[JC];refine .bind ?_ λ_=>.as _ U;generalize xs.1=l;induction l with
 |nil=>exact .as _ U
 |cons a l g=>rw[vU];exact .bind (h a) λb=>.bind g λc=>.as _ U
abbrev rp(ps:aF (Nat×aB)):aF (Nat×aB):=ps.map λp=>(p.1,rv p.2)
def ahH(b:Zs)(t)(ps:aF (Nat×aB)):SQ K rv (tj t<|rp ps) (tj t ps):=.bind (vm b t) λz=>.und t λd _=>by
 let c:∀a:Field,SQ K id (do pure (a.3,<-sizeOf a.2)) (do pure (a.3,<-sizeOf a.2)):=λa=>by refine SX.bind (oA a.2) λn=>SX.as (a.3,n) U
 simp[wV,mJ];cases d<;>dsimp only<;>(try with_reducible exact bR _ _);refine .bind (oA _) λn=>?_;simp[GG,id];obtain _|x:=xQ _ z.cells ps.1;exact bR _ _;exact .as _ j5;refine .bind (aij c _) λe=>?_;simp[GG,id];obtain _|x:=xQ _ z.cells ps.1;exact bR _ _;exact .as _ j5
def vl{a:c->fb α}{b:d->fb β}{e}(he:Tu e=M):SX K Q (runtimePanic e >>= a) (runtimePanic e >>= b):=by let l0:∀V:bM->aB,(∀p,V p=rv (V p))->SX K Q (rT >>= λp=>(goPanic (V p):fb α)) (rT >>= λp=>(goPanic (V p):fb β)):=λV h=>.prog (Ep _ _<|h _);cases e<;>first|(cases he;done)|exact l0 (λp=>.iface p.rt.1 _) (λp=>by simp[rv])|exact l0 (λp=>.iface p.rt.2 (mm _)) (λp=>by simp[rv,mm])|exact l0 (λp=>.iface p.rt.3 (mm _)) (λp=>by simp[rv,mm])
def OW(n):SQ K id (askRoom n) (askRoom n):=by rw[askRoom];split;exact OS _<|aA U;exact .as _ U
def ahI(f:Zs)(t n)(ps:aF (Nat×aB)):SQ K rv (ZP t n<|rp ps) (ZP t n ps):=.und t λd _=>by
 cases d<;>dsimp only<;>(try with_reducible exact bR _ _);rename_i e _;refine .siz e λi g=>?_;let fin:∀x:aF aB,SQ K rv (match xQ (λj=>Z (j*i.3,i.3)) ((BA<|n*i.3).map ((x.map rv)[· %pB (x.map rv)]!)) (rp ps).1 with|some c=>Cv e c >>= λa=>pure (.slice (Z a) n n)|_=>stuck "buildSlice: a part of the wrong size") (match xQ (λj=>Z (j*i.3,i.3)) ((BA<|n*i.3).map (x[· %pB x]!)) ps.1 with|some c=>Cv e c >>= λa=>pure (.slice (Z a) n n)|_=>stuck "buildSlice: a part of the wrong size"):=λx=>by rw[LY,mJ,GG];obtain _|c:=xQ _ _ ps.1;exact bR _ _;exact .bind (Em e c) λa=>.as _ j5
 by_cases h:n*i.3>2 ^ 24;rw[aO h];exact .lost j6;rw[aI h,aI h];by_cases b:n*i.3=0;simp only[aO b];exact .pb (by have:=fin #[];rwa [vD]at this);simp only[aI b];exact .bind (vm f e) λz=>.pb (by rw[wV];exact fin z.cells)
def aii(f:Zs)(t x lm):SQ K rv (JY t (rv x)<|rv lm) (JY t x lm):=.und t λd _=>by
 cases d<;>dsimp only<;>(try with_reducible exact bR _ _);rename_i e _;refine .bind (Bj x) λl=>.bind (Bj lm) λc=>.inf e λi g=>?_;dsimp only[id];split;split;exact vl n7;split;exact vl n7;exact .bind (tW _) λ_=>vl n7;refine .bind (OW _) λ_=>.siz e λi g=>?_;have fin:∀x:aF aB,SQ K rv (Cv e ((BA<|(cJ.wrap c).toNat*i.3).map ((x.map rv)[· %pB (x.map rv)]!)) >>= λa=>pure (.slice (Z a) (cJ.wrap l).toNat (cJ.wrap c).toNat)) (Cv e ((BA<|(cJ.wrap c).toNat*i.3).map (x[· %pB x]!)) >>= λa=>pure (.slice (Z a) (cJ.wrap l).toNat (cJ.wrap c).toNat)):=λx=>by rw[LY];exact .bind (Em e _) λa=>.as _ j5
 by_cases b:(cJ.wrap c).toNat*i.3=0;simp[aO b];exact .pb (by have:=fin #[];rwa [vD]at this);simp[aI b];exact .bind (vm f e) λz=>.pb (by rw[wV];exact fin z.cells)
def aih(t):SQ K rv (ZW t aj) (ZW t aj):=.bind (vk (.map #[] 0) Nf H6) λr=>.as _ j5
def aif(t x):SQ K rv (ZU t<|rv x) (ZU t x):=.bind (Bj x) λn=>.und t λd _=>by cases d<;>dsimp only<;>(try with_reducible exact bR _ _);refine .inf _ λi a=>?_;dsimp only[id];split;exact vl n7;exact .bind (vk (.chan n.toNat #[] aa 0 0 aa) Nf H6) λr=>.as _ j5
def Yh(v):SQ K id (EK<|rv v) (EK v):=by cases v<;>simp[rv,EK]<;>first|exact .as _ rfl|exact bR _ _
def Ji(size n v):SQ K (·.map rv) (PZ size n<|rv v) (PZ size n v):=by cases v<;>simp[rv,PZ]<;>(try with_reducible exact bR _ _);exact .as _ (by simp[zx,rv,ES]);rename_i a _ _;obtain _|a:=a;exact .as _ ay;exact OO a _
def Zk(z n):qA (z.map rv) n=(qA z n).map rv:=by unfold qA;rw[ug];exact(by simpa using LY z (n*pB z))
def ahP(b t x):SQ K rv (uq b t<|x.map rv) (uq b t x):=by unfold uq;simp;cases b[0]? <;>cases x[0]? <;>cases x[1]? <;>dsimp only[gI]<;>(try with_reducible exact bR _ _);rename_i d q p;refine .und d λd _=>?_;cases d<;>dsimp only<;>(try with_reducible exact bR _ _);cases q<;>simp[rv]<;>(try with_reducible exact bR _ _);rename_i a _ _;refine .bind (Yh p) λn=>.bind (oA _) λz=>.bind (Ji _ _ p) λc=>?_;obtain _|a:=a;exact .as _ QQ;exact .bind (by rw[mJ];exact Er a _ 0) λ_=>.as _ QQ
def Z1{i:Type}{s}{a:i->fb α}(g:∀w,∃b,s.run ae w=.ok b w)(hF:∀b w,Dd (a b) w)(w):Dd (s >>= a) w:=by let⟨b,e⟩:=g w;let⟨h,u,c,d⟩:=hF b w;exact⟨h,u,by show(s.bind a).run ae w=_;rw[nF,e];exact c,d⟩
def yC{g:Type}{s}{a:g->fb α}{b}(e:s.run ae w=.ok b w)(h:Dd (a b) w):Dd (s >>= a) w:=by let⟨h,u,c,d⟩:=h;exact⟨h,u,by show(s.bind a).run ae w=_;rw[nF,e];exact c,d⟩
def sD{s}{a:d->fb α}(h:Dd s w):Dd (s >>= a) w:=by let⟨h,u,b,c⟩:=h;exact⟨h,u,by show(s.bind a).run ae w=_;rw[nF,b];rfl,c⟩
def Vb(a n w):∃b,(Zw a n).run ae w=.ok b w:=by rw[Zw];rcases h:nL w a.1 with _|x;exact⟨aa,by simp[shape,ee,BC,fK,h,Ch]⟩;exact⟨_,by simp[shape,ee,BC,fK,h,Ch];rfl⟩
def DU{h:Type}{s}{a:h->fb α}(g:∀w,∃b,s.run ae w=.ok b w)(hF:∀b w,∃c,(a b).run ae w=.ok c w)(w):∃c,(s >>= a).run ae w=.ok c w:=by let⟨b,d⟩:=g w;let⟨c,e⟩:=hF b w;exact⟨c,by show(s.bind a).run ae w=_;rw[nF,d];exact e⟩
def ahn(size l n base x w):∃b,(Zx size l n base x).run ae w=.ok b w:=by
 let c:∀{g:Type} (a:g) (w:aq),∃b,(pure a:fb g).run ae w=.ok b w:=λa w=>⟨a,U⟩;unfold Zx
 extract_lets last;let d:∀e w,∃b,(last e).run ae w=.ok b w:=λe=>by dsimp only[last];split;exact c _;split;exact DU (λw=>Vb _ _ w) λ_=>c _;exact c _
 obtain _|a:=base;exact DU (c _) d w;exact DU (λw=>Vb a _ w) (λ_=>DU (λw=>⟨nc w _,U⟩) λ_=>DU (c _) d) w
def ahA(v:Zs){ts}(A:∀u C,ts[1]? =Z u->nf ae u≠Z (.int C))(t x):SQ K rv (rD ts t<|x.map rv) (rD ts t x):=by
 unfold rD;simp only[jL];cases ts[0]? <;>cases x[0]? <;>cases x[1]? <;>dsimp only[gI]<;>(try with_reducible exact bR _ _);rename_i d q p;refine .und d λd _=>?_;cases d<;>dsimp only<;>(try with_reducible exact bR _ _);rename_i e _;cases q<;>simp only[rv]<;>(try with_reducible exact bR _ _);rename_i a l c;refine .bind (oA e) λz=>?_;cases k:ts[1]? <;>dsimp only;rotate_left
 rename_i u;refine .und u λd D=>?_;cases d<;>dsimp only;all_goals first|exact absurd ‹_› (A _ _ k)|refine .pb ?_
 all_goals
  simp only[ff,dM,false_or,EJ,dN,id];refine .bind (Yh p) λn=>?_;dsimp only[id]
  by_cases g:l+n<=c
  simp only[aO g];refine .bind (Ji z n p) λB=>?_;obtain _|a:=a;exact .as _ j5;exact .bind (by rw[mJ,<-xy];exact Er _ _ 0) λ_=>.as _ j5;simp only[aI g];refine .inf e λi E=>?_;split;exact vl n7;refine .inf e λj G=>?_;split;exact .pX λw=>sD (Z1 (ahn _ _ _ _ _) (λb w=>by cases b<;>exact⟨_,_,rfl,trivial⟩) w);refine .bind (tW _) λm=>.inf e λ_ _=>.bind (OW _) λ_=>?_;let h:(fM (a.map ra) l c)=rv (.slice a l c):=by rw[rv]
  rw[h];refine .bind (Ji z l _) λo=>.bind (Ji z n p) λB=>.bind (vm v e) λq=>?_;rw[wV,Zk,<-xN,<-xN];exact .bind (Em e _) λr=>.as _ j5
def aic(ts t x)(b:∀u,ts[0]? =Z u->(∃e,nf ae u=Z (.slice e))\/nf ae u=Z .string):SQ K rv (Qa ts t<|x.map rv) (Qa ts t x):=by unfold Qa;simp;cases h:ts[0]? <;>cases x[0]? <;>dsimp only[gI]<;>(try with_reducible exact bR _ _);rename_i u v;refine .und u λd a=>?_;obtain⟨e,he⟩|he:=b u h<;>(rw[he]at a;cases a)<;>cases v<;>simp[rv]<;>first|exact .as _ QQ|exact bR _ _
def ahK(ts t x)(c:∀u,ts[0]? =Z u->∃e,nf ae u=Z (.slice e)):SQ K rv (PW ts t<|x.map rv) (PW ts t x):=by unfold PW;simp;cases h:ts[0]? <;>cases x[0]? <;>dsimp only[gI]<;>(try with_reducible exact bR _ _);rename_i u v;refine .und u λd a=>?_;let⟨e,b⟩:=c u h;rw[b]at a;cases a;cases v<;>simp[rv]<;>first|exact .as _ QQ|exact bR _ _
def ahM(b:Zs)(ts t x)(i:∀u,ts[0]? =Z u->∃e,nf ae u=Z (.slice e)):SQ K rv (um ts t<|x.map rv) (um ts t x):=by
 let fin:SQ K rv (pure<|θ #[]) (pure<|θ #[]):=.as _ j5;unfold um;simp only[jL];cases h:ts[0]? <;>cases x[0]? <;>dsimp only[gI]<;>(try with_reducible exact bR _ _);rename_i u v;refine .und u λd hd=>?_;let⟨e,g⟩:=i u h;rw[g]at hd;cases hd;cases v<;>simp only[rv]<;>(try with_reducible exact zc _ _ _);·rename_i a l c;obtain _|a:=a<;>obtain _|l:=l<;>dsimp only[gI]<;>(try(exact .pb fin));exact .bind (vm b e) λz=>.bind (by rw[wV,Zk,mJ];exact Er a _ 0) λ_=>fin
 rename_i r;obtain _|r:=r<;>dsimp only[gI];exact .pb fin;exact .GU r (hd:=by intro o h w;cases o<;>first|exact absurd rfl (h _ _)|exact⟨_,_,rfl,trivial⟩) λj k=>.bind (tX (.map #[] k) Nf H6<|az U) λ_=>.as _ j5
def Yn(op:uj)(x lm):SQ K rv (QH op x lm) (QH op x lm):=by
 unfold QH;dsimp only;split;·split;exact .lost j6;exact .as _ j5
 all_goals first|exact .as _ j5|exact bR _ _
def aim(ts t x):SQ K rv (Qb ts t<|x.map rv) (Qb ts t x):=by
 unfold Qb;rw[mJ];obtain _|⟨v,l⟩:=x.1;exact bR _ _;simp;induction l generalizing v with
 |nil=>exact .as _ U
 |cons u l a=>exact .bind (by
    by_cases h:(∃k n,v=.float k n)/\∃k n,u=.float k n;obtain⟨⟨k,n,rfl⟩,l,m,rfl⟩:=h;simp[rv];exact ahW k n m l;obtain _|_|_|_|_|(_|_):=v<;>obtain _|_|_|_|_|(_|_):=u<;>simp[rv,gI,JI]<;>first|exact bR _ _|exact .lost j6|exact .as _ j5|exact(h ⟨⟨_,_,rfl⟩,_,_,rfl⟩).e|exact .bind (Yn _ _ _) λc=>.bind (Yc c) λb=>.as _ j5) λz=>a z
def ahN(a:aF aY)(t:aY)(v:aB)(h:u=rv v):SQ K rv (PX a t #[u]) (PX a t #[v]):=by rw[PX];obtain _|_|_|_|_|_|_|_|(_|r):=v<;>simp[rv,gI]at h<;>subst h<;>(try(exact bR _ _));exact oz n7;refine .abP r (hd:=by intro o h w;cases o<;>first|exact absurd rfl (h _ _ _ _ _ _)|exact⟨_,_,rfl,trivial⟩) λc cl s q t=>?_;dsimp only;split;exact vl n7;exact .bind (tX (.chan c #[] M s q t) Nf H6<|az U) λ_=>.as _ j5
def Yf(t):SQ K id (elemOf t) (elemOf t):=.und t λd _=>by cases d<;>first|exact .as _ rfl|exact bR _ _
def Yi(K:Nat×Bool->Prop):∀(n:Nat) (a:iL) (b:ByteArray),SQ K id (loadBytes (ra a) b n) (loadBytes a b n)
 |0,a,b=>.as _ U|n+1,a,b=>.bind (OQ a .plain) λv=>by cases v<;>simp[rv]<;>(try with_reducible exact bR _ _);rename_i k m;cases k<;>(try with_reducible exact bR _ _);have:=Yi K n (a.add 1) (b.push m.toNat.toUInt8);rwa [xy]at this
def ahJ(v:aB):SQ K rv (EM<|rv v) (EM v):=by
 unfold EM;cases v<;>simp only[rv]<;>(try with_reducible exact bR _ _);rename_i a l c;cases a with
 |none=>exact .as _ j5
 |some a=>
  refine .bind (OO a l) λx=>.bind (f:=id) ?_ λb=>.as _ j5;simp[<-Zn,mJ];generalize ByteArray.empty=acc;induction x.1 generalizing acc with
  |nil=>exact .as _ U
  |cons u l d=>simp[nC,A9];cases u<;>simp[rv]<;>(try(exact .lost j6));rename_i k m;cases k<;>first|exact d _|exact .lost j6
def SX.Ec{d F' q q'}(r)(u:SX K g q q')(D:d cC=q)(h:∀o,ro o≠cC->kd o≠0->SX K g (d<|ro o) (F' o))(L:∀o,ro o=cC->F' o=q'):SX K g (shape (aL r) >>= λx=>if qL x=M then q else getObj (aL r) >>= d) (shape r >>= λx=>if qL x=M then q' else getObj r >>= F'):=by
 refine .to λw w' hS k G=>?_;let e:∀{γ:Type} (d:Obj->fb γ) (q:fb γ) (r:Nat) (w:aq) a,(shape r >>= λx=>if qL x=M then q else getObj r >>= d).runT ae w a=(if(nL w r).isSome=M then q else Cj r d).runT ae w a:=λ_ _ _ _ _=>U;unfold Dd;simp only[<-iM ae _ w #[]];simp only[e];rcases hb:w.1[aL r]? with _|o1;let E:nL w (aL r)=aj:=by unfold mK;rw[hb]
 exact aA ⟨.stuck "getObj: no such block",w,by simp only[E,uF,ff,dM,eA,hb],trivial⟩;let m:=(bf.1 hb).1;by_cases p:∃c t z,o1=au c t z
 ·obtain⟨c,t,z,rfl⟩:=p;obtain⟨_,E,A,n,rfl⟩:=hS.row hb;let i:∀b,nL (w.tp b) (aL r)=Z (t,pB (A.map rv)):=λb=>by show nL w _=_;unfold mK;rw[hb]
  let f:nL w' r=Z (t,pB A):=by unfold mK;rw[n]
  exact az ⟨q,q',K,#[],#[],u,k,λb a=>by simp only[i,FF,dN,jK],λa=>by simp only[f,FF,dN,jK],ay⟩
 let i:∀b,nL (w.tp b) (aL r)=aj:=λb=>by show nL w _=_;unfold mK;grind
 let v:∀b a,(Cj (aL r) d).runT ae (w.tp b) a=(d o1).runT ae (w.tp b) (a++#[⟨.obj<|aL r,aa,o1.isChan⟩]):=λb a=>by have:=hb;simp only[eA,this,nx];cases o1<;>first|rfl|cases p ⟨_,_,_,rfl⟩
 by_cases l:S r;let⟨C,x,t,z,J,N,O⟩:=hS.2 r m l;rw[hb]at C;cases C;let f:nL w' r=Z (t,pB x):=by unfold mK;rw[J]
 exact az ⟨q,q',K,#[],#[⟨.obj<|aL r,aa,cC.isChan⟩],u,k,λb a=>by simp only[i,uF,ff,dM,v,D],λa=>by simp only[f,FF,dN,jK],ay⟩;let⟨o,n,B,_⟩:=hS.1 r m l;rw[hb]at B;cases B;have j:kd o≠0:=λj=>by cases o<;>first|exact p ⟨_,_,_,rfl⟩|cases j
 let f:nL w' r=aj:=by unfold mK;rw[n];cases o<;>first|rfl|cases j rfl
 let H:∀a,(Cj r F').runT ae w' a=(F' o).runT ae w' (a++#[⟨.obj r,aa,o.isChan⟩]):=λa=>by simp only[eA,n,nx];cases o<;>first|rfl|cases j rfl
 by_cases s:ro o=cC;exact az ⟨q,q',K,#[⟨.obj r,aa,o.isChan⟩],#[⟨.obj<|aL r,aa,cC.isChan⟩],u,k,λb a=>by simp only[i,uF,ff,dM,v,s,D],λa=>by simp only[f,uF,ff,dM,H,L o s],by simp;exact ve m G l⟩;exact az ⟨d<|ro o,F' o,K,#[⟨.obj r,aa,o.isChan⟩],#[⟨.obj<|aL r,aa,(ro o).isChan⟩],h o s j,k,λb a=>by simp only[i,uF,ff,dM,v],λa=>by simp only[f,uF,ff,dM,H],by simp;exact ve m G l⟩
def agv{t}(h:Obj.number a t=ro o):∃b,o=.number b t/\a=ra b:=by unfold ro at h;split at h<;>first|(split at h<;>cases h)|(cases h;exact⟨_,rfl,rfl⟩)|cases h
def Jk(r):SQ K (gI λp=>(ra p.1,p.2)) (wB<|aL r) (wB r):=by
 have nv:∀o:Obj,(∀a t,o≠.view a t)->(match o with|.view a t=>pure (Z (a,t))|_=>pure aj:fb (aV<|iL×aY))=pure aj:=λo h=>by grind
 refine .Ec r (.as aj U) U (λo b f=>?_) λo b=>nv o λa t e=>?_
 ·generalize c:ro o=q at*;cases q;case view a t=>obtain⟨d,rfl,rfl⟩:=On c.y;exact .as (Z (d,t)) U
  all_goals (cases o<;>first|exact .as aj rfl|cases c)
 subst e;cases b
def aip(r):SQ K (gI λp=>(ra p.1,p.2)) (numberAt<|aL r) (numberAt r):=by
 have nv:∀o:Obj,(∀a t,o≠.number a t)->(match o with|.number a t=>pure (Z (a,t))|_=>pure aj:fb (aV<|iL×Bool))=pure aj:=λo h=>by grind
 refine .Ec r (.as aj U) U (λo b f=>?_) λo b=>nv o λa t e=>?_
 ·generalize c:ro o=q at*;cases q;case number a t=>obtain⟨d,rfl,rfl⟩:=agv c.y;exact .as (Z (d,t)) U
  all_goals (cases o<;>first|exact .as aj rfl|cases c)
 subst e;cases b
def aio(a):SQ K id (noView<|ra a) (noView a):=.bind (Jk a.1) λo=>by obtain _|p:=o;exact .as _ rfl;exact .lost j6
def xF(a):SQ K (λp=>(ra p.1,p.2)) (ec<|ra a) (ec a):=.bind (aip a.1) λo=>by cases o<;>exact .as _ U
def Ek(a):SQ K id (byteOf<|ra a) (byteOf a):=by
 unfold byteOf;let c:(ra a).3=a.3:=U;let b:(ra a).2=a.2:=U;rw[c,b];cases a.3 with
 |some n=>exact .as n U
 |none=>refine .prog<|.bind (aio a) λ_=>.shp a.1 (λw=>⟨.stuck "byteOf: no such block",w,U,trivial⟩) λx=>?_;let⟨e,n⟩:=x;dsimp only;split;exact .as 0 U;split;exact .as _ U;exact bR _ _
def Yo(a b):SQ K id (QI (ra a)<|ra b) (QI a b):=by
 unfold QI;by_cases d:a.1=b.1;let e:((ra a).1 !=(ra b).1)=aa:=by simp[ra,d]
 let c:(a.1 !=b.1)=aa:=by simp[d]
 rw[e,c];simp only[EI];refine .prog ?_;by_cases f:aL a.1<pB ae.globals;let e:decide ((ra a).1≥pB ae.globals)=aa:=by simp[ra];exact f
 let c:decide (a.1≥pB ae.globals)=aa:=by simp;exact low _ f
 rw[e,c];exact .bind (Ek a) λx=>.bind (Ek b) λi=>.as (x,i) U;let e:decide ((ra a).1≥pB ae.globals)=M:=by simp[ra];omega
 rw[e];exact .lost j6;let e:((ra a).1 !=(ra b).1)=M:=by simp[ra];exact λh=>d (inj h)
 rw[e];exact .pX λw=>⟨.unsupported .addressObserved,w,U,trivial⟩
def ahz(k:vK)(a b):SQ K rv (KB k (ra a)<|ra b) (KB k a b):=.bind (Yo a b) λp=>.as _ j5
def ahx(op:uj)(a b):SQ K rv (Kz op (ra a)<|ra b) (Kz op a b):=.bind (Yo a b) λp=>by cases op<;>first|exact .as _ j5|exact .lost j6
def ahy(k:vK)(a n):SQ K rv (KA k (ra a) n) (KA k a n):=.shp a.1 (λw=>⟨.unsupported .addressObserved,w,U,trivial⟩) λx=>.inf _ λi b=>by dsimp only;split;exact .lost j6;exact .bind (Ek a) λc=>.as _ j5
def aiA(a t lm):SQ K rv (zA #[] t #[.pointer<|Z<|ra a,rv lm]) (zA #[] t #[.pointer<|Z a,lm]):=by rw[zA];refine .bind (Bj lm) λn=>?_;dsimp only[id];by_cases h0:n=0;simp[h0,dN];refine .bind (Jk a.1) λo=>?_;obtain _|p:=o;exact SX.as (Co<|Z a) j5;exact .lost j6;simp[h0,dM];split;exact .lost j6;refine .shp a.1 (λw=>⟨.unsupported<|.unsafePointer "Add",w,U,trivial⟩) λx=>.prog ?_;let⟨e,c⟩:=x;let b:(ra a).2=a.2:=U;simp[b];obtain _|lz:=cellAtBytes ae ae.depth e (c / ae.cellsOf e) a.2 n;exact .lost j6;exact SX.as (Co<|Z {a with off:=lz}) QP
def PG(b:w.1[a.1]? =Z o)(hv:∀x t,o≠.view x t)(es):(noView a).runT P w es=(.ok () w,es++if kd o=0 then #[]else #[⟨.obj a.1,aa,o.isChan⟩]):=by unfold noView wB;cases o<;>first|exact absurd rfl (hv _ _)|(simp;rfl)|(simp only[kd,shape,getObj,eA,BC,fK,mK,b,Ch,uF,ff,dM,nx];rfl)
def NC(b:w.1[a.1]? =aj):(noView a).run P w=.halt (.stuck "getObj: no such block") w:=by simp[noView,wB,shape,getObj,ee,BC,fK,mK,b,Ch,uF,ff,dM]
def WG{x}(b:w.1[a.1]? =Z (.view x t)):(noView a).run P w=.halt (.unsupported<|.unsafePointer "memory seen as another type") w:=by simp only[noView,wB,shape,getObj,ee,BC,fK,mK,b,Ch,uF,FF,ff,dM,dN];rfl
def SX.nv{b F'}(a)(h:SX (λx=>K x\/x=(aL a.1,aa)) g (b ()) (F' ())):SX K g (noView (ra a) >>= b) (noView a >>= F'):=by
 refine .to λw w' hS q v=>?_;let i:∀{γ:Type} (b:Unit->fb γ) (a:iL),(noView a >>= b)=(noView a).bind b:=λ_ _=>U;let dead:∀h,(noView<|ra a).run ae w=.halt h w->nJ h->Dd (noView (ra a) >>= b) w:=λh m n=>sD ⟨h,w,m,n⟩;rcases hb:w.1[aL a.1]? with _|o1;exact aA<|dead _ (NC (a:=ra a) hb) trivial;let d:=(bf.1 hb).1;by_cases hv:∃x t,o1=.view x t;·obtain⟨x,t,rfl⟩:=hv;exact aA<|dead _ (WG (a:=ra a) hb) trivial
 have hv:∀x t,o1≠.view x t:=λx t e=>hv ⟨x,t,e⟩;let l:∀r,(K r\/r=(aL a.1,aa))->rX w r:=λr hr=>hr.e (q r) λe=>e▸d;let l1:∀f c,(noView (ra a) >>= b).runT ae (w.tp f) c=(b ()).runT ae (w.tp f) (c++if kd o1=0 then #[]else #[⟨.obj<|aL a.1,aa,o1.isChan⟩]):=λf c=>by rw[i,kX,PG (w:=w.tp f) (a:=ra a) hb hv];rfl
 by_cases j:S a.1;let⟨_,x,t,z,p,_⟩:=hS.2 _ d j;exact az ⟨b (),F' (),_,#[],_,h,l,l1,λc=>by rw[i,kX,PG p λ_ _ e=>by cases e];rfl,ay⟩;let⟨o,s,k,_⟩:=hS.1 _ d j;rw[hb]at k;cases k;let u:∀x t,o≠.view x t:=λx t e=>by subst e;exact hv _ _ U
 refine az ⟨b (),F' (),_,if kd o=0 then #[]else #[⟨.obj a.1,aa,o.isChan⟩],_,h,l,l1,λc=>by rw[i,kX,PG s u],?_⟩;split<;>simp;exact ve d v j
def Mz(h:cW w w')(a)(hl:aL a.1<pB w.1):nc w' a=nc w (ra a):=by
 unfold qG;let e:w.1[(ra a).1]? =w.1[aL a.1]? :=U;by_cases hS:S a.1;let⟨f,x,t,z,b,_,k⟩:=h.2 _ hl hS;rw[e,f,b];simp[cC];omega;let⟨o,i,b,_⟩:=h.1 _ hl hS;rw[e,b,i];generalize d:ro o=q;cases q;case cells c t z=>obtain⟨j,rfl,rfl⟩:=Om d.y;rfl
 all_goals (cases o<;>first|rfl|cases d)
def aho(h:cW w w')(b)(hl:aL b<pB w.1):(¬S b/\nL w' b=nL w (aL b))\/(S b/\nL w (aL b)=aj/\∃t n,nL w' b=Z (t,n+1)):=by
 unfold mK;by_cases hS:S b;let⟨e,x,t,z,a,f,_⟩:=h.2 _ hl hS;rw[e,a];let⟨n,i⟩:=Nat.exists_eq_succ_of_ne_zero f;exact az ⟨hS,U,t,n,by simp[i]⟩;let⟨o,j,a,_⟩:=h.1 _ hl hS;rw[a,j];refine aA ⟨hS,?_⟩;generalize d:ro o=q;cases q;case cells c t z=>obtain⟨k,rfl,rfl⟩:=Om d.y;simp
 all_goals (cases o<;>first|rfl|cases d)
def adB(h:cW w w')(a b)(c:aL a.1<pB w.1)(j:aL b.1<pB w.1):yN w' a b=yN w (ra a) (ra b):=by
 let l0:∀a:iL,aL a.1<pB w.1->rm w' a=rm w (ra a)/\(rm w' a=M->Jo w' a=Jo w (ra a)):=λa c=>by
  unfold rm Jo;rw[Mz h a c,show(ra a).1=aL a.1 from U];obtain⟨_,e⟩|⟨hS,d,t,n,f⟩:=aho h a.1 c;rw[e];refine⟨?_,λ_=>U⟩;rcases nL w (aL a.1)with _|x;rfl;simp only;rw[Mz h {block:=a.1,off:=x.2} c];rfl;rw[d,f];let⟨i,_⟩:=h.2 _ c hS;let fz:∀n,nc w {block:=aL a.1,off:=n}=aa:=λn=>by rw[qG];rw[i];rfl
  have:=Mz h {block:=a.1,off:=n+1} c;simp only at this⊢;rw[this,show ra {block:=a.1,off:=n+1}={block:=aL a.1,off:=n+1} from U,fz];exact⟨U,ay⟩
 let⟨a1,k⟩:=l0 a c;let⟨b1,l⟩:=l0 b j;unfold yN;grind
def aib(a b)(e:K (aL a.1,aa))(f:K (aL b.1,aa)):SQ K id (Cu (ra a)<|ra b) (Cu a b):=.to λw w' hS c h=>az ⟨pure<|yN w (ra a)<|ra b,pure<|yN w' a b,K,#[],#[],adB hS a b (c _ e) (c _ f)▸.ret _,c,λi d=>by rw[VX,jK];rfl,λd=>by rw[VX,jK];rfl,ay⟩
def Oe(a b):(ra a==ra b)=(a==b):=by rw[sR,mL,mL];constructor;intro h;let⟨a1,f,a3⟩:=a;let⟨b1,i,j⟩:=b;simp[ra,Addr.mk.injEq]at h;let⟨c,d,e⟩:=h;rw[inj c,d,e];rintro rfl;rfl
def ahB(a)(l:Bool):SQ K rv (KQ (ra a) l) (KQ a l):=.bind (vk (.number a l) U p9) λr=>.as _ (by simp[rv];rfl)
def RF(d:jD):Bool:=match d with|.unsafePointer=>aa|_=>M
variable{d:jD}{e s:aY}{x:aB}
def Yk(f:nf ae t=Z d)(hd:RF d=M)(a lm):SQ K rv (jx t (.pointer<|a.map ra)<|rv lm) (jx t (.pointer a) lm):=.und t λq c=>by
 rw[f]at c;cases c;let e:SQ K rv (zA #[] t #[.pointer aj,rv lm]) (zA #[] t #[.pointer aj,lm]):=.bind (Bj lm) λn=>by dsimp only[id];split;exact .lost j6;split<;>exact .lost j6
 let LC:∀a,SQ K rv (ec (ra a) >>= λp=>zA #[] t #[.pointer<|Z p.1,rv lm] >>= λv=>match v with|.pointer (Z b)=>KQ b p.2|v=>pure v) (ec a >>= λp=>zA #[] t #[.pointer<|Z p.1,lm] >>= λv=>match v with|.pointer (Z b)=>KQ b p.2|v=>pure v):=λa=>.bind (xF a) λp=>.bind (aiA p.1 t lm) λv=>by obtain _|_|_|_|_|(_|b):=v<;>simp[rv,eO,iA]<;>first|exact ahB _ _|exact .as _ j5
 cases d<;>first|(cases hd;done)|(cases a<;>first|exact e|exact LC _)
def Yg{κ}(r:nf ae t=Z (.int κ))(j:ae.info? t=Z i)(o:∀u,i.1≠.named "sync.copyChecker" u)(x e):SQ K id (oJ t (rv x)<|rv e) (oJ t x e):=by
 unfold oJ vZ;rw[show(10000:Nat)=9999+1 from U];rw[KC];refine .und t λd g=>?_;rw[r]at g;cases g;obtain _|⟨k,n⟩|_|_|_|(_|a):=x<;>obtain _|⟨l,m⟩|_|_|_|(_|b):=e<;>simp only[rv,gI]<;>(try with_reducible exact bR _ _)<;>(try(exact .lost j6));split;exact .as _ U;exact bR _ _;match n with
 |.ofNat 0=>exact .as aa U
 |.ofNat (m+1)=>exact .lost j6
 |.negSucc m=>exact .lost j6
 match m with
 |.ofNat 0=>exact .as aa U
 |.ofNat (m+1)=>exact .lost j6
 |.negSucc m=>exact .lost j6
 refine .bind (xF a) λp=>.bind (xF b) λq=>.prog ?_;let⟨p,_⟩:=p;let⟨q,_⟩:=q;dsimp only;by_cases c:aL p.1=aL q.1/\aL p.1<pB ae.globals;let f:=inj c.1;rw[aO (by simp[ra,c.1];rw[<-c.1];exact c.2),aO (by simp[f];exact f▸low _ c.2)];exact .bind (Ek p) λx=>.bind (Ek q) λe=>.as (x==e) U;rw[aI (λh=>c (by rw[cQ,mL]at h;exact⟨h.1,mM h.2⟩))];refine .pX λw=>yC (b:=i) ?_ ?_;unfold yf;rw[fb.run_bind];show(match ae.info? t with|some i=>(pure i:fb jE)|none=>_).run ae w=_;rw[j];rfl;split;rename_i u s;cases o u s;exact⟨_,_,rfl,trivial⟩
def Jh(g:nf ae t=Z d)(x b)(hd:d=.string\/d=.bool\/(∃m,d=.interface m/\b=.nilIface)\/(∃e n c,d=.slice e/\b=.slice aj n c)):SQ K id (oJ t (rv x)<|rv b) (oJ t x b):=by
 unfold oJ vZ;rw[show(10000:Nat)=9999+1 from U];rw[KC];refine .und t λq f=>?_;rw[g]at f;cases f;obtain rfl|rfl|⟨m,rfl,rfl⟩|⟨e,n,c,rfl,rfl⟩:=hd;cases x<;>cases b<;>simp[rv]<;>first|exact .as _ rfl|exact bR _ _
 cases x<;>cases b<;>simp[rv]<;>first|exact .as _ rfl|exact bR _ _
 cases x<;>simp[rv]<;>first|exact .as _ rfl|exact bR _ _
 obtain _|_|_|_|_|_|⟨_|a,_,_⟩:=x<;>simp[rv,gI]<;>first|exact .as _ rfl|exact bR _ _
def ahT(s:nf ae t=Z (.pointer e))(x d):SQ K id (oJ t (rv x)<|rv d) (oJ t x d):=by
 unfold oJ vZ;rw[show(10000:Nat)=9999+1 from U];unfold KC;refine .und t λq r=>?_;rw[s]at r;cases r;obtain _|_|_|_|_|(_|a):=x<;>obtain _|_|_|_|_|(_|b):=d<;>simp only[rv,gI]<;>(try with_reducible exact bR _ _)<;>(try(exact .as _ U));refine .bind (oA e) λn=>?_;dsimp only[id];split;unfold sameAddr;let A:((ra a).1==(ra b).1)=(a.1==b.1):=by rw[sR,mL,mL];exact⟨λh=>inj h,λh=>by show aL _=aL _;rw[h]⟩
 rw[A,Oe];split;exact .as _ U;let kj:∀{K:Nat×Bool->Prop},SQ K id (noView (ra a) >>= λ_=>noView (ra b) >>= λ_=>Cu (ra a) (ra b) >>= λz=>if z=M then choose (.extern "sameAddr.stringBytes" 2) >>= λn=>pure (n==1)else pure aa) (noView a >>= λ_=>noView b >>= λ_=>Cu a b >>= λz=>if z=M then choose (.extern "sameAddr.stringBytes" 2) >>= λn=>pure (n==1)else pure aa):=λ{K}=>.nv a (.nv b (.bind (aib a b (aA<|az U)<|az U) λz=>by dsimp only[id];split;exact .bind (tW _) λn=>.as _ U;exact .as _ U));refine .to λw w' hS v s=>?_;let gone:∀{c:iL},¬aL c.1<pB w.1->w.1[(ra c).1]? =aj/\nc w (ra c)=aa:=λ{c} B=>have:w.1[(ra c).1]? =aj:=Array.getElem?_eq_none_iff.2 (xW B);⟨this,by rw[qG];rw[this]⟩
 let e:∀(a b:iL) (f R:fb Bool) (w:aq) g,(frozen a >>= λx=>frozen b >>= λd=>if(x&&d)=M then f else R).runT ae w g=(if(nc w a&&w.frozen? b)=M then f else R).runT ae w g:=λ_ _ _ _ _ _=>U;let j:∀(a b:iL) (f R:fb Bool) (w:aq),(frozen a >>= λx=>frozen b >>= λd=>if(x&&d)=M then f else R).run ae w=(if(nc w a&&w.frozen? b)=M then f else R).run ae w:=λ_ _ _ _ _=>U;by_cases i:aL a.1<pB w.1;by_cases k:aL b.1<pB w.1;cases l:nc w (ra a)&&w.frozen? (ra b)with
 |true=>exact aA ⟨.unsupported .addressObserved,w,by rw[j,l];rfl,trivial⟩
 |false=>
  let C:(nc w' a&&w'.frozen? b)=aa:=by rw[Mz hS a i,Mz hS b k];exact l
  let u:∀m,(nc (w.tp m) (ra a)&&(w.tp m).frozen? (ra b))=aa:=λ_=>l;exact az ⟨_,_,K,#[],#[],kj,v,λm g=>by rw[e,u,jK];rfl,λg=>by rw[e,C,jK];rfl,ay⟩
 left;rw[Dd];rw[j,(gone k).2,Bool.and_false];let⟨o,p⟩:∃o,w.1[(ra a).1]? =Z o:=⟨_,gi i⟩;by_cases hv:∃x t,o=.view x t;obtain⟨x,t,rfl⟩:=hv;exact sD ⟨_,w,WG p,trivial⟩;exact yC (by rw[<-iM ae _ w #[],PG p λx t e=>hv ⟨x,t,e⟩]) (sD ⟨_,w,NC (gone k).1,trivial⟩);left;rw[Dd];rw[j,(gone i).2,Zt];exact sD ⟨_,w,NC (gone i).1,trivial⟩;rw[Oe];split;exact .as M U;exact .bind (tW _) λn=>.as _ U
def cl:aB->Nat
 |.int .. =>1|.string _=>2|.pointer _=>3|.float .. =>4|.complex .. =>5|_=>0
def Si(t x a)(h:cl x≠cl a\/cl x=0\/cl x=3):ju .eql t x a=(do pure (.bool<|<-oJ t x a))/\ju .neq t x a=(do pure (.bool<|!(<-oJ t x a))):=by cases x<;>cases a<;>first|exact⟨rfl,rfl⟩|simp[cl]at h
def Q6{op}(t x lm)(a:op≠.eql)(b:op≠.neq)(h:cl x=0\/cl lm=0\/(cl x≠cl lm/\(cl x=2\/cl lm=2\/4<=cl x\/4<=cl lm))):∃q,ju op t x lm=.halt q/\nJ q:=by unfold ju;split<;>first|exact⟨_,rfl,trivial⟩|(simp[cl]at h;done)|(cases a rfl)|(cases b rfl)
def OU(s':fb β):SX K Q (zZ .addressObserved) s':=.lost trivial
def Df(h:cl x=1):∃k n,x=.int k n:=by cases x<;>first|exact⟨_,_,rfl⟩|cases h
def SC(h:cl x=2):∃n,x=.string n:=by cases x<;>first|exact⟨_,rfl⟩|cases h
def Gw(h:cl x=3):∃a,x=.pointer a:=by cases x<;>first|exact⟨_,rfl⟩|cases h
def LR(x):cl (rv x)=cl x:=by cases x<;>simp[rv,cl]
def SB(x):cl x<=5:=by cases x<;>simp[cl]
def Sz(h:cl x=4):∃k n,x=.float k n:=by cases x<;>first|exact⟨_,_,rfl⟩|cases h
def Sy(h:cl x=5):∃k n m,x=.complex k n m:=by cases x<;>first|exact⟨_,_,_,rfl⟩|cases h
def Bl(op:uj)(j:nf ae t=Z d)(hd:RF d=M)(x c)(eq:SQ K id (oJ t (rv x)<|rv c) (oJ t x c)):SQ K rv (ju op t (rv x)<|rv c) (ju op t x c):=by
 have R:=LR x;have S:=LR c;by_cases z:cl x=1/\cl c=1
 ·obtain⟨k,n,rfl⟩:=Df z.1;obtain⟨l,m,rfl⟩:=Df z.2;simp only[rv];have one:∀v:aB,rv v=v->SQ K rv (pure v) (pure v):=λv h=>.as v h.y;cases op<;>simp only[ju];all_goals (try(split;· exact bR _ _))
  all_goals first
   |(unfold Op.intArith;exact one _ j5)|(unfold Op.intBits;exact one _ j5)|(unfold Op.intCmp;exact one _ j5)|(unfold Op.intDiv;split<;>first|exact oz n7|exact one _ j5)|(unfold Op.shift;split<;>first|exact oz n7|exact one _ j5)
 by_cases A:cl x=2/\cl c=2;·obtain⟨n,rfl⟩:=SC A.1;obtain⟨m,rfl⟩:=SC A.2;simp only[rv];cases op<;>simp only[ju]<;>exact Yn _ _ _
 by_cases w:cl x=4/\cl c=4;·obtain⟨k,n,rfl⟩:=Sz w.1;obtain⟨l,m,rfl⟩:=Sz w.2;simp[rv];cases op<;>simp[ju]<;>split<;>first|exact bR _ _|exact(Xe _ _ _ _).sq|exact(Xg _ _ _ _).sq
 by_cases u:cl x=5/\cl c=5;·obtain⟨k,n,X,rfl⟩:=Sy u.1;obtain⟨l,m,W,rfl⟩:=Sy u.2;simp[rv];cases op<;>simp[ju]<;>split<;>first|exact bR _ _|exact(afx _ _ _ _ _ _).sq
 have T:=SB x;have be:=Si t (rv x) (rv c) Y;have s:=Si t x c Y;by_cases f:op=.eql;·rw[f,be.1,s.1];exact .bind eq λb=>.as _ j5
 by_cases g:op=.neq;·rw[g,be.2,s.2];exact .bind eq λb=>.as _ j5
 by_cases P:cl x=0\/cl c=0\/(cl x≠cl c/\(cl x=2\/cl c=2\/4<=cl x\/4<=cl c));·let⟨q,e,i⟩:=Q6 (op:=op) t (rv x) (rv c) f g Y;rw[e];exact .lost i
 have up:∀a c,SQ K rv (do if(<-dq t) matches .unsafePointer then movedPointer t (.pointer<|a.map ra) (rv c)else jx t (.pointer<|a.map ra) (rv c)) (do if(<-dq t) matches .unsafePointer then movedPointer t (.pointer a) c else jx t (.pointer a) c):=λa c=>.und t λq i=>by rw[j]at i;cases i;cases d<;>first|(cases hd;done)|exact Yk j hd a c
 have B:∀k n,rv (.int k n)=BX k n:=λk n=>by simp[rv]
 have D:∀a k n,SQ K rv (jx t (.pointer<|a.map ra)<|.int k n) (jx t (.pointer a)<|.int k n):=λa k n=>by have:=Yk (K:=K) j hd a (.int k n);rwa [B]at this
 have G:=λa k n=>by have:=up a (.int k n);rw[B]at this;exact this
 have o:=D aj;have r:=λa=>D (Z a);have E:=G aj;have H:=λa=>G (Z a);simp at o r E H;have C:∀(k:vK) a n,SQ K rv (do KA k (<-ec (ra a)).1 n) (do KA k (<-ec a).1 n):=λk a n=>.bind (xF a) λp=>ahy k p.1 n;have J:∀op a b,SQ K rv (do Kz op (<-ec (ra a)).1 (<-ec (ra b)).1) (do Kz op (<-ec a).1 (<-ec b).1):=λop a b=>.bind (xF a) λp=>.bind (xF b) λq=>ahx op p.1 q.1;have O:∀a b,SQ K rv (do KB .u64 (<-ec (ra a)).1 (<-ec (ra b)).1) (do KB .u64 (<-ec a).1 (<-ec b).1):=λa b=>.bind (xF a) λp=>.bind (xF b) λq=>ahz _ p.1 q.1;by_cases L:cl x=3;obtain⟨a,rfl⟩:=Gw L;by_cases N:cl c=3;obtain⟨b,rfl⟩:=Gw N;simp[rv];obtain _|a:=a<;>obtain _|b:=b<;>cases op<;>simp[ju,iA,eO]<;>with_reducible first|exact absurd rfl f|exact absurd rfl g|exact OU _|exact J _ _ _|exact O _ _
 obtain⟨k,n,rfl⟩:=Df (show cl c=1 by omega);simp[rv];obtain _|a:=a<;>cases op<;>simp[ju,iA,eO]<;>first|(with_reducible first|exact absurd rfl f|exact absurd rfl g|exact OU _|exact o _ _|exact r _ _ _|exact C _ _ _)|exact E _ _|exact H _ _ _
 obtain⟨b,rfl⟩:=Gw (show cl c=3 by omega);obtain⟨k,n,rfl⟩:=Df (show cl x=1 by simp[cl]at*;omega);simp[rv];obtain _|b:=b<;>cases op<;>simp[ju,iA,eO]<;>with_reducible first|exact absurd rfl f|exact absurd rfl g|exact OU _|exact o _ _|exact r _ _ _|exact C _ _ _
def TF:jD->Bool
 |.interface _|.struct _|.array _ _=>aa
 |_=>M
def Bm(op:uj)(l:nf ae t=Z d)(x lm a b)(hd:TF d=M\/(lm=.const .nilIface/\b=.nilIface)):SQ K id (FL op t x lm (rv a)<|rv b) (FL op t x lm a b):=by
 let i:∀(c:Bool) {s s':fb Unit},SQ K id s s'->SQ K id (if c=M then pure ()else s) (if c=M then pure ()else s'):=λc s s' h=>by cases c;exact h;exact .as () U
 unfold FL;refine i _ ?_;obtain hd|⟨rfl,rfl⟩:=hd
 ·let j:∀a e b f,SQ K id (FC vZ t a b) (FC vZ t e f):=λa e b f=>by unfold vZ;rw[show(10000:Nat)=9999+1 from U];unfold FC;refine .und t λq g=>?_;rw[l]at g;cases g;cases d<;>first|(cases hd;done)|exact .as aa rfl
  let fin:∀a e b f (q:Unsupported),nJ (.unsupported q)->SQ K id (FC vZ t a b >>= λz=>if z=M then zZ q else pure ()) (FC vZ t e f >>= λz=>if z=M then zZ q else pure ()):=λa e b f q g=>.bind (j a e b f) λz=>by cases z;exact .as () U;exact .pX λw=>⟨.unsupported q,w,U,g⟩
  cases a<;>cases b<;>simp only[rv]<;>first|exact .as () rfl|exact i _ (fin _ _ _ _ _ j6)|exact .prog (.prog<|i _<|fin _ _ _ _ _ j6)
 cases a<;>simp only[rv]<;>first|exact .as () rfl|(simp;exact .as () rfl)
def ahO{d:aY}(h:(∃j k,nf ae s=Z (.int j)/\nf ae d=Z (.int k))\/∃e,nf ae s=Z (.slice e)/\nf ae d=Z .string/\nf ae e=Z (.int .u8))(x):SQ K rv (convert s d<|rv x) (convert s d x):=.und s λp f=>.und d λq a=>by
 obtain⟨j,k,b,c⟩|⟨e,b,c,g⟩:=h<;>(rw[b]at f;cases f)<;>(rw[c]at a;cases a);obtain _|_|_|_|_|(_|_):=x<;>simp[rv,eO,iA]<;>first|exact SX.as (BX _ _) j5|exact(afA _ _ _).sq|exact .lost j6
 let fin:∀X x,X=rv x->SQ K rv (dq e >>= λd=>match d with|.int .u8=>EM X|.int .i32=>ZF X|_=>stuck "Convert: a slice of what to string?") (dq e >>= λd=>match d with|.int .u8=>EM x|.int .i32=>ZF x|_=>stuck "Convert: a slice of what to string?"):=λX x i=>.und e λq a=>by rw[g]at a;cases a;subst i;exact ahJ x
 cases x<;>simp[rv]<;>first|exact SX.as (Value.string _) j5|exact fin _ _ j5
def Jg{k:aY}{κ}(hk:nf ae k=Z (.int κ))(b b' v v'):SQ K id (EU b 10000 k v) (EU b' 10000 k v'):=by rw[show(10000:Nat)=9999+1 from U];rw[EU];refine .und k λq a=>?_;rw[hk]at a;cases a;exact .as () U
def aet(κ:vK)(k v):JZ (.int κ) (rv k) (rv v)=JZ (.int κ) k v:=by cases k<;>cases v<;>simp[rv]<;>rfl
def rq(p:aV (Nat×aB)):aV (Nat×aB):=p.map λq=>(q.1,rv q.2)
def TR(κ:vK)(k):∀(l:av Cb) i,BK (.int κ) (rv k) (l.map re) i=(BK (.int κ) k l i).map rq
 |[],i=>rfl|e::l,i=>by
  simp[nC,BK,re,aet];cases JZ (.int κ) k e.1 with
  |none=>rfl
  |some b=>cases b<;>first|rfl|exact TR κ k l<|i+1
section
variable {k:aY} {κ:vK} {ki:jE} (hk:ae.underlying k=Z (.int κ)) (hi:ae.info? k=Z ki) (hn:∀u,ki.1≠.named "sync.copyChecker" u)
include hk hi hn
def Yd(lm):∀(l:av Cb) i,SQ K rq (ZR k (rv lm) (l.map re) i) (ZR k lm l i)
 |[],i=>.as aj U|e::l,i=>.bind (Yg hk hi hn lm e.1) λb=>by dsimp only[id];split;exact .as (Z (i,e.2)) U;exact Yd lm l<|i+1
def OP(lm l):SQ K rq (BJ k (rv lm)<|l.map re) (BJ k lm l):=.und k λq a=>by rw[hk]at a;cases a;rw[TR];rcases BK (.int κ) lm l 0 with _|o;exact Yd hk hi hn lm l 0;exact .as o rfl
def aie(b:Zs)(f:nf ae t=Z (.map k e))(v q ok):SQ K rv (ZT t (rv v) (rv q) ok) (ZT t v q ok):=.und t λd hd=>by
 rw[f]at hd;cases hd;have fin:∀{K:Nat×Bool->Prop} (a:aF Cb),SQ K rv (EU (a.map re).isEmpty 10000 k (rv q) >>= λ_=>BJ k (rv q) (a.map re).toList >>= λo=>match o with|some (_,v)=>pure (if ok then θ #[v,.bool M]else v)|none=>jq e >>= λz=>pure (if ok then θ #[z,.bool aa]else z)) (EU a.isEmpty 10000 k q >>= λ_=>BJ k q a.toList >>= λo=>match o with|some (_,v)=>pure (if ok then θ #[v,.bool M]else v)|none=>jq e >>= λz=>pure (if ok then θ #[z,.bool aa]else z)):=λ{K} a=>.bind (Jg hk _ _ _ _) λ_=>.bind D5 λo=>by rcases o with _|p;exact .bind (vm b e) λz=>.as _ (by cases ok<;>simp[rv]);exact .as _ (by cases ok<;>simp[rv])
 rcases v with _|_|_|_|_|_|_|(_|r)<;>simp only[rv,eO,iA]<;>(try with_reducible exact zc _ _ _);have:=fin (K:=K) #[];rw[vD]at this;exact .pb this;exact .GU r (hd:=by intro o h w;cases o<;>first|exact absurd rfl (h _ _)|exact⟨_,_,rfl,trivial⟩) λa c=>fin a
omit hi hn in
def aaB(b:cl x≠1)(c:cl x≠3)(a w):Dd (oJ k x a) w:=by unfold oJ vZ;rw[show(10000:Nat)=9999+1 from U];rw[KC];refine yC (by show(match nf ae k with|some d=>(pure d:fb jD)|none=>stuck "no such type").run ae w=_;rw[hk];rfl) ?_;cases x<;>first|exact absurd rfl b|exact absurd rfl c|(cases a<;>exact⟨_,_,rfl,trivial⟩)
omit hi hn in
def aaU{lm}(a:cl lm≠1)(b:cl lm≠3){l}(hl:l≠[])(w):Dd (BJ k lm l) w:=by
 refine yC (by show(match nf ae k with|some d=>(pure d:fb jD)|none=>stuck "no such type").run ae w=_;rw[hk];rfl) ?_;rcases l with _|⟨e,l⟩;exact absurd rfl hl;have:BK (.int κ) lm (e::l) 0=aj:=by
  unfold BK;have:JZ (.int κ) lm e.key=aj:=by cases lm<;>first|exact absurd rfl a|rfl
  rw[this]
 rw[this];exact sD<|aaB hk a b e.key w
omit hk hi hn in
def Q7{lm}(h:cl lm=1\/cl lm=3)(v n):ZZ n (rv v) (rv lm)=ZZ n v lm:=by
 obtain h|h:=h;obtain⟨j,m,rfl⟩:=Df h;cases v<;>cases n<;>simp[rv]<;>rfl;obtain⟨a,rfl⟩:=Gw h;let op:∀b:aV iL,(b.map ra==a.map ra)=(b==a):=λb=>by cases a<;>cases b<;>first|rfl|exact Oe _ _
 cases v<;>cases n<;>simp[rv]<;>first|rfl|exact op _
omit hk hi hn in
def aiu{lm}(h:cl lm=1\/cl lm=3)(v):SQ K rv (Qm (rv v)<|rv lm) (Qm v lm):=by unfold Qm;rw[Q7 h];split;exact .as _ U;exact .bind (tW _) λc=>.as _ (by dsimp only[id];split<;>rfl)
omit hk hi hn in
def adR(es:aF Cb)(i a b):(es.map re).modify i (λe=>{e with key:=rv a,val:=rv b})=(es.modify i λe=>{e with key:=a,val:=b}).map re:=by apply By;intro j;simp[Bz,jL];split<;>cases es[j]? <;>rfl
def aiB(A:nf ae t=Z (.map k e))(v q x):SQ K id (ZX t (rv v) (rv q)<|rv x) (ZX t v q x):=.und t λd hd=>by
 rw[A]at hd;cases hd;rcases v with _|_|_|_|_|_|_|(_|r)<;>simp only[rv,eO,iA]<;>(try with_reducible exact bR _ _);exact oz n7;refine .GU r (hd:=by intro o h w;cases o<;>first|exact absurd rfl (h _ _)|exact⟨_,_,rfl,trivial⟩) λa c=>.bind (Jg hk _ _ _ _) λ_=>?_;have f:SQ (λx=>K x\/x=(aL r,M)) id (zY (aL r)<|.map ((a.map re).push ⟨rv q,rv x,c⟩)<|c+1) (zY r<|.map (a.push ⟨q,x,c⟩)<|c+1):=tX (.map (a.push ⟨q,x,c⟩)<|c+1) (by simp[ro,re]) H6 (az U);by_cases n:cl q=1\/cl q=3;refine .bind D5 λo=>?_;rcases o with _|p;exact f;simp only[rq,eO];have m:((gI (·.key) (a.map re)[p.1]?).getD<|rv q)=rv ((gI (·.key) a[p.1]?).getD q):=by rw[jL];cases a[p.1]? <;>rfl
 rw[m];exact .bind (aiu n _) λz=>tX (.map (a.modify p.1 λe=>{e with key:=z,val:=x}) c) (by simp only[ro,adR]) H6 (az U);have B:=LR q;have i:cl (rv q)≠1/\cl (rv q)≠3:=Y;by_cases j:a.toList=[];have:a=#[]:=by cases a;simpa using j
 subst this;have g:∀(l:aB) (b:aV (Nat×aB)->fb Unit),(BJ k l [] >>= b)=dq k >>= λ_=>b aj:=λl b=>Ci _ _ _;simp at f⊢;rw[g,g];exact .und k λ_ _=>f;exact .pX λw=>sD (aaU hk i.1 i.2 (by rw[mJ];simpa using j) w)
def ahQ{ts}(h0:ts[0]? =Z t)(b:nf ae t=Z (.map k e))(ty x):SQ K rv (PY ts ty<|x.map rv) (PY ts ty x):=by have fin:∀{K:Nat×Bool->Prop},SQ K rv (pure<|θ #[]) (pure<|θ #[]):=λ{K}=>.as _ j5;unfold PY;simp only[jL,h0];cases x[0]? <;>cases x[1]? <;>simp only[eO,iA]<;>(try with_reducible exact bR _ _);rename_i m q;refine .und t λd hd=>?_;rw[b]at hd;cases hd;rcases m with _|_|_|_|_|_|_|(_|r)<;>simp only[rv,eO,iA]<;>(try with_reducible exact zc _ _ _);exact .bind (Jg hk _ _ _ _) λ_=>fin;refine .GU r (hd:=by intro o h w;cases o<;>first|exact absurd rfl (h _ _)|exact⟨_,_,rfl,trivial⟩) λa c=>.bind (Jg hk _ _ _ _) λ_=>.bind D5 λo=>?_;rcases o with _|p;exact .bind (tX (.map a c) rfl H6<|az rfl) λ_=>fin;exact .bind (tX (.map (a.eraseIdxIfInBounds p.1) c) (by simp only[ro];congr 1;exact BB.1 (by simp[Array.toList_eraseIdxIfInBounds,List.eraseIdx_eq_take_drop_succ])) H6<|az U) λ_=>fin
end
def ahC(a:Zs)(v xt)(c:∀m,nf ae t≠Z (.interface m)):SQ K rv (Ka (rv v) xt t M) (Ka v xt t M):=.und t λd b=>by let z:SQ K rv (do pure (θ #[<-jq t,.bool aa])) (do pure (θ #[<-jq t,.bool aa])):=.bind (vm a t) λz=>.as _ j5;cases v<;>simp[rv]<;>cases d<;>first|exact absurd b (c _)|exact bR _ _|exact z|(dsimp only;split<;>first|exact .as _ j5|exact z)
def air:SQ K id ZY ZY:=.bind ahS λr=>by cases r<;>first|exact bR _ _|exact .prog (.as _ rfl)
def aiq(v):SQ K rv (Instr.panic<|rv v) (Instr.panic v):=by unfold Instr.panic;cases v<;>simp[rv]<;>(try with_reducible exact bR _ _);exact Ep _ _ j5;refine .bind air λn=>?_;dsimp only[id];split;exact Ep _ _ j5;exact .prog (.bind (Yf _) λt=>.bind (by have:=OT (K:=K) t (ν #[]);simp[rv,vD]at this;exact this) λr=>Ep _ _ j5)
def rt:Target->Target
 |.fn f x=>.fn (kG f) (x.map rv)|.collected r=>.collected (aL r)|t=>t
def gX(d:rJ):rJ:=⟨rt d.1,d.2.map rv⟩
def rc(c:BD):BD:=⟨rv c.1,c.2.map rv,rv c.3⟩
inductive NX:tw->tw->Prop
 |value (v:aB):NX (.value (rv v)) (.value v)
 |skip:NX .skip .skip
 |enter (f:aZ) (x:aF aB) (h:an.ok f):NX (.enter f (x.map rv)) (.enter f x)
 |round (l:Nat) (f:aZ) (x:aF aB) (a b:fu) (h:il f/\ij a/\ij b):NX (.round (aL l) f (x.map rv) a b) (.round l f x a b)
 |defer (d:rJ) (h:(∃f c,d.1=.fn f c)\/d.1=.nil):NX (.defer (gX d)) (.defer d)
 |recover:NX .recover .recover
 |comm (c:BD) (h:c.2=aj):NX (.comm #[rc c] aa .select) (.comm #[c] aa .select)
def fH{s s'}(h:SQ K rv s s'):SX K NX (do pure (.value<|<-s)) (do pure (.value<|<-s')):=.bind h λv=>.mk (.value v)
def Pk{s s'}(h:SQ K id s s'):SX K NX (do s;pure .skip) (do s';pure .skip):=.bind h λ_=>.mk .skip
abbrev rl(l:Loop):Loop:={l with tmps:=l.tmps.map rv,defers:=aL l.defers}
def El{a F'}(l)(h:∀r,lJ r=M->SX (λx=>K x\/x=(aL l,M)) g (a<|rl r) (F' r)):SX K g (zE (aL l) >>= a) (zE l >>= F'):=by let e:∀{γ:Type} (l:Nat) (a:Loop->fb γ),(zE l >>= a)=getObj l >>= λo=>((match o with|.loop r=>pure r|_=>stuck "range over a function: no such loop") >>= a):=λl a=>Ci _ _ _;rw[e,e];exact .getLoop l (hd:=by intro o h w;cases o<;>first|exact absurd rfl (h _)|exact⟨_,_,rfl,trivial⟩) λr hr=>h r hr
def ahf(ps:av (Nat×aB)):∀x:aF aB,(ps.map λp=>(p.1,rv p.2)).foldl (λt p=>mP t p.1 p.2) (x.map rv)=(ps.foldl (λt p=>mP t p.1 p.2) x).map rv:=by
 induction ps with
 |nil=>exact λx=>U
 |cons p ps a=>exact λx=>by simp only[nC,uy,<-zy];exact a _
def xm(l:Loop)(h:lJ l=M):ro (.loop l)=.loop (rl l)/\ro (.loop l)≠cC:=by simp[ro,h,cC]
def ahE(l):SQ K id (ET<|aL l) (ET l):=El l λr hr=>by let a:lJ {r with state:=.busy}=M:=(hl _).2 ((hl r).1 hr);refine .bind (tX (.loop {r with state:=.busy}) (xm _ a).1.y (xm _ a).2 (az U)) λ_=>?_;cases r.1<;>first|exact .as () rfl|exact oz n7
def ahR(l)(j:aV fu)(b:∀c,j=Z c->ij c):SQ K rv (zD (aL l) j) (zD l j):=El l λr hr=>let a:lJ {r with state:=if qV j then .ready else .done,pending:=j}=M:=(hl _).2 (by have:=(hl r).1 hr;exact⟨this.1,this.2.1,this.2.2.1,b⟩);.bind (tX (.loop {r with state:=if qV j then .ready else .done,pending:=j}) (xm _ a).1.y (xm _ a).2 (az U)) λ_=>.as _ j5
def aiQ(l):SX K (λa b=>a=b/\∀c,b=Z c->ij c) (JW<|aL l) (JW l):=El l λr hr=>by let d:lJ {r with state:=.exhausted}=M:=(hl _).2 ((hl r).1 hr);split;exact vl n7;exact .bind (tX (.loop {r with state:=.exhausted}) (xm _ d).1.y (xm _ d).2 (az U)) λ_=>.mk ⟨U,((hl r).1 hr).2.2.2⟩
def aiR{fn}(x ps a b)(r:aV Nat)(h:il fn/\ij a/\ij b):SX K (λp q=>p=(aL q.1,q.2.map gX)/\∀d∈q.2,∃r,d.1=.collected r) (BI fn (x.map rv) ps a b<|r.map aL) (BI fn x ps a b r):=by
 let mk:∀{K:Nat×Bool->Prop} (d:Nat) (m:av rJ),(∀d∈m,∃r,d.1=.collected r)->SX K (λp q=>p=(aL q.1,q.2.map gX)/\∀d∈q.2,∃r,d.1=.collected r) (yc (.loop {state:=.ready,pending:=aj,fn,tmps:=x.map rv,params:=ps,assign:=a,body:=b,defers:=aL d}) >>= λn=>pure (n,m.map gX)) (yc (.loop {state:=.ready,pending:=aj,fn,tmps:=x,params:=ps,assign:=a,body:=b,defers:=d}) >>= λn=>pure (n,m)):=λd m hm=>let c:lJ {state:=.ready,pending:=aj,fn,tmps:=x,params:=ps,assign:=a,body:=b,defers:=d}=M:=(hl _).2 ⟨h.1,h.2.1,h.2.2,ay⟩;.bind (vk _ (xm _ c).1.y (xm _ c).2) λn=>.mk ⟨U,hm⟩
 obtain _|l:=r;exact .bind (vk (.deferred<|Z []) rfl p9) λr=>.pb (by have:=mk (K:=K) r [{target:=.collected r,args:=#[]}] ay;simp[nC,xR,gX,rt,vD]at this;exact this);exact El l λr hr=>mk r.8 [] ay
def aiZ(l):SX K (λa b=>a=[]/\b=[]) (l7<|aL l) (l7 l):=.get l (λw=>⟨_,_,rfl,trivial⟩) λo h=>by
 cases o with
 |deferred c=>obtain _|_|⟨d,c⟩:=c;exact .lost j6;exact .bind (tX (.deferred aj) rfl p9<|az U) λ_=>.mk ⟨U,U⟩;cases h U
 |chan c b=>simp only[ro];by_cases q:pB b=0<;>simp only[q,dN,dM]<;>exact .lost j6
 |loop r=>simp[ro];by_cases q:lJ r=M<;>simp[q,dN,ff,dM]<;>exact .lost j6
 |_=>first|exact absurd rfl h|exact .lost j6
def Ab:Prop:=∀f,an.ok f->∃a,ae.2[f]? =Z a/\(a.1== "runtime.NumGoroutine")=aa/\qV a.9=aa
def CV(name:String):Prop:=∀t i m,ae.info? t=Z i->i.10.find? (·.name==name)=Z m->∃f e,m.3=#[]/\m.4=Z (f,M)/\an.ok f/\nf ae t=Z (.pointer e)
def Ae:Prop:=∀t i,ae.info? t=Z i->∀b,i.10.find? (·.name==mn b)=aj
def aiT(hF:Ab){f}(h:an.ok f)(x):SX K NX (ie f<|x.map rv) (ie f x):=.prog (by let⟨d,a,b,c⟩:=hF f h;simp[a,b,c,ff,dM];exact .mk (.enter f x h))
def Ma{f}(h:ae.2[f]? =aj)(x w):Dd (ie f x) w:=⟨.stuck "call: no such function",w,by show(match ae.2[f]? with|none=>_|some a=>_:fb tw).run ae w=_;rw[h];rfl,trivial⟩
def Yu(hF:Ab)(f x):SX K NX (ie (if okf f then f else pB ae.2+bad.toNat)<|x.map rv) (ie f x):=by split;exact aiT hF ((hf f).1 ‹_›) x;exact .pX<|Ma ay _
def ail{name}(hm:CV name)(n t v):SQ K (λp=>(if okf p.1 then p.1 else pB ae.2+bad.toNat,rv p.2)) (method n t (rv v) name) (method n t v name):=by
 cases n with
 |zero=>exact .lost j6
 |succ n=>
  refine .inf t λi k=>?_;cases l:i.10.find? (·.name==name)with
  |none=>exact .lost j6
  |some m=>let⟨f,e,a,b,h,j⟩:=hm t i m k l;let⟨m1,m2,o,q⟩:=m;simp only at a b;subst a b;simp;refine .pb ?_;dsimp only;exact .bind (.und t λd c=>by rw[j]at c;cases c;exact .ret v) λr=>.as (f,r) (by simp[(hf f).2 h,dN])
def aiU(hF:Ab){name}(hm:CV name)(r x):SX K NX (zV (rv r) name<|x.map rv) (zV r name x):=by unfold zV;cases r<;>simp[rv]<;>(try with_reducible exact bR _ _);rename_i t v;refine .prog<|.bind (ail hm _ t v) λp=>?_;have:=Yu (K:=K) hF p.1 (#[p.2]++x);rwa [xN,show #[p.2].map rv=#[rv p.2] by simp]at this;exact oz n7
def Te{a:jE->fb α}(h:∀i,ae.info? t=Z i->Dd (a i) w):Dd (yf t >>= a) w:=by let b:(yf t).run ae w=(match ae.info? t with|some d=>(pure d:fb jE)|none=>stuck "no such type").run ae w:=U;rcases hi:ae.info? t with _|i;exact sD ⟨.stuck "no such type",w,by rw[b,hi];rfl,trivial⟩;exact yC (by rw[b,hi];rfl) (h i hi)
def aiW(a:Ae)(r r')(hr:r=rv r')(x x')(name:String):SX K NX (zV r (mn bad) x) (zV r' name x'):=by
 subst hr;unfold zV;cases r'<;>simp[rv]<;>(try with_reducible exact bR _ _);rename_i t v;refine .pX λw=>yC U (sD ?_);generalize pB ae.types+Fy=n;cases n with
 |zero=>exact⟨_,_,rfl,trivial⟩
 |succ n=>exact Te λi b=>by simp[a t i b bad];exact⟨_,_,rfl,trivial⟩
 exact oz n7
def Pg(hF:Ab)(a:Ae)(t:Target)(x)(b:(∃f c,t=.fn f c)\/t=.nil\/∃r,t=.collected r):SX K NX (invoke (rt t)<|x.map rv) (invoke t x):=by
 obtain⟨f,c,rfl⟩|rfl|⟨r,rfl⟩:=b;cases f with
 |func f=>simp only[rt,kG,invoke,<-xN];exact Yu hF f _
 |yield l=>exact(by
    refine El l λr hr=>?_;simp only[ug];split;exact .lost j6;let e:(r.5.zip<|x.map rv).foldl (λt (p:Nat×aB)=>mP t p.1 p.2) (r.4.map rv)=((r.5.zip x).foldl (λt (p:Nat×aB)=>mP t p.1 p.2) r.4).map rv:=by
     rw[<-EE,<-EE,<-ahf]
     congr 1;simp[Array.toList_zip,List.zip_map_right]
    have:=NX.round l r.3 ((r.5.zip x).foldl (λt (p:Nat×aB)=>mP t p.1 p.2) r.4) r.6 r.7 (have:=(hl r).1 hr;⟨this.1,this.2.1,this.2.2.1⟩);rw[<-e]at this;exact .mk this)
 |method n=>simp[rt,kG,invoke,jL];obtain _|v:=x[0]?;exact bR _ _;exact aiW a _ v rfl _ _ n
 |methodOf t n=>exact .pX<|Ma ay _
 |via t p f q=>exact .pX<|Ma ay _
 simp[rt,invoke];exact oz n7;exact .lost j6
def adS{x}{i}(f:Obj->Obj)(e:h[i]? =Z x):h.modify i f=mP h i (f x):=by grind
def fz(o n:Nat):Obj->Obj
 |.cells c d (b,a)=>au c d (if b==a then(o,o+n)else(min b o,max a<|o+n))|x=>x
def Ur(o n x):fz o n (ro x)=ro (fz o n x):=by
 cases x with
 |chan c b=>show fz o n (if pB b=0 then _ else _)=if pB b=0 then _ else _;split<;>rfl
 |loop l=>show fz o n (if lJ l=M then _ else _)=if lJ l=M then _ else _;split<;>rfl
 |deferred c=>obtain _|_|⟨d,c⟩:=c<;>rfl
 |_=>rfl
def abL{o x}(h:x≠cC):fz o n x≠cC:=by cases x<;>first|exact h|(intro e;cases e)
def ahX(p:K (aL a.1,M))(n):SQ K id (Cr (ra a) n) (Cr a n):=by
 refine .act λw w' hS m t=>?_;let⟨x,d,j⟩:=m _ p;obtain⟨r,q,b,k,rfl,o⟩:=hS.get d j;by_cases i:n=0;exact az ⟨(),w,w',#[],#[],λl c=>by simp only[Cr,eA,KN,i,dN,jK],⟨U,U⟩,λc=>by simp only[Cr,eA,KN,i,dN,jK],.refl hS,ay⟩;let e:∀(a:iL) (w:aq) (x:Obj),w.1[a.1]? =Z x->w.freeze a n={w with heap:=mP w.1 a.1<|fz a.2 n x}:=λa w x h=>by
  rw[<-adS (fz a.2 n) h];simp only[KN,i,dM]
  congr 2
 refine az ⟨(),{w with heap:=mP w.1 (aL a.1)<|ro<|fz a.2 n b},{w' with heap:=mP w'.1 a.1<|fz a.2 n b},#[],#[],λl c=>?_,⟨U,U⟩,λc=>?_,Mv.put hS d j k (Ur .. ▸abL j) q (by cases b<;>exact o),ay⟩;simp only[Cr,eA,jK,<-Ur];rw[e (ra a) (w.tp l) (ro b) d];rfl;simp only[Cr,eA,jK,id_eq];rw[e a w' b k]
def aiD(ts ty)(x lm)(h:u=rv x):SQ K rv (Qc ts ty #[u,rv lm]) (Qc ts ty #[x,lm]):=by
 rw[Qc];cases x<;>simp[rv]at h<;>subst h<;>(try exact bR _ _);rename_i p;refine .bind (Bj lm) λn=>?_;obtain _|pt:=ts[0]?;exact bR _ _;dsimp only[id];split;exact vl n7;split;exact .lost j6;cases p with
 |none=>simp;split;exact .as _ j5;exact oz n7
 |some a=>simp;split;exact .as _ j5;refine .bind (Yf pt) λe=>?_;let ex:∀(a:iL) (d:Bool->fb aB),(CC a e n.toNat >>= d)=rT >>= λp=>shape a.1 >>= λq=>(match q with|some (i,c)=>pure (liesAt p p.depth i (c / p.cellsOf i) a.2 e n.toNat)|none=>pure aa) >>= d:=λa d=>Ci _ _ _;rw[id,ex,ex];refine .prog<|.shp a.1 (λw=>⟨_,_,rfl,trivial⟩) λq=>.pb ?_;rw[show(ra a).2=a.2 from U];split;exact .bind (Yi _ _ a _) λb=>.bind (ahX (Or.inr U) _) λ_=>.as _ j5;exact .lost j6
def SX.elm{a:aY->fb γ}{b:aY->fb δ}(he:nf ae t=Z (.pointer e))(h:SX K g (a e) (b e)):SX K g (elemOf t >>= a) (elemOf t >>= b):=by show SX K g (fK (fK (dq t) _) a) (fK (fK (dq t) _) b);rw[Ci,Ci];exact .und t λd c=>by rw[he]at c;cases c;exact h
def aiC{b:aY}(he:nf ae b=Z (.pointer e))(d:wL e)(ts)(x)(h:u=rv x):SQ K rv (EL ts b #[u]) (EL ts b #[x]):=by
 rw[EL];cases x;case slice a n c=>obtain _|a:=a;simp[rv,iA]at h;subst h;exact .as _ j5;simp[rv,eO]at h;subst h;show SQ K rv (if c≠0 then _ else _) (if c≠0 then _ else _);split;exact .as _ j5;refine .bind (Jk a.1) λo=>?_;rw[Option.isSome_map];split;exact .as _ j5;exact .elm he<|.bind (vk (.view a e) U p9<|hv d) λr=>.as _ QP
 all_goals (simp[rv]at h;subst h;exact bR _ _)
def aiz(op:UnOp)(h:op=.not\/op=.neg)(x):SQ K rv (Op.unary op<|rv x) (Op.unary op x):=by
 obtain rfl|rfl:=h;cases x<;>simp[rv]<;>first|exact bR _ _|exact .as _ A2
 cases x<;>simp[rv]<;>first|exact bR _ _|exact .as _ A2|(rename_i p;cases p<;>exact .lost j6)
def aiX(c a b):SX K NX (do pure (.value<|if <-oc (rv c)then rv a else rv b)) (do pure (.value<|if <-oc c then a else b)):=.bind (Yc c) λq=>by cases q;exact .mk<|.value b;exact .mk<|.value a
def aiV(k:Ae){o x}(p:o.2=.nilCheck x){d}(h:η x=rv (d x)):SX K NX (a7 η o) (a7 d o):=by
 unfold a7;simp only[p,h];generalize d x=v;generalize c:rv v=u;let m:∀u v,u=rv v->SX K NX (pure<|.value u) (pure<|.value v):=λu v e=>e▸.mk (.value v);cases v;case pointer a=>cases a<;>simp only[rv,eO,iA]at c<;>subst c;exact oz n7;exact m _ _ (by simp only[rv,eO])
 case func j a b=>
  simp only[rv]at c;subst c;cases j;case method n=>
   simp[kG,jL];let e:=m (.func (.method<|mn bad) (a.map rv)<|b.map rv) (.func (.method n) a b) (by simp[rv,kG]);obtain _|v:=a[0]?;exact e;simp;generalize c:rv v=u;cases v<;>simp[rv]at c<;>subst c<;>(try exact e);refine .pX λw=>yC U ?_;generalize pB ae.types+Fy=n;cases n with
   |zero=>exact⟨_,_,rfl,trivial⟩
   |succ n=>exact sD (Te λi l=>by simp[k _ i l bad];exact⟨_,_,rfl,trivial⟩)
   exact oz n7
  all_goals exact m _ _ (by simp[rv,kG])
 all_goals (simp[rv]at c;subst c)
 all_goals first|exact m _ _ A2|exact oz n7
def aiY(c:Zs){s:SelectCase}(d:s.2=aj){b a}(h:b s.1=rv (a s.1)):SX K NX (do
   let cases <-#[s].mapM λs=>do pure {chan:=b s.1,send:=s.2.map b,zero:=<-jq s.3:BD}
   pure (.comm cases aa .select)) (do
   let cases <-#[s].mapM λs=>do pure {chan:=a s.1,send:=s.2.map a,zero:=<-jq s.3:BD}
   pure (.comm cases aa .select)):=by
 simp;refine .bind (vm c s.3) λz=>.mk ?_;have:=NX.comm ⟨a s.1,aj,z⟩ U;simpa only[rc,h,d,iA]using this
def Pj{li F'}(v x)(k:∀d,((∃f c,d.1=.fn f c)\/d.1=.nil)->SX K g (li<|gX d) (F' d)):SX K g (uu (rv v) (x.map rv) >>= li) (uu v x >>= F'):=by cases v<;>simp[rv,uu]<;>(try with_reducible exact zc _ _ _);rename_i e a b;have:=k ⟨.fn e b,a++x⟩ (aA ⟨_,_,U⟩);simp[gX,rt,xN]at this;exact this;exact k ⟨.nil,x⟩<|az U
def Vz(name:String)(a lm):invoke (.fn (.method name) #[]) (#[a]++lm)=zV a name lm:=by
 rw[invoke];let b:(#[a]++lm)[0]? =Z a:=j4;let c:(#[a]++lm).extract 1 (#[a]++lm).size=lm:=Array.ext ay λi b c=>by simp
 simp[b,c]
def NO:aB->Bool
 |.bool _|.int _ _|.string _|.pointer aj|.slice aj _ _|.map aj|.chan aj|.nilFunc|.nilIface=>M
 |_=>aa
def dY(l:av aZ):lU->Bool
 |.tmp _=>M|.const v=>NO v|.global _=>aa|.func f=>l.contains f
def kn:jD->Nat
 |.int _=>0|.string=>1|.bool=>2|.slice _=>3|.pointer _=>4|.interface _=>5|.map _ _=>6|_=>7
def gF(P:bM)(t:aY):Nat:=match nf P t with|some d=>kn d|none=>8
def AL(P:bM)(t:aY):Bool:=gF P t==0&&(match P.info? t with|some i=>(match i.1 with|.named n _=>n != "sync.copyChecker" |_=>M)|none=>aa)
def DL(P:bM)(t:aY):Bool:=match nf P t with|some (.map k _)=>AL P k|_=>aa
def Mk(P:bM)(t:aY)(n:Nat):Bool:=match nf P t with|some (.struct a)=>(match a[n]? with|some f=>(match P.info? f.2 with|some i=>i.3 !=0|none=>aa)|none=>aa)|_=>aa
def LN(P:bM)(t:aY):Bool:=match nf P t with|some (.slice e)=>(match nf P e with|some (.int .u8)=>M|_=>aa)|_=>aa
def bB(P:bM)(b:Builtin)(a:aF aY)(n:Nat):Bool:=match b,a[0]? with
 |.append,_=>(match a[1]? with|some u=>gF P u !=0|none=>M)|.close,_=>n==1|.copy,_|.min,_|.recover,_=>M
 |.len,Z t=>gF P t==3||gF P t==1
 |.cap,Z t|.clear,Z t=>gF P t==3
 |.delete,Z t=>DL P t|.unsafeString,_=>n==2|_,_=>aa
def uY(P:bM)(l:av aZ)(name:String):Bool:=(dA P.types.size).all λt=>match P.types[t]? with|some i=>(match i.10.find? (·.name==name)with|some m=>m.3.isEmpty&&(match m.4 with|some (f,p)=>p&&l.contains f|none=>aa)&&gF P t==4|none=>M)|none=>M
def Sr(P:bM)(l:av aZ)(c:Call):Bool:=c.2.all (dY l)&&(match c.1 with|.value f=>dY l f|.builtin b=>bB P b c.3 c.2.size|.invoke r name=>dY l r&&uY P l name)
def Ik(l:av aZ):aV lU->Bool
 |none=>M|some x=>dY l x
def TM(P:bM)(t:aY):lU->Bool
 |.const .nilIface=>gF P t==5|.const (.slice aj _ _)=>gF P t==3|_=>aa
def yn(P:bM)(l:av aZ)(o:Op):Bool:=match o with
 |.move x|.assign x|.box _ x|.load _ x|.nilCheck x|.unOp .not _ x|.unOp .neg _ x|.makeChan _ x|.makeInterface _ x|.extract x _|.panic x=>dY l x
 |.pick c a b=>dY l c&&dY l a&&dY l b|.alloc _|.makeMap _ aj=>M
 |.build _ e|.buildSlice _ _ e=>e.all λp=>dY l p.2
 |.store _ a x|.makeSlice _ a x=>dY l a&&dY l x
 |.binOp op t x g _=>dY l x&&dY l g&&(AL P t||gF P t==1||gF P t==2||gF P t==4||TM P t g)|.slice _ x j h q=>dY l x&&Ik l j&&Ik l h&&Ik l q|.convert s d x=>dY l x&&(gF P s==0&&gF P d==0||LN P s&&gF P d==1)|.makeFunc (.func f) r u=>l.contains f&&r.all (dY l)&&u.all (dY l)|.fieldAddr t x n=>dY l x&&Mk P t n|.indexAddr t x i=>dY l x&&dY l i&&gF P t==3|.index t x i=>dY l x&&dY l i&&gF P t==1|.lookup t x i _=>dY l x&&dY l i&&DL P t|.mapUpdate t m k x=>dY l m&&dY l k&&dY l x&&DL P t|.typeAssert x _ t M=>dY l x&&gF P t !=5|.call c=>Sr P l c|.defer c=>c.2.all (dY l)&&(match c.1 with|.value f=>dY l f|_=>aa)|.select cs bl=>!bl&&(match cs.1 with|[s]=>s.2.isNone&&dY l s.1|_=>aa)|_=>aa
def zk(h:gF P t=n)(a:n<8):∃d,nf P t=Z d/\kn d=n:=by rw[gF]at h;grind
def ajA(h:gF P t≠n)(hd:nf P t=Z d):kn d≠n:=by rw[gF]at h;rwa [hd]at h
def Bi(h:gF P t=3):∃e,nf P t=Z (.slice e):=by let⟨d,a,b⟩:=zk h aM;cases d<;>first|exact⟨_,a⟩|cases b
def Bo(h:gF P t=1):nf P t=Z .string:=by let⟨d,a,b⟩:=zk h aM;cases d<;>first|exact a|cases b
def Nc(h:gF P t=0):∃c,nf P t=Z (.int c):=by let⟨d,a,b⟩:=zk h aM;cases d<;>first|exact⟨_,a⟩|cases b
def Hl(h:AL P t=M):∃a i,nf P t=Z (.int a)/\P.info? t=Z i/\∀u,i.1≠.named "sync.copyChecker" u:=by simp[AL,cQ,mL]at h;let⟨a,b⟩:=Nc h.1;grind
def No(h:DL P t=M):∃k e,nf P t=Z (.map k e)/\AL P k=M:=by rw[DL]at h;grind
def R8(h:LN P t=M):∃e,nf P t=Z (.slice e)/\nf P e=Z (.int .u8):=by rw[LN]at h;grind
def aaP(h:Mk P t n=M):∃a f i,nf P t=Z (.struct a)/\a[n]? =Z f/\P.info? f.2=Z i/\i.3≠0:=by rw[Mk]at h;grind
def aiP(f:Zs){b ts}(t cs x)(h:bB ae b ts x.size=M):SX K NX (builtin b ts t cs<|x.map rv) (builtin b ts t cs x):=by
 have one:x.size=1->∃a,x=#[a]:=λh=>by rcases x with⟨_|⟨a,_|⟨b,x⟩⟩⟩<;>first|exact⟨_,rfl⟩|(simp at h)
 have two:x.size=2->∃a b,x=#[a,b]:=λh=>by rcases x with⟨_|⟨a,_|⟨b,_|⟨c,x⟩⟩⟩⟩<;>first|exact⟨_,_,rfl⟩|(simp at h)
 unfold bB at h;split at h;refine fH<|ahA f (λu p d o=>?_) t x;simp only[d,gF,o,kn]at h;cases h;obtain⟨a,rfl⟩:=one j4;rw[show HO rv #[a]=#[rv a] by simp];exact fH<|ahN ts t a U;exact fH<|ahP ts t x;exact fH<|aim ts t x;exact .mk .recover;rename_i u d;refine fH<|aic ts t x λv hv=>?_;rw[d]at hv;cases hv;simp at h;exact h.imp Bi Bo;rename_i u d;refine fH<|ahK ts t x λv hv=>?_;rw[d]at hv;cases hv;exact Bi j4;rename_i u d;refine fH<|ahM f ts t x λv hv=>?_;rw[d]at hv;cases hv;exact Bi j4;rename_i u d;obtain⟨k,e,g,i⟩:=No h;obtain⟨p,q,j,m,n⟩:=Hl i;exact fH<|ahQ j m n d g t x;obtain⟨a,c,rfl⟩:=two j4;rw[show HO rv #[a,c]=#[rv a,rv c] by simp];exact fH<|aiD ts t a c U;cases h
def xo(l:av aZ)(η lP:lU->aB):Prop:=∀x,dY l x=M->η x=rv (lP x)
variable{l:av aZ}{fn:Func}{e g:Type}{s':fD}
def xo.args(h:xo l η lP){xs:aF lU}(a:xs.all (dY l)=M):xs.map η=(xs.map lP).map rv:=by rw[zx];exact uf λx hm=>h x (ud.1 a x hm)
def xo.parts(h:xo l η lP){ps:aF (Nat×lU)}(a:(ps.all λp=>dY l p.2)=M):(ps.map λp=>(p.1,η p.2))=rp (ps.map λp=>(p.1,lP p.2)):=by rw[rp,zx];exact uf λx hm=>by simp;rw[h x.2<|ud.1 a x hm]
def xo.opt(h:xo l η lP){x}(a:Ik l x=M):x.map η=(x.map lP).map rv:=by obtain _|x:=x;rfl;exact cG Z<|h x a
def aiO(op:uj)(t x lm)(g:η x=rv (lP x))(hy:η lm=rv (lP lm))(c:∀v,lP (.const v)=v)(h:(AL ae t||gF ae t==1||gF ae t==2||gF ae t==4||TM ae t lm)=M):SQ K rv (do FL op t x lm (η x) (η lm);ju op t (η x)<|η lm) (do FL op t x lm (lP x) (lP lm);ju op t (lP x)<|lP lm):=by rw[g,hy];simp at h;obtain(((h|h)|h)|h)|h:=h;let⟨j,i,a,b,f⟩:=Hl h;exact .bind (Bm op a x lm _ _<|aA U) λ_=>Bl op a U _ _ (Yg a b f _ _);exact .bind (Bm op (Bo h) x lm _ _<|aA U) λ_=>Bl op (Bo h) U _ _ (Jh (Bo h) _ _<|aA U);let⟨d,a,b⟩:=zk h aM;cases d<;>cases b;exact .bind (Bm op a x lm _ _<|aA U) λ_=>Bl op a U _ _ (Jh a _ _<|az<|aA U);let⟨d,a,b⟩:=zk h aM;cases d<;>cases b;exact .bind (Bm op a x lm _ _<|aA U) λ_=>Bl op a U _ _ (ahT a _ _);unfold TM at h;split at h;obtain⟨d,a,b⟩:=zk Pa aM;cases d<;>cases b;exact .bind (Bm op a x _ _ _<|az ⟨U,c _⟩) λ_=>Bl op a U _ _ (Jh a _ _<|az<|az<|aA ⟨_,U,c _⟩);obtain⟨e,a⟩:=Bi Pa;exact .bind (Bm op a x _ _ _<|aA U) λ_=>Bl op a U _ _ (Jh a _ _<|az<|az<|az ⟨_,_,_,U,c _⟩);cases h
def Yv(p:Zs)(hF:Ab)(E:Ae)(hm:∀n,uY ae l n=M->CV n)(hl:∀f,l.contains f=M->an.ok f)(hR:xo l η lP)(J:∀v,lP (.const v)=v){o}(g:yn ae l o.op=M):SX K NX (a7 η o) (a7 lP o):=by
 obtain⟨V,op,Q,pos,T,X⟩:=o;have dead:∀{R:Prop},yn ae l op=aa->R:=λh=>by grind
 replace g:=g;cases op;case nilCheck x=>exact aiV E U<|hR x g
 all_goals unfold a7;dsimp only
 case move x=>rw[hR x g];exact .mk<|.value _
 case assign x=>rw[hR x g];exact .mk<|.value _
 case pick c a b=>simp only[yn,cQ]at g;rw[hR _ g.1.1,hR _ g.1.2,hR _ g.2];exact aiX _ _ _
 case alloc t=>exact fH (.bind (vm p t) λz=>.bind (OT t z) λa=>.as _ (by rw[rv];rfl))
 case box t x=>rw[hR x g];exact fH<|ahG t _
 case build t ps=>exact fH (by rw[hR.parts g];exact ahH p t _)
 case buildSlice t n ps=>exact fH (by rw[hR.parts g];exact ahI p t n _)
 case load t a=>rw[hR a g];exact fH<|aid t _
 case store t a x=>simp only[yn,cQ]at g;rw[hR _ g.1,hR _ g.2];exact Pk<|aiw t _ _
 case binOp op t x lm yt=>simp only[yn,cQ]at g;exact fH<|aiO op t x lm (hR _ g.1.1) (hR _ g.1.2) J g.2
 case unOp op t x=>cases op<;>first|exact dead rfl|(rw[hR x g];exact fH (aiz _ ay _))
 case convert s d x=>simp only[yn,cQ,vJ,mL]at g;rw[hR x g.1];refine fH<|ahO (g.2.imp (λh=>?_) λh=>?_) _;obtain⟨j,N⟩:=Nc h.1;obtain⟨k,O⟩:=Nc h.2;exact⟨j,k,N,O⟩;obtain⟨e,q,u⟩:=R8 h.1;exact⟨e,q,Bo h.2,u⟩
 case makeInterface t x=>rw[hR x g];exact fH<|ain t _
 case makeFunc H xs ys=>cases H<;>(try exact dead U);simp only[yn,cQ]at g;rw[hR.args g.1.2,hR.args g.2];exact fH (.as _ (by simp only[rv,kG,(hf _).2 (hl _ g.1.1),dN]))
 case makeMap t r=>cases r<;>first|exact dead rfl|exact fH (aih t)
 case makeChan t x=>rw[hR x g];exact fH<|aif t _
 case makeSlice t a b=>simp only[yn,cQ]at g;rw[hR _ g.1,hR _ g.2];exact fH<|aii p t _ _
 case slice t x lo hi mx=>simp only[yn,cQ]at g;rw[hR _ g.1.1.1,hR.opt g.1.1.2,hR.opt g.1.2,hR.opt g.2];exact fH<|ait t _ _ _ _
 case fieldAddr t x n=>simp only[yn,cQ]at g;obtain⟨W,f,i,q,u,w,A⟩:=aaP g.2;rw[hR _ g.1];exact fH<|ahV q u w A _
 case indexAddr t x i=>simp only[yn,cQ,mL]at g;obtain⟨e,L⟩:=Bi g.2;rw[hR _ g.1.1,hR _ g.1.2];exact fH<|ahY L _ _
 case index t x i=>simp only[yn,cQ,mL]at g;rw[hR _ g.1.1,hR _ g.1.2];exact fH<|ahZ (Bo g.2) _ _
 case lookup t x i ok=>simp only[yn,cQ]at g;obtain⟨k,e,q,u⟩:=No g.2;obtain⟨S,P,w,A,C⟩:=Hl u;rw[hR _ g.1.1,hR _ g.1.2];exact fH<|aie w A C p q _ _ ok
 case mapUpdate t m k x=>simp only[yn,cQ]at g;obtain⟨kt,e,q,u⟩:=No g.2;obtain⟨S,P,w,A,C⟩:=Hl u;rw[hR _ g.1.1.1,hR _ g.1.1.2,hR _ g.1.2];exact Pk<|aiB w A C q _ _ _
 case typeAssert x xt t ok=>cases ok<;>(try exact dead U);simp only[yn,cQ,bne_iff_ne]at g;rw[hR _ g.1];exact fH<|ahC p _ xt λm hm=>ajA g.2 hm U
 case extract x n=>rw[hR x g];exact fH<|ahU _ n
 case call c=>
  obtain⟨B,args,G⟩:=c;simp only[yn,Sr,cQ]at g;unfold resolve;dsimp only;rw[hR.args g.1];cases B with
  |value f=>dsimp only;rw[hR f g.2];exact Pj _ _ λd D=>by have:=Pg (K:=K) hF E d.target d.args (D.imp id aA);exact this
  |builtin b=>exact aiP p Q _ _ j4
  |invoke r m=>simp only[cQ]at g;dsimp only;rw[hR r g.2.1];show SX K NX (invoke (.fn (.method m) #[]) _) (invoke (.fn (.method m) #[]) _);rw[Vz,Vz];exact aiU hF (hm m g.2.2) _ _
 case defer c=>
  obtain⟨B,args,G⟩:=c;simp only[yn,cQ]at g;unfold resolve;dsimp only;rw[hR.args g.1];cases B with
  |value f=>dsimp only;rw[hR f g.2];exact Pj _ _ λd D=>.mk (.defer d D)
  |builtin b=>cases g.2
  |invoke r m=>cases g.2
 case panic x=>rw[hR x g];exact fH<|aiq _
 case select cs bl=>
  cases bl<;>(try exact dead U);rcases cs with⟨cs⟩;match cs,g with
  |[s],g=>have g:(s.send.isNone&&dY l s.chan)=M:=g;simp only[cQ,Cg]at g;exact aiY p g.1<|hR _ g.2
 all_goals exact dead U
def IT(P:bM)(t:aY):Bool:=match nf P t with|some (.int _)=>M|some (.struct a)=>a.all λf=>(match nf P f.2 with|some (.pointer _)=>M|some (.slice _)=>M|_=>aa)|_=>aa
def XN(h:IT ae t=M):wL t:=by
 intro lz v hv;let a:ae.depth=(2*(pB ae.types+Fy)+1)+1:=U;rw[a]at hv;generalize 2*(pB ae.types+Fy)+1=d at hv;rw[IT]at h;split at h;rename_i k i;rw[plainCell]at hv;grind;rename_i e c;rw[plainCell]at hv;rw[c]at hv;dsimp only at hv;exfalso;let⟨f,b,hv⟩:=Array.exists_of_findSome?_eq_some hv;split at hv;let g:=ud.1 h f b;cases d with
 |zero=>cases hv
 |succ d=>rw[plainCell]at hv;grind
 cases hv;cases h
def TS(d:fn.1= "internal/abi.NoEscape")(e:fn.2= ""):JR fn=aj/\JQ fn=Z ZH:=by have a1:qV (JP.lookup "internal/abi.NoEscape")=M:=aW;have a:qV (JP.lookup "")=M:=aW;have a3:qV (ZK.lookup "internal/abi.NoEscape")=M:=aW;have b:qV (ZL.lookup "internal/abi.NoEscape")=M:=aW;let c:Extern.allRows.lookup "internal/abi.NoEscape" =Z ZH:=aW;rw[Cg]at a1 a a3 b;unfold JR JQ;grind
def aaW(c:fn.1= "internal/bytealg.MakeNoZero")(d:fn.2= ""):JR fn=aj/\JQ fn=Z (Qg fn.4 fn.5):=by have a1:qV (JP.lookup "internal/bytealg.MakeNoZero")=M:=aW;have a:qV (JP.lookup "")=M:=aW;have a3:qV (ZK.lookup "internal/bytealg.MakeNoZero")=M:=aW;let b:ZL.lookup "internal/bytealg.MakeNoZero" =Z Qg:=aW;rw[Cg]at a1 a a3;unfold JR JQ;grind
def AE(P:bM)(f:aZ):Bool:=match P.2[f]? with|some a=>a.9.isNone&&a.2== "" &&(a.1== "internal/abi.NoEscape" ||a.1== "internal/bytealg.MakeNoZero")|none=>aa
def aad(n t):∀acc:aF aB,acc.map rv=acc->(ZI n t acc).map rv=ZI n t acc:=by
 induction n generalizing t with
 |zero=>exact λ_ h=>h
 |succ n a=>exact λacc h=>a _ _ (by rw[Zp,h];simp[rv])
def aiS{f}(h:AE ae f=M)(v)(g:u=rv v):SX K NX (ie f #[u]) (ie f #[v]):=by
 unfold AE at h;split at h
 ·rename_i l p;simp at h;let⟨⟨m,o⟩,h3⟩:=h;refine .prog ?_;simp only[p];obtain h3|h3:=h3;let e:(l.1== "runtime.NumGoroutine")=aa:=by rw[h3];decide
  let⟨i,j⟩:=TS h3 o;rw[e,m];simp only[ff,dM,dN,i,j];exact .bind (OS (.extern f)<|az ⟨f,U⟩) λ_=>fH (.as v g);let e:(l.1== "runtime.NumGoroutine")=aa:=by rw[h3];decide
  let⟨i,j⟩:=aaW h3 o;rw[e,m];simp only[ff,dM,dN,i,j];exact .bind (OS (.extern f)<|az ⟨f,U⟩) λ_=>fH (by unfold Qg;cases v<;>simp only[rv]at g<;>subst g<;>(try exact .lost j6);rename_i k n;cases k<;>(try exact .lost j6);dsimp only;split;refine .und _ λd q=>?_;split;split;exact vl n7;refine .bind (tW _) λc=>.bind (OW _) λ_=>.bind (tW _) λb=>.bind (by rw[<-aad _ _ #[] ay];exact Em _ _) λa=>.as _ j5;exact .lost j6;exact .lost j6)
 cases h
def aik{li F'}(h:∀a,SQ K f (li a)<|F' a)(xs:aF e):SQ K (·.map f) (xs.mapM li) (xs.mapM F'):=by
 rw[JC,JC];refine .bind (f:=List.map f) ?_ λ_=>.as _ ay;generalize xs.1=l;induction l with
 |nil=>exact .as _ U
 |cons a l d=>rw[vU,vU];exact .bind (h a) λb=>.bind d λc=>.as _ U
def GS(x:aF aB)(t):(x.map rv).getD t y=rv (x.getD t y):=by
 have:rv y=y:=by simp[y,rv]
 simp[rB,ug];split;simp;exact this.y
def OV(fn:Func)(x):SQ K rv (bo fn<|x.map rv) (bo fn x):=by
 refine .bind (aik (f:=rv) (λr=>?_) _) λc=>?_;cases r with
 |tmp t=>exact .as _<|GS x t
 |cell a t=>simp only[GS];exact .bind (Yb _) λb=>Yj t b
 by_cases h:pB c=1;exact .as _ Hn;exact .as _ (by simp[h,rv])
def Ym(a):SQ K ra (zC<|ra a) (zC a):=.bind (Jk a.1) λo=>by obtain _|p:=o;exact .as _ rfl;let⟨b,u⟩:=p;simp;let c:(ra a).2=a.2:=U;let d:(ra a).3=a.3:=U;let e:(ra b).3=b.3:=U;let g:(ra b).2=b.2:=U;rw[c,d,e];split;exact .as _ U;split;exact .lost j6;refine .prog ?_;split;refine .shp b.1 (λw=>⟨_,_,rfl,trivial⟩) λq=>?_;dsimp only;split;exact .lost j6;rw[g];split;exact .as _ U;exact .lost j6;exact .lost j6
def ahL{r}(a:K (aL r,M)):SQ K id (zW<|aL r) (zW r):=.XY r a λx=>by
 cases x with
 |some x=>exact .as _ U
 |none=>
  refine .Uu r (aA a) λo e=>?_;cases o with
  |chan c b=>simp only[ro];by_cases q:pB b=0<;>simp only[q,dN,dM]<;>exact .as aj U
  |loop r=>simp[ro];by_cases q:lJ r=M<;>simp[q,dN,ff,dM]<;>exact .as aj U
  |deferred c=>obtain _|_|⟨d,c⟩:=c<;>exact .as aj rfl
  |_=>first|exact absurd rfl e|exact .as aj rfl
def aiE(b:K (aL a.1,M))(t n):SQ K id (CC (ra a) t n) (CC a t n):=.prog (.XY a.1 b λx=>by cases x<;>exact .as _ U)
def xr(t:aY)(s:iL):fb aB:=do
 let a:=match <-zW s.1 with|some cells=>s.2≥cells&&s.3.isNone|none=>aa
 if(<-sizeOf t)=0||a then pure (aQ<|<-yc (.view s t))else
 pure (.pointer<|Z s)
def yz(u:aY)(a:iL):fb aB:=do
    if(<-sizeOf u)=0||(<-CC a u 1)then pure (.pointer<|Z a)
    else
     match <-shape a.1 with
     |some (e,_)=>if(<-rT).holdsStoodIn (<-rT).depth e then zZ (.unsafePointer "memory that holds a struct of a package that the model stands in for, seen as another type")
     |none=>zZ (.unsafePointer "memory that has no shape (a package-level variable that still waits for its initialiser), seen as another type")
     pure (aQ<|<-yc (.view a u))
def aiy(d:wL t)(c:K (aL a.1,M)):SQ K rv (xr t<|ra a) (xr t a):=.bind (ahL c) λx=>by
 refine .bind (oA t) λn=>?_;let fin:∀b:Bool,SQ K rv (if b=M then do pure (aQ<|<-yc (.view (ra a) t))else pure (.pointer<|Z<|ra a)) (if b=M then do pure (aQ<|<-yc (.view a t))else pure (.pointer<|Z a)):=λb=>by cases b;exact .as _ j5;exact .bind (vk (.view a t) U p9<|hv d) λr=>.as _ QP
 cases x<;>exact fin _
def ahD(d:wL t)(c:K (aL a.1,M)):SQ K rv (yz t<|ra a) (yz t a):=.bind (oA t) λn=>.bind (aiE c t 1) λb=>by dsimp only[id];split;exact .as _ j5;refine .shp a.1 (λw=>⟨_,_,rfl,trivial⟩) λq=>.prog<|.prog ?_;split;exact .lost j6;exact .bind (vk (.view a t) U p9<|hv d) λr=>.as _ QP
open Go.Conc
inductive dx{d:Type}(R:c->d->Prop):av c->av d->Prop
 |nil:dx R [] []
 |cons {a:c} {b:d} {l:av c} {m:av d} (h:R a b) (t:dx R l m):dx R (a::l) (b::m)
variable{f:Type}{r:Bool}{u:aq}{xs:aF aB}
def dx.append{R x lm}{a:av f}{b:av g}(k:dx R x lm)(e:dx R a b):dx R (x++a) (lm++b):=by
 induction k with
 |nil=>exact e
 |cons c _ d=>exact .cons c d
def Hr:Op->Bool
 |.defer _=>aa|_=>M
def sM(P:bM)(l:av aZ)(r:Bool)(o:Op):Bool:=yn P l o&&(!r||Hr o)
def Br(P:bM)(l:av aZ)(o:ep):Bool:=match o.2 with|.call c=>(match c.1,c.2.1 with|.builtin .unsafeSliceData,[x]=>dY l x&&(match nf P o.3 with|some (.pointer e)=>IT P e|_=>aa)|.value (.func f),[x]=>dY l x&&AE P f|_,_=>aa)|_=>aa
def nj(P:bM)(l:av aZ)(r:Bool)(o:ep):Bool:=sM P l r o.2||Br P l o
def YH(P:bM)(l:av aZ)(h j k:ep):Bool:=match h.2,j.2,k.2 with
 |.convert s d x,.call c,.convert m o p=>(match c.1,c.2.1,h.1,j.1,p with
   |.value (.func f),[.tmp a],Z b,Z e,.tmp g=>a==b&&e==g&&AE P f&&(match P.2[f]? with|some n=>n.1== "internal/abi.NoEscape" |none=>aa)|_,_,_,_,_=>aa)
  &&d==m&&s==o&&dY l x&&(match nf P s,nf P d with|some (.pointer t),Z .unsafePointer=>IT P t&&(match P.info? t with|some i=>i.3 !=0|none=>aa)|_,_=>aa)
  &&h.6.isNone&&j.6.isNone&&k.6.isNone
 |_,_,_=>aa
def vi(P:bM)(l:av aZ)(jt:aF ep):Bool:=match jt.1 with|[a,b,c,d,e,f,g,h]=>sM P l M a.2&&sM P l M b.2&&sM P l M f.2&&sM P l M g.2&&sM P l M h.2&&YH P l c d e|_=>aa
def Np(s:String):Bool:=match s.toList with|[]=>M|c::_=>c.toNat==120
def eW(P:bM)(l:av aZ):Bool->fu->Bool
 |_,.skip|_,.exit _|_,.ret=>M
 |r,.region _ d dr=>(d.all<|nj P l r)||(!dr&&vi P l d)
 |r,.seq a b=>eW P l r a&&eW P l r b|r,.cond c a b=>dY l c&&eW P l r a&&eW P l r b|r,.block _ b=>eW P l r b|r,.loop b=>eW P l r b|_,.rangeFunc f _ a b=>dY l f&&eW P l M a&&eW P l M b|_,.refuse s=>!Np s|_,.scope _|_,.label _|_,.goto _=>aa
def AW{o}(h:sM P l M o=M):sM P l r o=M:=by unfold sM at h⊢;grind
def aeM{o}(h:nj P l M o=M):nj P l r o=M:=by unfold nj at h⊢;rw[vJ]at h⊢;exact h.imp AW id
def yQ:∀{c:fu},eW P l M c=M->eW P l r c=M
 |.skip,_|.exit _,_|.ret,_=>by cases r<;>rfl
 |.refuse _,h=>h|.region _ d dr,h=>by have h:(d.all (nj P l M)||(!dr&&vi P l d))=M:=h;show(d.all (nj P l r)||(!dr&&vi P l d))=M;rw[vJ]at h⊢;obtain h|h:=h;left;rw[ud]at h⊢;exact λo e=>aeM (h o e);exact az h
 |.seq a b,h=>by simp[eW,cQ]at h⊢;exact⟨yQ h.1,yQ h.2⟩|.cond c a b,h=>by simp[eW,cQ]at h⊢;exact⟨⟨h.1.1,yQ h.1.2⟩,yQ h.2⟩|.block _ b,h=>by simp[eW]at h⊢;exact yQ h|.loop b,h=>by simp[eW]at h⊢;exact yQ h|.rangeFunc f _ a b,h=>by simp[eW]at h⊢;exact h|.scope _,h|.label _,h|.goto _,h=>by simp[eW]at h
class bJ where
 wall:String->Item
 good:∀s,(∃c,wall s=.code c)\/∃c,wall s=.inLoop c
variable[bJ]
structure ye(l:av aZ):Prop where
 zeros:∀g:Sg,@Zs _ g
 fns:Ab
 noM:Ae
 Wb:∀n,uY ae l n=M->CV n
 ok:∀f,an.ok f↔l.contains f=M
 code:∀c,ij c↔eW ae l M c=M
 body:∀f,l.contains f=M->∃fn c,ae.2[f]? =Z fn/\fn.body=Z c/\eW ae l aa c=M
 inits:∀f,il f->ae.inits.idxOf? f=aj
 known:∀f,il f->∃fn c,ae.2[f]? =Z fn/\fn.body=Z c
 aeC:∀f,an.ok f->il f
inductive IR(l:av aZ)(r:Bool):Item->Item->Prop
 |code {c:fu} (h:eW ae l r c=M):IR l r (.code c) (.code c)
 |inBlock (id:Nat):IR l r (.inBlock id) (.inBlock id)
 |inLoop {b:fu} (h:eW ae l r b=M):IR l r (.inLoop b) (.inLoop b)
 |inRegion {jt:aF ep} (todo:av Nat) (h:jt.all (nj ae l r)=M):IR l r (.inRegion jt todo) (.inRegion jt todo)
 |spec {jt:aF ep} (n:Nat) (h:vi ae l jt=M):IR l r (.inRegion jt ((dA jt.size).drop n)) (.inRegion jt ((dA jt.size).drop n))
 |inRangeFunc (n:Nat):IR l r (.inRangeFunc (aL n)) (.inRangeFunc n)
 |endRangeFunc (n:Nat):IR l r (.endRangeFunc (aL n)) (.endRangeFunc n)
 |beginRound:IR l r .beginRound .beginRound
 |stop (s:String):IR l r (.code (.refuse s)) (bJ.wall s)
def PR(e a:zL):Prop:=e=⟨rv a.v,a.2,aa⟩/\a.3=aa
inductive mu:FrameMode->FrameMode->Prop
 |run:mu .run .run
 |returning:mu .returning .returning
 |panicking {c a:av zL} (h:dx PR c a):mu (.panicking c) (.panicking a)
def DR(d d':rJ):Prop:=d=gX d'/\((∃f c,d'.1=.fn f c)\/d'.1=.nil\/∃r,d'.1=.collected r)
structure cV(l:av aZ)(fr fr':aP):Prop where
 fn:fr'.fn=fr.fn
 ok:il fr.fn
 tmps:fr.tmps=fr'.tmps.map rv
 todo:dx (IR l fr.7.isSome) fr.todo fr'.todo
 defers:dx DR fr.defers fr'.defers
 mode:mu fr.mode fr'.mode
 kind:fr'.kind=fr.kind
 kinds:fr.kind=.normal\/fr.kind=.deferred
 round:fr.7=fr'.7.map aL
def XH:rv y=y:=by simp[y,rv]
def WV(h:NO v=M):v=rv v:=by unfold NO at h;split at h<;>first|(simp[rv,iA];done)|cases h
def cV.eval(h:cV l fr fr')(hl:∀f,l.contains f=M->an.ok f):xo l fr.eval fr'.eval:=by
 intro x a;cases x with
 |tmp t=>show fr.2.getD t y=rv (fr'.2.getD t y);rw[h.3,GS]
 |const v=>exact WV a
 |global g=>cases a
 |func f=>show KL (.func f) #[] #[]=rv (.func (.func f) #[] #[]);simp[rv,kG,(hf f).2 (hl f a),dN,vD]
def XR(o:aV Tmp)(x:aF aB)(v:aB):(match o with|some d=>mP (x.map rv) d (rv v)|none=>x.map rv)=(match o with|some d=>mP x d v|none=>x).map rv:=by
 cases o with
 |none=>rfl
 |some d=>exact zy.y
def cV.finish(h:cV l fr fr')(v:aB):cV l (ns fr<|rv v) (ns fr' v):=by
 let h0:=h;let⟨a,b,d,p,f,g,i,k,m⟩:=h;unfold Frame.finish;generalize z:fr.3=x at p;generalize A:fr'.3=B at p;cases p with
 |nil=>exact h0
 |cons u o=>
  cases u with
  |@inRegion r w q=>
   cases w with
   |nil=>exact h0
   |cons j kj=>exact⟨a,b,by simp[d];exact XR _ _ _,.cons (.inRegion kj q) o,f,g,i,k,m⟩
  |@spec r n q=>
   cases t:(dA r.size).drop n with
   |nil=>exact h0
   |cons j kj=>
    let hr:kj=(dA r.size).drop (n+1):=by rw[<-List.tail_drop,t];rfl
    exact⟨a,b,by simp[d];exact XR _ _ _,.cons (by rw[hr];exact .spec (n+1) q) o,f,g,i,k,m⟩
  |inRangeFunc n=>exact⟨a,b,d,.cons (.endRangeFunc n) o,f,g,i,k,m⟩
  |beginRound=>exact⟨a,b,d,o,f,g,i,k,m⟩
  |stop s=>obtain⟨c,e⟩|⟨c,e⟩:=bJ.good s<;>(rw[e];exact h0)
  |_=>exact h0
def cV.skip(h:cV l fr fr'):cV l (ns fr y) (ns fr' y):=by have:=h.finish y;rwa [XH]at this
def cV.raise(h:cV l fr fr'){c n:av zL}(hc:dx PR c n):cV l (fr.raise c) (fr'.raise n):=by
 let⟨a,b,d,e,f,g,i,j,k⟩:=h;unfold Frame.raise;generalize fr.5=m at g;generalize fr'.5=o at g;cases g with
 |run=>exact⟨a,b,d,e,f,.panicking hc,i,j,k⟩
 |returning=>exact⟨a,b,d,e,f,.panicking hc,i,j,k⟩
 |panicking hm=>exact⟨a,b,d,e,f,.panicking<|hc.append hm,i,j,k⟩
def GD{l:av aZ}(a:ye l){f}(hf:an.ok f)(x){k}(g:k=.normal\/k=.deferred):cV l (ba ae f (x.map rv) k) (ba ae f x k):=by let⟨h,c,b,d,e⟩:=a.7 f ((a.5 f).1 hf);refine⟨U,a.10 f hf,?_,?_,.nil,.run,U,g,U⟩;simp[ba,xN,Array.map_replicate,XH,ug];show dx _ [_] [_];simp[b,F9,d,oK];exact .cons (.code e) .nil
def Xz(c:ye l)(n){f a b}(h0:il f/\ij a/\ij b)(x){k}(d:k=.normal\/k=.deferred):cV l (JS (aL n) f (x.map rv) a b k) (JS n f x a b k):=⟨U,h0.1,U,.cons (.code<|(c.6 a).1 h0.2.1)<|.cons .beginRound<|.cons (.code<|(c.6 b).1 h0.2.2) .nil,.nil,.run,U,d,U⟩
def Es{cs}(h:fr.5=.run):bi P km (G fr cs) w=fy P km M fr cs aj w:=by unfold bi G;simp[h]
def OZ{cs}(h:fr.5≠.run):bi P km (G fr cs) w=CB P km fr cs aj w:=by unfold bi G;grind
def Jl{g o es}(a:g.3=.running)(h:bi P M g w=.ended o w1 es):step P (solo g w)=.ended o w1:=by rw[step,FW a];simp[runT,solo,JG,JF,h]
def te(base:av aP):Prop:=∀b∈base,b.5=.run\/b.5=.panicking [Cs]
def aiK:te []:=λ_ h=>by cases h
def te.recover:∀{base:av aP},te base->∀fr,fm fr base=aj
 |[],_,fr=>by unfold fm;cases fr.6<;>rfl
 |b::kj,h,fr=>by
  unfold fm;let hr:te kj:=λx a=>h x D2;cases fr.6 with
  |deferred=>obtain hm|hm:=h b ay<;>simp only[hm,Cs]
  |wrapped=>simp only[te.recover hr b];rfl
  |_=>rfl
def te.loop:∀{base:av aP},te base->∀n,ii n base=aj
 |[],_,_=>rfl|b::kj,h,n=>by let hr:te kj:=λx a=>h x D2;unfold ii;split;simp only[te.loop hr];rfl;split;simp only[te.recover hr];rfl;simp only[te.loop hr];rfl;simp only[te.loop hr];rfl
def Ry(bl:av aP)(g:bK):Prop:=∃b kj,bl=b::kj/\(g=G b kj\/(∃v,g=G (b.finish v) kj)\/∃c,g=G (b.raise c) kj)
def nN(fr:aP):Prop:=fr.5=.run/\∃a j kj k,fr.3=.inRegion a (j::kj)::k
def yg(P:bM)(bl:av aP)(g:bK)(u:aq):Prop:=Ry bl g\/∀n fr cs w,jF P n (solo g u)=.next (lone fr (cs++bl) w)->nN fr
def Ls(u:aq)(sL:(Nat->kK->Nat)->fD)(mk:aq->fD)(u1:aq):Prop:=qM u u1/\∀a,tC a u.2 u.3 u1.3->sL a=mk (u1.tp a)
def sz:fD->Nat
 |.go _ w _|.comm _ _ _ _ w _|.spawn _ _ w _|.count _ w _|.timer _ _ w _|.alone _ _ w _|.newcoro _ _ _ w _|.coroswitch _ _ _ w _|.collect _ w _|.watch _ w _=>pB w.1
 |.ended .. =>0
inductive Kd:(bK->aq->aF gv->fD)->(bK->aq->aF gv->fD)->Prop
 |go:Kd (λg u e=>.go g u e) (λg u e=>.go g u e)
 |comm (c:BD) (h:c.2=aj):Kd (λg u e=>.comm g #[rc c] aa .select u e) (λg u e=>.comm g #[c] aa .select u e)
def SG(l:av aZ)(bl base:av aP)(u w:aq)(s:fD)(sL:(Nat->kK->Nat)->fD)(s':fD):Prop:=sz s<=top->
 (∃o v e,s=.ended o v e)\/(∃g v e,s=.go g v e/\yg ae bl g v)\/∃m i b a u1 d h c w1 f,Kd m i/\s=m (G b<|a++bl) u1 d/\s'=i (G h<|c++base) w1 f/\cV l b h/\dx (cV l) a c/\Mv u u1 w w1/\(∀e∈f,Ev e)/\Ls u sL (λx=>m (G b<|a++bl) x d) u1
def Pm(es)(s:fD):sz (iw es s)=sz s:=by cases s<;>rfl
def Kd.after{m m'}(h:Kd m m')(x):(∀g u e,iw x (m g u e)=m g u (x++e))/\(∀g u e,iw x (m' g u e)=m' g u (x++e))/\∀g u e,sz (m g u e)=pB u.1:=by cases h<;>exact⟨λ_ _ _=>U,λ_ _ _=>U,λ_ _ _=>U⟩
def ahk{s:fD}{sL1:(Nat->kK->Nat)->fD}(h0:cW u w)(hm:Mv u u1 w w1)(i:qM u u1)(es c)(D:∀a,tC a u.2 u.3 u1.3->sL a=iw es (sL1 a))(he:∀e∈c,Ev e)(h:SG l bl base u1 w1 s sL1 s'):SG l bl base u w (iw es s) sL (iw c s'):=λf=>by rw[Pm]at f;obtain⟨o,v,e,rfl⟩|⟨g,v,e,rfl,d⟩|⟨m,G,q,k,H,p,r,n,J,x,b,rfl,rfl,t,z,A,B,j,C⟩:=h f;exact aA ⟨o,v,es++e,rfl⟩;exact az<|aA ⟨g,v,es++e,rfl,d⟩;rw[(b.after es).2.2]at f;refine az<|az ⟨m,G,q,k,H,es++p,r,n,J,c++x,b,(b.after es).1 _ _ _,(b.after c).2.1 _ _ _,t,z,hm.E f h0 A,λe E=>(vE.1 E).e (he e) (B e),i.E j,λa d=>?_⟩;rw[D a<|d.sub (aR _) j.1,C a (by rw[i.2];exact d.sub i.1 (aR _)),(b.after es).1]
def dz{Mt yB LX}(hS:cW u w)(b:cV l og Mt)(c:dx (cV l) yB LX)(d:∀a,sL a=.go (G og<|yB++bl) (u.tp a)):SG l bl base u w (.go (G og<|yB++bl) u) sL (.go (G Mt<|LX++base) w):=λ_=>az (az ⟨_,_,og,yB,u,#[],Mt,LX,w,#[],.go,U,U,b,c,.refl hS,ay,.refl u,λa _=>d a⟩)
def xE{o v e}:SG l bl base u w (.ended o v e) sL s':=λ_=>aA ⟨o,v,e,U⟩
def Rn{a:Type}(s:fb a)(E:lV a->aF gv->aF gv)(C:lV a->fD)(u:aq):fD:=iw (E (s.runT ae u #[]).1 (s.runT ae u #[]).2) (C (s.runT ae u #[]).1)
def XW{L N:Type}{Q s s' E E'}{C:lV L->fD}{C':lV N->fD}(D:SA Q u w s s')(hS:cW u w)(S:∀r c d,E (r.tp c) d=E r d)(t:∀r d e,e∈E' r d->e∈d)(H:∀r,(∃o v e,C r=.ended o v e)\/pB r.world.1<=sz (C r))(hd:∀h v,nJ h->∃o J e,C (.halt h v)=.ended o J e)(ok:∀a b u1 w1,cW u1 w1->Q a b->SG l bl base u1 w1 (C<|.ok a u1) (λc=>C (.ok a<|u1.tp c)) (C'<|.ok b w1))(pn:∀v u1 w1,cW u1 w1->SG l bl base u1 w1 (C<|.halt (.panic<|rv v) u1) (λc=>C (.halt (.panic<|rv v)<|u1.tp c)) (C'<|.halt (.panic v) w1)):
  SG l bl base u w (Rn s E C u) (λc=>Rn s E C (u.tp c)) (Rn s' E' C' w):=λm=>by
 have g:Rn s E C u=iw (E (s.run ae u) (s.runT ae u #[]).2) (C<|s.run ae u):=by rw[<-iM ae s u #[]];rfl
 have G:=m;rw[g,Pm]at m;have fin:(∃o v e,C (s.run ae u)=.ended o v e)->∃o v e,Rn s E C u=.ended o v e:=λ⟨o,v,e,h⟩=>⟨o,v,_,by rw[g,h];rfl⟩;rcases H (s.run ae u)with h|h
 ·exact aA<|fin h
 rcases D #[] (cM h m)with⟨x,v,i,j⟩|⟨f,x,i,j,k,p,q,O⟩;exact aA (fin (by rw[i];exact hd x v j))
 have B:∀c,tC c u.2 u.3 (s.run ae u).world.3->Rn s E C (u.tp c)=iw (E (s.run ae u) (s.runT ae u #[]).2) (C<|(s.run ae u).tp c):=λc R=>by rw[Rn];grind
 have n:Rn s' E' C' w=iw (E' f x) (C' f):=by rw[Rn];rw[i];simp
 have l0:SG l bl base (s.run ae u).world f.world (C<|s.run ae u) (λc=>C ((s.run ae u).tp c)) (C' f):=by
  generalize s.run ae u=r at*;cases j with
  |ok a b u1 w1 z=>exact ok a b u1 w1 k.1 z
  |pn v u1 w1=>exact pn v u1 w1 k.1
 have:=ahk hS k q _ (E' f x) B (λe A=>p e (t _ _ _ A)) l0;rw[<-g,<-n]at this;exact this G
def OL{p q:Type}{Q s s' E E'}{C:lV p->fD}{C':lV q->fD}(j:SX K Q s s')(hS:cW u w)(i:∀r,K r->rX u r)(f:∀r c d,E (r.tp c) d=E r d)(g:∀r d e,e∈E' r d->e∈d)(k:∀r,(∃o v e,C r=.ended o v e)\/pB r.world.1<=sz (C r))(hd:∀h v,nJ h->∃o n e,C (.halt h v)=.ended o n e)(ok:∀a b u1 w1,cW u1 w1->Q a b->SG l bl base u1 w1 (C<|.ok a u1) (λc=>C (.ok a<|u1.tp c)) (C'<|.ok b w1))(m:∀v u1 w1,cW u1 w1->SG l bl base u1 w1 (C<|.halt (.panic<|rv v) u1) (λc=>C (.halt (.panic<|rv v)<|u1.tp c)) (C'<|.halt (.panic v) w1)):
  SG l bl base u w (Rn s E C u) (λc=>Rn s E C (u.tp c)) (Rn s' E' C' w):=XW (j.at hS i) hS f g k hd ok m
def Pn(l:av aZ)(bl base:av aP)(r r':aV (aB×av aP)):Prop:=(r=aj/\r'=aj)\/∃v c a,r=Z (rv v,c++bl)/\r'=Z (v,a++base)/\dx (cV l) c a
variable{cs:av aP}{R:Nat->Prop}{N:Nat}
def IB(h:cV l fr fr')(n:dx (cV l) cs cs')(i:te bl)(k:te base):Pn l bl base (fm fr<|cs++bl) (fm fr'<|cs'++base):=by
 have c:=h.7;obtain h1|h1:=h.8<;>rw[h1]at c;exact aA ⟨by unfold fm;rw[h1],by unfold fm;rw[c]⟩;cases n with
 |nil=>exact aA ⟨i.recover fr,k.recover fr'⟩
 |@cons a b x G j q=>
  let⟨r,v,z,A,B,d,C,D,E⟩:=j;unfold fm;rw[h1,c];simp;generalize a.5=m at d;generalize b.5=H at d;cases d with
  |run=>exact aA ⟨U,U⟩
  |returning=>exact aA ⟨U,U⟩
  |panicking hm=>
   cases hm with
   |nil=>exact aA ⟨U,U⟩
   |@cons e g t J o p=>
    let⟨d1,d2,d3⟩:=g;obtain⟨rfl,f⟩:=o;simp only at f;subst f;cases d2 with
    |true=>exact aA ⟨U,U⟩
    |false=>exact az ⟨d1,_::x,_::G,U,U,.cons ⟨r,v,z,A,B,.panicking<|.cons ⟨U,U⟩ p,C,D,E⟩ q⟩
def afS(q:dx (cV l) cs cs')(i:te bl)(j:te base):∀n,Pn l bl base (ii (aL n)<|cs++bl) (ii n<|cs'++base):=by
 induction q with
 |nil=>exact λ_=>aA ⟨i.loop _,j.loop _⟩
 |@cons a b x J d z f=>
  intro n;let B:∀{r h:aV (aB×av aP)},Pn l bl base r h->Pn l bl base (r.map λ(v,kj)=>(v,a::kj)) (h.map λ(v,kj)=>(v,b::kj)):=by rintro r h (⟨rfl,rfl⟩|⟨v,c,k,rfl,rfl,p⟩);exact aA ⟨U,U⟩;exact az ⟨v,a::c,b::k,U,U,.cons d p⟩
  rw[lT,lT];rw[ii];have g:=d.4;let A:=d.9;let E:=IB d z i j;refine B ?_;generalize a.3=G at g;generalize b.3=H at g;rw[A];obtain _|⟨t,D⟩:=g;exact f n;cases t with
  |inRangeFunc m=>
   let C:(aL m==aL n)=(m==n):=by rw[sR,mL,mL];exact⟨inj,λe=>e▸U⟩
   cases b.7 with
   |none=>grind
   |some o=>grind
  |stop s=>obtain⟨c,e⟩|⟨c,e⟩:=bJ.good s<;>(rw[e];exact f n)
  |_=>exact f n
def ME{s:fb b}{a}(h:s.run ae w=.ok a w1):pB w.1<=pB w1.1:=by have:=zj (P:=ae) s w;rwa [h]at this
def wI(v:aq)(s:fD):Prop:=(∃o a e,s=.ended o a e)\/pB v.1<=sz s
def aan(fr cs g w):wI w (early ae fr cs aj g w):=by
 rw[early];let a:∀b:aq,pB w.1<=pB b.1->wI w (match b.1[g]? with
  |some (.pending c d)=>.go {frame:=fr,callers:=cs,status:=.running,dying:=aj} {b with heap:=mP b.1 g<|au c d}|_=>.ended (.stuck "early: the variable does not wait"<|fr.pos ae) b):=λb h=>by
  split;exact az (by simpa[sz]using h);exact aA ⟨_,_,_,U⟩
 dsimp only;split;exact a w<|aR _;split;exact aA ⟨_,_,_,U⟩;split;exact a w<|aR _;split;exact a w<|aR _;split;exact aA ⟨_,_,_,U⟩;exact az<|aR _;exact aA ⟨_,_,_,U⟩;exact a w<|aR _;split;exact az<|aR _;split;exact a w<|aR _;split;exact a _<|ME ‹_›;exact az<|ME ‹_›;exact aA ⟨_,_,_,U⟩
def TE(fr cs)(m:String)(w):wI w (endFatal ae fr cs aj m w):=by unfold endFatal;dsimp only;split;exact az<|ME ‹_›;exact aA ⟨_,_,_,U⟩;exact aA ⟨_,_,_,U⟩
structure Ap(fr:aP)(cs:av aP)(E:lV tw->aF gv->aF gv)(C:lV tw->fD):Prop where
 eq:∀s u,ce ae M fr cs aj s u=Rn s E C u
 tp:∀r j g,E (r.tp j) g=E r g
 sub:∀r g e,e∈E r g->e∈g
 keeps:∀r,wI r.world (C r)
 dead:∀h v,nJ h->∃o i e,C (.halt h v)=.ended o i e
 value:∀v w,C (.ok (.value v) w)=.go (G (ns fr v) cs) w
 skip:∀w,C (.ok .skip w)=.go (G (ns fr y) cs) w
 enter:(∀d b n s k,fr.todo≠.call d b n s::k)->∀f x w,C (.ok (.enter f x) w)=.go (G (ba ae f x .normal) (fr::cs)) w
 round:∀l f x a b w,C (.ok (.round l f x a b) w)=.go (G (JS l f x a b .normal) (fr::cs)) w
 defer:∀d w,C (.ok (.defer d) w)=.go (G ({fr with defers:=d::fr.defers}.finish y) cs) w
 recover:∀w,C (.ok .recover w)=(match(match fr.7 with|some l=>if ae.follows .rangeFuncRecover then fm fr cs else ii l cs|none=>fm fr cs)with|some (v,c)=>.go (G (ns fr v) c) w|none=>.go (G (ns fr .nilIface) cs) w)
 comm:∀c b s w,C (.ok (.comm c b s) w)=.comm (G fr cs) c b s w
 panic:∀v w,C (.halt (.panic v) w)=.go (G (fr.raise [{v,recovered:=aa}]) cs) w
def LG(fr cs):∃E C,Ap fr cs E C:=by
 apply Exists.intro;apply Exists.intro;constructor;case eq=>intro s u;unfold ce Rn;simp only[dN];generalize s.runT ae u #[]=p;let⟨r,b⟩:=p;dsimp only
 case tp=>
  intro r g b;cases r with
  |ok a v=>rfl
  |halt h v=>cases h<;>first|rfl|(rename_i q;cases q<;>rfl)
 case sub=>intro r b e d;have:=mem_seen d;split at this;simp at this;split at this<;>first|exact this|simp at this
 case keeps=>
  intro r;cases r with
  |ok a v=>
   cases a<;>first|exact az (aR _)|skip
   all_goals (dsimp only;repeat' split)
   all_goals exact az<|aR _
  |halt h v=>
   cases h<;>first|exact aA ⟨_,_,_,rfl⟩|exact az (aR _)|exact TE _ _ _ _|skip
   rename_i q;cases q<;>first|exact aA ⟨_,_,_,rfl⟩|exact aan _ _ _ _
 case dead=>
  intro h v c;cases h<;>first|exact⟨_,_,_,rfl⟩|exact c.e|skip
  rename_i q;cases q<;>first|exact⟨_,_,_,rfl⟩|exact c.e
 case enter=>intro h f x w;dsimp only;split;exact absurd ‹fr.todo=_› (h _ _ _ _ _);rfl
 all_goals (intros;rfl)
def aen{x lm}(h:dx (IR l r) x lm):(∀d b n s k,x≠.call d b n s::k)/\∀d b n s k,lm≠.call d b n s::k:=by
 obtain _|⟨f,_⟩:=h;exact⟨λ_ _ _ _ _ e=>A6,λ_ _ _ _ _ e=>A6⟩;cases f with
 |stop s=>exact⟨λ_ _ _ _ _ e=>A6,λ_ _ _ _ _ e=>by obtain⟨c,a⟩|⟨c,a⟩:=bJ.good s<;>(rw[a]at e;cases e)⟩
 |_=>exact⟨λ_ _ _ _ _ e=>A6,λ_ _ _ _ _ e=>A6⟩
def OJ(t:ye l)(m:te bl)(o:te base){s s'}(H:SA NX u w s s')(hS:cW u w)(h:cV l fr fr')(e:dx (cV l) cs cs'):
  SG l bl base u w (ce ae M fr (cs++bl) aj s u) (λj=>ce ae M fr (cs++bl) aj s (u.tp j)) (ce ae M fr' (cs'++base) aj s' w):=by
 let⟨E,C,A⟩:=LG fr (cs++bl);let⟨O,N,g⟩:=LG fr' (cs'++base);simp[A.1,g.1];refine XW H hS A.2 g.3 A.4 A.5 (λa b u1 w1 i k=>?_) λv u1 w1 i=>?_;cases k with
 |value v=>simp[A.6,g.6];exact dz i (h.finish v) e λ_=>U
 |skip=>simp[A.7,g.7];exact dz i h.skip e λ_=>U
 |enter f x D=>let⟨J,L⟩:=aen h.4;simp[A.8 J,g.8 L];exact dz i (GD t D x<|aA U) (.cons h e) λ_=>U
 |round n f x a b h0=>simp[A.9,g.9];exact dz i (Xz t n h0 x<|aA U) (.cons h e) λ_=>U
 |defer d B=>simp[A.10,g.10];let z:cV l {fr with defers:=gX d::fr.4} {fr' with defers:=d::fr'.4}:=⟨h.1,h.2,h.3,h.4,.cons ⟨U,B.imp id aA⟩ h.5,h.6,h.7,h.8,h.9⟩;exact dz i z.skip e λ_=>U
 |recover=>
  simp[A.11,g.11];have k:=h.finish .nilIface;rw[show rv .nilIface=.nilIface by simp[rv]]at k;let l0:∀{r q:aV (aB×av aP)},Pn l bl base r q->SG l bl base u1 w1 (match r with|some (v,c)=>.go (G (ns fr v) c) u1|none=>.go (G (ns fr .nilIface)<|cs++bl) u1) (λj=>match r with|some (v,c)=>.go (G (ns fr v) c) (u1.tp j)|none=>.go (G (ns fr .nilIface)<|cs++bl) (u1.tp j)) (match q with|some (v,c)=>.go (G (ns fr' v) c) w1|none=>.go (G (ns fr' .nilIface)<|cs'++base) w1):=by rintro r q (⟨rfl,rfl⟩|⟨v,c,P,rfl,rfl,p⟩);exact dz i k e λ_=>U;exact dz i (h.finish v) p λ_=>U
  refine l0 ?_;rw[h.9];obtain _|n:=fr'.7;exact IB h e m o;simp[eO];split;exact IB h e m o;exact afS e m o n
 |comm c p=>simp[A.12,g.12];exact λ_=>az (az ⟨_,_,fr,cs,u1,#[],fr',cs',w1,#[],.comm c p,U,U,h,e,.refl i,ay,.refl u1,λj _=>U⟩)
 simp[A.13,g.13];exact dz i (h.raise<|.cons ⟨U,U⟩ .nil) e λ_=>U
def Bh(b:ye l)(c:te bl)(d:te base){s s'}(f:SX K NX s s')(hS:cW u w)(a:∀r,K r->rX u r)(h:cV l fr fr')(e:dx (cV l) cs cs'):
  SG l bl base u w (ce ae M fr (cs++bl) aj s u) (λg=>ce ae M fr (cs++bl) aj s (u.tp g)) (ce ae M fr' (cs'++base) aj s' w):=OJ b c d (f.at hS a) hS h e
def UE{c c'}(h:dx PR c c'):c.dropWhile (!·.goexit)=[]/\c'.dropWhile (!·.goexit)=[]:=by
 induction h with
 |nil=>exact⟨U,U⟩
 |cons a _ b=>exact⟨by simp[A5,a.1,EJ,dN,b.1],by simp[A5,a.2,EJ,dN,b.2]⟩
def IX{g v e}(h:yg ae bl g v):SG l bl base u w (.go g v e) sL s':=λ_=>az (aA ⟨_,_,_,U,h⟩)
def XV(n:bl≠[])(k:te bl)(hS:cW u w)(h:cV l fr fr')(o:dx (cV l) cs cs')(v):
  SG l bl base u w (lZ ae M fr (cs++bl) aj (rv v) u) (λG=>lZ ae M fr (cs++bl) aj (rv v) (u.tp G)) (lZ ae km fr' (cs'++base) aj v w):=by
 have f:=h.7;cases o with
 |nil=>obtain _|⟨b,kj⟩:=bl;cases n rfl;have hm:=k b ay;unfold lZ;obtain hk|hk:=h.8;simp only[jZ,hk];exact IX<|aA ⟨b,kj,rfl,az<|aA ⟨_,rfl⟩⟩;obtain hm|hm:=hm<;>simp only[jZ,hk,hm,Cs]<;>exact IX<|aA ⟨b,kj,rfl,aA rfl⟩
 |@cons a b x N c i=>
  unfold lZ;obtain hk|hk:=h.8<;>rw[hk]at f<;>simp only[lT,hk,f];exact dz hS (c.finish v) i λ_=>U;refine dz hS ?_ i λ_=>U;let h0:=c;let⟨q,r,z,A,B,d,C,D,E⟩:=c;generalize a.5=m at d;generalize b.5=H at d;cases d with
  |run=>exact h0
  |returning=>exact h0
  |panicking hm=>
   cases hm with
   |nil=>exact h0
   |@cons e j t L p g=>let⟨d1,d2,d3⟩:=j;obtain⟨rfl,J⟩:=p;obtain _|_:=d2;exact h0;simp only[(UE g).1,(UE g).2];exact⟨q,r,z,A,B,.returning,C,D,E⟩
def qi:∀r,(λ_:Nat×Bool=>False) r->rX u r:=λ_ h=>h.e
def XP{f}:∀(es:aF gv) e,e∈seen ae f es->e∈es:=λ_ _=>mem_seen
def Ms(C:b->aq->fD)(D:Halt->aq->fD):lV b->fD
 |.ok a w=>C a w|.halt h w=>D h w
def IY{t z:Type}{Q s s' x x' xL}(m:SX (λ_=>False) Q s s')(hS:cW u w)(f f')(C:t->aq->fD)(C':z->aq->fD)(D j:Halt->aq->fD)(q:∀a v,wI v<|C a v)(ok:∀a b u1 w1,cW u1 w1->Q a b->SG l bl base u1 w1 (C a u1) (λd=>C a (u1.tp d)) (C' b w1))(n:x=Rn s (λ_ c=>seen ae f c) (Ms C D) u)(k:∀d,xL d=Rn s (λ_ c=>seen ae f c) (Ms C D) (u.tp d))(p:x'=Rn s' (λ_ c=>seen ae f' c) (Ms C' j) w)(g:∀h v,∃o i e,D h v=.ended o i e):SG l bl base u w x xL x':=by
 rw[n,p,show xL=λd=>Rn s (λ_ c=>seen ae f c) (Ms C D) (u.tp d) from funext k];refine OL m hS qi (λ_ _ _=>U) (λ_=>XP) (λr=>?_) (λh v _=>g h v) ok λv u1 w1 _=>?_;cases r with
 |ok a v=>exact q a v
 |halt h v=>exact aA<|g h v
 let⟨o,i,e,h⟩:=g (.panic<|rv v) u1;show SG l bl base u1 w1 (D _ u1) _ _;rw[h];exact xE
def Xx(km fr cs a v):wI v (lZ ae km fr cs aj a v):=by
 unfold lZ
 repeat' split
 all_goals first|exact az (aR _)|exact aA ⟨_,_,_,rfl⟩
def OK(B:bl≠[])(A:te bl)(hS:cW u w)(h:cV l fr fr')(o:dx (cV l) cs cs')(g:aV fu)(C:∀c,g=Z c->ij c)(q){td td'}(t:dx (IR l (qL fr.7)) td td')(m i:String)(p p' k x:String):
  SG l bl base u w
   (match fr.7 with
    |none=>if q=M then .go {frame:={fr with todo:=td,mode:=.returning},callers:=cs++bl,status:=.running,dying:=aj} u else .ended (.stuck m p) u
    |some n=>match(zD n g).runT ae u #[]with|(r,d)=>iw (seen ae fr.1 d) (match r with|.ok v w=>lZ ae M fr (cs++bl) aj v w|.halt _ w=>.ended (.stuck i k) w))
   (λj=>match fr.7 with
    |none=>if q=M then .go {frame:={fr with todo:=td,mode:=.returning},callers:=cs++bl,status:=.running,dying:=aj} (u.tp j)else .ended (.stuck m p) (u.tp j)
    |some n=>match(zD n g).runT ae (u.tp j) #[]with|(r,d)=>iw (seen ae fr.1 d) (match r with|.ok v w=>lZ ae M fr (cs++bl) aj v w|.halt _ w=>.ended (.stuck i k) w))
   (match fr'.7 with
    |none=>if q=M then .go {frame:={fr' with todo:=td',mode:=.returning},callers:=cs'++base,status:=.running,dying:=aj} w else .ended (.stuck m p') w
    |some n=>match(zD n g).runT ae w #[]with|(r,d)=>iw (seen ae fr'.1 d) (match r with|.ok v w=>lZ ae km fr' (cs'++base) aj v w|.halt _ w=>.ended (.stuck i x) w)):=by
 have f:=h.9;rcases hq:fr'.7 with _|n;rw[hq]at f;simp at f;simp[f]at t⊢;cases q with
 |true=>exact dz hS ⟨h.1,h.2,h.3,t,h.5,.returning,h.7,h.8,U⟩ o λ_=>U
 |false=>exact xE
 rw[hq]at f;simp at f;simp only[f];refine IY (ahR n g C) hS fr.1 fr'.1 (λv w=>lZ ae M fr (cs++bl) aj v w) (λv w=>lZ ae km fr' (cs'++base) aj v w) (λ_ w=>.ended (.stuck i k) w) (λ_ w=>.ended (.stuck i x) w) (λa v=>Xx _ _ _ a v) (λa b u1 w1 z (e:a=rv b)=>by subst e;exact XV B A z h o b) ?_ ?_ ?_ ?_
 all_goals first|((try intro j);unfold Rn;generalize eA _ _ _ #[]=p;let⟨r,d⟩:=p;cases r<;>first|rfl|(rename_i h v;cases h<;>rfl))|(intro h v;cases h<;>exact⟨_,_,_,U⟩)
structure Ad(fr:aP)(cs:av aP)(d:rJ)(E:lV tw->aF gv->aF gv)(C:lV tw->fD):Prop where
 eq:((d.1 matches .nil)&&(fr.mode matches .panicking _))=aa->∀u,jn ae fr cs aj d u=Rn (invoke d.1 d.args) E C u
 tp:∀r j g,E (r.tp j) g=E r g
 sub:∀r g e,e∈E r g->e∈g
 keeps:∀r,wI r.world (C r)
 dead:∀h v,nJ h->∃o i e,C (.halt h v)=.ended o i e
 same:∀n w,((∃v,n=.value v)\/n=.skip\/(∃d,n=.defer d)\/∃c b s,n=.comm c b s)->C (.ok n w)=.go (G fr cs) w
 enter:∀f x w,C (.ok (.enter f x) w)=.go (G (ba ae f x .deferred) (fr::cs)) w
 round:∀l f x a b w,C (.ok (.round l f x a b) w)=.go (G (JS l f x a b .deferred) (fr::cs)) w
 recover:∀w,C (.ok .recover w)=(match fr.mode,fm fr cs with|.returning,Z (_,c)=>.go (G fr c) w|_,_=>.go (G fr cs) w)
 panic:∀v w,C (.halt (.panic v) w)=.go (G (fr.raise [{v,recovered:=aa}]) cs) w
def RJ(fr cs)(d:rJ):∃E C,Ad fr cs d E C:=by
 apply Exists.intro;apply Exists.intro;constructor;case eq=>intro h u;unfold jn Rn;refine(aI<|λe=>absurd (e.y.E h) ay).E ?_;generalize (invoke d.1 d.2).runT ae u #[]=p;let⟨r,f⟩:=p;dsimp only
 case tp=>
  intro r j f;cases r with
  |ok a v=>rfl
  |halt h v=>cases h<;>rfl
 case sub=>intro r f e i;have:=mem_seen i;split at this<;>first|exact this|simp at this
 case keeps=>
  intro r;split;all_goals first|exact az (aR _)|exact aA ⟨_,_,_,rfl⟩|exact TE _ _ _ _|skip
  all_goals (split<;>exact az (aR _))
 case dead=>intro h v g;cases h<;>first|exact⟨_,_,_,rfl⟩|exact g.e
 case same=>rintro n w (⟨v,rfl⟩|rfl|⟨d,rfl⟩|⟨c,b,s,rfl⟩)<;>rfl
 all_goals (intros;rfl)
def XS(p:ye l)(D:te bl)(G:te base)(hS:cW u w)(h:cV l fr fr')(j:dx (cV l) cs cs')(d:rJ)(hd:(∃f c,d.1=.fn f c)\/d.1=.nil\/∃r,d.1=.collected r):
  SG l bl base u w (jn ae fr (cs++bl) aj (gX d) u) (λL=>jn ae fr (cs++bl) aj (gX d) (u.tp L)) (jn ae fr' (cs'++base) aj d w):=by
 let⟨E,C,A⟩:=RJ fr (cs++bl) (gX d);let⟨O,N,g⟩:=RJ fr' (cs'++base) d;have k:=h.6
 have q:((d.1 matches .nil)&&(fr'.5 matches .panicking _))=(((gX d).1 matches .nil)&&(fr.5 matches .panicking _)):=by let e:(gX d).1=rt d.1:=U;rw[e];generalize fr.5=m at k;generalize fr'.5=K at k;obtain⟨f,c,e⟩|e|⟨r,e⟩:=hd<;>rw[e]<;>cases k<;>rfl
 cases t:(((gX d).1 matches .nil)&&(fr.5 matches .panicking _))with
 |true=>
  let e:∀u,∃o,jn ae fr (cs++bl) aj (gX d) u=.ended o u:=λu=>by exact⟨_,aO t⟩
  let⟨o,e⟩:=e u;rw[e];exact xE
 |false=>
  simp[A.1 t];rw[g.1<|q.E t];refine OL (Pg p.2 p.3 d.1 d.2 hd) hS qi A.2 g.3 A.4 A.5 (λa b u1 w1 i q=>?_) λv u1 w1 i=>?_;cases q with
  |enter f x J=>simp[A.7,g.7];exact dz i (GD p J x<|az U) (.cons h j) λ_=>U
  |round n f x a b h0=>simp[A.8,g.8];exact dz i (Xz p n h0 x<|az U) (.cons h j) λ_=>U
  |recover=>simp[A.9,g.9];have l0:=IB h j D G;generalize fr.5=m at k;generalize fr'.5=K at k;obtain⟨z,B⟩|⟨v,c,P,z,B,H⟩:=l0<;>rw[z,B]<;>cases k<;>first|exact dz i h j λ_=>U|exact dz i h H λ_=>U
  |value v=>simp[A.6 _ _<|aA ⟨_,U⟩,g.6 _ _<|aA ⟨_,U⟩];exact dz i h j λ_=>U
  |skip=>simp[A.6 _ _<|az<|aA U,g.6 _ _<|az<|aA U];exact dz i h j λ_=>U
  |defer _ _=>simp[A.6 _ _<|az<|az<|aA ⟨_,U⟩,g.6 _ _<|az<|az<|aA ⟨_,U⟩];exact dz i h j λ_=>U
  |comm _ _=>simp[A.6 _ _<|az<|az<|az ⟨_,_,_,U⟩,g.6 _ _<|az<|az<|az ⟨_,_,_,U⟩];exact dz i h j λ_=>U
  simp[A.10,g.10];exact dz i (h.raise<|.cons ⟨U,U⟩ .nil) j λ_=>U
def ahl(m:ye l)(G:bl≠[])(n:te bl)(E:te base)(hS:cW u w)(h:cV l fr fr')(g:dx (cV l) cs cs'):
  SG l bl base u w (CB ae M fr (cs++bl) aj u) (λB=>CB ae M fr (cs++bl) aj (u.tp B)) (CB ae km fr' (cs'++base) aj w):=by
 have o:=h.5;have A:∀{x K:av rJ},dx DR x K->cV l {fr with defers:=x} {fr' with defers:=K}:=λJ=>⟨h.1,h.2,h.3,h.4,J,h.6,h.7,h.8,h.9⟩;unfold CB;generalize J:fr.4=x at o;generalize X:fr'.4=ak at o;cases o with
 |@cons d O P Q i q=>obtain⟨rfl,i⟩:=i;have H:=i;let⟨t,args⟩:=O;rcases i with⟨f,c,e⟩|e|⟨r,e⟩<;>(simp only at e;subst e);exact XS m n E hS (A q) g _ H;exact XS m n E hS (A q) g _ H;simp only[gX,rt];refine IY (aiZ r) hS fr.1 fr'.1 (λc w=>.go {frame:={fr with defers:=c++P},callers:=cs++bl,status:=.running,dying:=aj} w) (λc w=>.go {frame:={fr' with defers:=c++Q},callers:=cs'++base,status:=.running,dying:=aj} w) (λ_ w=>.ended (.stuck "the deferred calls of a range-over-func loop have been taken"<|fr.pos ae) w) (λ_ w=>.ended (.stuck "the deferred calls of a range-over-func loop have been taken"<|fr'.pos ae) w) (λ_ _=>az (aR _)) (λa b u1 w1 k e=>by obtain⟨rfl,rfl⟩:=e;exact dz k (A q) g λ_=>U) ?_ ?_ ?_ ?_;all_goals first|((try intro B);unfold Rn;generalize eA _ _ _ #[]=p;let⟨r,R⟩:=p;cases r<;>first|rfl|(rename_i h v;cases h<;>rfl))|(intro h v;cases h<;>exact⟨_,_,_,U⟩)
 |nil=>
  simp only;let⟨C,c,j,W⟩:=m.9 _ h.2;let D:ae.2[fr'.1]? =Z C:=by rw[h.1];exact j
  let L:fr.catches ae=aa:=by unfold Qh;rw[j]
  let N:fr'.catches ae=aa:=by unfold Qh;rw[D]
  have z:=h.6;generalize fr.5=mo at z;generalize fr'.5=ah at z;cases z with
  |run=>exact xE
  |panicking T=>
   simp only[L,N,ff,dM];obtain _|⟨S,V⟩:=g;cases bl with
   |nil=>cases G U
   |cons b kj=>exact IX<|aA ⟨b,kj,U,az<|az ⟨_,U⟩⟩
   exact dz hS (S.raise T) V λ_=>U
  |returning=>simp only[j,D,h.3];refine IY (OV C fr'.2) hS fr.1 fr'.1 (λv w=>lZ ae M fr (cs++bl) aj v w) (λv w=>lZ ae km fr' (cs'++base) aj v w) (λh w=>match h with|.stuck s=>.ended (.stuck s<|fr.pos ae) w|_=>.ended (.stuck "return: the result variables cannot be read"<|fr.pos ae) w) (λh w=>match h with|.stuck s=>.ended (.stuck s<|fr'.pos ae) w|_=>.ended (.stuck "return: the result variables cannot be read"<|fr'.pos ae) w) (λa v=>Xx _ _ _ a v) (λa b u1 w1 k (e:a=rv b)=>by subst e;exact XV G n k h g b) ?_ ?_ ?_ ?_;all_goals first|((try intro B);unfold Rn;generalize eA _ _ _ #[]=p;let⟨r,R⟩:=p;cases r<;>first|rfl|(rename_i h v;cases h<;>rfl))|(intro h v;cases h<;>exact⟨_,_,_,U⟩)
def P0(fr cs)(s:fb tw)(v):wI v (ce ae M fr cs aj s v):=by let⟨E,C,A⟩:=LG fr cs;rw[A.1];rw[Rn];rw[iM];rcases A.4 (s.run ae v)with⟨o,a,e,h⟩|h;exact aA ⟨o,a,_,by rw[h];rfl⟩;exact az (by rw[Pm];exact cM (zj s v) h)
def aaH(id){x lm}(h:dx (IR l r) x lm):(fp id x=aj/\fp id lm=aj)\/∃k b,fp id x=Z k/\fp id lm=Z b/\dx (IR l r) k b:=by
 induction h with
 |nil=>exact aA ⟨U,U⟩
 |cons d t a=>
  cases d with
  |inBlock i=>unfold fp;grind
  |stop s=>obtain⟨c,e⟩|⟨c,e⟩:=bJ.good s<;>(rw[e];exact a)
  |_=>exact a
def akE(x jt):co jt (x.map rv)=co jt x:=by
 funext j;unfold co;rcases(jt[j]?).bind (·.dst)with _|d;rfl;simp;cases x[d]? with
 |none=>rfl
 |some v=>cases v<;>simp[eO,rv]<;>rfl
def XT(hS:cW u w)(h:cV l fr fr')(d:dx (cV l) cs cs'){jt k k'}(g:fr.3=.inRegion jt (j::kj)::k)(hy:fr'.3=.inRegion jt (j::kj)::k')(m:∀o,jt[j]? =Z o->(qL fr.7=M->Hr o.2=M)/\(cY o (co jt fr.2)=M->SG l bl base u w (ce ae M fr (cs++bl) aj (a7 fr.eval o) u) (λc=>ce ae M fr (cs++bl) aj (a7 fr.eval o) (u.tp c)) (ce ae M fr' (cs'++base) aj (a7 fr'.eval o) w))):
  SG l bl base u w (fy ae M M fr (cs++bl) aj u) (λc=>fy ae M M fr (cs++bl) aj (u.tp c)) (fy ae km M fr' (cs'++base) aj w):=by
 let e:=h.skip;let q:co jt fr'.2=co jt fr.2:=by rw[h.3,akE]
 unfold fy;rw[g,hy];simp only;rw[q];rcases ho:jt[j]? with _|o;exact dz hS e d λ_=>U;let⟨i,km⟩:=m o ho;simp
 by_cases b:cY o (co jt fr.2)=M
 let km:=km b;simp only[b,dN];unfold zg vn;rw[g,hy];simp[ho];have a:=h.9;cases p:fr'.7 with
 |none=>grind
 |some n=>rw[p]at a;simp at a;have f:=i j4;rw[a];generalize r:o.2=op at f;cases op<;>first|exact km|cases f
 simp[b,ff,dM];exact dz hS e d λ_=>U
def aja{a g}(hR:xo l a g)(q:∀f,a (.func f)=.func (.func f) #[] #[])(r:∀f,g (.func f)=.func (.func f) #[] #[]){o}(b:Br ae l o=M):SX K NX (a7 a o) (a7 g o):=by
 let⟨A,op,n,pos,v,B⟩:=o;rw[Br]at b;split at b;rename_i c m;simp only at m;subst m;let⟨z,args,j⟩:=c;let one:∀(a:lU->aB) x,#[x].map a=#[a x]:=λ_ _=>by simp
 split at b;rename_i x i h;simp only at i h;subst i;obtain rfl:args=#[x]:=by rw[<-h]
 simp at b;let⟨p,k⟩:=b;split at k;rename_i e t;show SX K NX (do pure (.value<|<-EL j n (#[x].map a))) (do pure (.value<|<-EL j n (#[x].map g)));rw[one,one];exact fH<|aiC t (XN k) j _<|hR x p;cases k;rename_i f x i h;simp only at i h;subst i;obtain rfl:args=#[x]:=by rw[<-h]
 simp at b;show SX K NX (do let d <-uu (a<|.func f) (#[x].map a);invoke d.1 d.2) (do let d <-uu (g<|.func f) (#[x].map g);invoke d.1 d.2);rw[q,r,one,one];show SX K NX (ie f<|(#[]++#[a x])++#[]) (ie f<|(#[]++#[g x])++#[]);rw[show(#[]++#[a x])++#[]=#[a x] by simp,show(#[]++#[g x])++#[]=#[g x] by simp];exact aiS b.2 _<|hR x b.1;cases b;cases b
def XU(a:ye l)(b:te bl)(c:te base)(hS:cW u w)(h:cV l fr fr')(d:dx (cV l) cs cs'){jt o}(hop:nj ae l (qL fr.7) o=M):(qL fr.7=M->Hr o.2=M)/\(cY o (co jt fr.2)=M->SG l bl base u w (ce ae M fr (cs++bl) aj (a7 fr.eval o) u) (λk=>ce ae M fr (cs++bl) aj (a7 fr.eval o) (u.tp k)) (ce ae M fr' (cs'++base) aj (a7 fr'.eval o) w)):=by let g:∀f,l.contains f=M->an.ok f:=λf j=>(a.5 f).2 j;let e:=h.eval g;rw[nj]at hop;rw[vJ]at hop;obtain hop|hop:=hop;simp only[sM,cQ]at hop;exact⟨λhr=>by simpa[hr]using hop.2,λ_=>Bh a b c (K:=λ_=>False) (Yv (a.1 _) a.2 a.3 a.4 g e (λ_=>U) hop.1) hS qi h d⟩;refine⟨λ_=>?_,λ_=>Bh a b c (K:=λ_=>False) (aja e (λ_=>U) (λ_=>U) hop) hS qi h d⟩;unfold Br at hop;split at hop;rename_i i;rw[i];rfl;cases hop
def ahh{s s' E E'}{C:lV e->fD}{C':lV f->fD}{x x' xL}(c:x=Rn s E C u)(b:∀a,xL a=Rn s E C (u.tp a))(d:x'=Rn s' E' C' w)(h:SG l bl base u w (Rn s E C u) (λa=>Rn s E C (u.tp a)) (Rn s' E' C' w)):SG l bl base u w x xL x':=by rwa [c,d,show xL=_ from funext b]
def VW:∀{m:av rJ},(∀d∈m,∃r,d.1=.collected r)->dx DR (m.map gX) m
 |[],_=>.nil|d::m,h=>.cons ⟨U,az<|az<|h d ay⟩ (VW λd a=>h d D2)
def ahg(G:ye l)(W:bl≠[])(N:te bl)(V:te base)(hS:cW u w)(h:cV l fr fr')(g:dx (cV l) cs cs')(bw:fr.5=.run)
  (bp:∀{jt:aF ep} {n j:Nat} {kj:av Nat} {k k':av Item},vi ae l jt=M->(dA jt.size).drop n=j::kj->fr.3=.inRegion jt (j::kj)::k->fr'.3=.inRegion jt (j::kj)::k'->SG l bl base u w (fy ae M M fr (cs++bl) aj u) (λJ=>fy ae M M fr (cs++bl) aj (u.tp J)) (fy ae km M fr' (cs'++base) aj w)):
  SG l bl base u w (fy ae M M fr (cs++bl) aj u) (λJ=>fy ae M M fr (cs++bl) aj (u.tp J)) (fy ae km M fr' (cs'++base) aj w):=by
 let hl:∀f,l.contains f=M->an.ok f:=λf hf=>(G.5 f).2 hf;let aX:=h.eval hl;have af:=h.4;let aE:=h.1;let D:∀{k k':av Item},dx (IR l (qL fr.7)) k k'->cV l {fr with todo:=k} {fr' with todo:=k'}:=λA=>⟨h.1,h.2,h.3,A,h.5,h.6,h.7,h.8,h.9⟩;generalize B:fr.3=x at af;generalize H:fr'.3=bD at af;cases af with
 |nil=>unfold fy;rw[B,H];exact OK W N hS h g aj ay _ .nil _ _ _ _ _ _
 |@cons i i' k k' hi A=>
  cases hi with
  |@inRegion jt todo X=>obtain _|⟨j,kj⟩:=todo;unfold fy;rw[B,H];exact dz hS (D A) g λ_=>U;exact XT hS h g B H λo ho=>XU G N V hS h g (ud.1 X o<|vF ho)
  |@spec jt n X=>rcases L:(dA jt.size).drop n with _|⟨j,kj⟩;unfold fy;rw[B,H,L];exact dz hS (D A) g λ_=>U;exact bp X L (by rw[B,L]) (by rw[H,L])
  |stop s=>unfold fy;rw[B];exact xE
  |inBlock id=>unfold fy;rw[B,H];exact dz hS (D A) g λ_=>U
  |inLoop hc=>unfold fy;rw[B,H];exact dz hS (D<|.cons (.code hc)<|.cons (.inLoop hc) A) g λ_=>U
  |inRangeFunc hn=>unfold fy;rw[B];exact xE
  |endRangeFunc n=>
   unfold fy;rw[B,H];simp only;refine ahh (E:=λ_ O=>seen ae fr.1 O) (E':=λ_ O=>seen ae fr'.1 O)
    (C:=Ms (λj w=>.go {frame:={fr with todo:=(j.map Item.code).toList++k},callers:=cs++bl,status:=.running,dying:=aj} w) λh w=>match h with|.panic v=>.go {frame:=fr.raise [{v,recovered:=aa}],callers:=cs++bl,status:=.running,dying:=aj} w|_=>.ended (.stuck "range over a function: no such loop"<|fr.pos ae) w)
    (C':=Ms (λj w=>.go {frame:={fr' with todo:=(j.map Item.code).toList++k'},callers:=cs'++base,status:=.running,dying:=aj} w) λh w=>match h with|.panic v=>.go {frame:=fr'.raise [{v,recovered:=aa}],callers:=cs'++base,status:=.running,dying:=aj} w|_=>.ended (.stuck "range over a function: no such loop"<|fr'.pos ae) w)
    ?_ ?_ ?_ (OL (aiQ (K:=λ_=>False) n) hS qi (λ_ _ _=>U) (λ_=>XP) (λr=>?_) (λh v L=>?_) (λa b u1 w1 P e=>?_) λv u1 w1 P=>?_)
   case refine_4=>
    cases r with
    |ok a v=>exact az<|aR _
    |halt h v=>cases h<;>first|exact az (aR _)|exact aA ⟨_,_,_,rfl⟩
   case refine_5=>cases h<;>first|exact L.e|exact⟨_,_,_,rfl⟩
   case refine_6=>let⟨rfl,R⟩:=e;refine dz P ⟨h.1,h.2,h.3,dx.append ?_ A,h.5,h.6,h.7,h.8,h.9⟩ g λ_=>U;obtain _|c:=a;exact .nil;exact .cons (.code<|yQ<|(G.6 c).1 (R c rfl)) .nil
   case refine_7=>exact dz P (h.raise<|.cons ⟨U,U⟩ .nil) g λ_=>U
   all_goals ((try intro J);unfold Rn;generalize eA _ _ _ #[]=p;let⟨r,O⟩:=p;cases r<;>first|rfl|(rename_i h v;cases h<;>rfl))
  |beginRound=>unfold fy;rw[B,H];refine Bh G N V (K:=λ_=>False) ?_ hS qi h g;rw[h.9];obtain _|n:=fr'.7;exact zc _ _ _;exact Pk<|ahE n
  |@code c hc=>
   unfold fy;rw[B,H];cases c with
   |skip=>exact dz hS (D A) g λ_=>U
   |region id jt aQ=>
    simp only;obtain _|_:=aQ;have hc:(jt.all (nj ae l (qL fr.7))||(!aa&&vi ae l jt))=M:=hc;rw[vJ]at hc;obtain hc|hc:=hc;exact dz hS (D<|.cons (.inRegion _ hc) A) g λ_=>U;exact dz hS (D<|.cons (.spec 0 hc) A) g λ_=>U;simp only[Zu,ff,dM];have hc:(jt.all (nj ae l (qL fr.7))||(!M&&vi ae l jt))=M:=hc;simp only[Zu,Zt,Bool.or_false]at hc;rw[aE];intro ht;cases hr:(choose<|.order fr.1 id).run ae u with
    |halt z v=>exact aA ⟨_,_,_,U⟩
    |ok t u1=>
     rw[hr]at ht;rcases tW (K:=λ_=>False) (.order fr.1 id) u w #[] hS qi (by rw[hr];exact ht)with⟨z,v,Q,_⟩|⟨r',x,Q,R,h3,h4,h5,h6⟩;rw[hr]at Q;cases Q;let aS:(choose<|.order fr.1 id).run ae w=r':=by rw[<-iM ae _ w #[],Q]
     rw[hr]at R h3 h5 h6;cases R with
     |ok _ t' _ w1 e=>
      obtain rfl:t=t':=e;rw[aS];refine az<|az ⟨_,_,{fr with todo:=.inRegion jt (G4 (ae.follows .mixedOrders) jt t)::k},cs,u1,#[],{fr' with fn:=fr.1,todo:=.inRegion jt (G4 (ae.follows .mixedOrders) jt t)::k'},cs',w1,#[],.go,U,U,⟨U,h.2,h.3,.cons (.inRegion _ hc) A,h.5,h.6,h.7,h.8,h.9⟩,g,h3,ay,h5,λJ hA=>?_⟩;let hL:(choose<|.order fr.1 id).run ae (u.tp J)=.ok t (u1.tp J):=by rw[<-iM ae _ (u.tp J) #[],h6 #[] J hA];rfl
      simp only[hL];rfl
   |seq a b=>simp only[eW,cQ]at hc;exact dz hS (D<|.cons (.code hc.1)<|.cons (.code hc.2) A) g λ_=>U
   |cond c a b=>simp only[eW,cQ]at hc;simp only;rw[aX c hc.1.1];cases hv:fr'.eval c<;>simp only[rv]<;>(try exact xE);rename_i t;refine dz hS (D<|.cons (.code ?_) A) g λ_=>U;cases t;exact hc.2;exact hc.1.2
   |block id b=>exact dz hS (D<|.cons (.code hc)<|.cons (.inBlock id) A) g λ_=>U
   |loop b=>exact dz hS (D<|.cons (.code hc)<|.cons (.inLoop hc) A) g λ_=>U
   |rangeFunc f ps a b=>
    simp only[eW,cQ]at hc;let hs:SX (λ_=>False) (λp q=>p=(aL q.1,q.2.map gX)/\∀d∈q.2,∃r,d.1=.collected r) (BI fr.1 fr.2 ps a b fr.7) (BI fr'.1 fr'.2 ps a b fr'.7):=by rw[aE,h.3,h.9];exact aiR _ ps a b _ ⟨h.2,(G.6 a).2 hc.1.2,(G.6 b).2 hc.2⟩
    simp only;refine IY hs hS fr.1 fr'.1
     (λp w=>ce ae M {fr with todo:=.inRangeFunc p.1::k,defers:=p.2++fr.4} (cs++bl) aj (do let d <-resolve ({fr with todo:=.inRangeFunc p.1::k,defers:=p.2++fr.4}:aP).eval {callee:=.value f,args:=#[.const<|.func (.yield p.1) #[] #[]],argTypes:=#[]} 0;invoke d.1 d.2) w)
     (λp w=>ce ae M {fr' with todo:=.inRangeFunc p.1::k',defers:=p.2++fr'.4} (cs'++base) aj (do let d <-resolve ({fr' with todo:=.inRangeFunc p.1::k',defers:=p.2++fr'.4}:aP).eval {callee:=.value f,args:=#[.const<|.func (.yield p.1) #[] #[]],argTypes:=#[]} 0;invoke d.1 d.2) w)
     (λ_ w=>.ended (.stuck "range over a function: no such loop"<|fr.pos ae) w) (λ_ w=>.ended (.stuck "range over a function: no such loop"<|fr'.pos ae) w) (λa v=>P0 _ _ _ v) (λp q u1 w1 P e=>?_) ?_ ?_ ?_ (λh v=>⟨_,_,_,U⟩)
    case refine_1=>
     obtain⟨rfl,hm⟩:=e;let aH:cV l {fr with todo:=.inRangeFunc (aL q.1)::k,defers:=q.2.map gX++fr.4} {fr' with todo:=.inRangeFunc q.1::k',defers:=q.2++fr'.4}:=⟨h.1,h.2,h.3,.cons (.inRangeFunc q.1) A,(VW hm).append h.5,h.6,h.7,h.8,h.9⟩;refine Bh G N V (K:=λ_=>False) ?_ P qi aH g;let one:∀(η:lU->aB) x,#[x].map η=#[η x]:=λ_ _=>by simp
     unfold resolve;simp only[one];rw[aH.eval hl f hc.1.1];show SX _ NX (uu (rv _) #[.func (.yield<|aL q.1) #[] #[]] >>= λd=>invoke d.1 d.2) (uu _ #[.func (.yield q.1) #[] #[]] >>= λd=>invoke d.1 d.2);rw[show #[KL (.yield<|aL q.1) #[] #[]]=#[KL (.yield q.1) #[] #[]].map rv by simp[rv,kG]];exact Pj _ _ λd L=>Pg G.2 G.3 d.1 d.2 (L.imp id aA)
    all_goals ((try intro J);unfold Rn;generalize eA _ _ _ #[]=p;let⟨r,O⟩:=p;cases r<;>first|rfl|(rename_i h v;cases h<;>rfl))
   |exit id=>simp only;obtain⟨S,T⟩|⟨m,m',S,T,hm⟩:=aaH id A;rw[S,T];exact OK W N hS h g (Z<|.exit id) (λc e=>by cases e;exact(G.6 _).2 U) _ (.cons (.code hc) A) _ _ _ _ _ _;rw[S,T];exact dz hS (D hm) g λ_=>U
   |scope b=>simp[eW]at hc
   |label n=>simp[eW]at hc
   |goto n=>simp[eW]at hc
   |ret=>exact OK W N hS h g (Z .ret) (λc e=>by cases e;exact(G.6 _).2 U) _ (.cons (.code hc) A) _ _ _ _ _ _
   |refuse bC=>exact xE
def Spc(l:av aZ)(bl base:av aP)(u w:aq)(fr fr':aP)(cs cs':av aP)(km:Bool):Prop:=∀{a:aF ep} {n j:Nat} {kj:av Nat} {k b:av Item},vi ae l a=M->(dA a.size).drop n=j::kj->fr.3=.inRegion a (j::kj)::k->fr'.3=.inRegion a (j::kj)::b->SG l bl base u w (fy ae M M fr (cs++bl) aj u) (λc=>fy ae M M fr (cs++bl) aj (u.tp c)) (fy ae km M fr' (cs'++base) aj w)
def ahj(c:ye l)(g:bl≠[])(d:te bl)(f:te base)(hS:cW u w)(h:cV l fr fr')(i:dx (cV l) cs cs')(j:fr.5=.run->Spc l bl base u w fr fr' cs cs' km):
  SG l bl base u w (bi ae M (G fr<|cs++bl) u) (λk=>bi ae M (G fr<|cs++bl) (u.tp k)) (bi ae km (G fr'<|cs'++base) w):=by
 have a:=h.6
 by_cases hr:fr.5=.run
 let b:fr'.5=.run:=by rw[hr]at a;generalize fr'.5=m at a;cases a;rfl
 simp[Es hr,Es b];exact ahg c g d f hS h i hr<|j hr
 let b:fr'.5≠.run:=by intro e;rw[e]at a;generalize hm:fr.5=m at a;cases a;exact hr hm
 simp[OZ hr,OZ b];exact ahl c g d f hS h i
def zl(h:nf ae t=Z d)(u es):(dq t).runT ae u es=(.ok d u,es):=by simp only[dq,rT,bind,fK,eA,h,pure]
variable{d:aY}
def LV(c:nf ae s=Z (.pointer t))(hd:nf ae d=Z .unsafePointer)(a u es):(convert s d<|.pointer<|Z a).runT ae u es=((zC a).bind<|xr t).runT ae u es:=by
 let e:∀(f:jD->fb aB) (u:aq) (es:aF gv),((dq s) >>= f).runT ae u es=(f<|.pointer t).runT ae u es:=λf u es=>by show((dq s).bind f).runT ae u es=_;rw[kX,zl c]
 let b:∀(f:jD->fb aB) (u:aq) (es:aF gv),((dq d) >>= f).runT ae u es=(f .unsafePointer).runT ae u es:=λf u es=>by show((dq d).bind f).runT ae u es=_;rw[kX,zl hd]
 rw[convert];rw[e,b];unfold BE;rw[e,b];rfl
def LU(c:nf ae s=Z (.pointer t))(hd:nf ae d=Z .unsafePointer)(a u es):(convert d s<|.pointer<|Z a).runT ae u es=((zC a).bind<|yz t).runT ae u es:=by
 let e:∀(f:jD->fb aB) (u:aq) (es:aF gv),((dq s) >>= f).runT ae u es=(f<|.pointer t).runT ae u es:=λf u es=>by show((dq s).bind f).runT ae u es=_;rw[kX,zl c]
 let b:∀(f:jD->fb aB) (u:aq) (es:aF gv),((dq d) >>= f).runT ae u es=(f .unsafePointer).runT ae u es:=λf u es=>by show((dq d).bind f).runT ae u es=_;rw[kX,zl hd]
 rw[convert];rw[b,e];unfold BE;rw[b,e];rfl
def XX{r}(h:u.1[r]? =Z cC):nL u r=aj:=by rw[mK];rw[h];rfl
def ON(h:ae.info? t=Z i)(u):(sizeOf t).run ae u=.ok i.3 u:=by simp[sizeOf,yf,rT,bind,fK,ee,h,pure]
def zh(h:ae.info? t=Z i)(e:i.3≠0)(b:u.1[a.1]? =Z cC):(xr t a).run ae u=.ok (.pointer<|Z a) u:=by
 let f:=XX b;let c:(zW a.1).run ae u=.ok aj u:=by simp[zW,shape,getObj,bind,fK,ee,f,b,cC,pure]
 rw[xr];show((zW a.1).bind _).run ae u=_;rw[nF,c];show((sizeOf t).bind _).run ae u=_;rw[nF,ON h];simp[QK,e,decide_false,EI,ff,dM,pure,ee]
def P4(h:ae.info? t=Z i)(b:i.3≠0)(c:u.1[a.1]? =Z cC):∃x,(yz t a).run ae u=.halt x u/\nJ x:=by let e:=XX c;rw[yz];refine⟨.unsupported<|.unsafePointer "memory that has no shape (a package-level variable that still waits for its initialiser), seen as another type",?_,trivial⟩;show((sizeOf t).bind _).run ae u=_;rw[nF,ON h];simp[CC,rT,shape,zZ,QK,bind,fK,ee,e,pure,b,decide_false,EI,ff,dM]
def agT(b:u.1[a.1]? =Z cC):(zC a).run ae u=.ok a u:=by let hv:(wB a.1).run ae u=.ok aj u:=ajN b (λ_ _ e=>by cases e);rw[zC];show((wB a.1).bind _).run ae u=_;rw[nF,hv];rfl
def SO{s:fb aB}{c:fb aB}(h:∀u b,s.runT ae u b=c.runT ae u b):(∀u,s.run ae u=c.run ae u):=λu=>by rw[<-iM ae s u #[],h,iM]
def VP{C jt k o}(hm:fr.5=.run)(e:fr.3=.inRegion jt (j::kj)::k)(c:jt[j]? =Z o)(g:cY o (co jt fr.2)=M)(b:Hr o.2=M)(u):
  bi ae M (G fr C) u=ce ae M fr C aj (a7 fr.eval o) u:=by
 rw[Es hm];rw[fy];rw[e];simp[c,eO,oK,g,dN];unfold zg vn;rw[e];simp[c];split;rename_i h f;rw[f]at b;cases b;rfl
def RU{C s}(h:s.run ae u=.ok (.value v) u1):∃b,ce ae M fr C aj s u=.go (G (ns fr v) C) u1 b:=by rw[ce];simp only[dN];rw[show s.runT ae u #[]=(s.run ae u,(s.runT ae u #[]).2) by rw[<-iM ae s u #[]],h];exact⟨_,U⟩
def O9{C s x}(h:s.run ae u=.halt x u1)(b:nJ x):∃o w c,ce ae M fr C aj s u=.ended o w c:=by
 rw[ce];simp only[dN];rw[show s.runT ae u #[]=(s.run ae u,(s.runT ae u #[]).2) by rw[<-iM ae s u #[]],h];cases x with
 |stuck _=>exact⟨_,_,_,U⟩
 |unsupported q=>
  cases q with
  |initOrder _=>exact b.e
  |_=>exact⟨_,_,_,U⟩
 |_=>exact b.e
def XZ{C cs bl}(h:solo (G fr C) u=lone og (cs++bl) w):og=fr:=by have b:=cG Qy h;simp[lone,solo,G]at b;exact b.1.y
def TV{jt k}(b:fr.3=.inRegion jt (j::kj)::k)(v):(ns fr v).3=.inRegion jt kj::k/\(ns fr v).5=fr.5/\(ns fr v).2=(match(jt[j]?).bind (·.dst)with|some d=>mP fr.2 d v|none=>fr.2):=by rw[Frame.finish];grind
def Uv(x:aF aB)(d v):(mP x d v).getD d y=v\/(mP x d v).getD d y=y:=by by_cases h:d<pB x;left;simp[rB,h];right;simp[rB,h]
def P1{C:av aP}{kj:av Nat}{k:av Item}{j m:ep}{f:aZ}{d e:Nat}{dt:aY}{O:aF aY}(hm:fr.5=.run)(z:fr.3=.inRegion jt (3::4::kj)::k)
  (D:jt[3]? =Z j) (R:jt[4]? =Z m) (W:j.6=aj) (X:m.6=aj) (K:j.2=.call {callee:=.value<|.func f,args:=#[.tmp d],argTypes:=O}) (S:j.1=Z e) (L:m.2=.convert dt s (.tmp e))
  (hf:AE ae f=M) (ah:∃p,ae.2[f]? =Z p/\p.1= "internal/abi.NoEscape") (r:nf ae s=Z (.pointer t)) (hd:nf ae dt=Z .unsafePointer) (hi:ae.info? t=Z i) (hz:i.3≠0)
   (hv:(∃b,fr.eval (.tmp d)=.pointer (Z b)/\u.1[b.1]? =Z cC)\/fr.eval (.tmp d)=y):∀n q cs w,jF ae n (solo (G fr C) u)=.next (lone q (cs++bl) w)->nN q:=by
 let w3:cY j (co jt fr.2)=M:=by unfold cY;rw[W]
 let⟨p,H,J⟩:=ah
 let r3:(a7 fr.eval j).run ae u=.ok (.value<|fr.eval<|.tmp d) u:=by
  unfold AE at hf;rw[H]at hf;simp only[cQ,mL]at hf;let⟨k1,k2⟩:=TS J hf.1.2;unfold a7;rw[K];have h:(p.1== "runtime.NumGoroutine")=aa:=by rw[J];decide
  show(ie f<|(#[]++#[F8 d].map fr.eval)++#[]).run ae u=_;rw[show(#[]++#[F8 d].map fr.eval)++#[]=#[fr.eval<|.tmp d] by simp];unfold ie;simp only[rT,bind,fK,ee,H,h,hf.1.1,ff,dM,dN,k1,k2,mark,pure];rfl
 let⟨aT,s1⟩:=RU (fr:=fr) (C:=C) r3;let N:step ae (solo (G fr C) u)=.next (solo (G (ns fr<|fr.eval<|.tmp d) C) u):=Rc U ((VP hm z D w3 (by rw[K];rfl) u).E s1)
 let⟨t1,t2,t3⟩:=TV z (fr.eval<|.tmp d);let w4:cY m (co jt (ns fr<|fr.eval<|.tmp d).2)=M:=by unfold cY;rw[X]
 let ak:(∃b,(ns fr<|fr.eval<|.tmp d).eval (.tmp e)=.pointer (Z b)/\u.1[b.1]? =Z cC)\/(ns fr<|fr.eval<|.tmp d).eval (.tmp e)=y:=by let V:(ns fr<|fr.eval<|.tmp d).eval (.tmp e)=(ns fr<|fr.eval<|.tmp d).2.getD e y:=U;rw[V,t3];simp only[D,F9,S];rcases Uv fr.2 e (fr.eval<|.tmp d)with g|g;rw[g];exact hv;exact az g
 have A:∃x,(a7 (ns fr<|fr.eval<|.tmp d).eval m).run ae u=.halt x u/\nJ x:=by
  unfold a7;rw[L];let l0:∀v:aB,((∃b,v=.pointer (Z b)/\u.1[b.1]? =Z cC)\/v=y)->∃x,(convert dt s v).run ae u=.halt x u/\nJ x:=by
   rintro v (⟨b,rfl,E⟩|rfl);rw[SO<|LU r hd b,nF,agT E];exact P4 hi hz E;refine⟨.stuck ?_,?_,trivial⟩;rotate_left;rw[<-iM ae _ u #[]];let e:∀(f:jD->fb aB) (u:aq) (c:aF gv),((dq s) >>= f).runT ae u c=(f<|.pointer t).runT ae u c:=λf u c=>by show((dq s).bind f).runT ae u c=_;rw[kX,zl r]
   let B:∀(f:jD->fb aB) (u:aq) (c:aF gv),((dq dt) >>= f).runT ae u c=(f .unsafePointer).runT ae u c:=λf u c=>by show((dq dt).bind f).runT ae u c=_;rw[kX,zl hd]
   unfold convert;rw[B,e];show((BE dt s y).runT ae u #[]).1=_;unfold BE;rw[B,e];rfl
  let⟨x,P,Q⟩:=l0 _ ak;refine⟨x,?_,Q⟩;show((convert dt s _).bind _).run ae u=_;rw[nF,P];rfl
 let⟨x,A,T⟩:=A;let⟨o,w2,aW,s2⟩:=O9 (fr:=ns fr<|fr.eval<|.tmp d) (C:=C) A T;let aL:step ae (solo (G (ns fr<|fr.eval<|.tmp d) C) u)=.ended o w2:=Jl U ((VP (t2.E hm) t1 R w4 (by rw[L];rfl) u).E s2);intro n q cs w h
 match n with
 |0=>simp only[jF]at h;obtain rfl:=XZ (wj h);exact⟨hm,_,_,_,_,z⟩
 |1=>simp only[jF,N]at h;obtain rfl:=XZ (wj h);exact⟨t2.E hm,_,_,_,_,t1⟩
 |n+2=>simp only[jF,N,aL]at h;cases h
def SA.congr{n o:Type}{Q}{s c:fb n}{g j:fb o}(h:∀v b,s.runT ae v b=c.runT ae v b)(m:∀v b,g.runT ae v b=j.runT ae v b)(k:SA Q u w c j):SA Q u w s g:=by
 let e:∀v,s.run ae v=c.run ae v:=λv=>by rw[<-iM ae s v #[],h,iM]
 intro b f;unfold Dd Lo;simp only[e,h,m]at f⊢;exact k b f
def P8(b:ae.info? t=Z i)(e:i.3≠0)(c:nL u a.1=aj):Dd (yz t a) u:=by rw[yz];refine⟨.unsupported<|.unsafePointer "memory that has no shape (a package-level variable that still waits for its initialiser), seen as another type",u,?_,trivial⟩;show((sizeOf t).bind _).run ae u=_;rw[nF,ON b];simp[CC,rT,shape,zZ,QK,bind,fK,ee,c,pure,e,decide_false,EI,ff,dM]
def ajm(b:u.1[a.1]? =aj):Dd (xr t a) u:=by
 let c:nL u a.1=aj:=by rw[mK];rw[b]
 refine sD ⟨.stuck "getObj: no such block",u,?_,trivial⟩;simp[zW,shape,getObj,bind,fK,ee,c,b]
def ahm(h:¬NP u a.1):nL u a.1=aj:=by rw[mK];split;rename_i c e f b;cases h ⟨_,b,by intro e;cases e⟩;rfl
def XI{s s'}(hS:cW u w)(h:SA (UR rv) u w s s'):SA NX u w (do pure (.value<|<-s)) (do pure (.value<|<-s')):=h.bind hS λv u1 w1 _ hm=>(SX.mk<|.value v).at hm.1 qi
def agH(c:nf ae s=Z (.pointer t))(hd:nf ae d=Z .unsafePointer)(m:wL t)(j:ae.info? t=Z i)(n:i.3≠0)(hS:cW u w):SA NX u w (do pure (.value<|<-convert s d (.pointer<|Z<|ra a))) (do pure (.value<|<-convert s d (.pointer<|Z a)))\/
   ∃b u1,(do pure (Next.value<|<-convert s d (.pointer<|Z<|ra a)):fb tw).run ae u=.ok (.value<|.pointer<|Z b) u1/\u1.1[b.1]? =Z cC:=by
 by_cases g:∃b u1,(zC<|ra a).run ae u=.ok b u1/\u1.1[b.1]? =Z cC
 let⟨b,u1,h,f⟩:=g;refine az ⟨b,u1,?_,f⟩;show((convert s d _).bind _).run ae u=_;rw[nF,SO<|LV c hd _,nF,h];show((xr t b).run ae u1).andThen _=_;rw[zh j n f];rfl;refine aA<|XI hS<|SA.congr (LV c hd _) (LV c hd _)<|((Ym a).at hS qi).bind hS λb u1 w1 hr hm=>?_;rcases hb:u1.1[aL b.1]? with _|o;exact λp _=>aA (ajm hb);let k:NP u1 (aL b.1):=⟨o,hb,λe=>g ⟨ra b,u1,hr,e▸hb⟩⟩;exact(aiy m U).at hm.1 λr hr=>hr▸k
def Yl(m:nf ae s=Z (.pointer t))(hd:nf ae d=Z .unsafePointer)(hv:∀k,v≠.pointer (Z k)):SQ K rv (convert s d<|rv v) (convert s d v)/\SQ K rv (convert d s<|rv v) (convert d s v):=by
 let up:∀(c b:aY),(c=s/\b=d)\/(c=d/\b=s)->∀X,X=rv v->SQ K rv (BE c b X) (BE c b v):=λc b h X j=>.und c λp f=>.und b λq g=>by have e:(p=.pointer t/\q=.unsafePointer)\/(p=.unsafePointer/\q=.pointer t):=j4;obtain⟨rfl,rfl⟩|⟨rfl,rfl⟩:=e<;>cases v<;>simp[rv]at j<;>subst j<;>first|exact bR _ _|(rename_i p;cases p<;>first|exact absurd rfl (hv _)|exact SX.as (Co aj) (by simp[rv,iA]))
 refine⟨.und s λp f=>.und d λq g=>?_,.und d λp f=>.und s λq g=>?_⟩<;>simp[m,hd,we]at f g<;>subst f<;>subst g;have:=up s d (aA ⟨U,U⟩) (rv v) U;cases v<;>simp[rv]at this⊢<;>exact this;have:=up d s (az ⟨U,U⟩) (rv v) U;cases v<;>simp[rv]at this⊢<;>exact this
def ahi(A:ye l)(E:te bl)(G:te base)(hS:cW u w)(h:cV l fr fr')(B:dx (cV l) cs cs')(bw:fr.5=.run):Spc l bl base u w fr fr' cs cs' km:=by
 intro jt n j kj k k' q N hx hy;let aJ:=h.eval λf hf=>(A.5 f).2 hf;let norm:=λ{o:ep} (q:nj ae l (qL fr.7) o=M)=>XU (jt:=jt) A E G hS h B q;let L:∀{o:ep},sM ae l (qL fr.7) o.2=M->nj ae l (qL fr.7) o=M:=λh=>by unfold nj;rw[h];rfl
 let bL:∀{o:ep},Br ae l o=M->nj ae l (qL fr.7) o=M:=λh=>by unfold nj;rw[h,Bool.or_true]
 let S:n<pB jt:=by obtain h|h:=lq n jt.size;exact h;rw[List.drop_eq_nil_of_le j4]at N;cases N
 have hj:j=n/\kj=(dA jt.size).drop (n+1):=by rw[BQ j4]at N;injection N with a b;exact⟨by simpa using a.y,b.y⟩
 let⟨rfl,bB⟩:=hj;refine XT hS h B hx hy λo p=>?_;unfold vi at q;split at q;rename_i V W P X Q o5 o6 o7 bu;obtain rfl:jt=#[V,W,P,X,Q,o5,o6,o7]:=by rw[<-bu]
 simp at q;let⟨⟨⟨⟨⟨p0,p1⟩,p5⟩,p6⟩,p7⟩,pt⟩:=q;unfold YH at pt;split at pt;rename_i s d x c d' s' cj q2 q3 q4;simp only[cQ]at pt;let⟨⟨⟨⟨⟨⟨⟨m1,m2⟩,m3⟩,m4⟩,O⟩,m6⟩,m7⟩,m8⟩:=pt;obtain rfl:d=d':=j4;obtain rfl:s=s':=j4;rw[Cg]at m6 m7 m8;split at m1;rename_i f a b e g c1 c2 c3 c4;simp at m1;let⟨⟨⟨rfl,rfl⟩,aQ⟩,b8⟩:=m1;let bz:∃fn,ae.2[f]? =Z fn/\fn.1= "internal/abi.NoEscape" :=j4;let⟨bV,args,bT⟩:=c;simp only at c1 c2;subst c1;obtain rfl:args=#[.tmp a]:=by rw[<-c2]
 split at O;rename_i t D C;simp at O;let⟨bH,cg⟩:=O;have H:∃i,ae.info? t=Z i/\i.3≠0:=j4;obtain⟨i,H,T⟩:=H;have ht:=XN bH;match j,p with
 |0,p=>obtain rfl:V=o:=j4;exact norm<|L<|AW p0
 |1,p=>obtain rfl:W=o:=j4;exact norm<|L<|AW p1
 |2,p=>
  obtain rfl:P=o:=j4;refine⟨λ_=>by rw[q2];rfl,λ_=>?_⟩;let ex:∀z:lU->aB,a7 z P=(do pure (.value<|<-convert s d (z x))):=λz=>by rw[a7];rw[q2]
  rw[ex,ex,aJ x m4];generalize fr'.eval x=v;by_cases J:∃m,v=.pointer (Z m);obtain⟨m,rfl⟩:=J;let R:rv (.pointer<|Z m)=.pointer (Z<|ra m):=by simp[rv,eO]
  rw[R];obtain bD|⟨b,u1,bC,bA⟩:=agH D C ht H T hS;exact OJ A E G bD hS h B;obtain⟨bX,s1⟩:=RU bC;rw[s1];obtain⟨t1,t2,t3⟩:=TV hx (.pointer<|Z b);refine IX (az (P1 (t2.E bw) (by rw[t1,bB];rfl) U U m7 m8 q3 c4 q4 aQ bz D C H T ?_));let he:(ns fr<|.pointer<|Z b).eval (.tmp a)=(ns fr<|.pointer<|Z b).2.getD a y:=U;rw[he,t3];let bn:(#[V,W,P,X,Q,o5,o6,o7][2]?).bind (·.dst)=Z a:=c3;rw[bn];rcases Uv fr.2 a (.pointer<|Z b)with g|g;exact aA ⟨b,g,bA⟩;exact az g;exact Bh A E G (K:=λ_=>False) (fH (Yl D C λm e=>J ⟨m,e⟩).1) hS qi h B
 |3,p=>obtain rfl:X=o:=j4;refine norm<|bL ?_;rw[Br];rw[q3];simp;exact⟨U,aQ⟩
 |4,p=>
  obtain rfl:Q=o:=j4;refine⟨λ_=>by rw[q4];rfl,λ_=>?_⟩;let ex:∀z:lU->aB,a7 z Q=(do pure (.value<|<-convert d s (z<|.tmp e))):=λz=>by rw[a7];rw[q4]
  rw[ex,ex,aJ (.tmp e) U];generalize fr'.eval (.tmp e)=v;by_cases J:∃m,v=.pointer (Z m);obtain⟨m,rfl⟩:=J;let R:rv (.pointer<|Z m)=.pointer (Z<|ra m):=by simp[rv,eO]
  rw[R]
  exact OJ A E G (by
        refine XI hS<|SA.congr (LU D C _) (LU D C _)<|((Ym m).at hS qi).bind hS λb u1 w1 _ hm=>?_;by_cases S:NP u1 (aL b.1);exact(ahD ht U).at hm.1 λr hr=>hr▸S;exact λes _=>aA (P8 H T<|ahm S)) hS h B
  exact Bh A E G (K:=λ_=>False) (fH (Yl D C λm e=>J ⟨m,e⟩).2) hS qi h B
 |5,p=>obtain rfl:o5=o:=j4;exact norm<|L<|AW p5
 |6,p=>obtain rfl:o6=o:=j4;exact norm<|L<|AW p6
 |7,p=>
  obtain rfl:o7=o:=by simpa using p
  exact norm<|L<|AW p7
 |n+8,p=>simp at p
 cases O;cases m1;cases pt;cases q
def VS(b:ae.info? t=Z i)(c:¬t<pB ae.types):i.10=#[]:=by
 rw[KJ]at b;rw[aI c]at b;rw[Fy]at b;rw[show(100:Nat)=99+1 from U]at b;unfold Qz at b;rw[aI c]at b;let⟨d,_,a⟩:=eY.1 b;unfold QA at a;cases d with
 |pointer e=>let⟨j,_,a⟩:=eY.1 a;split at a;cases a;split at a;cases a;let⟨s,_,a⟩:=eY.1 a;cases a;rfl;let⟨s,_,a⟩:=eY.1 a;cases a;rfl
 |slice e=>let⟨j,_,a⟩:=eY.1 a;let⟨s,_,a⟩:=eY.1 a;cases a;rfl
 |map k e=>let⟨j,_,a⟩:=eY.1 a;let⟨s,_,a⟩:=eY.1 a;let⟨j,_,a⟩:=eY.1 a;let⟨s,_,a⟩:=eY.1 a;cases a;rfl
 |chan f e=>let⟨j,_,a⟩:=eY.1 a;let⟨s,_,a⟩:=eY.1 a;cases a;rfl
 |func h l v=>let⟨s,_,a⟩:=eY.1 a;cases a;rfl
 |array n e=>let⟨j,_,a⟩:=eY.1 a;let⟨s,_,a⟩:=eY.1 a;cases a;rfl
 |struct g=>unfold QB at a;let⟨s,_,a⟩:=eY.1 a;grind
 |_=>cases a
def adJ(hl:∀f,l.contains f=M->an.ok f)(name:String)(h:uY ae l name=M):CV name:=by
 intro t i m b c;by_cases e:t<pB ae.types;rw[KJ]at b;rw[aO e]at b;have:=nA.1 h t (nD.2 e);simp only[b,c,cQ,mL]at this;let⟨⟨g,a⟩,j⟩:=this;let⟨d,n,o⟩:=zk j aM;split at a;rename_i f p k;simp only[cQ]at a;cases d<;>first|exact⟨f,_,by simpa using g,by rw[k,a.1],hl f a.2,n⟩|cases o
 cases a;rw[VS b e]at c;simp at c
def aem(h:∀b,uY ae [] (mn b)=M):Ae:=by
 intro t i a b;cases d:i.10.find? (·.name==mn b)with
 |none=>rfl
 |some m=>by_cases c:t<pB ae.types;rw[KJ]at a;rw[aO c]at a;have:=nA.1 (h b) t (nD.2 c);grind;rw[VS a c]at d;simp at d
def tD(v:aB):Prop:=∀g:Sg,@rv _ g v=v
def AY:Nat->aB->Bool
 |_,.bool _|_,.int _ _|_,.string _|_,.pointer aj|_,.slice aj _ _|_,.map aj|_,.chan aj|_,.nilFunc|_,.nilIface=>M
 |n+1,ν a=>a.all (AY n)|n+1,θ a=>a.all (AY n)|_,_=>aa
def Sd(h:∀v∈xs,tD v)(g:Sg):xs.map (@rv _ g)=xs:=(uf λv hv=>h v hv g).E (xO xs)
def Gm(h:∀v∈xs,tD v):tD (ν xs):=λg=>by rw[rv,Sd h]
def yA:∀{n:Nat} {v:aB},AY n v=M->tD v:=by
 intro n;induction n with
 |zero=>intro v h g;unfold AY at h;split at h<;>first|(simp only[rv,iA];done)|cases h|contradiction
 |succ n a=>
  intro v h;unfold AY at h;split at h;all_goals first
   |(intro g;simp only[rv,iA];done)|(rename_i e;cases e;exact Gm λv hv=>a (ud.1 h v hv))|(rename_i e;cases e;exact(λg=>by rw[rv,Sd<|λv hv=>a (ud.1 h v hv)]))|cases h
def Se(h:tD v):∀x∈v.cells,tD x:=λx a g=>by
 have e:=h g;cases v with
 |agg c=>rw[rv]at e;injection e with e;let⟨i,b⟩:=JE.1 a;have:=cG (·[i]?) e;simp at this;rw[show c[i]? =Z x from b]at this;exact ey this
 |_=>(have a:=Array.mem_singleton.1 a;subst a;exact e)
def yx(i:jE):Prop:=∀z,i.8=Z z->tD z
def Bv(d:jD)(s:String)(c n){z}(h:tD z):yx (Made.word d s z c n):=λa e=>by cases e;exact h
def Un{aL:Type}{Inv:aL->Prop}{f}(hf:∀a s r,Inv s->f a s=Z r->Inv r.value):∀(xs:av g) (s r:aL),Inv s->forIn xs s f=Z r->Inv r
 |[],s,r,c,h=>by simp[List.forIn_nil]at h;cases h;exact c
 |a::xs,s,r,c,h=>by
  rw[A9]at h;let⟨x,e,d⟩:=eY.1 h;have:=hf a s x c e;cases x with
  |done b=>cases d;exact this
  |yield b=>exact Un hf xs b r this d
def aiL{k:aY->aV jE}{f:aF Field}(m:∀t j,k t=Z j->yx j)(h:QB k f=Z i):yx i:=by
 rw[QB]at h;let⟨s,g,h⟩:=eY.1 h;rw[<-Zn]at g;have o:=Un (Inv:=λs=>∀d:aF aB,s.2.2.2.2.2.2.2.1=Z d->∀v∈d,tD v) (λa s r hI b=>?_) f.1 _ s (λd e v hv=>by cases e;simp at hv) g
 ·dsimp only at h;split at h;all_goals
   cases h;intro z e;obtain⟨d,b,rfl⟩:=gJ.1 e;exact Gm<|o d b
 let⟨j,n,b⟩:=eY.1 b;let fin:∀{c:Nat} {d:aF aB},(if c>Made.mostCells then aj else do pure ((<-s.2.2.2.2.2.2.2.1)++(<-j.8).cells))=Z d->∀v∈d,tD v:=λ{c d} e v hv=>by split at e;cases e;let⟨q,h0,e⟩:=eY.1 e;let⟨u,l,e⟩:=eY.1 e;cases e;obtain hv|hv:=vE.1 hv;exact hI q h0 v hv;exact Se (m _ _ n u l) v hv
 dsimp only at b;split at b;cases b;split at b;cases b;split at b;let⟨p,_,b⟩:=eY.1 b;split at b<;>(cases b;exact λd e=>fin e);let⟨p,_,b⟩:=eY.1 b;split at b<;>(cases b;exact λd e=>fin e)
def afR{c:aY->aV jE}(b:∀t j,c t=Z j->yx j){d:jD}(h:QA c d=Z i):yx i:=by
 unfold QA at h;cases d with
 |pointer e=>let⟨j,_,h⟩:=eY.1 h;split at h;cases h;split at h;cases h;let⟨s,_,h⟩:=eY.1 h;cases h;exact Bv _ _ _ _<|yA (n:=0) U;let⟨s,_,h⟩:=eY.1 h;cases h;exact Nd
 |slice e=>let⟨j,_,h⟩:=eY.1 h;let⟨s,_,h⟩:=eY.1 h;cases h;exact Nd
 |map k e=>let⟨j,_,h⟩:=eY.1 h;let⟨s,_,h⟩:=eY.1 h;let⟨j,_,h⟩:=eY.1 h;let⟨s,_,h⟩:=eY.1 h;cases h;exact Nd
 |chan m e=>let⟨j,_,h⟩:=eY.1 h;let⟨s,_,h⟩:=eY.1 h;cases h;exact Nd
 |func p q v=>let⟨s,_,h⟩:=eY.1 h;cases h;exact Nd
 |array n e=>
  let⟨j,f,h⟩:=eY.1 h;let⟨s,_,h⟩:=eY.1 h;cases h;intro z a;dsimp only at a;split at a;cases a;split at a;cases a;exact Gm λv hv=>by simp at hv
  obtain⟨l,h0,rfl⟩:=gJ.1 a;refine Gm λv hv=>?_;obtain⟨x,g,hv⟩:=Array.mem_flatten.1 hv;obtain rfl:=Array.eq_of_mem_replicate g;exact Se (b _ _ f l h0) v hv
 |struct o=>exact aiL b h
 |_=>cases h
def PT(P:bM):Bool:=P.types.all λi=>match i.8 with|some z=>AY 16 z|none=>M
def akG(h:PT ae=M)(g:Sg):@Zs _ g:=by
 let c:∀{t:aY} {i:jE},ae.types[t]? =Z i->yx i:=λ{t i} k z b=>by have:=ud.1 h i (vF k);rw[b]at this;exact yA this
 let m:∀(n:Nat) (t:aY) (i:jE),Qz ae.1 n t=Z i->yx i:=by
  intro n;induction n with
  |zero=>intro t i h;cases h
  |succ n l=>intro t i h;rw[Qz]at h;split at h;exact c h;let⟨d,_,e⟩:=eY.1 h;exact afR (λt j f=>l t j f) e
 intro t i z a b;rw[KJ]at a;split at a;exact c a z b g;exact m _ _ _ a z b g
open Go.RowKit
def ul(R:Nat->Prop)(J:b->aq->Prop):Prop:=∀s W a row,J s W->W.grownBy a row->(∀r,row=Z r->R r)->J s a
variable{s:b}
def ul.put{J}(h:ul R J){W}(a:J s W){l}(hl:R l)(o):J s (W.putObj l o):=h s W _ (Z l) a (grownBy_putObj' W l o) (λr e=>by cases e;exact hl)
def ul.new{J}(h:ul R J){W}(a:J s W)(o):J s (lL W o):=h s W _ aj a (World.grownBy_alloc W o aj) (λr e=>by cases e)
def Fd(f:Fence)(n:Nat)(P:bM)(g:Nat)(lb:aF aB)(encs:c->aF aB)(R:Nat->Prop)(Kp:aq->aq->Prop)(V:av c->Prop)(S Sp:av c->aq->Prop)(W:aq):Prop:=
 ∀(l:Nat) (J d:av c->aq->Prop),ul R J->ul R d->
  (∀ko x b,J ko b->V (ko++[x])->YieldAt f (n-1) P l (encs x) b λe a=>(e=aG (.bool M)/\J (ko++[x]) a/\Kp b a)\/(e=aG (.bool aa)/\d (ko++[x]) a/\Kp b a))->
  J [] W->
  CallsIn f n P g (#[.func (.yield l) #[] #[]]++lb) W λe a=>(∃v,e=aG v)/\((∃h,S h a/\J h a)\/(∃ko,Sp ko a/\d ko a))
def Ld(B:Nat)(W a:aq):Prop:=a.1[B]? =W.1[B]? /\a.1[B+1]? =W.1[B+1]?
def yk(B:Nat)(Kp:aq->aq->Prop)(c:av b->aq->Prop)(d:av b->aq->Prop)(xs:av b)(W:aq):xl->eQ->aq->Prop
 |.normal,_,a=>Ld B W a/\Kp W a/\c xs a|.ret,_,a=>Ld B W a/\Kp W a/\d xs a|_,_,_=>False
def Ba{g ps assign body Q a}(bg:li.4=aj)(h1:1<=n){gf:Nat}{lb:aF aB}(hg:a.eval g=.func (.func gf) #[] lb)(aD:li.1 gf)(eg:∀args w,(ie gf args).run P w=.ok (.enter gf args) w){encs:c->aF aB}(aW:∀x,pB (encs x)=pB ps){Kp:aq->aq->Prop}{V:av c->Prop}{S Sp:av c->aq->Prop}(bh:∀W,w.grownBy W aj->Fd li (n-1) P gf lb encs R Kp V S Sp W)(hR:∀r,R r->r<pB w.1)(hKt:∀{A B C:aq},Kp A B->Kp B C->Kp A C)(hKb:∀(W:aq) (o:Obj),Kp W<|W.putObj (pB w.1+1) o)(hS:ul (λr=>pB w.1<=r) S)(hSp:ul (λr=>pB w.1<=r) Sp)(f E:av c->aq->Prop)(hI:ul (λr=>R r\/r=pB w.1+1) f)(hIx:ul (λr=>R r\/r=pB w.1+1) E)(h0:f [] w)(G:c->eQ->aq->Prop)(hAx:∀x,ul (λr=>R r\/r=pB w.1+1)<|G x)(aE:∀(l:Nat) (ko:av c) (x:c) (W:aq) (K:eQ->aq->Prop),f ko W->V (ko++[x])->pB w.1+2<=pB W.1->(∀i q,Ld w.1.size W q->Kp W q->f ko q->G x i q->K i q)->
   assign.wpIn (li.inRound l) (n-1-1) P (Exit.then K<|λ_ _ _=>False) {tmps:=(ps.zip<|encs x).foldl (λt (p,v)=>mP t p v) a.1,defers:=[]} W) (aJ:∀(l:Nat) (ko:av c) (x:c) (i:eQ) (W:aq),f ko W->G x i W->V (ko++[x])->pB w.1+2<=pB W.1->body.wpIn (li.inRound l) (n-1-1) P (yk w.1.size Kp f E (ko++[x]) W) i W) (aL:∀(xs:av c) (W:aq),S xs W->f xs W->W.1[pB w.1]? =Z (.deferred<|Z [])->Q .normal {a with defers:={target:=.collected w.1.size,args:=#[]}::a.2} W) (bk:∀(ko:av c) (W:aq),Sp ko W->E ko W->W.1[pB w.1]? =Z (.deferred<|Z [])->Code.ret.wpIn li n P Q {a with defers:={target:=.collected w.1.size,args:=#[]}::a.2} W):
  (Code.rangeFunc g ps assign body).wpIn li n P Q a w:=by
 refine wpIn_rangeFunc λfn aN=>?_;rw[bg]
 let rc:LoopState->aV fu->Obj:=λst pe=>.loop {state:=st,pending:=pe,fn,tmps:=a.1,params:=ps,assign,body,defers:=pB w.1}
 let gr:w.grownBy ((lL w<|.deferred<|Z []).alloc<|rc .ready aj) aj:=⟨U,U,U,bV,λk h _=>(bj _ _ _ bV).E (bj _ _ _ h)⟩
 let aX:((lL w<|.deferred<|Z []).alloc<|rc .ready aj).1[pB w.1+1]? =Z (rc .ready aj):=by have:=H9 (lL w<|.deferred<|Z []) (rc .ready aj);rwa [World.size_alloc]at this
 let aK:((lL w<|.deferred<|Z []).alloc<|rc .ready aj).1[pB w.1]? =Z (.deferred<|Z []):=(bj _ _ _ ay).E (H9 w _)
 let kept:∀{A B:aq} {row:aV Nat} {k:Nat} {o:Obj},A.grownBy B row->(∀r,row=Z r->R r)->pB w.1<=k->A.1[k]? =Z o->B.1[k]? =Z o:=λd hr h ho=>(d.5 _ (bf.1 ho).1 (λe=>by have:=hR _ (hr _ e.y);omega)).E ho
 refine⟨pB w.1+1,[{target:=.collected w.1.size,args:=#[]}],(lL w<|.deferred<|Z []).alloc<|rc .ready aj,{target:=.fn (.func gf) lb,args:=#[.func (.yield<|pB w.1+1) #[] #[]]},(lL w<|.deferred<|Z []).alloc<|rc .ready aj,gf,
  #[.func (.yield<|pB w.1+1) #[] #[]]++lb,(lL w<|.deferred<|Z []).alloc<|rc .ready aj,run_enterLoop_outer _ _ _ _ _,?_,?_,?_,λ_=>h1,?_⟩
 ·simp[resolve,hg];simp[go_sem]
 intro f' N;simp[Target.leads]at N;subst N;exact aD
 ·simp[invoke,go_sem,eg]
 refine(bh _ gr (pB w.1+1)
  (λko W=>f ko W/\W.1[pB w.1+1]? =Z (rc .ready aj)/\W.1[pB w.1]? =Z (.deferred<|Z []))
  (λko W=>E ko W/\W.1[pB w.1+1]? =Z (rc .done<|Z .ret)/\W.1[pB w.1]? =Z (.deferred<|Z []))
  (λs A B row b d hr=>⟨hI s A B row b.1 d<|λr e=>aA (hr r e),kept d hr Y b.2.1,kept d hr (aR _) b.2.2⟩)
  (λs A B row b d hr=>⟨hIx s A B row b.1 d<|λr e=>aA (hr r e),kept d hr Y b.2.1,kept d hr (aR _) b.2.2⟩)
  ?_ ⟨hI.new (hI.new h0 _) _,aX,aK⟩).V ?_
 intro ko x W ⟨u,j,h⟩ hv;let bu:=(bf.1 j).1;refine⟨fn,_,assign,body,run_yield j<|aW x,roundIn_of_wpIn aN<|aE _ ko x W _ u hv Y λi H ak T aS aH=>?_⟩;let X:=ak.2.E j;let aT:=(bf.1 X).1;let MU:=ak.1.E h;refine⟨_,run_beginRound X U,?_⟩;let af:(H.putObj (pB w.1+1)<|rc .busy aj).1[pB w.1+1]? =Z (rc .busy aj):=QN aT;let O:(H.putObj (pB w.1+1)<|rc .busy aj).1[pB w.1]? =Z (.deferred<|Z []):=(gq Y).E MU;refine wpIn_mono (aJ _ ko x i (H.putObj (pB w.1+1)<|rc .busy aj) (hI.put aS (az U) _) ((hAx x).put aH (az U) _) hv bV) λe a3 W3 m=>?_;cases e with
 |normal=>let⟨D,L,J⟩:=m;let z:=D.2.E af;refine⟨_,_,run_endRound aj z,aA ⟨U,⟨hI.put J (az U) _,QN (bf.1 z).1,(gq Y).E<|D.1.E O⟩,hKt (hKt (hKt T<|hKb _ _) L)<|hKb _ _⟩⟩
 |ret=>let⟨D,L,J⟩:=m;let z:=D.2.E af;refine⟨_,_,run_endRound (Z .ret) z,az ⟨U,⟨hIx.put J (az U) _,QN (bf.1 z).1,(gq Y).E<|D.1.E O⟩,hKt (hKt (hKt T<|hKb _ _) L)<|hKb _ _⟩⟩
 |exit id=>exact m.e
 |goto t=>exact m.e
 |panic ch=>exact m.e
 |outgrown=>exact m.e
 rintro e W2 ⟨⟨v,rfl⟩,(⟨xs,b,u,j,h⟩|⟨ko,b,u,j,h⟩)⟩;exact⟨aj,_,run_endLoop j ay,aL xs _ (hS.put b (kJ _) _) (hI.put u (az U) _)<|(gq Y).E h⟩;exact⟨Z .ret,_,run_endLoop j ay,bk ko _ (hSp.put b (kJ _) _) (hIx.put u (az U) _)<|(gq Y).E h⟩
abbrev ut:=Nat->Nat->Prop
structure fW(S:Nat->Prop)(ρ:ut)(N:Nat)(g:Sg):Prop where
 to:∀a b,ρ a b->g.aL b=a
 of:∀b,g.aL b<N->ρ (g.aL b) b
 s:g.S=S
structure qO(ρ:ut)(N:Nat):Prop where
 one:∀a b c,ρ a b->ρ a c->b=c
 fn:∀a b c,ρ a c->ρ b c->a=b
 lt:∀a b,ρ a b->a<N
 low:∀a b,ρ a b->a<ae.globals.size->b<ae.globals.size
structure cX(S:Nat->Prop)(ρ:ut)(u w:aq):Prop where
 one:∀a b c,ρ a b->ρ a c->b=c
 fn:∀a b c,ρ a c->ρ b c->a=b
 dom:∀a b,ρ a b->a<u.1.size/\b<w.1.size
 low:∀a b,ρ a b->a<ae.globals.size->b<ae.globals.size
 has:∀b,S b->∃a,ρ a b
 np:∀a b,ρ a b->¬S b->NP u a
 xe:ae.globals.size<=u.1.size
 kZ:∀g:Sg,fW S ρ u.1.size g->@cW _ g ⟨u.1.size⟩ u w
def Ns(d:Nat->Nat)(S:Nat->Prop)(k:Bool)(inj:∀a b,d a=d b->a=b)(low:∀b,d b<pB ae.globals->b<pB ae.globals):∃g:Sg,g.aL=d/\g.S=S/\g.bad=k:=by
 classical
 exact⟨{aL:=d,S:=S,bad:=k,okf:=λf=>decide (an.ok f),lJ:=λl=>decide (il l.3/\ij l.6/\ij l.7/\∀c,l.2=Z c->ij c),okv:=λt=>decide (wL t),IZ:=λh=>mM h,hv:=λh=>lY h,hf:=λf=>decide_eq_true_iff,hl:=λl=>decide_eq_true_iff,inj:=λ{a b}=>inj a b,low:=low},U,U,U⟩
variable{ρ σ:ut}{g:Sg}
def NK(S:Nat->Prop)(h:qO ρ N)(k:Bool):∃g:Sg,fW S ρ N g/\g.bad=k/\∀b,(∃a,ρ a b)\/g.aL b=N+2*b+k.toNat:=by
 classical
 let⟨one,q,p,low⟩:=h;let c:Nat->Nat:=λb=>if h:∃a,ρ a b then h.choose else N+2*b+k.toNat
 have f:∀a b,ρ a b->c b=a:=λa b i=>by have e:∃a,ρ a b:=⟨a,i⟩;simp[c,e,wy];exact q _ _ _ e.choose_spec i
 have j:∀b,(∃a,ρ a b)\/c b=N+2*b+k.toNat:=λb=>by by_cases e:∃a,ρ a b;exact aA e;exact az (by simp[c,e,dif_neg,not_false_eq_true])
 have t:∀b,c b<N->ρ (c b) b:=λb n=>by rcases j b with⟨a,i⟩|e;rw[f a b i];exact i;omega
 clear_value c;have r:∀a b,c a=c b->a=b:=λa b e=>by obtain⟨x,d⟩|ea:=j a<;>obtain⟨o,m⟩|eb:=j b;rw[f x a d,f o b m]at e;subst e;exact one _ _ _ d m;have:=p x a d;rw[f x a d,eb]at e;omega;have:=p o b m;rw[f o b m,ea]at e;omega;omega
 let s:∀b,c b<pB ae.globals->b<pB ae.globals:=λb n=>by obtain⟨x,d⟩|e:=j b;rw[f x b d]at n;exact low x b d n;omega
 obtain⟨g,rfl,rfl,rfl⟩:=Ns c S k r s;exact⟨g,⟨f,t,U⟩,U,j⟩
def nk(S)(h:qO ρ N):∃g:Sg,fW S ρ N g:=(NK S h aa).imp λ_ h=>h.1
def cX.jU{S}(h:cX S ρ u w):qO ρ u.1.size:=⟨h.1,h.2,λa b k=>(h.3 a b k).1,h.4⟩
def fc(ρ:ut)(u w u1:aq):ut:=λa b=>ρ a b\/(pB u.1<=a/\a<pB u1.1/\b=pB w.1+(a-pB u.1))
def fW.less{S}(h:fW S (fc ρ u w u1) u1.1.size g)(f:pB u.1<=pB u1.1):fW S ρ u.1.size g:=⟨λa b c=>h.1 a b (aA c),λb d=>(h.2 b Y).e id λe=>by omega,h.s⟩
def cX.ahead{S}(a:cX S ρ u w)(h:fW S (fc ρ u w u1) u1.1.size g)(j:pB u.1<=pB u1.1):@cW _ g ⟨pB u1.1⟩ u w:=by obtain⟨b,c,k,d,e⟩:=a.8 g (h.less j);exact @cW.mk _ g ⟨pB u1.1⟩ u w b c (λi f=>⟨h.1 _ _<|az ⟨Y,f,Y⟩,λhS=>by rw[h.s]at hS;let⟨_,h⟩:=a.5 _ hS;have:=(a.3 _ _ h).2;omega⟩) d e
def cX.NJ{S}(d:cX S ρ u w):(∀a b c,fc ρ u w u1 a b->fc ρ u w u1 a c->b=c)/\(∀a b c,fc ρ u w u1 a c->fc ρ u w u1 b c->a=b)/\∀a b,fc ρ u w u1 a b->a<pB ae.globals->b<pB ae.globals:=by refine⟨?_,?_,?_⟩;rintro a b c (h|⟨e,f,rfl⟩) (k|⟨i,j,rfl⟩);exact d.1 _ _ _ h k;have:=(d.3 _ _ h).1;omega;have:=(d.3 _ _ k).1;omega;rfl;rintro a b c (h|⟨e,f,rfl⟩) (k|⟨i,j,m⟩);exact d.2 _ _ _ h k;have:=(d.3 _ _ h).2;omega;have:=(d.3 _ _ k).2;omega;omega;rintro a b (h|⟨e,f,rfl⟩) g;exact d.4 a b h g;have:=d.7;omega
def cX.after{S}(c:cX S ρ u w)(o:pB u.1<=pB u1.1)(n:pB u1.1+pB w.1=pB w1.1+pB u.1)(e:∀a b,fc ρ u w u1 a b->¬S b->NP u1 a)(hm:∀g:Sg,fW S (fc ρ u w u1) u1.1.size g->@cW _ g ⟨pB u1.1⟩ u1 w1):cX S (fc ρ u w u1) u1 w1:=by let⟨f,i,j⟩:=c.NJ (u1:=u1);refine⟨f,i,?_,j,λb d=>(c.5 b d).imp λ_=>aA,e,by have:=c.7;omega,hm⟩;rintro a b (h|⟨k,m,rfl⟩);have:=c.3 _ _ h;omega;omega
def Fs(l:av aZ)(S:Nat->Prop)(ρ:ut)(N:Nat)(fr:aP)(cs:av aP)(fr':aP)(cs':av aP):Prop:=∀g:Sg,fW S ρ N g->@cV _ g _ l fr fr'/\dx (@cV _ g _ l) cs cs'
structure tH(S:Nat->Prop)(ρ:ut)(u u1 w w1:aq):Prop where
 base:u.1.size<=u1.1.size
 xx:u1.1.size+w.1.size=w1.1.size+u.1.size
 cm:∀b,b<w.1.size->((∀a,¬ρ a b)\/S b)->w1.1[b]? =w.1[b]?
 lone:∀a,a<u.1.size->(∀b,¬ρ a b)->u1.1[a]? =u.1[a]?
 drawn:w1.3+u.3=w.3+u1.3
 rest:w1.os=w.os/\w1.output=w.output/\w1.2=w.2
def VG{S t}(c:fW S ρ u.1.size g)(h:@Mv _ g t u u1 w w1):tH S ρ u u1 w w1:=by let⟨m1,m2,k,m,n,q,r,o,p⟩:=h;refine⟨m,n,λb f h=>m2 b f λi=>?_,λa d j=>k a d λb e=>j b (e▸c.2 b (e▸d)),o,p⟩;obtain h|h:=h;cases h _ (c.2 b i);rw[c.s];exact h
def Gos(S:Nat->Prop)(ρ:ut)(N:Nat)(m b:bK->aq->aF gv->fD):Prop:=(m=(λg u e=>.go g u e)/\b=λg u e=>.go g u e)\/∃a c,m=(λg u e=>.comm g #[a] aa .select u e)/\b=(λg u e=>.comm g #[c] aa .select u e)/\c.2=aj/\∀g:Sg,fW S ρ N g->a=@rc _ g c
def adK(hT:ye l)(Ds:bl≠[])(ha:te bl)(T:te base){S}(C:cX S ρ u w)(h:Fs l S ρ u.1.size fr cs fr' cs')(bq:∀o v e,bi ae M (G fr<|cs++bl) u≠.ended o v e)(hA:∀g v e,bi ae M (G fr<|cs++bl) u=.go g v e->¬yg ae bl g v):
  ∃m j f d u1 A s p w1 r,bi ae M (G fr<|cs++bl) u=m (G f<|d++bl) u1 A/\bi ae km (G fr'<|cs'++base) w=j (G s<|p++base) w1 r/\Gos S (fc ρ u w u1) u1.1.size m j/\Fs l S (fc ρ u w u1) u1.1.size f d s p/\cX S (fc ρ u w u1) u1 w1/\tH S ρ u u1 w w1/\(∀e∈r,∀g:Sg,fW S (fc ρ u w u1) u1.1.size g->@Ev _ g ⟨pB u1.1⟩ e)/\Ls u (λτ=>bi ae M (G fr<|cs++bl) (u.tp τ)) (λx=>m (G f<|d++bl) x A) u1:=by
 have l0:∀(g:Sg) (t:Tp),@cW _ g t u w->@cV _ g _ l fr fr'/\dx (@cV _ g _ l) cs cs'->sz (bi ae M (G fr<|cs++bl) u)<=t.top->∃m j f d u1 A s p w1 r,@Kd _ g m j/\bi ae M (G fr<|cs++bl) u=m (G f<|d++bl) u1 A/\bi ae km (G fr'<|cs'++base) w=j (G s<|p++base) w1 r/\@cV _ g _ l f s/\dx (@cV _ g _ l) d p/\@Mv _ g t u u1 w w1/\(∀e∈r,@Ev _ g t e)/\Ls u (λτ=>bi ae M (G fr<|cs++bl) (u.tp τ)) (λx=>m (G f<|d++bl) x A) u1:=λg t hS V ht=>by obtain⟨o,v,e,h⟩|⟨g2,v,e,h,h2⟩|h:=ahj (km:=km) hT Ds ha T hS V.1 V.2 (λhm=>ahi hT ha T hS V.1 V.2 hm) ht;exact absurd h<|bq o v e;exact absurd h2<|hA _ _ _ h;exact h
 have B:pB u.1<=sz (bi ae M (G fr<|cs++bl) u):=by obtain bn|hge:=lq (sz<|bi ae M (G fr<|cs++bl) u) u.1.size;obtain⟨g,i⟩:=nk S C.jU;obtain⟨m,j,_,_,_,_,_,_,_,_,H,J,_,_,_,hm,_⟩:=l0 g ⟨pB u.1⟩ (C.8 g i) (h g i) (oI bn);rw[J,(@Kd.after _ g m j H #[]).2.2];exact @Mv.size _ g ⟨pB u.1⟩ _ _ _ _ hm;exact hge
 generalize hN:sz (bi ae M (G fr<|cs++bl) u)=N at l0 B;obtain⟨v,rfl⟩:∃v:aq,pB v.1=N:=⟨{u with heap:=oG N cC},ay⟩;obtain⟨o1,o2,o3⟩:=C.NJ (u1:=v);obtain⟨g0,MP⟩:=nk (N:=pB v.1) S ⟨o1,o2,λa b aH=>aH.e (λh=>cS (C.3 a b h).1 B) λh=>h.2.1,o3⟩;have run:=λ(g:Sg) (i:fW S (fc ρ u w v) v.1.size g)=>l0 g ⟨pB v.1⟩ (C.ahead i B) (h g<|i.less B) (aR _);obtain⟨m,j,f,d,u1,A,s,p,w1,r,H,J,aS,f1,f2,m1,ev,lo⟩:=run g0 MP;let hz:pB v.1=pB u1.1:=by rw[<-hN,J];exact(@Kd.after _ g0 m j H #[]).2.2 _ _ _
 let bp:fc ρ u w v=fc ρ u w u1:=by unfold fc;rw[hz]
 rw[bp,hz]at run MP;rw[hz]at m1 ev B
 let same:∀{g:Sg} {n z:bK->aq->aF gv->fD} {Q R:aP} {L O:av aP} {W X:aq} {e2 P:aF gv},@Kd _ g n z->m (G f<|d++bl) u1 A=n (G Q<|L++bl) W e2->j (G s<|p++base) w1 r=z (G R<|O++base) X P->(m=n/\j=z)/\(f=Q/\d=L/\u1=W)/\s=R/\p=O/\w1=X/\r=P:=by intro g n z Q R L O W X e2 P k q K;cases H<;>cases k;injection q with a b c;injection K with a' b' E;injection a with a1 a2;injection a' with ah aC;exact⟨⟨U,U⟩,⟨a1,BP a2,b⟩,ah,BP aC,b',E⟩;cases q;cases q;injection q with a x _ _ b c;injection K with a' x' _ _ b' E;injection a with a1 a2;injection a' with ah aC;exact⟨⟨by rw[x],by rw[x']⟩,⟨a1,BP a2,b⟩,ah,BP aC,b',E⟩
 let all:∀g:Sg,fW S (fc ρ u w u1) u1.1.size g->@Kd _ g m j/\(@cV _ g _ l f s/\dx (@cV _ g _ l) d p)/\@Mv _ g ⟨pB u1.1⟩ u u1 w w1/\∀e∈r,@Ev _ g ⟨pB u1.1⟩ e:=λg i=>by obtain⟨n,z,Q,L,W,e2,R,O,X,P,k,q,K,k3,k4,k5,k6,_⟩:=run g i;rw[J]at q;rw[aS]at K;obtain⟨⟨rfl,rfl⟩,⟨rfl,rfl,rfl⟩,rfl,rfl,rfl,rfl⟩:=same k q K;exact⟨k,⟨k3,k4⟩,k5,k6⟩
 refine⟨m,j,f,d,u1,A,s,p,w1,r,J,aS,?_,λg i=>(all g i).2.1,C.after B (@Mv.xx _ g0 ⟨pB u1.1⟩ _ _ _ _ m1) (λa b aH T=>aH.e (λh=>@Mv.np _ g0 ⟨pB u1.1⟩ _ _ _ _ m1 a (C.6 a b h T)) λh=>@Mv.fresh _ g0 ⟨pB u1.1⟩ _ _ _ _ m1 a h.1 h.2.1) λg i=>@Mv.kZ _ g ⟨pB u1.1⟩ _ _ _ _ (all g i).2.2.1,VG (MP.less B) m1,λe he g i=>(all g i).2.2.2 e he,lo⟩
 have aT:∀{g:Sg} {n z:bK->aq->aF gv->fD},@Kd _ g n z->(n=(λg u e=>.go g u e)/\z=λg u e=>.go g u e)\/∃c,c.2=aj/\n=(λg' u e=>.comm g' #[@rc _ g c] aa .select u e)/\z=λg u e=>.comm g #[c] aa .select u e:=λh=>by cases h;exact aA ⟨U,U⟩;rename_i c hc;exact az ⟨c,hc,U,U⟩
 obtain⟨rfl,rfl⟩|⟨c,hc,rfl,rfl⟩:=aT H;exact aA ⟨rfl,rfl⟩;refine az ⟨_,c,rfl,rfl,hc,λg i=>?_⟩;obtain⟨e,_⟩|⟨E,_,e,D⟩:=aT (all g i).1;have:=tA (tA (tA e<|G f d) u1) #[];cases this;have e:=tA (tA (tA e<|G f d) u1) #[];have D:=tA (tA (tA D<|G f d) u1) #[];injection e with _ e;injection D with _ D;have D:c=E:=j4
 subst D;simpa using e
inductive jl(P:bM)(km:Bool)(g:bK)(w:aq):bK->aq->aF MemAct->Prop
 |go {a:bK} {w1:aq} {es:aF gv} (h:bi P km g w=.go a w1 es):jl P km g w a w1 (es.map .ofEvent)
 |shut {fr:aP} {cs:av aP} {r:Nat} {z:aB} {w1:aq} {es:aF gv} {kh s rc:Nat} {tm:Bool} (h:bi P km g w=.comm (G fr cs) #[vq r z] aa .select w1 es) (hc:w1.1[r]? =Z (.chan kh #[] M s rc tm)):
   jl P km g w (G (ns fr (θ #[qI 0,.bool aa,z])) cs) w1 ((es.map .ofEvent).push (.recvClosed r))
 |sG {fr:aP} {cs:av aP} {r:Nat} {z:aB} {w1:aq} {es:aF gv} {kh s rc:Nat} {tm:Bool} (h:bi P km g w=.comm (G fr cs) #[vq r z] aa .select w1 es) (hc:w1.1[r]? =Z (.chan kh #[] aa s rc tm)):
   jl P km g w (G (ns fr (θ #[qI (-1),.bool aa,z])) cs) w1 (es.map .ofEvent)
 |sH {fr:aP} {cs:av aP} {z:aB} {w1:aq} {es:aF gv} (h:bi P km g w=.comm (G fr cs) #[rcaseNil z] aa .select w1 es):
   jl P km g w (G (ns fr (θ #[qI (-1),.bool aa,z])) cs) w1 (es.map .ofEvent)
def vu{g bW}(a:g.status=.running)(h:jl P M g w g1 w1 bW):step P (solo g w)=.next (solo g1 w1):=by
 cases h with
 |go h=>exact Rc a h
 |@shut fr cs r z w1 d kh s rc f h b=>have e:=partners_alone (c:=r) M;rw[step,FW a];simp[runT,solo,G,JG,JF,h,Qi,xZ,ways,vq,b,e,choose,ee,G0,bind,fK,pure,BH,Cp]at h⊢
 |@sG fr cs r z w1 d kh s rc f h b=>rw[step,FW a];simp[runT,solo,G,JG,JF,h,Qi,xZ,ways,vq,b,(partners_alone (c:=r) M),BH,Cp]at h⊢
 |@sH fr cs z w1 d h=>rw[step,FW a];simp[runT,solo,G,JG,JF,h,Qi,xZ,ways,rcaseNil,BH,Cp]at h⊢
def YD{gs i g sl bW}(c:gs[i]? =Z g)(n:∀(j:Nat) h,gs[j]? =Z h->h.status=.blocked->h.offers=aj)(h:jl P (i==0) g w g1 w1 bW):
  ∃f e,runT P (crowd gs w sl) i=(.next<|crowd (mP (gs.map f) i g1) w1 sl,e)/\(f=woken P g g1 w1\/f=id)/\e.map (·.act)=bW/\∀op∈e,op.g=i:=by
 have m:∀r,partners (mP gs i ph) r M=[]:=λr=>partners_nil λj x b=>by
  have p:x.status=.blocked->x.offers=aj:=by by_cases k:i=j;subst k;rw[Array.getElem?_setIfInBounds]at b;simp only[dN]at b;split at b;cases b;exact λ_=>U;cases b;rw[gn k]at b;exact n j x b
  unfold offersAt;grind
 have hm:∀(a:aF gv) (fn:aZ) (pos:String),(sZ i fn pos a).map (·.act)=a.map .ofEvent/\∀op∈sZ i fn pos a,op.g=i:=λa fn pos=>by exact⟨by rw[ofEvents_eq];simp[zx,ES],xT i fn pos a⟩
 cases h with
 |go h=>exact⟨_,_,runT_crowd_go c h,aA U,(hm _ _ _).1,(hm _ _ _).2⟩
 |@shut fr cs r z w1 a kh s rc o h d=>refine⟨id,sZ i g.frame.fn g.frame.place a++#[{g:=i,fn:=fr.fn,pos:=fr.place,act:=.recvClosed r}],?_,az U,?_,λop hop=>?_⟩;rw[KY c h,PV];simp[xZ,ways,vq,d,m,choose,ee,G0,bind,fK,pure,BH,Cp,G,crowd];rw[xN,(hm _ _ _).1];simp;rcases vE.1 hop with hop|hop;exact(hm _ _ _).2 op hop;simp at hop;subst hop;rfl
 |@sG fr cs r z w1 a kh s rc o h d=>refine⟨id,sZ i g.frame.fn g.frame.place a,?_,az U,(hm _ _ _).1,(hm _ _ _).2⟩;rw[KY c h,PV];simp[xZ,ways,vq,d,m,BH,Cp,G,crowd]
 |@sH fr cs z w1 a h=>refine⟨id,sZ i g.frame.fn g.frame.place a,?_,az U,(hm _ _ _).1,(hm _ _ _).2⟩;rw[KY c h,PV];simp[xZ,ways,rcaseNil,BH,Cp,G,crowd]
def aiJ{g c es}(b:g.3=.running)(h:bi P M g w=.comm g1 #[c] aa .select w1 es)(hc:Ct w1 c=M):∃o d,step P (solo g w)=.ended o d:=by
 refine⟨.stuck "a communication at a channel whose block is no channel's"<|g1.1.pos P,w1,?_⟩;rw[step,FW b,solo_eq_crowd,KY (i:=0) U h];show(xZ P _ _ 0 g1 #[c] aa .select w1).1=_;rw[xZ];have a:(#[c].any<|Ct w1)=M:=by simp[hc]
 show(if(#[c].any<|Ct w1)=M then _ else _:Stepped×aF MemOp).1=_;rw[aO a]
def Eo(S:Nat->Prop)(ρ:ut)(e:gv):Prop:=match e.1 with
 |.cell a=>(∃x,ρ x a.1)/\¬S a.1|.obj r=>(∃x,ρ x r)/\¬S r|.mark .noRoom|.mark (.extern _)|.output=>True
 |_=>False
def Ow(S:Nat->Prop)(ρ:ut)(a:MemAct):Prop:=(∃e,a=.ofEvent e/\Eo S ρ e)\/∃r,a=.recvClosed r/\(∃x,ρ x r)/\¬S r
def Eo.of{S:Nat->Prop}(c:fW S ρ N g){e}(this:@Ev _ g ⟨N⟩ e):Eo S ρ e:=by let⟨d,x,f⟩:=e;unfold Ev at this;rw[Eo];let k:∀b,g.aL b<N/\¬g.S b->(∃x,ρ x b)/\¬S b:=λb a=>⟨⟨_,c.2 b a.1⟩,by rw[<-c.s];exact a.2⟩;grind
def Ow.of{S:Nat->Prop}{es:aF gv}(d:fW S ρ N g)(h:∀e∈es,@Ev _ g ⟨N⟩ e):∀a∈es.map dW,Ow S ρ a:=λa b=>by obtain⟨e,c,rfl⟩:=rC.1 b;exact aA ⟨e,U,.of d<|h e c⟩
def Fs.sel{S:Nat->Prop}(h:Fs l S ρ N fr cs fr' cs'){z z'}(b:∀g:Sg,fW S ρ N g->z=@rv _ g z')(n):Fs l S ρ N (ns fr<|θ #[qI n,.bool aa,z]) cs (ns fr'<|θ #[qI n,.bool aa,z']) cs':=λg a=>by letI:Tp:=⟨0⟩;have:=(h g a).1.finish (θ #[qI n,.bool aa,z']);rw[show @rv _ g (θ #[qI n,.bool aa,z'])=θ #[qI n,.bool aa,z] by simp[rv,qI,b g a]]at this;exact⟨this,(h g a).2⟩
def Wc{S:Nat->Prop}(hT:ye l)(Ds:bl≠[])(B:te bl)(T:te base)(hw:cX S ρ u w)(h:Fs l S ρ u.1.size fr cs fr' cs'){m}(d:step ae (lone fr (cs++bl) u)=.next m)(km):
  (∃X u1,m=solo X u1/\yg ae bl X u1)\/∃A j u1 E p w1 W,m=lone A (j++bl) u1/\jl ae km (G fr'<|cs'++base) w (G E<|p++base) w1 W/\Fs l S (fc ρ u w u1) u1.1.size A j E p/\cX S (fc ρ u w u1) u1 w1/\tH S ρ u u1 w w1/\(∀a∈W,Ow S (fc ρ u w u1) a)/\
   qM u u1/\∀f,tC f u.2 u.3 u1.3->step ae (lone fr (cs++bl)<|u.tp f)=.next (lone A (j++bl)<|u1.tp f):=by
 rw[lone_eq_solo]at d
 by_cases i:∃g v e,bi ae M (G fr<|cs++bl) u=.go g v e/\yg ae bl g v
 ·let⟨g,v,e,O,Q⟩:=i;rw[vu U<|.go O]at d;cases d;exact aA ⟨g,v,U,Q⟩
 have aT:∀o v e,bi ae M (G fr<|cs++bl) u≠.ended o v e:=λo v e q=>by let⟨g,_⟩:=nk S hw.jU;letI:Tp:=⟨0⟩;rw[Jl U q]at d;cases d
 let⟨m1,m',A,j,u1,e0,E,p,w1,es,q,J,aQ,H,x,K,aN,n⟩:=adK (km:=km) hT Ds B T hw h aT λg v e O Q=>i ⟨g,v,e,O,Q⟩;let⟨g,k⟩:=nk S x.jU;have own:=Ow.of k λe he=>aN e he g k;rcases aQ with⟨rfl,rfl⟩|⟨N,c,rfl,rfl,hc,aC⟩;rw[vu rfl<|.go q]at d;cases d;exact az ⟨A,j,u1,E,p,w1,_,rfl,.go J,H,x,K,own,n.1,λf i=>vu U (.go<|n.2 f i)⟩;have V:∀g:Sg,fW S (fc ρ u w u1) u1.1.size g->N.3=@rv _ g c.3:=λg k=>by rw[aC g k];rfl
 have L:Ct u1 N=M->False:=λaJ=>by let⟨o,u2,e⟩:=aiJ (P:=ae) U q aJ;rw[e]at d;cases d
 have ah:=aC g k;let⟨d1,d2,d3⟩:=c;simp only at hc;subst hc;let⟨c1,c2,D⟩:=N;simp[rc,iA,CommCase.mk.injEq]at ah;obtain⟨t,rfl,e3⟩:=ah;cases d1
 case chan r=>
  rcases r with _|r;simp[rv,iA]at t;subst t;rw[vu rfl<|.sH q]at d;cases d;exact az ⟨_,j,u1,_,p,w1,_,rfl,.sH J,H.sel V _,x,K,own,n.1,λf i=>vu U (.sH<|n.2 f i)⟩;simp only[rv,eO]at t;subst t;letI:Tp:=⟨pB u1.1⟩;rcases ho:u1.1[g.aL r]? with _|o;exact(L (by simp[Ct,ho])).e;cases o;case chan kh b cl s rc tm=>
   obtain⟨hl,R,aE,C,e,_⟩:=(x.8 g k).get ho p9;obtain⟨rfl,C⟩:b=#[]/\w1.1[r]? =Z (.chan kh #[] cl s rc tm):=by
    have hk:=yM (o:=aE) (by rw[<-e];intro e;cases e);rw[<-e]at hk;cases aE<;>first|cases hk|skip
    simp only[ro]at e;split at e;rename_i T;cases e;rw[zv T]at C;exact⟨U,C⟩;cases e
   have R:¬S r:=by rw[<-k.s];exact R
   cases cl with
   |true=>rw[vu U<|.shut (r:=g.aL r) (z:=D) q ho]at d;cases d;refine az ⟨_,j,u1,_,p,w1,_,U,.shut (r:=r) (z:=d3) J C,H.sel V _,x,K,λa B=>?_,n.1,λf i=>vu U (.shut (r:=g.aL r) (z:=D) (n.2 f i) ho)⟩;rcases Array.mem_push.1 B with B|rfl;exact own a B;exact az ⟨r,rfl,⟨_,k.2 r hl⟩,R⟩
   |false=>rw[vu U<|.sG (r:=g.aL r) (z:=D) q ho]at d;cases d;exact az ⟨_,j,u1,_,p,w1,_,U,.sG (r:=r) (z:=d3) J C,H.sel V _,x,K,own,n.1,λf i=>vu U (.sG (r:=g.aL r) (z:=D) (n.2 f i) ho)⟩
  all_goals exact(L (by simp[Ct,ho])).e
 all_goals (simp only[rv]at t;subst t;exact(L U).e)
structure sr(A:Nat->Prop)(g1 g2:Sg):Prop where
 bad:g1.bad≠g2.bad
 eq:∀b,g1.aL b=g2.aL b->A b
structure jO(A:Nat->Prop)(a:Sg->c)(x:c):Prop where
 of:∀g h:Sg,(∀b,A b->g.aL b=h.aL b)->a g=a h
 id:∀g:Sg,(∀b,A b->g.aL b=b)->a g=x
def jO.map{a:Type}{li x}(f:a->b)(h:jO A li x):jO A (λg=>f (li g)) (f x):=⟨λg k e=>cG f (h.1 g k e),λg e=>cG f (h.2 g e)⟩
def jO.two{d:Type}{li x G lm}(f:b->c->d)(h:jO A li x)(a:jO A G lm):jO A (λg=>f (li g) (G g)) (f x lm):=⟨λg k e=>by rw[h.1 g k e,a.1 g k e],λg e=>by rw[h.2 g e,a.2 g e]⟩
def Ay{a:Type}(x:a):jO A (λ_=>x) x:=⟨λ_ _ _=>U,λ_ _=>U⟩
variable{g1:Sg}
def Aw{g2:Sg}(T:sr A g1 g2){b}(e:g1.aL b=g2.aL b):jO A (λg=>g.aL b) b:=⟨λg h k=>k b (T.2 b e),λg k=>k b (T.2 b e)⟩
def Gy{g2:Sg}(T:sr A g1 g2)(e:@ra _ g1 a=@ra _ g2 a):jO A (λg=>@ra _ g a) a:=(Aw T<|cG Addr.block e).map λb=>{a with block:=b}
variable{a:Sg->b->b}
def Az{g2:Sg}{x:aF b}(c:∀v∈x,a g1 v=a g2 v->jO A (λg=>a g v) v)(e:x.map (a g1)=x.map (a g2)):jO A (λg=>x.map (a g)) x:=⟨λg h k=>uf λv hv=>(c v hv<|JD.1 e v hv).1 g h k,λg k=>(uf λv hv=>(c v hv<|JD.1 e v hv).2 g k).E (xO x)⟩
def SL{g2:Sg}{x:av b}(c:∀v∈x,a g1 v=a g2 v->jO A (λg=>a g v) v)(e:x.map (a g1)=x.map (a g2)):jO A (λg=>x.map (a g)) x:=⟨λg h k=>rN λv hv=>(c v hv<|B9.1 e v hv).1 g h k,λg k=>(rN λv hv=>(c v hv<|B9.1 e v hv).2 g k).E (List.map_id' x)⟩
def SM{g2:Sg}(T:sr A g1 g2){f}(e:@kG _ g1 f=@kG _ g2 f):jO A (λg=>@kG _ g f) f:=by
 have no:pB ae.2+g1.bad.toNat≠pB ae.2+g2.bad.toNat:=λe=>T.1 (by have e:=Nat.add_left_cancel e;generalize g1.bad=x at e;generalize g2.bad=a at e;cases x<;>cases a<;>first|rfl|cases e);cases f with
 |func f=>by_cases b:an.ok f;let k:∀g:Sg,g.okf f=M:=λg=>(g.hf f).2 b;simp only[kG,k,dN];exact Ay _;let k:∀g:Sg,g.okf f=aa:=λg=>EH.2 λh=>b ((g.hf f).1 h);simp only[kG,k,ff,dM,ZM]at e;cases no e
 |yield l=>simp only[kG,Fn.yield.injEq]at e⊢;exact(Aw T e).map Fn.yield
 |method n=>simp only[kG,Fn.method.injEq]at e;cases T.1 (by generalize g1.bad=x at e;generalize g2.bad=a at e;cases x<;>cases a<;>first|rfl|(revert e;decide))
 |_=>simp only[kG,ZM]at e;cases no e
def sC{g2:Sg}(T:sr A g1 g2):∀v:aB,@rv _ g1 v=@rv _ g2 v->jO A (λg=>@rv _ g v) v
 |.bool _,_|.int _ _,_|.float _ _,_|.complex _ _ _,_|.string _,_|.nilFunc,_|.nilIface,_|.pointer aj,_|.slice aj _ _,_|.map aj,_|.chan aj,_=>by simp[rv,iA];exact Ay _
 |.pointer (Z a),e=>by simp[rv,eO,xa,we]at e⊢;exact(Gy T e).map λa=>Co (Z a)|.slice (Z a) l c,e=>by simp[rv,eO,Value.slice.injEq,we,xY]at e⊢;exact(Gy T e).map λa=>fM (Z a) l c|.map (Z a),e=>by simp[rv,eO,Value.map.injEq,we]at e⊢;exact(Aw T e).map λa=>Value.map (Z a)|.chan (Z a),e=>by simp only[rv,eO,Value.chan.injEq,we]at e⊢;exact(Aw T e).map λa=>Value.chan (Z a)|.func f x b,e=>by simp only[rv,Value.func.injEq]at e⊢;exact(SM T e.1).two (λf (p:aF aB×aF aB)=>KL f p.1 p.2)<|(Az (λv _=>sC T v) e.2.1).two Prod.mk<|Az (λv _=>sC T v) e.2.2|.iface t v,e=>by simp only[rv,Value.iface.injEq,true_and]at e⊢;exact(sC T v e).map<|Value.iface t|ν x,e=>by simp only[rv,Value.agg.injEq]at e⊢;exact(Az (λv _=>sC T v) e).map Value.agg|θ x,e=>by simp only[rv,Value.tuple.injEq]at e⊢;exact(Az (λv _=>sC T v) e).map Value.tuple
variable{x:aF aB}
def Dg{g2:Sg}(T:sr A g1 g2)(e:x.map (@rv _ g1)=x.map (@rv _ g2)):jO A (λg=>x.map (@rv _ g)) x:=Az (λv _=>sC T v) e
def V6{g2:Sg}(T:sr A g1 g2){e}(h:@re _ g1 e=@re _ g2 e):jO A (λg=>@re _ g e) e:=(sC T _<|cG MapEntry.key h).two (λk v=>{e with key:=k,val:=v}) (sC T _<|cG MapEntry.val h)
def LS{g2:Sg}(T:sr A g1 g2)(i:@ro _ g1 o≠cC)(e:@ro _ g1 o=@ro _ g2 o):jO A (λg=>@ro _ g o) o:=by
 cases o with
 |cells c t f=>simp only[ro,Obj.cells.injEq,xY]at e⊢;exact(Dg T e).map λc=>QG c t f
 |map p k=>simp only[ro,Obj.map.injEq,xY]at e⊢;exact(Az (λ_ _=>V6 T) e).map λc=>Obj.map c k
 |chan kh b cl s r t=>simp only[ro]at i⊢;split at i;rename_i n;obtain rfl:=zv n;simp;exact Ay _;cases i U
 |loop l=>
  let k:∀g h:Sg,g.lJ l=h.lJ l:=λg h=>by rw[sR,g.hl,h.hl]
  simp only[ro]at i e;split at i;rename_i j;let m:∀g:Sg,g.lJ l=M:=λg=>(k g g1).E j;simp only[ro,m,dN,Obj.loop.injEq]at e⊢;exact(Dg T<|cG Loop.tmps e).two (λx d=>Obj.loop {l with tmps:=x,defers:=d})<|Aw T<|cG Loop.defers e;cases i U
 |deferred d=>
  obtain _|x:=d;simp only[ro];exact Ay _;cases x with
  |nil=>simp only[ro];exact Ay _
  |cons=>cases i U
 |number a l=>simp only[ro,Obj.number.injEq,xY]at e⊢;exact(Gy T e).map λa=>Obj.number a l
 |view a t=>simp only[ro,Obj.view.injEq,xY]at e⊢;exact(Gy T e).map λa=>Obj.view a t
 |_=>cases i U
def V5{g2:Sg}(T:sr A g1 g2){d:rJ}(h:@gX _ g1 d=@gX _ g2 d):jO A (λg=>@gX _ g d) d:=by
 let⟨t,x⟩:=d;simp only[gX,Deferred.mk.injEq]at h⊢;refine jO.two Deferred.mk ?_<|Dg T h.2;replace h:=h.1;cases t with
 |fn f c=>simp only[rt,Target.fn.injEq]at h⊢;exact(SM T h.1).two Target.fn<|Dg T h.2
 |collected r=>simp[rt,akH]at h⊢;exact(Aw T h).map Target.collected
 |_=>simp[rt];exact Ay _
def ut.le(ρ σ:ut):Prop:=∀a b,ρ a b->σ a b
def ut.le_refl(ρ:ut):ρ.le ρ:=λ_ _ h=>h
def ut.le_trans{c:ut}(h:ρ.le σ)(k:σ.le c):ρ.le c:=λa b x=>k a b (h a b x)
def ut.im(ρ:ut):Nat->Prop:=λb=>∃a,ρ a b
def gu(A:Nat->Prop):ut:=λa b=>a=b/\A b
def Vq{B}(h:∀b,A b->B b):(gu A).le (gu B):=λa b c=>⟨c.1,h b c.2⟩
def Ag(ρ:ut)(g:Sg):Prop:=∀a b,ρ a b->g.aL b=a
def Ag.V(h:ρ.le σ)(k:Ag σ g):Ag ρ g:=λa b c=>k a b (h a b c)
def VR(ρ:ut)(v a:aB):Prop:=∀g:Sg,Ag ρ g->v=@rv _ g a
def mV(ρ:ut)(x a:aF aB):Prop:=∀g:Sg,Ag ρ g->x=a.map (@rv _ g)
def OR(ρ:ut)(o a:Obj):Prop:=o≠cC/\∀g:Sg,Ag ρ g->o=@ro _ g a/\@fo _ g a=M
def VR.V(h:ρ.le σ)(k:VR ρ v v'):VR σ v v':=λg a=>k g (a.V h)
def OR.V(k:OR ρ o o')(h:ρ.le σ):OR σ o o':=⟨k.1,λg a=>k.2 g (a.V h)⟩
def EA(ρ):VR ρ y y:=λg _=>by simp[y,rv]
def VR.int(k:vK)(n):VR ρ (.int k n) (.int k n):=λ_ _=>by simp[rv]
def VR.string(b):VR ρ (.string b) (.string b):=λ_ _=>by simp[rv]
def VR.ptr{a}(h:ρ a.1 a.1):VR ρ (.pointer<|Z a) (.pointer<|Z a):=λg b=>by simp[rv,ra,eO,b _ _ h]
def PL(h:∀v∈x,VR ρ v v):mV ρ x x:=λg a=>(xO x).y.E (uf λv hv=>h v hv g a)
def mV.mem(h:mV ρ x x)(hv:v∈x):VR ρ v v:=λg a=>(JD.1<|(xO x).E<|h g a) v hv
def DX{x}(h:∀v∈x,VR ρ v v)(t)(f:Nat×Nat):OR ρ (au x t f) (au x t f):=⟨p9,λg a=>⟨cG (QG · t f)<|PL h g a,U⟩⟩
def Il(S)(h:qO ρ N):∃a g2:Sg,fW S ρ N a/\fW S ρ N g2/\sr ρ.im a g2:=by let⟨a,g,b1,d⟩:=NK S h aa;let⟨g2,i,c,f⟩:=NK S h M;refine⟨a,g2,g,i,by rw[b1,c];simp,λb e=>?_⟩;obtain h|h:=d b;exact h;obtain h'|h':=f b;exact h';rw[h,h']at e;simp at e
def VR.of(S)(h:qO ρ N)(k:∀g,fW S ρ N g->v=@rv _ g v'):VR ρ v v':=λg f=>by let⟨c,g2,d,i,T⟩:=Il S h;rw[k c d];exact(sC T v'<|(k c d).y.E<|k g2 i).1 c g λb ⟨a,e⟩=>(d.1 a b e).E (f a b e).y
def Uk(g h:Sg)(o):@fo _ g o=@fo _ h o:=by cases o<;>simp[fo];rw[sR];exact⟨λe=>h.hv (g.IZ e),λe=>g.hv (h.IZ e)⟩
def OR.of(S)(h:qO ρ N)(f:o≠cC)(k:∀g,fW S ρ N g->o=@ro _ g o'/\@fo _ g o'=M):OR ρ o o':=⟨f,λg i=>by let⟨c,g2,d,j,T⟩:=Il S h;rw[Uk g c,(k c d).1];exact⟨(LS T ((k c d).1▸f)<|(k c d).1.y.E (k g2 j).1).1 c g λb ⟨a,e⟩=>(d.1 a b e).E (i a b e).y,(k c d).2⟩⟩
def OR.right(h:qO ρ N)(k:OR ρ o o'):OR (gu ρ.im) o' o':=by let⟨c,g2,j,l,T⟩:=Il (λ_=>False) h;have a:=k.2 c j.1;let d:=k.2 g2 l.1;refine⟨λe=>?_,λg i=>⟨((LS T (a.1▸k.1)<|a.1.y.E d.1).2 g λb f=>i b b ⟨U,f⟩).y,(Uk g c o').E a.2⟩⟩;rw[e]at a;exact k.1 a.1
def Vr:∃a g2:Sg,(∀b,a.aL b=b)/\(∀b,g2.aL b=b)/\sr (λ_=>True) a g2:=by let⟨g,e,_,f⟩:=Ns id (λ_=>False) aa (λ_ _=>id) λ_=>id;let⟨h,c,_,d⟩:=Ns id (λ_=>False) M (λ_ _=>id) λ_=>id;exact⟨g,h,λ_=>by rw[e];rfl,λ_=>by rw[c];rfl,⟨by rw[f,d];decide,λ_ _=>trivial⟩⟩
def Ag.id(d:∀a b,ρ a b->a=b)(h:∀b,g.aL b=b):Ag ρ g:=λa b c=>(h b).E (d a b c).y
def VR.eq(e:∀a b,ρ a b->a=b)(k:VR ρ v v'):v=v':=by let⟨d,g2,f,g,T⟩:=Vr;let c:=k d (.id e f);exact c.E<|(sC T v'<|c.y.E<|k g2<|.id e g).2 d λb _=>f b
def OR.eq(e:∀a b,ρ a b->a=b)(k:OR ρ o o'):o'=o:=by let⟨d,g2,f,g,T⟩:=Vr;let c:=(k.2 d<|.id e f).1;exact(c.E<|(LS T (c▸k.1)<|c.y.E (k.2 g2<|.id e g).1).2 d λb _=>f b).y
def cX.os{S:Nat->Prop}(h:cX S ρ u w):w.4=u.4:=by let⟨g,a⟩:=nk S h.jU;exact @cW.os _ g ⟨_⟩ _ _<|h.8 g a
def cX.calm{S:Nat->Prop}(h:cX S ρ u w){b}(e:S b):CT w.1[b]? :=by let⟨g,c⟩:=nk S h.jU;let⟨a,d⟩:=h.5 b e;exact(@cW.qX _ g ⟨_⟩ _ _ (h.8 g c) b W5 (by rw[c.s];exact e)).2
def cX.be{S:Nat->Prop}(h:cX S ρ u w)(e:u1.1=u.1)(z:pB w.1<=pB w1.1)(k:∀a b,ρ a b->¬S b->w1.1[b]? =w.1[b]?)(c:∀b,S b->CT w1.1[b]?)(t:∀i q,w1.2 (w1.3+i) q=u1.2 (u1.3+i) q)(o:w1.4=u1.4):cX S ρ u1 w1:=by let⟨r,v,j,x,B,C,D,E⟩:=h;refine⟨r,v,λa b l=>⟨e▸(j a b l).1,cS (j a b l).2 z⟩,x,B,by unfold NP;rw[e];exact C,by rw[e];exact D,λg f=>?_⟩;rw[e]at f⊢;obtain⟨G,H,_,_,_⟩:=E g f;exact @cW.mk _ g ⟨_⟩ _ _ (λb d n=>by rw[e]at d⊢;rw[k _ b (f.2 b d) (f.s▸n)];exact G b d n) (λb d p=>by rw[e]at d⊢;exact⟨(H b d p).1,c b (f.s▸p)⟩) (λi m=>by rw[e]at m;exact absurd m j4) t o
def cX.re{S:Nat->Prop}(h:cX S ρ u w)(e:u1.1=u.1)(a:w1.1=w.1)(t:∀i q,w1.2 (w1.3+i) q=u1.2 (u1.3+i) q)(o:w1.4=u1.4):cX S ρ u1 w1:=h.be e j4 (λ_ _ _ _=>by rw[a]) (λb c=>by rw[a];exact h.calm c) t o
def M2(u w:aq)(a:Nat->kK->Nat):Nat->kK->Nat:=λi q=>a (u.3+(i-w.3)) q
def cX.tp{S:Nat->Prop}(h:cX S ρ u w)(a:Nat->kK->Nat):cX S ρ (u.tp a) (w.tp<|M2 u w a):=h.re U U (λi q=>by show a (u.3+(w.3+i-w.3)) q=a (u.3+i) q;rw[Cd]) h.os
def Xv{S:Nat->Prop}(f:cX S ρ u w){j:aF aB}(k:∀g:Sg,fW S ρ u.1.size g->x=j.map (@rv _ g))(h:(bo fn x).run ae u=.ok v u)(c:Nat->kK->Nat):(bo fn x).run ae (u.tp c)=.ok v (u.tp c):=by
 let⟨g,d⟩:=nk S f.jU;letI:Tp:=⟨pB u.1⟩;have l0:=OV (K:=λ_=>False) fn j u w #[] (f.8 g d) (λ_ h=>h.e);rw[<-k g d,h]at l0;rcases l0 (aR _)with⟨x,v,e,_⟩|⟨_,_,_,_,_,_,_,l⟩;rw[h]at e;cases e;have:=l #[] c λi q a b=>by rw[h]at b;exact absurd b (by show ¬i<u.3;omega)
 rw[<-iM ae _ (u.tp c) #[],this,h];rfl
def wl(u w:aq):Nat->kK->Nat:=λi q=>if i<u.3 then u.2 i q else w.2 (w.3+(i-u.3)) q
def Wl(S:Nat->Prop)(ρ:ut)(u w:aq):Prop:=cX S ρ (u.tp<|wl u w) w
def Ht(u w:aq):∀i q,w.2 (w.3+i) q=(u.tp<|wl u w).2 ((u.tp<|wl u w).3+i) q:=λi q=>by show _=wl u w (u.3+i) q;rw[wl];rw[aI Y,Cd]
def cX.to{S:Nat->Prop}(h:cX S ρ u w)(e:u1.1=u.1)(a:w1.1=w.1)(o:u1.4=u.4)(b:w1.4=w.4):Wl S ρ u1 w1:=h.re e a (Ht u1 w1) (b.E<|h.os.E o.y)
def cX.drop{S:Nat->Prop}(h:cX S ρ u w):Wl S ρ u w:=h.to U U U U
def Wl.os{S:Nat->Prop}(h:Wl S ρ u w):w.4=u.4:=have:=cX.os h;this
def Wl.at{S:Nat->Prop} (h:Wl S ρ u w)(d):Wl S ρ u (w.at d):=cX.to h U U U U
def KD(d:rJ):Prop:=(∃f c,d.1=.fn f c)\/d.1=.nil\/∃r,d.1=.collected r
def Tr{x a}:dx (@DR _ g) x a↔x=a.map (@gX _ g)/\∀d∈a,KD d:=by
 constructor;intro h;induction h with
 |nil=>exact⟨U,ay⟩
 |cons h _ b=>exact⟨by rw[nC,<-h.1,<-b.1],λd c=>(jh.1 c).e (λe=>e▸h.2) (b.2 d)⟩
 rintro⟨rfl,h⟩;induction a with
 |nil=>exact .nil
 |cons d a b=>exact .cons ⟨U,h d fJ⟩<|b λd c=>h d (gC _ c)
def VD[g:Sg](e:zL):zL:=⟨rv e.v,e.2,aa⟩
def NR{x a}:dx (@PR _ g) x a↔x=a.map (@VD _ g)/\∀e∈a,e.3=aa:=by
 constructor;intro h;induction h with
 |nil=>exact⟨U,ay⟩
 |cons h _ b=>exact⟨by rw[nC,show @VD _ g _=_ from h.1.y,<-b.1],λd c=>(jh.1 c).e (λe=>e▸h.2) (b.2 d)⟩
 rintro⟨rfl,h⟩;induction a with
 |nil=>exact .nil
 |cons d a b=>exact .cons ⟨U,h d fJ⟩<|b λd c=>h d (gC _ c)
structure XF(ρ:ut)(fr:aP):Prop where
 tmps:∀(i:Nat) v,fr.tmps[i]? =Z v->i∉an.dU fr.fn->VR ρ v v
 defers:∀g:Sg,Ag ρ g->dx (@DR _ g) fr.defers fr.defers
 kind:fr.kind=.normal
 known:il fr.fn
 mode:∀g:Sg,Ag ρ g->@mu _ g fr.mode fr.mode
def XF.V(h:ρ.le σ)(k:XF ρ fr):XF σ fr:=⟨λi v a b=>(k.1 i v a b).V h,λg c=>k.2 g (c.V h),k.3,k.4,λg c=>k.5 g (c.V h)⟩
def XF.all(h:XF ρ fr)(hv:an.dU fr.1=[]):mV ρ fr.2 fr.2:=PL λv hm=>by let⟨i,e⟩:=JE.1 hm;exact h.1 i v e (by rw[hv];simp)
def mV.at (h:mV ρ x x)(i:Nat)(v:aB)(e:x[i]? =Z v):VR ρ v v:=h.mem (vF e)
def adQ{g2}(T:sr A g1 g2){m m'}(n:@mu _ g1 m m')(a:@mu _ g2 m m'):(∀g:Sg,(∀b,A b->g.aL b=b)->@mu _ g m' m')/\((∀b,A b->g1.aL b=b)->m'=m):=by
 cases n with
 |run=>exact⟨λg _=>@mu.run _ g,λ_=>U⟩
 |returning=>exact⟨λg _=>@mu.returning _ g,λ_=>U⟩
 |@panicking c j h=>
  have a:dx (@PR _ g2) c j:=by cases a;assumption
  let⟨i,k⟩:=NR.1 h;let l:=(NR.1 a).1;let f:=SL (λe o q=>by let q:=cG PanicEntry.v q;have:=(sC T e.v q).map λv=>(⟨v,e.2,aa⟩:zL);rwa [show(⟨e.v,e.2,aa⟩:zL)=e by rw[<-k e o]]at this) (i.y.E l);exact⟨λg d=>@mu.panicking _ g _ _ (NR.2 ⟨(f.2 g d).y,k⟩),λd=>by rw[i,f.2 g1 d]⟩
def Fs.same{S:Nat->Prop}[bJ]{c}(B:∀a b,ρ a b->a=b)(hr:qO ρ N)(h:Fs l S ρ N fr cs c cs'):c={fr with todo:=c.3}/\(fr.6=.normal->XF ρ c):=by
 let⟨k,g2,C,J,T⟩:=Il S hr;let D:∀g:Sg,fW S ρ N g->fr.2=c.2.map (@rv _ g)/\(fr.4=c.4.map (@gX _ g)/\∀d∈c.4,KD d)/\@mu _ g fr.5 c.5/\fr.7=c.7.map g.aL/\c.1=fr.1/\c.6=fr.6/\il fr.1:=λg f=>by let⟨f1,f2,f3,f4,f5,f6,f7,f8,f9⟩:=(h g f).1;exact⟨f3,Tr.1 f5,f6,f9,f1,f7,f2⟩
 let⟨t1,⟨d1,dk⟩,G,n,o,p,ok⟩:=D k C;let⟨t2,⟨d2,_⟩,H,r,_⟩:=D g2 J;let m:∀b,ρ.im b->k.aL b=b:=λb ⟨a,j⟩=>(C.1 a b j).E (B a b j);let q:∀g:Sg,Ag ρ g->∀b,ρ.im b->g.aL b=b:=λg f b ⟨a,j⟩=>(f a b j).E (B a b j);let ct:=Dg T (t1.y.E t2);have z:c.2=fr.2:=by rw[t1];exact(ct.2 k m).y
 let s:=SL (λ_ _=>V5 T) (d1.y.E d2);have t:c.4=fr.4:=by rw[d1];exact(s.2 k m).y
 let⟨m1,m2⟩:=adQ T G H;have u:=m2 m;have w:c.7=fr.7:=by generalize c.7=x at n r;obtain _|x:=x;exact n.y;rw[n,eO,eO]at r;rw[n,eO,m x<|T.2 x<|ey r]
 refine⟨?_,λE=>⟨λi v e _=>mV.at (λg f=>(ct.2 g<|q g f).y) i v e,λg f=>Tr.2 ⟨(s.2 g<|q g f).y,dk⟩,p.E E,o▸ok,λg f=>m1 g (q g f)⟩⟩;let⟨a1,K,a3,L,O,P,Q⟩:=fr;let⟨b1,R,V,W,X,b6,b7⟩:=c;simp only at z t u w o p;subst z t u w o p;rfl
def vd(P:bM):aP:={fn:=pB P.2,tmps:=#[],todo:=[.call {target:=.nil,args:=#[]} aa "fmt's door" #[]],defers:=[],mode:=.run,kind:=.normal}
def Yq(P):te [vd P]:=λb h=>by simp at h;subst h;exact aA U
def afl{g}(h:Ry [vd P] g)(w):∀n,∀i cs m,jF P n (solo g w)≠.next (lone i (cs++[vd P]) m):=by
 let u:P.2[pB P.2]? =aj:=ay;let raise:∀c (w:aq),∃o,step P (solo (G ((vd P).raise c) []) w)=.ended o w:=λc w=>by
  have f:∃o,bi P M (G ((vd P).raise c) []) w=.ended o w #[]:=by
   let t:((vd P).raise c).4=[]:=U;let hm:((vd P).raise c).5=.panicking c:=U;have j:((vd P).raise c).catches P=M:=by let r:((vd P).raise c).1=pB P.2:=U;let s:((vd P).raise c).3=[.call {target:=.nil,args:=#[]} aa "fmt's door" #[]]:=U;unfold Qh;rw[r,s,u];show "fmt's door".startsWith "fmt's door" =M;decide+kernel
   rw[OZ j4];unfold CB;simp only[t,hm,j,dN];exact⟨_,U⟩
  let⟨o,d⟩:=f;exact⟨o,Jl U d⟩
 let fin:∀v (w:aq),∃o,step P (solo (G ((vd P).finish v) []) w)=.ended o w:=λv w=>by
  have f:∃o,bi P M (G ((vd P).finish v) []) w=.ended o w #[]:=by rw[Es U];unfold fy;have:((vd P).finish v).3=[.extern "fmt's door" #[v]]:=U;rw[this];have:Extern.next "fmt's door" =aj:=U;simp only[this];exact⟨_,U⟩
  let⟨o,d⟩:=f;exact⟨o,Jl U d⟩
 let k:∀{g:bK} {w m:aq} {i:aP} {cs:av aP},g.2=[]->solo g w≠lone i (cs++[vd P]) m:=λj e=>by have:=cG Qy e;simp[solo,lone]at this;rw[this]at j;simp at j
 let⟨b,kj,e,x⟩:=h;cases e;intro n i cs m a;obtain rfl|⟨v,rfl⟩|⟨c,rfl⟩:=x
 ·cases n with
  |zero=>simp only[jF]at a;exact k U<|wj a
  |succ n=>
   have p:∃c,step P (solo (G (vd P) []) w)=.next (solo (G ((vd P).raise c) []) w):=by
    have f:∃c q,bi P M (G (vd P) []) w=.go (G ((vd P).raise c) []) w q:=by rw[Es U];unfold fy;have:(vd P).3=[.call {target:=.nil,args:=#[]} aa "fmt's door" #[]]:=U;rw[this];simp only;unfold ce;exact⟨_,_,U⟩
    let⟨c,q,f⟩:=f;exact⟨c,Rc U f⟩
   let⟨c,p⟩:=p;simp only[jF,p]at a;cases n with
   |zero=>simp only[jF]at a;exact k U<|wj a
   |succ n=>let⟨o,d⟩:=raise c w;simp only[jF,d]at a;cases a
 ·cases n with
  |zero=>simp only[jF]at a;exact k U<|wj a
  |succ n=>let⟨o,d⟩:=fin v w;simp only[jF,d]at a;cases a
 cases n with
 |zero=>simp only[jF]at a;exact k U<|wj a
 |succ n=>let⟨o,d⟩:=raise c w;simp only[jF,d]at a;cases a
def Sa{g}(h:yg P [vd P] g u):∀n a cs b,jF P n (solo g u)=.next (lone a (cs++[vd P]) b)->nN a:=by obtain h|h:=h;exact λn a cs b c=>absurd c (afl h u n a cs b);exact h
structure vb(P:bM)(l:av aZ):Prop where
 it:ye l
 prog:P=ae
 bare:∀f,an.ok f->an.dU f=[]
def rY(l:av aZ)(fr:aP)(cs:av aP)(u:aq):Prop:=∃S a base c b w,te base/\Fs l S a u.1.size fr cs c b/\cX S a u w
def rY.tp(h:rY l fr cs u)(a:Nat->kK->Nat):rY l fr cs (u.tp a):=by let⟨S,g,base,c,b,w,d,e,f⟩:=h;exact⟨S,g,base,c,b,_,d,e,f.tp a⟩
inductive pS(P:bM)(kw:aP->av aP->aq->Prop):aP->av aP->aq->Prop
 |stop {fr:aP} {cs:av aP} {u:aq} (h:kw fr cs u):pS P kw fr cs u
 |step {fr:aP} {cs:av aP} {u:aq} (h:∀a,(∀i q,i<u.3->a i q=u.2 i q)->∃c b d,step P (lone fr (cs++[vd P]) (u.tp a))=.next (lone c (b++[vd P]) d))
   (k:∀a,(∀i q,i<u.3->a i q=u.2 i q)->∀c b d,step P (lone fr (cs++[vd P]) (u.tp a))=.next (lone c (b++[vd P]) d)->pS P kw c b d):pS P kw fr cs u
def Nk{cs yB}(h:lone fr (cs++[vd P]) u=lone og (yB++[vd P]) u1):fr=og/\cs=yB/\u=u1:=by have a:=cG Qy h;simp[lone]at a;exact⟨a.1,a.2,(cG Machine.world h)⟩
structure nO where
 fr:aP
 cs:av aP
 u:aq
def nO.m(P:bM)(s:nO)(a:Nat->kK->Nat):Machine:=lone s.1 (s.2++[vd P]) (s.u.tp a)
structure tG(P:bM)(s t:nO):Prop where
 past:∀i q,i<s.u.3->t.u.2 i q=s.u.2 i q
 drawn:s.u.3<=t.u.3
 step:∀a,tC a t.u.2 s.u.3 t.u.3->step P (s.m P a)=.next (t.m P a)
def rV(P:bM)(l:av aZ)(kw:aP->av aP->aq->Prop)(s:nO):Prop:=¬pS P kw s.1 s.2 s.u/\rY l s.1 s.2 s.u
def FZ(P:bM)(kw:aP->av aP->aq->Prop)(s:nO):Prop:=∃b,(∀i q,i<s.u.3->b i q=s.u.2 i q)/\∀n a cs w,jF P (n+1) (s.m P b)=.next (lone a (cs++[vd P]) w)->¬kw a cs w
def Sc(B:vb P l)(R:∀r cs u,kw r cs u->¬nN r){s:nO}(h:rV P l kw s):¬kw s.1 s.2 s.u/\(FZ P kw s\/∃t,rV P l kw t/\tG P s t):=by
 let⟨E,L⟩:=h;refine⟨λg=>E (.stop g),?_⟩;let N:¬∀e,(∀i q,i<s.u.3->e i q=s.u.2 i q)->∃p j f,step P (lone s.1 (s.2++[vd P])<|s.u.tp e)=.next (lone p (j++[vd P]) f)/\pS P kw p j f:=λh=>E (.step (λe g=>by(let⟨a,b,c,d,_⟩:=h e g;exact⟨a,b,c,d⟩)) λe g p j f G=>by let⟨a,b,c,d,k⟩:=h e g;rw[d]at G;let⟨rfl,rfl,rfl⟩:=Nk<|wj G;exact k)
 let⟨e,O⟩:=Classical.not_forall.1 N;let⟨C,Q⟩:=Classical.not_imp.1 O;cases x:step P (lone s.1 (s.2++[vd P])<|s.u.tp e)with
 |ended o w=>refine aA ⟨e,C,λn r cs z v=>?_⟩;simp only[jF,nO.m,x]at v;cases v
 |next m=>let⟨S,ρ,base,aE,aD,w,H,X,k3⟩:=L;obtain⟨B,rfl,_⟩:=B;obtain⟨g1,f,rfl,g⟩|⟨p,j,f,K,J,z,bW,rfl,_,m2,m3,_,_,D,m7⟩:=Wc (km:=M) B ay (Yq ae) H (k3.tp e) X x;refine aA ⟨e,C,λn r cs z v=>?_⟩;simp[jF,nO.m,x]at v;exact λV=>R _ _ _ V (Sa g n r cs z v);refine az ⟨⟨p,j,f⟩,⟨λW=>Q ⟨p,j,f,x,W⟩,⟨S,_,base,K,J,z,H,m2,m3⟩⟩,λi q T=>?_,D.1,λaC A=>?_⟩;show f.2 i q=_;rw[D.2];exact C i q T;refine m7 aC ?_;have:=D.2;simp only at this A;rw[this]at A;exact A
def Ml{p:Nat->Prop}(h:∃n,p n):∃n,p n/\∀k,k<n->¬p k:=by
 let⟨n,d⟩:=h;induction n using Ky with
 |ind n e=>by_cases c:∃k,k<n/\p k;let⟨k,a,b⟩:=c;exact e k a b;exact⟨n,d,λk a b=>c ⟨k,a,b⟩⟩
def ways(P l)(kw:aP->av aP->aq->Prop)(s:nO):∃f:Nat->nO,f 0=s/\∀n,(∃t,rV P l kw t/\tG P (f n) t)->rV P l kw (f<|n+1)/\tG P (f n) (f<|n+1):=by
 classical
 let go:nO->nO:=λs=>if h:∃t,rV P l kw t/\tG P s t then h.choose else s
 refine⟨λn=>Nat.rec s (λ_ x=>go x) n,U,λn h=>?_⟩;grind
variable{f:Nat->nO}
def EC(c:vb P l)(b:∀a cs u,kw a cs u->¬nN a)(hf:∀n,(∃t,rV P l kw t/\tG P (f n) t)->rV P l kw (f<|n+1)/\tG P (f n) (f<|n+1))(h:rV P l kw (f 0)):∀n,(∀k,k<n->¬FZ P kw (f k))->rV P l kw (f n)/\∀k,k<n->tG P (f k) (f<|k+1)
 |0,_=>⟨h,λk g=>by omega⟩|n+1,d=>by let⟨e,i⟩:=EC c b hf h n λk g=>d k Y;let⟨j,m⟩:=hf n ((Sc c b e).2.resolve_left (d n Y));grind
def Io(h:∀k,k<n->tG P (f k) (f<|k+1)):∀m k,k+m<=n->(f k).u.3<=(f<|k+m).u.3/\∀i q,i<(f k).u.3->(f<|k+m).u.2 i q=(f k).u.2 i q
 |0,k,_=>⟨aR _,λ_ _ _=>U⟩|m+1,k,e=>by let⟨a,d⟩:=Io h m k Y;let b:=h (k+m) Y;exact⟨cM a b.2,λi q c=>(b.1 i q<|cS c a).E (d i q c)⟩
def yr{τ}:∀n,(∀k,k<n->tG P (f k) (f<|k+1))->(∀k,k<=n->∀i q,i<(f k).u.3->τ i q=(f k).u.2 i q)->jF P n ((f 0).m P τ)=.next ((f n).m P τ)
 |0,_,_=>rfl|n+1,h,a=>by let b:=yr n (λk d=>h k Y) λk d=>a k Y;rw[runN_add P n 1,b];have:=(h n Y).3 τ λi q _ c=>a (n+1) (aR _) i q c;simp[jF,this]
def PO(v:vb P l)(t:∀fr cs u,kw fr cs u->¬nN fr)(O:∀fr cs u b,rY l fr cs u->kw fr cs u->kw fr cs (aq.tp u b))(L:rY l fr cs u)(h:∀b,(∀i q,i<u.3->b i q=u.2 i q)->∃n g d o,jF P n (lone fr (cs++[vd P])<|u.tp b)=.next (lone g (d++[vd P]) o)/\kw g d o):pS P kw fr cs u:=by
 classical
 refine ny λQ=>?_;let⟨f,f0,x⟩:=ways P l kw ⟨fr,cs,u⟩;let z:rV P l kw (f 0):=by rw[f0];exact⟨Q,L⟩
 let J:(f 0).u=u:=by rw[f0]
 let hm:∀b,(f 0).m P b=lone fr (cs++[vd P]) (u.tp b):=λb=>by rw[f0];rfl
 let K:∀{n},rV P l kw (f n)->∀{g d o b},(f n).m P b=lone g (d++[vd P]) o->kw g d o->False:=λ{n} A {g d o b} e w=>by let⟨rfl,rfl,rfl⟩:=Nk e;let R:=O _ _ ((f n).u.tp b) (f n).u.2 (A.2.tp b) w;exact(Sc v t A).1 R
 by_cases E:∃n,FZ P kw (f n)
 ·let⟨n,C,G⟩:=Ml E;let⟨A,p⟩:=EC v t x z n G;let⟨b,V,S⟩:=C;let s:∀k,k<=n->∀i q,i<(f k).u.3->b i q=(f k).u.2 i q:=λk c i q B=>by let⟨p1,W⟩:=Io p (n-k) k Y;grind
  let⟨N,g,d,o,r,w⟩:=h b (J▸s 0 Y);obtain T|hge:=lq n N;let hr:=yr n p s;obtain⟨m,rfl⟩:∃m,N=n+(m+1):=⟨N-n-1,Y⟩;rw[runN_add P n<|m+1]at r;grind;let hr:=yr N (λk c=>p k Y) λk c=>s k Y;rw[<-hm,hr]at r;exact K (EC v t x z N λk c=>G k Y).1 (wj r) w
 ·let H:∀n,¬FZ P kw (f n):=λn C=>E ⟨n,C⟩;let p:∀k,tG P (f k) (f<|k+1):=λk=>(EC v t x z (k+1) λj _=>H j).2 k Y;let b:Nat->kK->Nat:=λi q=>if c:∃k,i<(f k).u.3 then(f c.choose).u.2 i q else u.2 i q
  let s:∀k i q,i<(f k).u.3->b i q=(f k).u.2 i q:=λk i q B=>by let c:∃k,i<(f k).u.3:=⟨k,B⟩;show(if c:∃k,i<(f k).u.3 then(f c.choose).u.2 i q else u.2 i q)=_;rw[wy c];have D:=c.choose_spec;generalize c.choose=j at D;obtain hjk|hjk:=Nat.le_total j k;have:=(Io (n:=k) (λa _=>p a) (k-j) j Y).2 i q D;grind;have:=(Io (n:=j) (λa _=>p a) (j-k) k Y).2 i q B;rwa [show k+(j-k)=j by omega]at this
  obtain⟨N,g,d,o,r,w⟩:=h b (J▸s 0);let hr:=yr N (λk _=>p k) λk _=>s k;rw[<-hm,hr]at r;exact K (EC v t x z N λk _=>H k).1 (wj r) w
def akg(f:∀fr cs u,kw fr cs u->¬nN fr)(h:pS P kw fr cs u):(∀n a c w,jF P n (lone fr (cs++[vd P]) u)=.next (lone a (c++[vd P]) w)->nN a)->False:=by
 induction h with
 |stop h=>exact λH=>f _ _ _ h (H 0 _ _ _ U)
 |@step fr cs u h k i=>intro H;let⟨a,c,j,b⟩:=h u.2 λ_ _ _=>U;refine i u.2 (λ_ _ _=>U) a c j b λn e d w g=>H (n+1) e d w ?_;have b:=b;simp[jF,b];exact g
def akj(c:∀fr cs u,kw fr cs u->¬nN fr){v g}(h:pS P kw fr cs u)(e:lone fr (cs++[vd P]) u=solo g v)(d:yg P [vd P] g v):False:=akg c h λn b a w f=>Sa d n b a w j4
def H4(P:bM)(f:aZ)(R:Ending->aq->Prop)(fr:aP)(cs:av aP)(u:aq):Prop:=cs=[]/\fr.1=f/\∃e,e≠.outgrown/\R e u/\fr.leaving P u e
def VJ(n:vb P l)(m:rY l fr cs u)(a:Nat->kK->Nat){e:Ending}(h:fr.leaving P u e):fr.leaving P (u.tp a) e:=by
 cases e with
 |returned v=>let⟨d,f,i,b,j,k⟩:=h;let⟨S,t,base,s,r,w,_,p,q⟩:=m;obtain⟨_,rfl,_⟩:=n;exact⟨d,f,i,b,j,Xv q (λg o=>(p g o).1.3) k a⟩
 |panicked c=>exact h
 |outgrown=>trivial
variable{f:aZ}
def aay{S:Nat->Prop}(a:vb P l)(hf:an.ok f){b:aF aB}(d:∀g:Sg,fW S ρ N g->x=b.map (@rv _ g)):Fs l S ρ N (ba P f x .normal) [] (ba P f b .normal) []:=λg c=>by obtain⟨a,rfl,_⟩:=a;rw[d g c];exact⟨@GD _ g _ l a f hf b .normal<|aA U,.nil⟩
def Hv{R}(fr cs u)(h:H4 P f R fr cs u):¬nN fr:=by
 rintro⟨hm,_⟩;let⟨_,_,e,b,_,a⟩:=h;cases e with
 |returned v=>rw[a.1]at hm;cases hm
 |panicked c=>rw[a.1]at hm;cases hm
 |outgrown=>exact b U
def aki(o:vb P l){args R}(q:rY l (ba P f args .normal) [] u)(hR:∀e w a,R e w->R e (aq.tp w a))(s:∀w,¬R .outgrown w)(h:∀a,Calls P f args (u.tp a) R):pS P (H4 P f R) (ba P f args .normal) [] u:=by
 refine PO o Hv (λj cs u a r=>?_) q λa _=>?_;rintro⟨b,d,e,g,i,p⟩;exact⟨b,d,e,g,hR e u a i,VJ o r a p⟩;let⟨e,m,j,b,d,g,i⟩:=h a [vd P];cases e with
 |outgrown=>cases s m b
 |returned v=>let⟨n,k⟩:=d;exact⟨n,j,[],m,k,U,g,_,ay,b,i⟩
 |panicked c=>let⟨n,k⟩:=d;exact⟨n,j,[],m,k,U,g,_,ay,b,i⟩
def YW{S:Nat->Prop}(k:vb P l)(B:∀fr cs u,kw fr cs u->¬nN fr)(C:te base)(H:Wl S ρ u w){r:aP}{o:av aP}(h:Fs l S ρ u.1.size fr cs r o)(z:∀g,(∀i q,i<u.3->g i q=u.2 i q)->∃d c b,step P (lone fr (cs++[vd P])<|u.tp g)=.next (lone d (c++[vd P]) b))
  (A:∀g,(∀i q,i<u.3->g i q=u.2 i q)->∀d c b,step P (lone fr (cs++[vd P])<|u.tp g)=.next (lone d (c++[vd P]) b)->pS P kw d c b) (km:Bool):
  ∃d c b s p f j,step P (lone fr (cs++[vd P])<|u.tp<|wl u w)=.next (lone d (c++[vd P]) b)/\(∀i q,i<u.3->wl u w i q=u.2 i q)/\jl P km (G r<|o++base) w (G s<|p++base) f j/\Fs l S (fc ρ u w b) b.1.size d c s p/\Wl S (fc ρ u w b) b f/\tH S ρ (u.tp<|wl u w) b w f/\∀a∈j,Ow S (fc ρ u w b) a:=by
 let m:∀i q,i<u.3->wl u w i q=u.2 i q:=λi q D=>by rw[wl];rw[aO D]
 let⟨d,c,b,n⟩:=z _ m;obtain⟨k,rfl,_⟩:=k;obtain⟨T,v,e,E⟩|⟨R,Q,V,x,t,f,j,e,J,K,L,N,O,_,_⟩:=Wc k ay (Yq ae) C H h n km;exact(akj B (A _ m _ _ _ n) e E).e;let⟨rfl,rfl,rfl⟩:=Nk e;exact⟨d,c,b,x,t,f,j,n,m,J,K,L.drop,N,O⟩
def Bf:∀{N:Nat} {K:Nat} {m m1:Machine} {t t1:Trace},runNT P N m t=(.next m1,t1)->runNT P (N+K) m t=runNT P K m1 t1
 |0,K,m,m1,t,t1,h=>by simp only[runNT]at h;cases h;rw[jM]
 |N+1,K,m,m1,t,t1,h=>by
  rw[show N+1+K=(N+K)+1 by omega];simp[runNT]at h⊢;cases a:stepT P m with
  |mk x b=>
   rw[a]at h;cases x with
   |next m2=>exact Bf h
   |ended o w=>cases h
def Bd(ρ:ut)(w:aq):Prop:=∀a o,w.1[a]? =Z o->o≠cC->∃b,ρ a b
def WR{S:Nat->Prop}{a}(h:Ow S σ a):(∀x,a.touch?=Z x->(∃g:iL,x.1=.cell g/\(∃d,σ d g.1)/\¬S g.1)\/(∃r,x.1=.obj r/\(∃d,σ d r)/\¬S r)\/x.1=.output)/\(∀m,m≠.noRoom->(∀f,m≠.extern f)->a≠.mark m)/\∀B,(∀d b,σ d b->b<B)->a.low B:=by
 obtain⟨⟨o,wr,n⟩,rfl,h⟩|⟨r,rfl,⟨d,j⟩,_⟩:=h
 ·cases o with
  |cell g=>exact⟨λx c=>by simp[dW,vX]at c;subst c;exact aA ⟨g,U,h⟩,λm _ _=>by simp[dW],λB i=>h.1.e λd j=>i d _ j⟩
  |obj r=>refine⟨λx c=>?_,λm _ _=>by cases wr<;>cases n<;>simp[dW],λB i=>h.1.e λd j=>by cases wr<;>cases n<;>exact i d _ j⟩;cases wr<;>cases n<;>simp[dW,vX]at c;all_goals (subst c;exact az (aA ⟨r,U,h⟩))
  |output=>exact⟨λx c=>by simp[dW,vX]at c;subst c;exact az (az U),λm _ _=>by simp[dW],λ_ _=>trivial⟩
  |goroutines=>exact h.e
  |mark m=>
   cases m with
   |noRoom=>exact⟨λx c=>by simp[dW,vX]at c,λm k _ e=>by simp[dW]at e;exact k e.y,λ_ _=>trivial⟩
   |extern f=>exact⟨λx c=>by simp[dW,vX]at c,λm _ k e=>by simp[dW]at e;exact k f e.y,λ_ _=>trivial⟩
   |_=>exact h.e
 exact⟨λx c=>Hq,λm _ _=>ay,λB i=>i d r j⟩
structure jm(ρ σ:ut)(w w1:aq):Prop where
 le:ρ.le σ
 size:w.1.size<=w1.1.size
 cm:∀b,b<w.1.size->(∀a,¬ρ a b)->w1.1[b]? =w.1[b]?
 news:∀a b,σ a b->ρ a b\/w.1.size<=b
 os:w1.os=w.os
 output:w1.output=w.output
 tape:w1.2=w.2
def jm.refl(ρ w):jm ρ ρ w w:=⟨ut.le_refl _,aR _,λ_ _ _=>U,λ_ _ h=>aA h,U,U,U⟩
def jm.at (h:jm ρ σ w w1)(d):jm ρ σ w (w1.at d):=⟨h.1,h.2,h.3,h.4,h.5,h.6,h.7⟩
def jm.E{τ w2}(h:jm ρ σ w w1)(k:jm σ τ w1 w2):jm ρ τ w w2:=by refine⟨ut.le_trans h.1 k.1,cM h.2 k.2,λb c d=>?_,λa b f=>?_,k.5.E h.5,k.6.E h.6,k.7.E h.7⟩;rw[k.3 b (cS c h.2)<|λa e=>?_,h.3 b c d];obtain h1|h1:=h.4 a b e;exact d a h1;omega;obtain h1|h1:=k.4 a b f;exact h.4 a b h1;exact az<|cM h.2 h1
def tH.went{S:Nat->Prop}(h:tH S ρ u u1 w w1):jm ρ (fc ρ u w u1) w w1:=let f:=h.1;let g:=h.2;⟨λ_ _=>aA,Y,λb d e=>h.3 b d (aA e),λa b c=>c.imp id λh=>by omega,h.6.1,h.6.2.1,h.6.2.2⟩
def tH.full{S:Nat->Prop}(h:tH S ρ u u1 w w1)(k:Bd ρ u):Bd (fc ρ u w u1) u1:=λa o c i=>by let g:=(bf.1 c).1;by_cases e:a<pB u.1;by_cases d:∃b,ρ a b;exact d.imp λ_=>aA;rw[h.4 a e λb f=>d ⟨b,f⟩]at c;exact(k a o c i).imp λ_=>aA;exact⟨_,az ⟨Y,g,U⟩⟩
def zd(kp:Loc->Prop)(S:Nat->Prop)(ρ:ut)(w:aq):Prop:=∀l,kp l->∃a:iL,l=.cell a/\a.1<pB w.1/\∀x,ρ x a.1->S a.1
def zd.went{S:Nat->Prop}(h:zd kp S ρ w)(k:jm ρ σ w w1):zd kp S σ w1:=λl e=>by let⟨a,b,c,d⟩:=h l e;refine⟨a,b,cS c k.2,λx f=>?_⟩;obtain h|h:=k.4 x _ f;exact d x h;omega
structure Ex(P:bM)(l:av aZ)(base:av aP)(kp:Loc->Prop)(S:Nat->Prop)(fr:aP)(cs:av aP)(u:aq)(ρ:ut)(gs:aF bK)(w:aq)(t:Trace)(q:Nat->Nat):Prop where
 rel:∃d c,gs[0]? =Z (G d (c++base))/\Fs l S ρ u.1.size fr cs d c
 world:Wl S ρ u w
 kV:Leavers P t gs q
 past:Past kp w.1.size t
 clear:zd kp S ρ w
 same:∀a b,ρ a b->a=b
 size:u.1.size=w.1.size
 dO:∀i j,t.g? i=Z j->j<gs.size
 full:Bd ρ u
def TH{t jt:Trace}{k}(h:∀i j,t.g? i=Z j->j<n)(c:k<n)(e:∀op∈jt,op.g=k):∀i j,(t++jt).g? i=Z j->j<n:=λi j b=>by unfold Trace.g? at b;obtain⟨op,d,rfl⟩:=gJ.1 b;obtain⟨_,a⟩|⟨_,a⟩:=getElem?_append_cases d;exact h i op.g (by unfold Trace.g?;rw[a];rfl);rw[e op a];exact c
def Lp(kp:Loc->Prop)(B:Nat)(a:MemAct):Prop:=(∀x,a.touch?=Z x->¬kp x.1)/\(a≠.mark .disable/\a≠.mark .enable)/\a.low B
def TT{S:Nat->Prop}{a}(d:zd kp S σ w1)(hl:∀h b,σ h b->b<pB w1.1)(e:Ow S σ a):Lp kp w1.1.size a:=by let⟨n,c,g⟩:=WR e;refine⟨λx m f=>?_,⟨c _ ay ay,c _ ay ay⟩,g _ hl⟩;let⟨a,i,j,k⟩:=d _ f;grind
def LO{a}{K:bK->aq->Prop}(B:aq->Nat)(G:a.3=.running):
  ∀(n:Nat) (gs:aF bK) (w:aq) (sl:aV (Nat×Nat)) (t:Trace) (q:Nat->Nat),fa gs.size q<n->gs[0]? =Z a->Leavers P t gs q->Past kp w.1.size t->(∀i j,t.g? i=Z j->j<pB gs)->
   (∀d (gs:aF bK) sl,gs[0]? =Z a->(∀(j:Nat) h,gs[j]? =Z h->h.3=.blocked->h.5=aj)->∃e c f C,runT P (crowd gs (w.at d) sl) 0=(.next<|crowd (mP (gs.map f) 0 e) c sl,C)/\(f=woken P a e c\/f=id)/\(∀op∈C,op.g=0)/\pB w.1<=B c/\(∀op∈C,Lp kp (B c) op.4)/\K e c)->
   ∃N e c r R t1 Q,K e c/\runNT P N (crowd gs w sl) t=(.next<|crowd r c R,t1)/\pB r=pB gs/\r[0]? =Z e/\Leavers P t1 r Q/\Past kp (B c) t1/\(∀i j,t1.g? i=Z j->j<pB r):=by
 intro n;induction n with
 |zero=>exact λgs w sl t q hS=>absurd hS Y
 |succ n ih=>
  intro gs w sl t q hS h0 s V hN h;let aH:=(bf.1 h0).1;let aC:∀g∈gs,awake g:=by
   intro g v;obtain⟨i,o,rfl⟩:=EG.1 v;obtain rfl|hpos:=qF i;have:gs[0]=a:=by simpa[gi o]using h0
   rw[this];exact awake_of<|aA G;exact awake_of<|(s.1 i _ hpos<|gi o).status.e aA λx=>az (az x)
  let aL:∀(j:Nat) h,gs[j]? =Z h->h.3=.blocked->h.5=aj:=by intro j h m z;obtain rfl|hpos:=qF j;rw[h0]at m;cases m;rw[G]at z;cases z;rcases(s.1 j h hpos m).status with h3|h3<;>rw[h3]at z<;>cases z
  let⟨i,g,d,H,o,v,af⟩:=crowd_pick (P:=P) (w:=w) (sl:=sl) aC ⟨0,a,h0,G⟩;obtain rfl|hpos:=qF i;obtain rfl:g=a:=by rw[h0]at o;exact(ey o).y
  let⟨e,c,f,C,hr,J,E,hz,hF,hK⟩:=h d gs H h0 aL;let L:pB (mP (gs.map f) 0 e)=pB gs:=ay;refine⟨1,e,c,mP (gs.map f) 0 e,H,t++C,q,hK,by simp[runNT,af,hr],L,by simp[aH],⟨λj x m u=>?_,λj m=>?_⟩,(V.V hz).app0 E (λop A b hb z=>absurd z ((hF op A).1 b hb)) (Go.ConcN.Deaf_still t 0 _ λop A=>(hF op A).2.1)<|λop A=>(hF op A).2.2,TH j4 j4 E⟩;rw[gn Y,jL]at u;obtain⟨T,O,rfl⟩:=gJ.1 u;have p:=s.1 j T m O;rw[JM t (g':=0) Y _ E];obtain rfl|rfl:=J;rw[woken_quitsD p];exact p;exact p;rw[JM t (g':=0) j4 _ E];exact s.2 j j4;have p:=s.1 i g hpos o;let aE:(i==0)=aa:=bV;let aJ:=(bf.1 o).1;cases W:q i with
  |zero=>rw[W]at p;rw[p.1]at v;cases v
  |succ k=>
   rw[W]at p;obtain⟨J,_⟩|⟨_,g',es,hm,MX,Dy⟩:=p;·rw[J]at v;cases v
   let aN:=runT_crowd_go (P:=P) (sl:=H) (i:=i) o (by rw[aE];exact MX (w.at d));let L:pB (mP (gs.map<|woken P g g'<|w.at d) i g')=pB gs:=ay;let bk:fa gs.size (upd q i k)+q i=fa gs.size q+k:=sumTo_upd q k id aJ;let⟨N,e,c,r,R,t1,Q,r0,r1,r2,r3⟩:=ih (mP (gs.map<|woken P g g'<|w.at d) i g') (w.at d) H (t++sZ i g.1.1 g.1.place es) (upd q i k) j4
    (by
     let aK:i≠0:=Y;rw[gn aK,jL,h0];simp[woken_running G]) ⟨λj x m u=>by
     by_cases D:i=j;subst D;rw[EF j4]at u;obtain rfl:=ey u;rwa [upd_same,Deaf_own];·rw[gn D,jL]at u;obtain⟨T,O,rfl⟩:=gJ.1 u;let X:=s.1 j T m O;rw[woken_quitsD X,upd_ne q k<|dB D,JM t D _<|xT _ _ _ _];exact X,λj m=>by
     rw[JM t (g':=i) j4 _<|xT _ _ _ _];exact s.2 j j4⟩ (V.mute Y hm) (TH j4 j4<|xT _ _ _ _) (λd'=>h d')
   exact⟨N+1,e,c,r,R,t1,Q,r0,by simp[runNT,af,aN];exact r1,r2.E L,r3⟩
def akh{S:Nat->Prop}(hT:vb P l)(hM:∀fr cs u,kw fr cs u->¬nN fr)(hb:te base)(MY:pS P kw fr cs u):
  ∀(ρ:ut) (gs:aF bK) (w:aq) (sl:aV (Nat×Nat)) (t:Trace) (q:Nat->Nat),Ex P l base kp S fr cs u ρ gs w t q->
   ∃N z r p x n o bC v D,runNT P N (crowd gs w sl) t=(.next<|crowd n o bC,v)/\pB n=pB gs/\kw r p x/\Ex P l base kp S r p x z n o v D/\jm ρ z w o:=by
 induction MY with
 |stop h=>exact λρ gs w sl t q hB=>⟨0,ρ,_,_,_,gs,w,sl,t,q,U,U,h,hB,.refl ρ w⟩
 |@step fr cs u h1 h2 ih=>
  intro ρ gs w sl t q ⟨⟨bG,bE,h0,aQ⟩,hw,hL,hP,Q,hI,hZ,hN,hU⟩;obtain⟨N,O,j,X,Jc,t1,q1,⟨d,m,k,a,g,e,rfl,B,A,C,s,c⟩,r1,r2,r3,r4,r5,r6⟩:=LO (K:=λO j=>∃d m k a g e,O=G g (e++base)/\step P (lone fr (cs++[vd P])<|u.tp<|wl u<|w.at d)=.next (lone m (k++[vd P]) a)/\(∀i q,i<u.3->wl u (w.at d) i q=u.2 i q)/\Fs l S (fc ρ u w a) a.1.size m k g e/\Wl S (fc ρ u w a) a j/\tH S ρ (u.tp<|wl u<|w.at d) a (w.at d) j) (·.heap.size) U (fa gs.size q+1) gs w sl t q Y h0 hL hP hN λd gs sl hi aT=>by let⟨m,k,a,g,e,j,bW,B,A,k1,C,s,c,k5⟩:=YW hT hM hb (hw.at d) aQ h1 h2 M;obtain⟨f,bp,hr,hf,aK,aX⟩:=YD hi aT k1;exact⟨_,j,f,bp,hr,hf,aX,c.went.2,λop ho=>TT (Q.went<|((jm.refl ρ w).at d).E c.went) (λE b h=>(s.3 E b h).2) (k5 _ (aK▸rC.2 ⟨op,ho,U⟩)),d,m,k,a,g,e,U,B,A,C,s,c⟩
  let R:=((jm.refl ρ w).at d).E c.went;let H:pB (u.tp<|wl u<|w.at d).1=pB u.1:=U;let J:pB (w.at d).1=pB w.1:=U;let L:=c.2;let⟨T,z,r,p,x,n,o,bD,v,D,H,J,L,V,W⟩:=ih _ A _ _ _ B (fc ρ u w a) X j Jc t1 q1 ⟨⟨g,e,r3,C⟩,s,r4,r5,Q.went R,λE b bh=>bh.e (hI E b) λh=>by omega,Y,r6,c.full hU⟩;exact⟨N+T,z,r,p,x,n,o,bD,v,D,(Bf r1).E H,J.E r2,L,V,R.E W⟩
end Go.Proofs.YtpobhljcainmdaaGreat
