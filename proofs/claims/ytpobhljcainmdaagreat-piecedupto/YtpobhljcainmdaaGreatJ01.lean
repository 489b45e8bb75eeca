/- Parts of the proof. -/
import Derived.Below
import Derived.WalkKit
import GoSem.Dispatch
set_option maxRecDepth 100000
set_option maxHeartbeats 8000000
set_option linter.all false
namespace Go.Proofs.YtpobhljcainmdaaGreat
abbrev aP:=@Array.getElem?_eq_some_iff
abbrev cw:=@Array.getElem?_eq_getElem
abbrev dx:=@Array.getElem?_setIfInBounds_ne
abbrev aV:=@Nat.le_refl
abbrev cm:=@Bool.and_eq_true
abbrev aD:=@if_neg
abbrev dN:=@List.getElem?_eq_getElem
abbrev ed:=@List.getElem?_eq_some_iff
abbrev cV:=@Nat.lt_of_lt_of_le
abbrev eo:=@Option.bind_eq_some_iff
abbrev ep:=@Option.map_eq_some_iff
abbrev aM:=@if_pos
abbrev dm:=@Option.some.inj
abbrev eA:=@Bool.false_eq_true
abbrev eN:=@Array.getElem?_push
abbrev cS:=@Nat.le_trans
abbrev fj:=@Array.getElem?_map
abbrev eD:=@List.length_cons
abbrev iG:=@List.mem_of_getElem?
abbrev ia:=@List.length_append
abbrev kL:=@ByteArray.size_extract
abbrev pQ:=@Array.all_eq_true_iff_forall_mem
abbrev jS:=@List.mem_cons_of_mem
abbrev kJ:=@Array.getElem?_modify
abbrev kK:=@Array.getElem?_toList
abbrev iU:=@List.mem_cons_self
abbrev cD:=@if_true
abbrev iH:=@List.size_toArray
abbrev eE:=@Nat.zero_le
abbrev lC:=@Array.mem_of_getElem?
abbrev fo:=@Nat.zero_add
abbrev dy:=@if_false
abbrev ij:=@decide_eq_false
abbrev oy:=@Classical.byContradiction
abbrev iF:=@List.length_nil
abbrev cW:=@Ne.symm
abbrev dG:=@congrArg
abbrev kO:=@List.getElem?_map
abbrev kQ:=@List.getElem?_set
abbrev jR:=@List.cons_append
abbrev qR:=@List.setIfInBounds_toArray
abbrev me:=@Nat.eq_zero_or_pos
abbrev iY:=@decide_eq_true
abbrev qN:=@List.getElem?_append_right
abbrev lX:=@List.getElem?_take
abbrev oH:=@List.take_append_drop
abbrev ot:=@ByteArray.size_append
abbrev mM:=@List.mem_singleton
abbrev xB:=@Array.getElem?_setIfInBounds_self_of_lt
abbrev kU:=@List.mem_append
abbrev pU:=@List.getElem?_set_self
abbrev oF:=@List.mem_of_mem_take
abbrev mj:=@Option.getD_some
abbrev mO:=@of_decide_eq_true
abbrev iV:=@List.mem_map
abbrev qO:=@List.getElem_cons_zero
abbrev qJ:=@Array.getElem?_eq_none
abbrev tO:=@Array.getD_eq_getD_getElem?
abbrev nE:=@List.all_eq_true
abbrev lY:=@List.mem_range
abbrev rY:=@List.getElem_cons_succ
abbrev su:=@List.take_of_length_le
abbrev ju:=@Nat.le_succ
abbrev sj:=@List.mem_iff_getElem?
abbrev ue:=@Nat.add_sub_cancel_left
abbrev qT:=@List.set_cons_zero
abbrev qS:=@List.set_cons_succ
abbrev lE:=@Nat.lt_or_ge
abbrev oI:=@Nat.min_eq_left
abbrev oz:=@List.length_set
abbrev mK:=@Array.mem_map
abbrev mL:=@List.mem_cons
abbrev sG:=@beq_eq_false_iff_ne
abbrev rW:=@List.flatMap_append
abbrev mg:=@Nat.le_of_lt
abbrev xA:=@Array.getElem?_eq_none_iff
abbrev tZ:=@List.getElem_toArray
abbrev tQ:=@Array.mem_toList_iff
abbrev tR:=@Array.replicate_succ
abbrev tS:=@Array.replicate_zero
abbrev sn:=@List.pairwise_cons
abbrev pS:=@Bool.or_eq_true
abbrev pW:=@List.nil_append
abbrev pV:=@List.length_map
abbrev qQ:=@List.map_toArray
abbrev vJ:=@ByteArray.data_extract
abbrev qM:=@List.any_eq_true
abbrev qP:=@List.length_take
abbrev xW:=@Option.isNone_iff_eq_none
abbrev xN:=@List.getElem?_append_left
abbrev tX:=@List.append_toArray
abbrev sr:=@List.take_add_one
abbrev lW:=@Int.le_refl
abbrev vI:=@Array.mem_iff_getElem
abbrev zD:=@Array.getElem?_setIfInBounds
abbrev qV:=@Option.map_some
abbrev qU:=@Nat.not_lt_zero
abbrev uf:=@Option.isSome_none
abbrev vS:=@List.mem_of_mem_drop
abbrev uo:=@decide_eq_true_eq
abbrev ud:=@List.push_toArray
abbrev tY:=@List.ext_getElem?
abbrev vH:=@Array.length_toList
abbrev rX:=@List.foldl_cons
abbrev zE:=@Array.mapM_eq_mapM_toList
abbrev zT:=@List.drop_eq_getElem_cons
abbrev xM:=@List.contains_iff_mem
abbrev xR:=@Nat.eq_of_beq_eq_true
abbrev xO:=@List.getElem?_eq_none
abbrev tP:=@Array.mem_append
abbrev xU:=@Nat.mul_le_mul_right
abbrev vO:=@List.flatMap_cons
abbrev rZ:=@List.map_cons
abbrev sB:=@Nat.lt_irrefl
abbrev vT:=@List.take_length
abbrev xX:=@Option.isSome_some
abbrev BE:=@Array.toList_setIfInBounds
abbrev FJ:=@Array.getElem?_setIfInBounds_self
abbrev vR:=@List.mem_filter
abbrev xD:=@Bool.not_eq_true'
abbrev sC:=@Nat.zero_mul
abbrev BB:=@Array.setIfInBounds_comm
abbrev Bz:=@Array.getElem?_replicate
abbrev vP:=@List.mapM_cons
abbrev xS:=@Nat.lt_succ_self
abbrev FG:=@Array.eq_empty_of_size_eq_zero
abbrev BT:=@List.length_eq_zero_iff
abbrev BR:=@List.getElem?_replicate
abbrev Gc:=@List.eq_nil_of_length_eq_zero
abbrev xC:=@Bool.eq_iff_iff
abbrev xK:=@List.append_nil
abbrev xP:=@List.range_succ
abbrev vK:=@ByteArray.ext
abbrev zU:=@List.foldl_append
abbrev FI:=@Array.getElem?_append_left
abbrev BS:=@List.getElem?_set_ne
abbrev vQ:=@List.map_nil
abbrev Gk:=@List.mem_or_eq_of_mem_set
abbrev BC:=@Array.toList_append
abbrev Gr:=@Option.isSome_iff_exists
abbrev nD:=@Iff.rfl
abbrev By:=@Array.foldl_toList
abbrev Bx:=@Array.ext_getElem?
abbrev BJ:=@Function.comp_def
abbrev Cd:=@Nat.lt_succ_of_lt
abbrev BQ:=@List.append_assoc
abbrev BZ:=@List.pairwise_map
abbrev FH:=@Array.getElem?_append
abbrev vV:=@beq_iff_eq
abbrev BY:=@List.not_mem_nil
abbrev BD:=@Array.toList_map
abbrev BW:=@List.mem_flatMap
abbrev Gh:=@List.getElem?_of_mem
abbrev BV:=@List.map_append
abbrev Cg:=@Option.map_none
abbrev Ge:=@List.filter_eq_self
abbrev qW:=@dif_pos
abbrev gx:=@Array.getElem?_append_right
abbrev xT:=@Nat.mod_lt
abbrev BF:=@Bool.not_false
abbrev xz:=@Array.ext'
abbrev Gj:=@List.mem_filterMap
abbrev Gf:=@List.find?_eq_none
abbrev Gg:=@List.getElem?_drop
abbrev GB:=@not_false_eq_true
abbrev Gb:=@List.any_eq_false
abbrev Gi:=@List.mapM_toArray
abbrev BU:=@List.mapM_nil
abbrev BA:=@Array.map_map
abbrev xy:=@Array.ext
abbrev gK:=@List.mem_toArray
abbrev UF:=@List.getElem_mem
abbrev Ls:=@Array.size_push
abbrev Mc:=@List.set_append
abbrev Mb:=@Int.tmod_nonneg
abbrev hO:=@dif_neg
abbrev aj(n:Int):Value:=.int .i64 n
abbrev aa(b n:Nat):Addr:=⟨b,n,none⟩
abbrev aF(b:Nat):Value:=.pointer (some ⟨b,0,none⟩)
theorem aR{w:World}{o:Obj}:RowKit.Below w.heap.size w (w.alloc o):=(RowKit.Below.refl _ _).alloc (Nat.le_refl _) _
theorem aL{p:Prop}(h:p):RowKit.Hid p:=h
abbrev aB(w v:World):Prop:=RowKit.Below w.heap.size w v
theorem ak{p:Prop}(h:p:=by omega):p:=h
theorem aq{p:Prop}(h:p:=by simp):p:=h
theorem bK{p:Prop}(h:p:=by (simp;omega)):p:=h
theorem aI{p:Prop}(h:p:=by kernel_rfl):p:=h
theorem cq{p:Prop}(h:p:=by decide):p:=h
theorem gQ{p:Prop}(h:p:=by (intro _ _;unfold execOp;simp[go_sem,Act.put,Act.eval])):p:=h
theorem gR{p:Prop}(h:p:=by (intro _ _ _ h;unfold execOp at h;simp[go_sem,Act.put,Act.eval]at h)):p:=h
open Go renaming Value->au,TypeId->aK,Program->aN,behindNumber->oN,runtimePanic->pY,binOp->eG,Addr->eV,IntKind->qK,TypeDesc->jy,World->an,BinOp->nu,seenCells->Cu,boundsPanic->My,FuncId->bh,typeInfo->GH,BoundsCode->iP,TypeInfo->iX,loadBytes->jf
open Go.RowKit.Below renaming heap_setCell->vU
open Go.Sem renaming bind->cA,bind_assoc'->zY,run_bind->ug,run_bind'->gH
open Go.Op renaming equal->ef,addrMod->Ce,addrSub->Gp,addrCmp->Gn,twoPlaces->Ml,intArith->Mg,stringOp->Mk,maxDepth->sD,intBits->Mh,equalIn->xV,intCmp->Mi,intDiv->Mj,shift->lg,unary->oc
open Go.World renaming setCell->fD,cell?->eO,shape?->gq,freeze->yf,frozen?->oK,seen->Mx,noCell->Vk
open _root_.MonadExcept renaming throw->Cc
open Go.Instr renaming slice->vN,fill->tU,getLoop->tV,takeDeferred->BN,sliceBounds->zO,sliceBound->Ma,buildSlice->LM,beginRound->zM,typeAssert->BO,makeSlice->BM,enterLoop->xI,checkKey->LN,endRound->rU,makeInterface->Uo,indexAt->xJ,fieldAt->LQ,sliceAt->tW,endLoop->xH,index->LU,build->LL,yield->zP,sureAddr->Ur,makeFunc->rV,storeAt->Uq,extract->Un,loadAt->zN,alloc->kq,box->ql
open Go.Builtin renaming unsafeAdd_->FL,len_->zH,min2->zI,unsafeString_->Ly,mayShare->Lx,append_->nx,copy_->rS,firstCells->Ua,holdsCells->Ub,zeroCells->lU,lenOf->Uc,min_->FK
open Go.Conv renaming bytesToString->LB
open _root_.Bind renaming bind->jm
open _root_.Pure renaming pure->jw
open _root_.Except renaming bind->FP,pure->FQ
open _root_.Array renaming toList_zipIdx->TX,toList_zip->TW,range->Lr
open _root_.Option.some renaming injEq->UW
open Go.Deferred renaming ofValue->vM
open Go.Value renaming ofBytes->Vb
open _root_.Nat renaming add_comm->jv
open _root_.Functor renaming map->Ul
open _root_.MonadExceptOf renaming throw->py
section
section
class aA where
 ok:bh->Prop
 code:Code->Prop
 known:bh->Prop
 /-- how many frames at the bottom are walked by themselves -/
 depth:Nat
 /-- blocks that are only looked at there, and what they hold -/
 wat:Nat->Option Obj
 /-- the program that runs -/
 prog:aN
variable [aA]
def uC(t:aK):Prop:=∀off v,plainCell aA.prog aA.prog.depth t off=some v->∃k,v=.int k 0
abbrev Ren:=Nat->Nat->Prop
def Ren.le(ρ c:Ren):Prop:=∀a b,ρ a b->c a b
def Ren.one(ρ:Ren):Prop:=(∀a b d,ρ a b->ρ a d->b=d)/\∀a c b,ρ a b->ρ c b->a=c
def Ren.ext(ρ:Ren)(n c:Nat):Ren:=fun a b=>ρ a b\/(a=n/\b=c)
theorem Ren.le_refl(ρ:Ren):ρ.le ρ:=fun _ _ h=>h
theorem Ren.le_trans{ρ c d:Ren}(h:ρ.le c)(k:c.le d):ρ.le d:=fun a b x=>k a b (h a b x)
theorem Ren.Jl(ρ:Ren)(n a:Nat):ρ.le (ρ.ext n a):=fun _ _ h=>.inl h
def AR(ρ:Ren)(a a':eV):Prop:=ρ a.block a'.block/\a'.off=a.off/\a'.spot=a.spot
inductive FR(ρ:Ren):Fn->Fn->Prop
 |func (f:bh) (h:aA.ok f):FR ρ (.func f) (.func f)
 |yield {l l':Nat} (h:ρ l l'):FR ρ (.yield l) (.yield l')
inductive VR(ρ:Ren):au->au->Prop
 |bool (b:Bool):VR ρ (.bool b) (.bool b)
 |int (k:qK) (n:Int):VR ρ (.int k n) (.int k n)
 |string (s:ByteArray):VR ρ (.string s) (.string s)
 |gi:VR ρ (.pointer none) (.pointer none)
 |ptr {a a':eV} (h:AR ρ a a'):VR ρ (.pointer (some a)) (.pointer (some a'))
 |fJ (l c:Nat):VR ρ (.slice none l c) (.slice none l c)
 |slice {a a':eV} (l c:Nat) (h:AR ρ a a'):VR ρ (.slice (some a) l c) (.slice (some a') l c)
 |lS:VR ρ (.map none) (.map none)
 |map {r g:Nat} (h:ρ r g):VR ρ (.map (some r)) (.map (some g))
 |mW:VR ρ (.chan none) (.chan none)
 |chan {r g:Nat} (h:ρ r g):VR ρ (.chan (some r)) (.chan (some g))
 |func {f f':Fn} {x e y j:Array au} (h:FR ρ f f') (m:e.size=x.size) (o:∀(i:Nat) v d,x[i]? =some v->e[i]? =some d->VR ρ v d) (p:j.size=y.size) (q:∀(i:Nat) v d,y[i]? =some v->j[i]? =some d->VR ρ v d):VR ρ (.func f x y) (.func f' e j)
 |nilFunc:VR ρ .nilFunc .nilFunc
 |iface {v d:au} (t:aK) (h:VR ρ v d):VR ρ (.iface t v) (.iface t d)
 |nilIface:VR ρ .nilIface .nilIface
 |agg {x e:Array au} (m:e.size=x.size) (o:∀(i:Nat) v d,x[i]? =some v->e[i]? =some d->VR ρ v d):VR ρ (.agg x) (.agg e)
 |tuple {x e:Array au} (m:e.size=x.size) (o:∀(i:Nat) v d,x[i]? =some v->e[i]? =some d->VR ρ v d):VR ρ (.tuple x) (.tuple e)
theorem AR.mono{ρ σ}(h:ρ.le σ){a a'}(k:AR ρ a a'):AR σ a a':=⟨h _ _ k.1,k.2⟩
theorem FR.mono{ρ σ}(h:ρ.le σ){f f'}(k:FR ρ f f'):FR σ f f':=by
 cases k with
 |func f a=>exact .func f a
 |yield k=>exact .yield (h _ _ k)
theorem VR.mono{ρ σ}(h:ρ.le σ){v v'}(k:VR ρ v v'):VR σ v v':=by
 induction k with
 |bool b=>exact .bool b
 |int k n=>exact .int k n
 |string s=>exact .string s
 |gi=>exact .gi
 |ptr k=>exact .ptr (k.mono h)
 |fJ l c=>exact .fJ l c
 |slice l c k=>exact .slice l c (k.mono h)
 |lS=>exact .lS
 |map k=>exact .map (h _ _ k)
 |mW=>exact .mW
 |chan k=>exact .chan (h _ _ k)
 |func k a _ e _ f g=>exact .func (k.mono h) a f e g
 |nilFunc=>exact .nilFunc
 |iface t _ d=>exact .iface t d
 |nilIface=>exact .nilIface
 |agg a _ d=>exact .agg a d
 |tuple a _ d=>exact .tuple a d
def bf(ρ:Ren)(x b:Array au):Prop:=b.size=x.size/\∀(i:Nat) v a,x[i]? =some v->b[i]? =some a->VR ρ v a
theorem bf.mono{ρ σ}(h:ρ.le σ){x x'}(k:bf ρ x x'):bf σ x x':=⟨k.1,fun i v c a b=>(k.2 i v c a b).mono h⟩
def lI(ρ:Ren)(x b:Array MapEntry):Prop:=b.size=x.size/\∀(i:Nat) e a,x[i]? =some e->b[i]? =some a->VR ρ e.key a.key/\VR ρ e.val a.val/\a.born=e.born
inductive OR(ρ:Ren):Obj->Obj->Prop
 |cells {x b:Array au} (t:aK) (fz:Nat×Nat) (h:bf ρ x b):OR ρ (.cells x t fz) (.cells b t fz)
 |map {x b:Array MapEntry} (c:Nat) (h:lI ρ x b):OR ρ (.map x c) (.map b c)
 |chan (cap:Nat) (cl:Bool) (s r:Nat) (t:Bool):OR ρ (.chan cap #[] cl s r t) (.chan cap #[] cl s r t)
 |loop {l l':Loop} (h0:aA.known l.fn/\aA.code l.assign/\aA.code l.body/\∀c,l.pending=some c->aA.code c) (d:l'.state=l.state) (e:l'.pending=l.pending) (f:l'.fn=l.fn) (g:bf ρ l.tmps l'.tmps) (i:l'.params=l.params) (j:l'.assign=l.assign) (k:l'.body=l.body) (m:ρ l.defers l'.defers):OR ρ (.loop l) (.loop l')
 |uQ:OR ρ (.deferred none) (.deferred none)
 |rz:OR ρ (.deferred (some [])) (.deferred (some []))
 |number {a a':eV} (l:Bool) (h:AR ρ a a'):OR ρ (.number a l) (.number a' l)
 |view {a a':eV} (t:aK) (n:uC t) (h:AR ρ a a'):OR ρ (.view a t) (.view a' t)
theorem lI.mono{ρ σ}(h:ρ.le σ){x x'}(k:lI ρ x x'):lI σ x x':=⟨k.1,fun i e c a b=>⟨(k.2 i e c a b).1.mono h,(k.2 i e c a b).2.1.mono h,(k.2 i e c a b).2.2⟩⟩
theorem OR.mono{ρ σ}(h:ρ.le σ){o o'}(k:OR ρ o o'):OR σ o o':=by
 cases k with
 |cells t d k=>exact .cells t d (k.mono h)
 |map c k=>exact .map c (k.mono h)
 |chan a b s r t=>exact .chan a b s r t
 |loop h0 e f g i j m n p=>exact .loop h0 e f g (i.mono h) j m n (h _ _ p)
 |uQ=>exact .uQ
 |rz=>exact .rz
 |number l k=>exact .number l (k.mono h)
 |view t q k=>exact .view t q (k.mono h)
@[simp] def jT:Halt->Prop
 |.stuck _=>True
 |.unsupported (.initOrder _)=>False
 |.unsupported _=>True
 |_=>False
def bG:Obj:=.coro none
def Calm(o:Option Obj):Prop:=∃x t a,o=some (.cells x t a)/\x.size≠0/\a.2<=a.1
structure WR(p:aN)(ρ:Ren)(w w':an):Prop where
 one:ρ.one
 lt:∀a b,ρ a b->a<w.heap.size/\b<w'.heap.size
 obj:∀a b o,ρ a b->w.heap[a]? =some o->o=bG\/∃c,w'.heap[b]? =some c/\OR ρ o c
 tape:∀i q,w'.tape (w'.drawn+i) q=w.tape (w.drawn+i) q
 low:∀a b,ρ a b->a<p.globals.size->b<p.globals.size
 base:p.globals.size<=w.heap.size
 calm:∀a b,ρ a b->w.heap[a]? =some bG->Calm w'.heap[b]?
 os:w'.os=w.os/\p=aA.prog
abbrev Kn:=Nat->Prop
def Kn.and(K:Kn)(r:Nat):Kn:=fun x=>K x\/x=r
def Kn.le(K L:Kn):Prop:=∀r,K r->L r
def Good(P:aN)(ρ:Ren):Prop:=ρ.one/\(∀a b,ρ a b->a<P.globals.size->b<P.globals.size)/\P=aA.prog
inductive SR(P:aN){α c:Type}(Q:Ren->α->c->Prop):Ren->Kn->Sem α->Sem c->Prop
 |pure {ρ:Ren} {K:Kn} {a:α} {b:c} (h:Q ρ a b):SR P Q ρ K (.pure a) (.pure b)
 |load {ρ:Ren} {K:Kn} {m:Mode} {a a':eV} {k:au->Sem α} {k':au->Sem c} (i:AR ρ a a') (h:∀v g,VR ρ v g->SR P Q ρ (K.and a.block) (k v) (k' g)):SR P Q ρ K (.load m a k) (.load m a' k')
 |store {ρ:Ren} {K:Kn} {m:Mode} {a a':eV} {v g:au} {k:Sem α} {k':Sem c} (i:AR ρ a a') (hv:VR ρ v g) (h:SR P Q ρ (K.and a.block) k k'):SR P Q ρ K (.store m a v k) (.store m a' g k')
 |new {ρ:Ren} {K:Kn} {o e:Obj} {k:Nat->Sem α} {k':Nat->Sem c} (A:OR ρ o e) (h:∀n z,SR P Q (ρ.ext n z) (K.and n) (k n) (k' z)):SR P Q ρ K (.new o k) (.new e k')
 |shape {ρ:Ren} {K:Kn} {r d:Nat} {k:Option (aK×Nat)->Sem α} {k':Option (aK×Nat)->Sem c} (hr:ρ r d) (h:∀x,SR P Q ρ (K.and r) (k (some x)) (k' (some x))) (h0:K r->SR P Q ρ K (k none) (k' none)) (y:¬K r->∃x,k none=.halt x/\jT x):SR P Q ρ K (.shape r k) (.shape d k')
 |freeze {ρ:Ren} {K:Kn} {a a':eV} {n:Nat} {k:Sem α} {k':Sem c} (i:AR ρ a a') (p:K a.block) (h:SR P Q ρ K k k'):SR P Q ρ K (.freeze a n k) (.freeze a' n k')
 |frozen {ρ:Ren} {K:Kn} {a a':eV} {k:Bool->Sem α} {k':Bool->Sem c} (i:AR ρ a a') (p:K a.block) (h:∀b,SR P Q ρ K (k b) (k' b)):SR P Q ρ K (.frozen a k) (.frozen a' k')
 |getObj {ρ:Ren} {K:Kn} {r d:Nat} {k:Obj->Sem α} {k':Obj->Sem c} (hr:ρ r d) (h:∀o e,OR ρ o e->SR P Q ρ (K.and r) (k o) (k' e)) (h0:∃x,k bG=.halt x/\jT x):SR P Q ρ K (.getObj r k) (.getObj d k')
 |setObj {ρ:Ren} {K:Kn} {r d:Nat} {o e:Obj} {k:Sem α} {k':Sem c} (hr:ρ r d) (p:K r) (A:OR ρ o e) (h:SR P Q ρ K k k'):SR P Q ρ K (.setObj r o k) (.setObj d e k')
 |choose {ρ:Ren} {K:Kn} {q:Question} {k:Nat->Sem α} {k':Nat->Sem c} (h:∀n,SR P Q ρ K (k n) (k' n)):SR P Q ρ K (.choose q k) (.choose q k')
 |program {ρ:Ren} {K:Kn} {k:aN->Sem α} {k':aN->Sem c} (h:SR P Q ρ K (k P) (k' P)):SR P Q ρ K (.program k) (.program k')
 |env {ρ:Ren} {K:Kn} {k:SysRet->Sem α} {k':SysRet->Sem c} (h:∀r,SR P Q ρ K (k r) (k' r)):SR P Q ρ K (.sys .env k) (.sys .env k')
 |noRoom {ρ:Ren} {K:Kn} {k:Sem α} {k':Sem c} (h:SR P Q ρ K k k'):SR P Q ρ K (.mark .noRoom k) (.mark .noRoom k')
 |panic {ρ:Ren} {K:Kn} {v g:au} (h:VR ρ v g):SR P Q ρ K (.halt (.panic v)) (.halt (.panic g))
 |lost {ρ:Ren} {K:Kn} {x:Halt} {s:Sem c} (h:jT x):SR P Q ρ K (.halt x) s
 |uR {ρ:Ren} {K:Kn} {s:Sem α} {j:Sem c} (h:∀w,∃x B,s.run P w=.halt x B/\jT x):SR P Q ρ K s j
 |assume {ρ:Ren} {K:Kn} {s:Sem α} {j:Sem c} (h:Good P ρ->SR P Q ρ K s j):SR P Q ρ K s j
 |number {ρ:Ren} {K:Kn} {r d:Nat} {k:Option (eV×Bool)->Sem α} {k':Option (eV×Bool)->Sem c} (hr:ρ r d) (h0:SR P Q ρ K (k none) (k' none)) (y:∀a a' l,AR ρ a a'->SR P Q ρ (K.and r) (k (some (a,l))) (k' (some (a',l)))):SR P Q ρ K ((numberAt r).bind k) ((numberAt d).bind k')
 |icy {ρ:Ren} {K:Kn} {a a':eV} {k:Bool->Sem α} {k':Bool->Sem c} (i:AR ρ a a') (h:∀b,SR P Q ρ K (k b) (k' b)):SR P Q ρ K (.frozen a k) (.frozen a' k')
 |kin {ρ:Ren} {K:Kn} {a a' b u:eV} {k:Bool->Sem α} {k':Bool->Sem c} (i:AR ρ a a') (C:AR ρ b u) (h:∀x,SR P Q ρ K (k x) (k' x)):SR P Q ρ K ((mayBeOne a b).bind k) ((mayBeOne a' u).bind k')
 |view {ρ:Ren} {K:Kn} {r d:Nat} {k:Option (eV×aK)->Sem α} {k':Option (eV×aK)->Sem c} (hr:ρ r d) (h0:SR P Q ρ K (k none) (k' none)) (y:∀a a' t,AR ρ a a'->SR P Q ρ (K.and r) (k (some (a,t))) (k' (some (a',t)))):SR P Q ρ K ((viewAt r).bind k) ((viewAt d).bind k')
 |AI {ρ:Ren} {K:Kn} {r d:Nat} {k:Obj->Sem α} {k':Obj->Sem c} (hr:ρ r d) (p:K r) (h:∀o e,OR ρ o e->SR P Q ρ K (k o) (k' e)):SR P Q ρ K (.getObj r k) (.getObj d k')
 |ext {ρ:Ren} {K:Kn} {f:bh} {k:Sem α} {k':Sem c} (h:SR P Q ρ K k k'):SR P Q ρ K (.mark (.extern f) k) (.mark (.extern f) k')
theorem SR.bind{P}{α F M N:Type}{Q R ρ}{K:Kn}{s:Sem α}{E:Sem F}{f:α->Sem M}{f':F->Sem N}(h:SR P Q ρ K s E)(hf:∀d L a b,ρ.le d->K.le L->Q d a b->SR P R d L (f a) (f' b)):SR P R ρ K (s.bind f) (E.bind f'):=by
 have up:∀{K L:Kn} {r:Nat},(K.and r).le L->K.le L:=fun h x u=>h x (.inl u);induction h with
 |pure h=>exact hf _ _ _ _ (Ren.le_refl _) (fun _ h=>h) h
 |load j _ c=>exact .load j fun v I hv=>c v I hv fun d L a b i k m=>hf d L a b i (up k) m
 |store j hv _ c=>exact .store j hv (c fun d L a b i k m=>hf d L a b i (up k) m)
 |new q _ c=>exact .new q fun n H=>c n H fun d L a b i k m=>hf d L a b (Ren.le_trans (Ren.Jl _ _ _) i) (up k) m
 |shape hr _ _ i c y=>
  refine .shape hr (fun x=>c x fun d L a b i k m=>hf d L a b i (up k) m) (fun A=>y A hf) (fun A=>?_);obtain⟨x,u,B⟩:=i A;exact⟨x,by rw[u];rfl,B⟩
 |freeze j p _ c=>exact .freeze j p (c hf)
 |frozen j p _ c=>exact .frozen j p fun b=>c b hf
 |getObj hr _ h0 c=>
  obtain⟨x,u,B⟩:=h0;exact .getObj hr (fun o D q=>c o D q fun d L a b i k m=>hf d L a b i (up k) m) ⟨x,by rw[u];rfl,B⟩
 |setObj hr p q _ c=>exact .setObj hr p q (c hf)
 |choose _ c=>exact .choose fun n=>c n hf
 |program _ c=>exact .program (c hf)
 |env _ c=>exact .env fun r=>c r hf
 |noRoom _ c=>exact .noRoom (c hf)
 |panic h=>exact .panic h
 |lost h=>exact .lost h
 |uR h=>
  refine .uR fun w=>?_;obtain⟨x,J,e,u⟩:=h w;refine⟨x,J,?_,u⟩;rw[gH,e];rfl
 |assume _ c=>exact .assume fun g=>c g hf
 |number hr _ _ y C=>
  rw[zY,zY];exact .number hr (y hf) fun a z l j=>C a z l j fun d L a b i k m=>hf d L a b i (up k) m
 |icy j _ c=>exact .icy j fun b=>c b hf
 |kin j G _ c=>
  rw[zY,zY];exact .kin j G fun x=>c x hf
 |view hr _ _ y C=>
  rw[zY,zY];exact .view hr (y hf) fun a z t j=>C a z t j fun d L a b i k m=>hf d L a b i (up k) m
 |AI hr p _ c=>exact .AI hr p fun o D q=>c o D q hf
 |ext _ c=>exact .ext (c hf)
end
section
variable [aA]
theorem VR.bytes{ρ v v'}(h:VR ρ v v'){bs}(a:v.bytes?=some bs):v'=v:=by cases h<;>first|rfl|cases a
theorem VR.ofBytes{ρ v v'}(h:VR ρ v v'){bs u}(a:v.ofBytes bs=some u):v'.ofBytes bs=some u/\VR ρ u u:=by
 cases h<;>first|(cases a;done)|refine⟨a,?_⟩
 ·simp only[Vb]at a;split at a<;>first|(cases a;done)|(cases a;exact .bool _)
 ·simp only[Vb]at a;split at a
  ·cases a;exact .int _ _
  ·cases a
theorem bf.get{ρ x x'}(h:bf ρ x x'){i:Nat}{v:au}(hv:x[i]? =some v):∃b,x'[i]? =some b/\VR ρ v b:=by
 have a:i<x'.size:=by rw[h.1];exact((aP.1 hv).1)
 exact⟨x'[i],cw a,h.2 i v _ hv (cw a)⟩
theorem Sb{ρ}{p:aN}{c g:Array au}(hc:bf ρ c g)(e):∀(f x stop:Nat) {l:List (Nat×Nat×List UInt8)},Cu p c e f x stop=.ok l->Cu p g e f x stop=.ok l
 |0,_,_,l,h=>by cases h
 |f+1,x,stop,l,h=>by
  unfold Cu at h⊢;dsimp only at h⊢
  by_cases m:x≥stop
  ·rw[aM m]at h⊢;exact h
  rw[aD m]at h⊢
  by_cases k:p.bytesOf e=0
  ·rw[aM k]at h;cases h
  rw[aD k]at h⊢;split at h
  ·cases h
  ·rename_i i s q;split at h
   ·cases h
   ·rename_i v hv;obtain⟨t,o,hr⟩:=hc.get hv;rw[o];dsimp only;split at h
    ·cases h
    ·cases h
    ·rename_i a n j;rw[hr.bytes j,j];cases a with
     |nil=>exact absurd rfl n
     |cons b a=>
      dsimp only;cases d:Cu p c e f (s+(b::a).length) stop with
      |error y=>rw[d]at h;cases h
      |ok r=>rw[d]at h;rw[Sb hc e f _ _ d];exact h
theorem Sd{ρ:Ren}{p:aN}{w w':an}{at_ a k k':eV}{u e:aK}{m:Bool}{c b:Array au}{fz:Nat×Nat}(hc:w.heap[at_.block]? =some (.cells c e fz))(B:w'.heap[a.block]? =some (.cells b e fz))(t:a.off=at_.off/\a.spot=at_.spot)(v:k'.off=k.off/\k'.spot=k.spot)(hv:bf ρ c b)
  {r:Array au×aK×(Nat×Nat)×Nat×au×List (Nat×Nat×List UInt8)} (h:w.seen p at_ u k m=.ok r):r.1=c/\r.2.1=e/\r.2.2.1=fz/\plainCell p p.depth u k.off=some r.2.2.2.2.1/\w'.seen p a u k' m=.ok (b,r.2):=by
 unfold Mx at h⊢;rw[hc]at h;rw[B,t.1,t.2,v.1,v.2];simp only[bind,FP,pure,FQ,throw,throwThe,py]at h⊢;have C:∀{D:Type} (s:String),(Cc s:Except String D)=.error s:=fun _=>rfl;simp only[C]at h⊢
 by_cases g:(k.spot.isSome||at_.spot.isSome)=true
 ·rw[aM g]at h;cases h
 rw[aD g]at h⊢;cases i:plainCell p p.depth u k.off with
 |none=>rw[i]at h;cases h
 |some like=>
  rw[i]at h;dsimp only at h⊢;cases j:Option.map (fun x=>x.length) like.bytes? with
  |none=>rw[j]at h;cases h
  |some size=>
   rw[j]at h;dsimp only at h⊢;cases n:byteOfCell p p.depth u k.off with
   |none=>rw[n]at h;cases h
   |some z=>
    rw[n]at h;dsimp only at h⊢
    by_cases o:p.cellsOf e=0
    ·rw[aM o]at h;cases h
    rw[aD o]at h⊢;cases q:byteOfCell p p.depth e (at_.off %p.cellsOf e)with
    |none=>rw[q]at h;cases h
    |some f=>
     rw[q]at h;dsimp only at h⊢;cases d:Cu p c e (size+1) (at_.off / p.cellsOf e*p.bytesOf e+f+z) (at_.off / p.cellsOf e*p.bytesOf e+f+z+size)with
     |error y=>rw[d]at h;cases h
     |ok l=>
      rw[d]at h;rw[Sb hv e _ _ _ d];dsimp only at h⊢;cases m with
      |false=>
       simp at h⊢;cases h;exact⟨rfl,rfl,rfl,rfl,rfl⟩
      |true=>
       simp only[cD]at h⊢;split at h
       ·rename_i x s E;split at h
        ·cases h
        ·rename_i A;rw[aD A];cases h;exact⟨rfl,rfl,rfl,rfl,rfl⟩
       ·cases h
theorem seen_cells{p:aN}{w:an}{at_ k:eV}{u:aK}{m:Bool}{r:Array au×aK×(Nat×Nat)×Nat×au×List (Nat×Nat×List UInt8)}(h:w.seen p at_ u k m=.ok r):∃c e a,w.heap[at_.block]? =some (.cells c e a):=by
 cases f:w.heap[at_.block]? with
 |some o=>
  cases o with
  |cells c e a=>exact⟨c,e,a,rfl⟩
  |_=>
   exfalso;unfold Mx at h;rw[f]at h;simp at h;have b:∀{d:Type} (s:String),(Cc s:Except String d)=.error s:=fun _=>rfl;simp only[b]at h
   repeat' (split at h)
   all_goals cases h
 |none=>
  exfalso;unfold Mx at h;rw[f]at h;simp at h;have b:∀{d:Type} (s:String),(Cc s:Except String d)=.error s:=fun _=>rfl;simp only[b]at h
  repeat' (split at h)
  all_goals cases h
theorem aeC{ρ:Ren}{p:aN}{w w':an}(B:p=aA.prog){at_ a k k':eV}{t:aK}(C:uC t)(i:AR ρ at_ a)(n:k'.off=k.off/\k'.spot=k.spot){m:Bool}
  (u:∀o,w.heap[at_.block]? =some o->o=bG\/∃f,w'.heap[a.block]? =some f/\OR ρ o f) {r:au×List eV} (h:w.viewLoad p at_ t k m=.ok r):
  ∃l,w'.viewLoad p a t k' m=.ok (r.1,l)/\VR ρ r.1 r.1/\(∀x∈l,x.block=a.block)/\∃o,w.heap[at_.block]? =some o/\o≠bG:=by
 unfold World.viewLoad at h⊢;simp only[bind,FP,pure,FQ]at h⊢;have G:∀{H:Type} (s:String),(Cc s:Except String H)=.error s:=fun _=>rfl;simp only[G]at h⊢;cases b:w.seen p at_ t k m with
 |error y=>rw[b]at h;cases h
 |ok z=>
  obtain⟨c,e,J,d⟩:=seen_cells b;rcases u _ d with h0|⟨f,q,A⟩
  ·cases h0
  cases A with
  |@cells _ I _ _ hv=>
   obtain⟨_,_,_,g,j⟩:=Sd d q ⟨i.2.1,i.2.2⟩ n hv b;obtain⟨K,L,M,N,O,P⟩:=z;rw[b]at h;rw[j];dsimp only at h g⊢;subst B;obtain⟨F,rfl⟩:=C _ _ g;split at h
   ·rename_i v D;cases h;refine⟨_,rfl,?_,?_,_,d,by intro e;cases e⟩
    ·exact(VR.ofBytes (.int F 0) D).2
    ·intro x E;obtain⟨y,_,rfl⟩:=iV.1 E;rfl
   ·cases h
theorem OS{ρ:Ren}{fz:Nat×Nat}{first:Nat}{bytes:List UInt8}(g:Array au->Nat×Nat×List UInt8->Except String (Array au))
  (f:∀c a y z,bf ρ c a->g c y=.ok z->∃b,g a y=.ok b/\bf ρ z b):∀(l:List (Nat×Nat×List UInt8)) (c a z:Array au),bf ρ c a->l.foldlM g c=.ok z->∃b,l.foldlM g a=.ok b/\bf ρ z b
 |[],c,a,z,h,e=>by simp only[List.foldlM_nil,pure,FQ]at e⊢;cases e;exact⟨_,rfl,h⟩
 |y::l,c,a,z,h,e=>by
  simp only[List.foldlM_cons,bind,FP]at e⊢;cases d:g c y with
  |error w=>rw[d]at e;cases e
  |ok k=>
   rw[d]at e;obtain⟨m,i,j⟩:=f _ _ _ _ h d;rw[i];exact OS (fz:=fz) (first:=first) (bytes:=bytes) g f l _ _ _ j e
theorem aeD{ρ:Ren}{p:aN}{w w':an}{at_ g k k':eV}{t:aK}{v K:au}(E:AR ρ at_ g)(T:k'.off=k.off/\k'.spot=k.spot)(hv:VR ρ v K){m:Bool}
  (X:∀o,w.heap[at_.block]? =some o->o=bG\/∃C,w'.heap[g.block]? =some C/\OR ρ o C) {r:an×List eV} (h:w.viewStore p at_ t k v m=.ok r):
  ∃I J l,r.1={w with heap:=w.heap.setIfInBounds at_.block I}/\w'.viewStore p g t k' K m=.ok ({w' with heap:=w'.heap.setIfInBounds g.block J},l)/\OR ρ I J/\(∀x∈l,x.block=g.block)/\∃o,w.heap[at_.block]? =some o/\o≠bG:=by
 unfold World.viewStore at h⊢;simp only[bind,FP,pure,FQ]at h⊢;have ak:∀{α:Type} (s:String),(Cc s:Except String α)=.error s:=fun _=>rfl;simp only[ak]at h⊢;cases G:tight p p.depth t with
 |false=>rw[G]at h;cases h
 |true=>
  rw[G]at h;simp only[Bool.not_true,eA,dy]at h⊢;cases n:w.seen p at_ t k m with
  |error y=>rw[n]at h;cases h
  |ok z=>
   obtain⟨c,e,fz,A⟩:=seen_cells n;rcases X _ A with h0|⟨C,W,uX⟩
   ·cases h0
   cases uX with
   |@cells _ D _ _ H=>
    obtain⟨z1,z2,z3,z4,z5,z6⟩:=z;obtain⟨rfl,rfl,rfl,P,Q⟩:=Sd A W ⟨E.2.1,E.2.2⟩ T H n;rw[n]at h;rw[Q];dsimp only at h P⊢;cases q:v.bytes? with
    |none=>rw[q]at h;cases h
    |some L=>
     obtain rfl:=hv.bytes q;rw[q]at h⊢;dsimp only at h⊢;split at h
     ·cases h
     ·rename_i U;rw[aD U];split at h
      ·cases h
      ·rename_i M R;cases h
       obtain⟨aC,S,hr⟩:=OS (fz:=z3) (first:=z4) (bytes:=L) _ (fun c D y z B a=>by
        obtain⟨i,s,b⟩:=y;dsimp only at a⊢;split at a
        ·cases a
        ·rename_i N;rw[aD N];split at a
         ·cases a
         ·rename_i O;rw[aD O];split at a
          ·rename_i old Y;obtain⟨aE,Z,aa⟩:=B.get Y;rw[Z];dsimp only;split at a
           ·rename_i new V;obtain⟨n1,n2⟩:=aa.ofBytes V;rw[n1];cases a;refine⟨_,rfl,by simp[B.1],fun j u u' d f=>?_⟩;rw[zD]at d f
            by_cases F:i=j
            ·subst F;rw[aM rfl]at d f;split at d
             ·split at f
              ·cases d;cases f;exact n2
              ·cases f
             ·cases d
            ·rw[aD F]at d f;exact B.2 j u u' d f
           ·cases a
          ·cases a) z6 z1 D M H R
       rw[S];refine⟨_,_,_,rfl,rfl,.cells _ _ hr,?_,_,A,by intro e;cases e⟩;intro x hx;obtain⟨y,_,rfl⟩:=iV.1 hx;rfl
end
section
variable [aA]
def Full(ρ:Ren)(w:an):Prop:=∀a o,w.heap[a]? =some o->o≠bG->∃b,ρ a b
structure bO(p:aN)(ρ d:Ren)(w w1 w' c:an):Prop where
 le:ρ.le d
 rel:WR p d w1 c
 size:w'.heap.size<=c.heap.size
 bU:∀b,b<w'.heap.size->(∀a,¬ρ a b)->c.heap[b]? =w'.heap[b]?
 news:∀a b,d a b->ρ a b\/(w'.heap.size<=b/\w.heap.size<=a/\a+w'.heap.size=b+w.heap.size)
 os:c.os=w'.os
 output:c.output=w'.output
 tape:c.tape=w'.tape
 drawn:c.drawn+w.drawn=w'.drawn+w1.drawn
 yU:w1.heap.size+w'.heap.size=c.heap.size+w.heap.size
 base:w.heap.size<=w1.heap.size
 still:∀a b,ρ a b->w.heap[a]? =some bG->w1.heap[a]? =some bG/\c.heap[b]? =w'.heap[b]?
 full:Full ρ w->Full d w1
theorem bO.refl{p ρ w w'}(h:WR p ρ w w'):bO p ρ ρ w w w' w':=⟨Ren.le_refl _,h,aV _,fun _ _ _=>rfl,fun _ _ h=>.inl h,rfl,rfl,rfl,rfl,jv _ _,aV _,fun _ _ _ h=>⟨h,rfl⟩,id⟩
theorem bO.trans{p ρ σ τ w w1 w2 w' TA w2'}(h:bO p ρ σ w w1 w' TA)(k:bO p σ τ w1 w2 TA w2'):bO p ρ τ w w2 w' w2':=by
 refine⟨Ren.le_trans h.le k.le,k.rel,cS h.size k.size,fun b g i=>?_,fun a b c=>?_,k.os.trans h.os,k.output.trans h.output,k.tape.trans h.tape,?_,by(have h1:=h.yU;have e:=k.yU;omega),cS h.base k.base,fun a b c d=>⟨(k.still a b (h.le _ _ c) (h.still a b c d).1).1,(k.still a b (h.le _ _ c) (h.still a b c d).1).2.trans (h.still a b c d).2⟩,fun f=>k.full (h.full f)⟩
 ·rw[k.bU b (cV g h.size) (fun a j=>?_),h.bU b g i];rcases h.news a b j with h1|h1
  ·exact i a h1
  ·omega
 ·rcases k.news a b c with h1|h1
  ·exact h.news a b h1
  ·have e:=h.yU;have l:=h.size;have m:=h.base;exact .inr ak
 ·have h1:=h.drawn;have e:=k.drawn;omega
def Own(K:Kn)(w:an):Prop:=∀r,K r->∃o,w.heap[r]? =some o/\o≠bG
theorem fO{ρ o o'}(h:OR ρ o o'):o≠bG:=by intro e;subst e;cases h
theorem Own.set{K w}(h:Own K w)(a v):Own K (w.setCell a v):=fun r hr=>by
 obtain⟨o,c,b⟩:=h r hr;simp only[fD,kJ,c];split
 ·refine⟨_,rfl,?_⟩;cases o<;>first|(intro e;cases e;done)|(intro e;exact b e)
 ·exact⟨o,rfl,b⟩
theorem Own.push{K w}(h:Own K w){o}(b:o≠bG):Own (K.and w.heap.size) {w with heap:=w.heap.push o}:=by
 rintro r (hr|rfl)
 ·obtain⟨x,a,c⟩:=h r hr;have:=(aP.1 a).1;exact⟨x,by show(w.heap.push o)[r]? =_;rw[eN,aD ak];exact a,c⟩
 ·exact⟨o,by show(w.heap.push o)[w.heap.size]? =_;simp,b⟩
theorem Own.put{K w}(h:Own K w)(r){o}(b:o≠bG):Own K {w with heap:=w.heap.setIfInBounds r o}:=fun x c=>by
 obtain⟨y,a,d⟩:=h x c;have e:=(aP.1 a).1;rw[zD];split
 ·split
  ·exact⟨o,rfl,b⟩
  ·omega
 ·exact⟨y,a,d⟩
theorem Own.and{K w}(h:Own K w){r o}(b:w.heap[r]? =some o)(a:o≠bG):Own (K.and r) w:=by
 rintro x (c|rfl)
 ·exact h x c
 ·exact⟨o,b,a⟩
theorem og{w:an}{a:eV}{v:au}(h:w.cell? a=some v):∃o,w.heap[a.block]? =some o/\o≠bG:=by
 unfold eO at h;split at h
 ·rename_i c t d b;exact⟨_,b,by intro e;cases e⟩
 ·cases h
theorem Di{p ρ w w'}(m:WR p ρ w w'){a a'}(b:AR ρ a a'){v}(h:w.cell? a=some v):∃e,w'.cell? a'=some e/\VR ρ v e:=by
 unfold eO at h;split at h
 ·rename_i c t n g;split at h
  ·cases h
  ·rename_i l;rcases m.obj _ _ _ b.1 g with k|⟨o,i,j⟩
   ·cases k
   ·cases j with
    |cells _ _ hv=>
     rename_i f;have d:a.off<f.size:=by rw[hv.1];exact((aP.1 h).1)
     refine⟨f[a.off],?_,hv.2 a.off v _ h (by simp[d])⟩;unfold eO;rw[i,b.2.2,b.2.1];simp[l,d]
 ·cases h
theorem bf.set{ρ x x'}(h:bf ρ x x'){v v'}(hv:VR ρ v v')(i):bf ρ (x.setIfInBounds i v) (x'.setIfInBounds i v'):=by
 refine⟨by simp[h.1],fun j u d a b=>?_⟩;rw[zD]at a b
 by_cases c:i=j
 ·subst c;rw[aM rfl]at a b;split at a
  ·split at b
   ·cases a;cases b;exact hv
   ·cases b
  ·cases a
 ·rw[aD c]at a b;exact h.2 j u d a b
theorem WR.set{p:aN}{ρ:Ren}{w w':an}(b:WR p ρ w w'){a a':eV}(g:AR ρ a a'){v j:au}(hv:VR ρ v j){u:au}(hc:w.cell? a=some u):WR p ρ (w.setCell a v) (w'.setCell a' j):=by
 refine⟨b.one,fun x y h=>by have:=b.lt x y h;simp[fD];exact this,fun x y o i d=>?_,b.tape,b.low,by simpa[fD]using b.base,fun x y i k=>?_,b.os⟩
 rotate_left
 ·by_cases f:x=a.block
  ·subst f;obtain⟨o,d,z⟩:=Own.set (K:=(·=a.block)) (w:=w) (fun r hr=>by(obtain rfl:r=a.block:=hr;exact og hc)) a v a.block rfl;rw[k]at d;cases d;exact absurd rfl z
  ·have l:y≠a'.block:=fun e=>f (b.one.2 _ _ _ (e▸i) g.1);have m:(w.setCell a v).heap[x]? =w.heap[x]? :=vU w a v x f;have n:(w'.setCell a' j).heap[y]? =w'.heap[y]? :=vU w' a' j y l;rw[m]at k;rw[n];exact b.calm x y i k
 by_cases f:x=a.block
 ·subst f;have l:y=a'.block:=b.one.1 _ _ _ i g.1;subst l;unfold eO at hc;split at hc
  ·rename_i c t E q;split at hc
   ·cases hc
   ·rename_i s;rcases b.obj _ _ _ g.1 q with k|⟨F,A,B⟩
    ·cases k
    ·cases B with
     |cells _ _ D=>
      rename_i G;right;simp only[fD,kJ,q]at d;simp only[fD,kJ,A];have C:¬a'.spot.isSome=true:=by rw[g.2.2];exact s
      simp only[cD,qV,s,C,dy,UW,eA]at d⊢;refine⟨_,rfl,?_⟩;rw[<-d,g.2.1];exact .cells _ _ (D.set hv _)
  ·cases hc
 ·have l:y≠a'.block:=fun e=>f (b.one.2 _ _ _ (e▸i) g.1);have m:(w.setCell a v).heap[x]? =w.heap[x]? :=vU w a v x f;have n:(w'.setCell a' j).heap[y]? =w'.heap[y]? :=vU w' a' j y l;rw[m]at d;rw[n];exact b.obj x y o i d
theorem bO.set{p:aN}{ρ:Ren}{w w':an}(k:WR p ρ w w'){a a':eV}(g:AR ρ a a'){v i:au}(hv:VR ρ v i){u:au}(hc:w.cell? a=some u):bO p ρ ρ w (w.setCell a v) w' (w'.setCell a' i):=
 ⟨Ren.le_refl _,k.set g hv hc,by simp[fD],fun b _ c=>vU w' a' i b (fun e=>c a.block (e▸g.1)),fun _ _ h=>.inl h,rfl,rfl,rfl,rfl,by(simp[fD];omega),by simp[fD],fun x y m j=>by
  have f:x≠a.block:=by rintro rfl;obtain⟨o,d,c⟩:=og hc;rw[j]at d;cases d;exact c rfl
  have n:y≠a'.block:=fun e=>f (k.one.2 _ _ _ (e▸m) g.1);exact⟨(vU w a v x f).trans j,vU w' a' i y n⟩,fun l x o d c=>by
  by_cases f:x=a.block
  ·exact⟨_,f▸g.1⟩
  ·rw[vU w a v x f]at d;exact l x o d c⟩
theorem bO.new{p ρ w w'}(c:WR p ρ w w'){o j}(n:OR ρ o j):bO p ρ (ρ.ext w.heap.size w'.heap.size) w {w with heap:=w.heap.push o} w' {w' with heap:=w'.heap.push j}:=by
 have i:=Ren.Jl ρ w.heap.size w'.heap.size
 refine⟨i,⟨⟨?_,?_⟩,?_,?_,c.tape,?_,by have:=c.base;simp;omega,?_,c.os⟩,aq,?_,?_,rfl,rfl,rfl,rfl,by(simp;omega),aq,fun a b s d=>by
  have f:=c.lt _ _ s;exact⟨by rw[eN,aD ak];exact d,by rw[eN,aD ak]⟩,fun t x q r u=>by
  by_cases e:x=w.heap.size
  ·exact⟨_,.inr ⟨e,rfl⟩⟩
  ·rw[eN,aD e]at r;exact(t x q r u).imp fun b m=>.inl m⟩
 ·rintro a b D (h|⟨l,g⟩) (k|⟨A,B⟩)
  ·exact c.one.1 _ _ _ h k
  ·have:=(c.lt _ _ h).1;omega
  ·have:=(c.lt _ _ k).1;omega
  ·omega
 ·rintro a C b (h|⟨l,g⟩) (k|⟨A,B⟩)
  ·exact c.one.2 _ _ _ h k
  ·have:=(c.lt _ _ h).2;omega
  ·have:=(c.lt _ _ k).2;omega
  ·omega
 ·rintro a b (h|⟨l,g⟩)
  ·have:=c.lt _ _ h;simp;omega
  ·simp;omega
 ·rintro a b x (h|⟨rfl,rfl⟩) e
  ·have f:=c.lt _ _ h;rw[eN,aD ak]at e;rw[eN,aD ak];rcases c.obj a b x h e with d|⟨y,z,v⟩
   ·exact .inl d
   ·exact .inr ⟨y,z,v.mono i⟩
  ·rw[eN,aM rfl]at e;cases e;exact .inr ⟨j,aq,n.mono i⟩
 ·rintro a b (h|⟨rfl,rfl⟩) f
  ·exact c.low a b h f
  ·have:=c.base;omega
 ·rintro a b (h|⟨rfl,rfl⟩) d
  ·have f:=c.lt _ _ h;rw[eN,aD ak]at d;rw[eN,aD ak];exact c.calm a b h d
  ·rw[eN,aM rfl]at d;cases d;exact absurd rfl (fO n)
 ·intro b m _;rw[eN,aD ak]
 ·rintro a b (h|⟨_,g⟩)
  ·exact .inl h
  ·exact .inr ak
theorem bO.put{p ρ w w'}(a:WR p ρ w w'){r f}(hr:ρ r f){o l}(t:OR ρ o l)(v:∃x,w.heap[r]? =some x/\x≠bG):bO p ρ ρ w {w with heap:=w.heap.setIfInBounds r o} w' {w' with heap:=w'.heap.setIfInBounds f l}:=by
 have s:=a.lt _ _ hr
 refine⟨Ren.le_refl _,⟨a.one,fun x y h=>by have:=a.lt x y h;simp;omega,fun x y q g d=>?_,a.tape,a.low,by simpa using a.base,fun x y g j=>?_,a.os⟩,aq,fun b _ n=>?_,fun _ _ h=>.inl h,rfl,rfl,rfl,rfl,by(simp;omega),aq,fun x y g j=>by
  have c:x≠r:=by rintro rfl;obtain⟨q,d,n⟩:=v;rw[j]at d;cases d;exact n rfl
  have k:y≠f:=fun e=>c (a.one.2 _ _ _ (e▸g) hr);exact⟨(dx (cW c)).trans j,dx (cW k)⟩,fun u x q d n=>by
  by_cases c:x=r
  ·exact⟨_,c▸hr⟩
  ·have d:(w.heap.setIfInBounds r o)[x]? =some q:=d;rw[dx (cW c)]at d;exact u x q d n⟩
 rotate_left
 ·by_cases c:x=r
  ·subst c;have i:(w.heap.setIfInBounds x o)[x]? =some o:=by simp[s.1]
   rw[i]at j;cases j;exact absurd rfl (fO t)
  ·have k:y≠f:=fun e=>c (a.one.2 _ _ _ (e▸g) hr);have i:(w.heap.setIfInBounds r o)[x]? =w.heap[x]? :=dx (cW c);have m:(w'.heap.setIfInBounds f l)[y]? =w'.heap[y]? :=dx (cW k);rw[i]at j;rw[m];exact a.calm x y g j
 rotate_left
 ·by_cases c:x=r
  ·subst c;have k:y=f:=a.one.1 _ _ _ g hr;subst k;have i:(w.heap.setIfInBounds x o)[x]? =some o:=by simp[s.1]
   have m:(w'.heap.setIfInBounds y l)[y]? =some l:=by simp[s.2]
   rw[i]at d;cases d;exact .inr ⟨l,m,t⟩
  ·have k:y≠f:=fun e=>c (a.one.2 _ _ _ (e▸g) hr);have i:(w.heap.setIfInBounds r o)[x]? =w.heap[x]? :=dx (cW c);have m:(w'.heap.setIfInBounds f l)[y]? =w'.heap[y]? :=dx (cW k);rw[i]at d;rw[m];exact a.obj x y q g d
 ·exact dx (fun e:f=b=>n r (e▸hr))
theorem bO.draw{p ρ w w'}(a:WR p ρ w w'):bO p ρ ρ w {w with drawn:=w.drawn+1} w' {w' with drawn:=w'.drawn+1}:=
 ⟨Ren.le_refl _,⟨a.one,a.lt,a.obj,fun i q=>by have:=a.tape (1+i) q;simpa[Nat.add_assoc]using this,a.low,a.base,a.calm,a.os⟩,aV _,fun _ _ _=>rfl,fun _ _ h=>.inl h,rfl,rfl,rfl,by(show w'.drawn+1+w.drawn=w'.drawn+(w.drawn+1);omega),jv _ _,aV _,fun _ _ _ h=>⟨h,rfl⟩,id⟩
theorem Oo{p ρ w w'}(c:WR p ρ w w'){a a'}(g:AR ρ a a')(m):(∃h,w.farLoad p a m=.error h/\jT h)\/
  ∃v t q b k o,w.farLoad p a m=.ok (v,t)/\w'.farLoad p a' m=.ok (v,q)/\VR ρ v v/\w'.cell? a'=none/\(∀x∈q,x.block=k)/\ρ b k/\(∃o,w.heap[b]? =some o/\o≠bG)/\w.heap[a.block]? =some o/\o≠bG:=by
 unfold World.farLoad;split
 ·rename_i x y d;rcases c.obj _ _ _ g.1 d with j|⟨_,n,i⟩
  ·cases j
  ·cases i with
   |@view _ E _ C f=>
    cases B:w.viewLoad p x y a m with
    |error D=>exact .inl ⟨_,rfl,trivial⟩
    |ok r=>
     obtain⟨l,s,u,z,A⟩:=aeC c.os.2 C f g.2 (c.obj _ _ · f.1) B;refine .inr ⟨r.1,r.2,l,_,_,_,rfl,by rw[n];dsimp only;rw[s],u,?_,z,f.1,A,d,by intro e;cases e⟩;unfold eO;rw[n]
 ·refine .inl ⟨_,rfl,?_⟩;unfold Vk;split
  ·rename_i x y d;rcases c.obj _ _ _ g.1 d with j|⟨_,_,i⟩
   ·cases j
   ·cases i
  ·simp
  ·simp
theorem Ot{p ρ w w'}(q:WR p ρ w w'){a a'}(j:AR ρ a a'){v z}(hv:VR ρ v z)(m):(∃h,w.farStore p a v m=.error h/\jT h)\/
  ∃b g d f t u o,w.farStore p a v m=.ok ({w with heap:=w.heap.setIfInBounds b d},t)/\w'.farStore p a' z m=.ok ({w' with heap:=w'.heap.setIfInBounds g f},u)/\OR ρ d f/\w'.cell? a'=none/\(∀x∈u,x.block=g)/\ρ b g/\(∃o,w.heap[b]? =some o/\o≠bG)/\w.heap[a.block]? =some o/\o≠bG:=by
 unfold World.farStore;split
 ·rename_i x y c;rcases q.obj _ _ _ j.1 c with n|⟨_,s,k⟩
  ·cases n
  ·cases k with
   |@view _ J _ G i=>
    cases E:w.viewStore p x y a v m with
    |error I=>exact .inl ⟨_,rfl,trivial⟩
    |ok r=>
     obtain⟨d,f,l,h0,A,B,C,D⟩:=aeD i j.2 hv (q.obj _ _ · i.1) E;obtain⟨H,F⟩:=r;dsimp only at h0;subst h0;refine .inr ⟨_,_,d,f,F,l,_,rfl,by rw[s];dsimp only;rw[A],B,?_,C,i.1,D,c,by intro e;cases e⟩;unfold eO;rw[s]
 ·refine .inl ⟨_,rfl,?_⟩;unfold Vk;split
  ·rename_i x y c;rcases q.obj _ _ _ j.1 c with n|⟨_,_,k⟩
   ·cases n
   ·cases k
  ·simp
  ·simp
theorem vD{α:Type}{p w m}{a:eV}{v:au}{k:Sem α}(b:∀x,v≠.agg x)(c:∀x,v≠.tuple x):(Sem.store m a v k).run p w=(match w.cell? a with
  |some _=>if w.frozen? a then .halt (.unsupported (.unsafePointer "a write to bytes that a string shares")) w else k.run p (w.setCell a v)
  |none=>match w.farStore p a v (m==.atomic)with
   |.ok (w,_)=>k.run p w
   |.error h=>.halt h w):=by
 cases v<;>first|rfl|exact absurd rfl (b _)|exact absurd rfl (c _)
theorem YK{p ρ w w'}(h:WR p ρ w w'){a a'}(b:AR ρ a a'){u}(hc:w.cell? a=some u):w'.frozen? a'=w.frozen? a:=by
 unfold eO at hc;split at hc
 ·rename_i c t i d;rcases h.obj _ _ _ b.1 d with g|⟨j,e,f⟩
  ·cases g
  ·cases f;unfold oK;rw[d,e,b.2.1]
 ·cases hc
theorem abo{p ρ w w'}(f:WR p ρ w w'){r r'}(hr:ρ r r'){x:aK×Nat}(h:w.shape? r=some x):w'.shape? r'=some x:=by
 unfold gq at h;split at h
 ·rename_i c t g a;rcases f.obj _ _ _ hr a with e|⟨i,b,d⟩
  ·cases e
  ·cases d with
   |cells _ _ hv=>
    unfold gq;simp only[b];rw[<-h,hv.1]
 ·cases h
theorem OW{p ρ w w'}(i:WR p ρ w w'){a a'}(b:AR ρ a a')(d:∃o,w.heap[a.block]? =some o/\o≠bG):w'.frozen? a'=w.frozen? a:=by
 obtain⟨o,c,e⟩:=d;rcases i.obj _ _ _ b.1 c with h|⟨j,f,g⟩
 ·exact absurd h e
 ·unfold oK;rw[c,f];cases g<;>simp only[b.2.1]
theorem Own.freeze{K w}(h:Own K w)(a n):Own K (w.freeze a n):=fun r hr=>by
 obtain⟨o,c,b⟩:=h r hr;unfold yf;split
 ·exact⟨o,c,b⟩
 ·simp only[kJ,c];split
  ·refine⟨_,rfl,?_⟩;cases o<;>first|(intro e;cases e;done)|(intro e;exact b e)
  ·exact⟨o,rfl,b⟩
theorem bO.freeze{p ρ w w'}(e:WR p ρ w w'){a a'}(j:AR ρ a a')(n)(v:∃o,w.heap[a.block]? =some o/\o≠bG):bO p ρ ρ w (w.freeze a n) w' (w'.freeze a' n):=by
 by_cases h0:n=0
 ·subst h0;simp only[yf,cD];exact bO.refl e
 ·simp only[yf,h0,dy]
  refine⟨Ren.le_refl _,⟨e.one,fun x y h=>by have:=e.lt x y h;simp;exact this,fun x y q k f=>?_,e.tape,e.low,by simpa using e.base,fun x y k g=>?_,e.os⟩,aq,fun b _ i=>?_,fun _ _ h=>.inl h,rfl,rfl,rfl,rfl,by(simp;omega),aq,fun x y k g=>by
   have d:¬a.block=x:=by rintro rfl;obtain⟨q,f,i⟩:=v;rw[g]at f;cases f;exact i rfl
   have m:¬a'.block=y:=fun s=>d (e.one.2 _ _ _ j.1 (s▸k));exact⟨by simp only[kJ,aD d,g],by simp only[kJ,aD m]⟩,fun N x q f i=>by
   by_cases d:a.block=x
   ·exact⟨_,d▸j.1⟩
   ·simp only[kJ,aD d]at f;exact N x q f i⟩
  rotate_left
  ·by_cases d:a.block=x
   ·obtain⟨o,u,i⟩:=Own.freeze (K:=(·=a.block)) (fun r hr=>by(obtain rfl:r=a.block:=hr;exact v)) a n a.block rfl;simp only[yf,h0,dy]at u;rw[<-d]at g;rw[g]at u;cases u;exact absurd rfl i
   ·have m:¬a'.block=y:=fun s=>d (e.one.2 _ _ _ j.1 (s▸k));simp only[kJ]at g⊢;rw[aD d]at g;rw[aD m];exact e.calm x y k g
  rotate_left
  ·simp only[kJ]at f⊢
   by_cases d:a.block=x
   ·have m:=e.one.1 _ _ _ j.1 (d▸k);rw[aM d]at f;rw[aM m];obtain⟨o,u,i⟩:=v;rw[<-d,u]at f;rcases e.obj _ _ _ j.1 u with g|⟨S,O,P⟩
    ·exact absurd g i
    ·rw[<-m,O];simp only[qV,UW]at f⊢;subst f;right;refine⟨_,rfl,?_⟩;cases P with
     |cells t R hv=>rw[j.2.1];exact .cells _ _ hv
     |map c h=>exact .map c h
     |chan z A B C D=>exact .chan z A B C D
     |loop h0 E F G H I J L M=>exact .loop h0 E F G H I J L M
     |uQ=>exact .uQ
     |rz=>exact .rz
     |number l h=>exact .number l h
     |view t Q h=>exact .view t Q h
   ·have m:¬a'.block=y:=fun s=>d (e.one.2 _ _ _ j.1 (s▸k));rw[aD d]at f;rw[aD m];exact e.obj x y q k f
  ·simp only[kJ];rw[aD (fun s:a'.block=b=>i a.block (s▸j.1))]
theorem Es{p w r o}(h:w.heap[r]? =some o)(b:∀a l,o≠.number a l):(numberAt r).run p w=.ok none w:=by unfold numberAt;cases o<;>first|exact absurd rfl (b _ _)|simp[shape,getObj,Sem.run,jm,cA,gq,h,jw]
theorem Rc{p w r a l}(h:w.heap[r]? =some (.number a l)):(numberAt r).run p w=.ok (some (a,l)) w:=by unfold numberAt;simp[shape,getObj,Sem.run,jm,cA,gq,h,jw]
theorem FC{p w r o}(h:w.heap[r]? =some o)(b:∀a l,o≠.view a l):(viewAt r).run p w=.ok none w:=by unfold viewAt;cases o<;>first|exact absurd rfl (b _ _)|simp[shape,getObj,Sem.run,jm,cA,gq,h,jw]
theorem Tw{p w r a}{t:aK}(h:w.heap[r]? =some (.view a t)):(viewAt r).run p w=.ok (some (a,t)) w:=by unfold viewAt;simp[shape,getObj,Sem.run,jm,cA,gq,h,jw]
theorem DX{p ρ w w'}(d:WR p ρ w w'){a a'}(b:AR ρ a a'):w'.frozen? a'=w.frozen? a:=by
 obtain⟨o,c⟩:∃o,w.heap[a.block]? =some o:=⟨_,cw (d.lt _ _ b.1).1⟩
 by_cases e:o=bG
 ·subst e;obtain⟨x,t,f,h,_,i⟩:=d.calm _ _ b.1 c;unfold oK;rw[h,c];obtain⟨k,j⟩:=f;simp only[bG];simp only at i
  by_cases g:k<=a'.off
  ·have:¬a'.off<j:=ak;simp[this]
  ·simp[g]
 ·exact OW d b ⟨o,c,e⟩
def qH(w:an)(x:eV):Bool:=w.frozen? x||(match w.shape? x.block with|some (_,n)=>w.frozen? {block:=x.block,off:=n}|none=>false)
def emB(w:an)(x:eV):Bool:=match w.shape? x.block with|some (_,0)=>true|_=>false
def rE(w:an)(a b:eV):Bool:=(qH w a&&qH w b)||(qH w a&&emB w a)||(qH w b&&emB w b)
end
section
variable [aA]
abbrev dj{α:Type}:Ren->α->α->Prop:=fun _ a b=>b=a
def mw(P:aN):Prop:=∀t i z,P.info? t=some i->i.zero=some z->∀ρ:Ren,VR ρ z z
section
variable {P:aN} {ρ:Ren} {K:Kn}
theorem SR.then {α e g i:Type}{Q R s}{d:Sem e}{f:α->Sem g}{f':e->Sem i}(h:SR P Q ρ K s d)(hf:∀c L a b,ρ.le c->K.le L->Q c a b->SR P R c L (f a) (f' b)):SR P R ρ K (s >>= f) (d >>= f'):=SR.bind h hf
theorem SR.weaken{α t:Type}{Q R}{s:Sem α}{e:Sem t}(h:SR P Q ρ K s e)(g:∀f a b,ρ.le f->Q f a b->R f a b):SR P R ρ K s e:=by
 have i:s=s.bind .pure:=by
  clear h g;induction s with
  |pure a=>rfl
  |load m a k d=>simp only[cA];congr;funext v;exact d v
  |store m a v k d=>simp only[cA];congr
  |new o k d=>simp only[cA];congr;funext v;exact d v
  |shape r k d=>simp only[cA];congr;funext v;exact d v
  |freeze a n k d=>simp only[cA];congr
  |frozen a k d=>simp only[cA];congr;funext v;exact d v
  |getObj r k d=>simp only[cA];congr;funext v;exact d v
  |setObj r o k d=>simp only[cA];congr
  |choose q k d=>simp only[cA];congr;funext v;exact d v
  |sys c k d=>simp only[cA];congr;funext v;exact d v
  |program k d=>simp only[cA];congr;funext v;exact d v
  |mark m k d=>simp only[cA];congr
  |halt h=>rfl
 have j:e=e.bind .pure:=by
  clear h g i;induction e with
  |pure a=>rfl
  |load m a k d=>simp only[cA];congr;funext v;exact d v
  |store m a v k d=>simp only[cA];congr
  |new o k d=>simp only[cA];congr;funext v;exact d v
  |shape r k d=>simp only[cA];congr;funext v;exact d v
  |freeze a n k d=>simp only[cA];congr
  |frozen a k d=>simp only[cA];congr;funext v;exact d v
  |getObj r k d=>simp only[cA];congr;funext v;exact d v
  |setObj r o k d=>simp only[cA];congr
  |choose q k d=>simp only[cA];congr;funext v;exact d v
  |sys c k d=>simp only[cA];congr;funext v;exact d v
  |program k d=>simp only[cA];congr;funext v;exact d v
  |mark m k d=>simp only[cA];congr
  |halt h=>rfl
 rw[i,j];exact SR.bind h fun f L a b l _ p=>.pure (g f a b l p)
theorem iC{α a:Type}{Q:Ren->α->a->Prop}(b:String)(s:Sem a):SR P Q ρ K (stuck b) s:=.lost aq
theorem Fv{α a:Type}{Q:Ren->α->a->Prop}(u:Unsupported)(s:Sem a)(h:jT (.unsupported u):=by simp):SR P Q ρ K (unsupported u) s:=.lost h
theorem fB:SR P (fun _ a b=>a=P/\b=P) ρ K program program:=.program (.pure ⟨rfl,rfl⟩)
theorem kF(t):SR P (fun _ a b=>b=a/\P.info? t=some a) ρ K (GH t) (GH t):=by
 refine SR.then fB ?_;rintro e L a b _ _ ⟨c,d⟩;rw[c,d];cases h:P.info? t with
 |none=>exact iC _ _
 |some i=>exact .pure ⟨rfl,rfl⟩
theorem Bn(t):SR P (fun _ a b=>b=a/\P.underlying t=some a) ρ K (underlying t) (underlying t):=by
 refine SR.then fB ?_;rintro e L a b _ _ ⟨c,d⟩;rw[c,d];cases h:P.underlying t with
 |none=>exact iC _ _
 |some i=>exact .pure ⟨rfl,rfl⟩
theorem xj(c:mw P)(t):SR P VR ρ K (zeroValue t) (zeroValue t):=by
 refine SR.then (kF t) ?_;rintro e L a b _ _ ⟨rfl,d⟩;cases h:b.zero with
 |none=>exact Fv _ _
 |some z=>exact .pure (c t b z d h e)
theorem jN(t):SR P dj ρ K (sizeOf t) (sizeOf t):=by refine SR.then (kF t) ?_;rintro c L a b _ _ ⟨rfl,_⟩;exact .pure rfl
theorem acD(t):SR P dj ρ K (isAgg t) (isAgg t):=by refine SR.then (Bn t) ?_;rintro c L a b _ _ ⟨rfl,_⟩;split<;>exact .pure rfl
theorem AR.add{a a'}(h:AR ρ a a')(n):AR ρ (a.add n) (a'.add n):=by
 unfold Addr.add;split
 ·exact h
 ·exact⟨h.1,by simp[h.2.1],rfl⟩
theorem KC{a a'}(h:AR ρ a a')(m:Mode):SR P VR ρ K (load a m) (load a' m):=.load h fun _ _ hv=>.pure hv
theorem adm{a a'}(h:AR ρ a a'){v v'}(hv:VR ρ v v')(m:Mode):SR P dj ρ K (store a v m) (store a' v' m):=.store h hv (.pure rfl)
theorem bf.push{x x'}(h:bf ρ x x'){v v'}(hv:VR ρ v v'):bf ρ (x.push v) (x'.push v'):=by
 refine⟨by simp[h.1],fun i u d b a=>?_⟩;rw[eN]at b a;rw[h.1]at a;split at b
 ·rename_i c;rw[aM c]at a;cases b;cases a;exact hv
 ·rename_i c;rw[aD c]at a;exact h.2 i u d b a
theorem bf.nil:bf ρ #[] #[]:=⟨rfl,fun i v a h=>by simp at h⟩
theorem acJ{a a':eV}(h:AR ρ a a')(n):∀(i:Nat) (x b:Array au) (K:Kn),bf ρ x b->SR P bf ρ K (loadCellsFrom a i n x) (loadCellsFrom a' i n b):=by
 induction n generalizing ρ with
 |zero=>exact fun i x b K c=>.pure c
 |succ n e=>
  intro i x b K c;refine SR.then (KC (h.add i) .plain) fun g L v f d _ hv=>?_;exact e (h.mono d) (i+1) _ _ L ((c.mono d).push hv)
theorem KD{a a'}(h:AR ρ a a')(n):SR P bf ρ K (loadCells a n) (loadCells a' n):=acJ h n 0 _ _ K bf.nil
theorem SF{a a':eV}(h:AR ρ a a')(t):SR P VR ρ K (loadVar t a) (loadVar t a'):=by
 refine SR.then (acD t) fun l L b c d _ i=>?_;obtain rfl:c=b:=i;cases c with
 |false=>exact KC (h.mono d) .plain
 |true=>
  refine SR.then (jN t) fun m M n f g _ j=>?_;obtain rfl:f=n:=j;refine SR.then (KD ((h.mono d).mono g) f) fun o N x k _ _ e=>?_;exact .pure (.agg e.1 e.2)
theorem Fq{a a':eV}(h:AR ρ a a'):∀(vs b:List au) (i:Nat) (K:Kn),b.length=vs.length->(∀(j:Nat) v c,vs[j]? =some v->b[j]? =some c->VR ρ v c)->SR P dj ρ K (storeCells a vs i) (storeCells a' b i):=by
 intro vs;induction vs generalizing ρ with
 |nil=>
  intro b i K d _;obtain rfl:b=[]:=Gc d;exact .pure rfl
 |cons v vs f=>
  intro b i K d hv;cases b with
  |nil=>simp at d
  |cons c b=>
   refine SR.then (adm (h.add i) (hv 0 v c rfl rfl) .plain) fun m L _ _ e _ _=>?_;exact f (h.mono e) b (i+1) L (by grind) fun j u g k l=>(hv (j+1) u g (by grind) (by grind)).mono e
theorem VR.cells{v v'}(h:VR ρ v v'):bf ρ v.cells v'.cells:=by
 have one:∀{u g:au},VR ρ u g->bf ρ #[u] #[g]:=fun j=>⟨rfl,fun i x o e f=>by
  cases i with
  |zero=>simp at e f;rw[<-e,<-f];exact j
  |succ i=>simp at e⟩
 cases h with
 |agg e m=>exact⟨e,m⟩
 |bool b=>exact one (.bool b)
 |int k n=>exact one (.int k n)
 |string s=>exact one (.string s)
 |gi=>exact one .gi
 |ptr h=>exact one (.ptr h)
 |fJ l c=>exact one (.fJ l c)
 |slice l c h=>exact one (.slice l c h)
 |lS=>exact one .lS
 |map h=>exact one (.map h)
 |mW=>exact one .mW
 |chan h=>exact one (.chan h)
 |func h a b c d=>exact one (.func h a b c d)
 |nilFunc=>exact one .nilFunc
 |iface t h=>exact one (.iface t h)
 |nilIface=>exact one .nilIface
 |tuple h a=>exact one (.tuple h a)
theorem ado{a a'}(h:AR ρ a a'){v d:au}(hv:VR ρ v d)(t):SR P dj ρ K (storeVar t a v) (storeVar t a' d):=by
 have f:=hv.cells;refine SR.then (jN t) fun o L n c e _ g=>?_;obtain rfl:c=n:=g
 by_cases b:v.cells.size≠c
 ·rw[aM b];exact .lost aq
 ·have i:¬d.cells.size≠c:=by rw[f.1];exact b
  rw[aD b,aD i];exact Fq (h.mono e) _ _ 0 L (by grind) fun j u k l m=>(f.2 j u k (by grind) (by grind)).mono e
theorem vB(t){x b:Array au}(h:bf ρ x b):SR P AR ρ K (newRow t x) (newRow t b):=by refine SR.then (Q:=fun c n a=>c n a) (.new (.cells t (0,0) h) fun n a=>.pure (.inr ⟨rfl,rfl⟩)) fun c L n a _ _ d=>?_;exact .pure ⟨d,rfl,rfl⟩
theorem KH(t){v v'}(h:VR ρ v v'):SR P AR ρ K (newVar t v) (newVar t v'):=vB t h.cells
theorem xg{α b:Type}{Q:Ren->α->b->Prop}{v a:au}(h:VR ρ v a):SR P Q ρ K (goPanic v) (goPanic a):=.panic h
theorem Le(s:String):VR ρ (strVal s) (strVal s):=.string _
theorem zi{α c:Type}{Q:Ren->α->c->Prop}:SR P Q ρ K (pY (α:=α) .nilDeref) (pY (α:=c) .nilDeref):=by refine SR.then fB fun d L a b _ _ h=>?_;rw[h.1,h.2];exact xg (.iface _ (Le _))
theorem Sv{α e:Type}{Q:Ren->α->e->Prop}(x y s)(c:iP):SR P Q ρ K (pY (α:=α) (.bounds x y s c)) (pY (α:=e) (.bounds x y s c)):=by
 refine SR.then fB fun g L a b _ _ h=>?_;rw[h.1,h.2];refine xg (.iface _ (.agg rfl fun i v f hv d=>?_));rw[hv]at d;cases d
 match i,hv with
 |0,hv=>cases hv;exact .int _ _
 |1,hv=>cases hv;exact .int _ _
 |2,hv=>cases hv;exact .bool _
 |3,hv=>cases hv;exact .int _ _
 |i+4,hv=>simp at hv
theorem vA(q:Question):SR P dj ρ K (choose q) (choose q):=.choose fun _=>.pure rfl
theorem Fc{v a:au}(h:VR ρ v a):SR P dj ρ K (asIntOf v) (asIntOf a):=by cases h<;>first|exact .pure rfl|exact iC _ _|exact Fv _ _
theorem xe{v c:au}(h:VR ρ v c):SR P dj ρ K (asInt v) (asInt c):=
 SR.then (Fc h) fun _ _ a b _ _ d=>by obtain rfl:b=a:=d;exact .pure rfl
theorem Sq{v a:au}(h:VR ρ v a):SR P dj ρ K (asBool v) (asBool a):=by cases h<;>first|exact .pure rfl|exact iC _ _
theorem abG{v a:au}(h:VR ρ v a):SR P AR ρ K (asAddr v) (asAddr a):=by
 cases h with
 |ptr h=>exact .pure h
 |gi=>exact zi
 |_=>exact iC _ _
end
end
section
variable [aA]
section
variable {P:aN} {ρ:Ren} {K:Kn}
theorem Fu{v v'}(h:VR ρ v v'):SR P AR ρ K (Ur v) (Ur v'):=by
 cases h with
 |ptr h=>exact .pure h
 |_=>exact iC _ _
theorem acH{v v'}(h:VR ρ v v')(t):SR P VR ρ K (zN t v) (zN t v'):=
 SR.then (Fu h) fun _ _ _ _ _ _ a=>SF a t
theorem adn{v v' x x'}(h:VR ρ v v')(c:VR ρ x x')(t):SR P dj ρ K (Uq t v x) (Uq t v' x'):=
 SR.then (Fu h) fun _ _ _ _ a _ b=>ado b (c.mono a) t
theorem abN{v v'}(h:VR ρ v v')(t):SR P VR ρ K (ql t v) (ql t v'):=
 SR.then (KH t h) fun _ _ _ _ _ _ a=>.pure (.ptr a)
theorem abE(a:mw P)(t):SR P VR ρ K (kq t true (.tuple #[])) (kq t true (.tuple #[])):=
 SR.then (xj a t) fun _ _ _ _ _ _ c=>SR.then (KH t c) fun _ _ _ _ _ _ b=>.pure (.ptr b)
theorem acM{f f' x x' y y'}(h:FR ρ f f')(a:bf ρ x x')(b:bf ρ y y'):SR P VR ρ K (rV f x y) (rV f' x' y'):=.pure (.func h a.1 a.2 b.1 b.2)
theorem acN{v v'}(h:VR ρ v v')(t):SR P VR ρ K (Uo t v) (Uo t v'):=by
 refine SR.then (Bn t) fun e L a b c _ d=>?_;obtain rfl:b=a:=d.1;split
 ·exact iC _ _
 ·exact .pure (.iface t (h.mono c))
theorem acs{v v'}(h:VR ρ v v')(i):SR P VR ρ K (Un v i) (Un v' i):=by
 cases h with
 |@tuple x a f e=>
  show SR P VR ρ K (match x[i]? with|some v=>pure v|none=>stuck _) (match a[i]? with|some v=>pure v|none=>stuck _);cases c:x[i]? with
  |none=>exact iC _ _
  |some u=>
   have d:i<a.size:=by grind
   have b:a[i]? =some a[i]:=by simp[d]
   rw[b];exact .pure (e i _ _ c b)
 |_=>exact iC _ _
theorem Fl{α g i j:Type}{Q R s s'}(f:α->i)(f':g->j)(h:SR P Q ρ K s s')(hf:∀c a b,ρ.le c->Q c a b->R c (f a) (f' b)):SR P R ρ K (Ul f s) (Ul f' s'):=
 SR.then h fun _ _ _ _ d _ e=>.pure (hf _ _ _ d e)
theorem Ff{α e:Type}{Q}(k:qK)(x y)(c:iP):SR P Q ρ K (My (α:=α) k x y c) (My (α:=e) k x y c):=by
 unfold My;dsimp only;split
 ·refine SR.then (Q:=dj) (Fl _ _ (vA _) fun _ a b _ d=>by rw[show b=a from d]) fun f L a b _ _ d=>?_;obtain rfl:b=a:=d;exact Sv _ _ _ _
 ·exact Sv _ _ _ _
theorem aT{t:aK}{d:jy}(c:P.underlying t=some d):SR P (fun _ a b=>a=d/\b=d) ρ K (underlying t) (underlying t):=
 (Bn t).weaken fun _ a b _ h=>by grind
theorem acw{v v' x x'}(h:VR ρ v v')(D:VR ρ x x'){t e:aK}(g:P.underlying t=some (.slice e)):SR P VR ρ K (xJ t v x) (xJ t v' x'):=by
 unfold xJ;refine SR.then (Fc D) fun J L a b r _ A=>?_;obtain rfl:b=a:=A;obtain⟨k,i⟩:=b;refine SR.then (aT g) fun S M d I s _ B=>?_;obtain⟨rfl,rfl⟩:=B;cases ((h.mono r).mono s)with
 |fJ l c=>
  refine SR.then (Q:=fun _ y f=>y=(none,l,e)/\f=(none,l,e)) (.pure ⟨rfl,rfl⟩) fun H O z F p _ m=>?_;obtain⟨rfl,rfl⟩:=m;refine SR.then (aT g) fun G N y f o _ j=>?_;obtain⟨rfl,rfl⟩:=j;exact Ff _ _ _ _
 |@slice b q l c w=>
  refine SR.then (Q:=fun _ y f=>y=(some b,l,e)/\f=(some q,l,e)) (.pure ⟨rfl,rfl⟩) fun H O z F p _ m=>?_;obtain⟨rfl,rfl⟩:=m;refine SR.then (aT g) fun G N y f o _ j=>?_;obtain⟨rfl,rfl⟩:=j;dsimp only;split
  ·refine SR.then (jN e) fun T R n E u _ C=>?_;obtain rfl:E=n:=C;exact .pure (.ptr ((((w.mono p).mono o).mono u).add _))
  ·simp;exact Ff _ _ _ _
 |_=>exact .lost aq
theorem acu{v v'}(h:VR ρ v v'){s:aK}{fs n f}{i:iX}(m:P.underlying s=some (.struct fs))(hf:fs[n]? =some f)(q:P.info? f.type=some i)(h0:i.size≠0):SR P VR ρ K (LQ s v n) (LQ s v' n):=by
 unfold LQ;refine SR.then (aT m) fun r L a b j _ l=>?_;obtain⟨rfl,rfl⟩:=l;simp only[hf];refine SR.then (Fu (h.mono j)) fun t M a g p _ c=>?_;refine SR.then (Q:=AR) ?_ fun o N a g _ _ c=>.pure (.ptr c);unfold fieldPlace;refine SR.then (Q:=fun _ x y=>x=i.size/\y=i.size) ?_ fun o N x y k _ d=>?_
 ·refine SR.then (kF f.type) fun _ _ x y _ _ d=>?_;have e:x=i:=by grind
  exact .pure ⟨by rw[e],by rw[d.1,e]⟩
 ·obtain⟨rfl,rfl⟩:=d;rw[aD h0,aD h0];exact .pure ((c.mono k).add _)
theorem acy{v v' x x'}(h:VR ρ v v')(l:VR ρ x x'){t:aK}(j:P.underlying t=some .string):SR P VR ρ K (LU t v x) (LU t v' x'):=by
 unfold LU;refine SR.then (Fc l) fun n L a b c _ f=>?_;obtain rfl:b=a:=f;obtain⟨k,i⟩:=b;refine SR.then (aT j) fun o M d m e _ g=>?_;obtain⟨rfl,rfl⟩:=g;cases (h.mono c).mono e with
 |string s=>
  dsimp only;split
  ·exact .pure (.int _ _)
  ·exact Ff _ _ _ _
 |_=>exact .lost aq
end
end
section
variable [aA]
section
variable {P:aN} {ρ:Ren} {K:Kn}
def VO(ρ:Ren):Option au->Option au->Prop
 |none,none=>True
 |some v,some a=>VR ρ v a
 |_,_=>False
theorem VO.mono{ρ σ}(h:ρ.le σ){v a}(k:VO ρ v a):VO σ v a:=by cases v<;>cases a<;>first|exact k.elim|trivial|exact VR.mono h k
theorem zk{v v'}(h:VR ρ v v')(y)(c:iP):SR P dj ρ K (Ma v y c) (Ma v' y c):=by
 unfold Ma;refine SR.then (Fc h) fun f L a b e _ d=>?_;obtain rfl:b=a:=d;obtain⟨k,i⟩:=b;dsimp only;split
 ·exact .pure rfl
 ·exact Ff _ _ _ _
theorem pM{α:Type}(a:α):SR P (fun _ x y=>x=a/\y=a) ρ K (pure a) (pure a):=.pure ⟨rfl,rfl⟩
theorem Fp(isS len cap){d b g c}(o:VO ρ d b)(p:VO ρ g c):SR P dj ρ K (zO isS len cap d g none) (zO isS len cap b c none):=by
 unfold zO;dsimp only;refine SR.then (pM cap) fun s L m r j _ n=>?_;obtain⟨rfl,rfl⟩:=n;have a:=o.mono j;have h:=p.mono j;cases g with
 |none=>
  cases c with
  |none=>
   refine SR.then (pM len) fun q M y l f _ e=>?_;obtain⟨rfl,rfl⟩:=e;cases d with
   |none=>cases b with
    |none=>exact .pure rfl
    |some v=>exact a.elim
   |some v=>cases b with
    |none=>exact a.elim
    |some k=>exact SR.then (zk (VR.mono f a) _ _) fun _ _ x i _ _ e=>by(obtain rfl:i=x:=e;exact .pure rfl)
  |some v=>exact h.elim
 |some v=>
  cases c with
  |none=>exact h.elim
  |some k=>
   refine SR.then (zk h _ _) fun q M y l f _ e=>?_;obtain rfl:l=y:=e;cases d with
   |none=>cases b with
    |none=>exact .pure rfl
    |some v=>exact a.elim
   |some v=>cases b with
    |none=>exact a.elim
    |some k=>exact SR.then (zk (VR.mono f a) _ _) fun _ _ x i _ _ e=>by(obtain rfl:i=x:=e;exact .pure rfl)
theorem adl{v v'}(h:VR ρ v v'){lo lo' hi hi'}(d:VO ρ lo lo')(f:VO ρ hi hi'){t:aK}(i:P.underlying t=some .string):SR P VR ρ K (vN t v lo hi none) (vN t v' lo' hi' none):=by
 unfold vN;refine SR.then (aT i) fun k L a b c _ g=>?_;obtain⟨rfl,rfl⟩:=g;cases h.mono c with
 |string s=>
  refine SR.then (Fp false _ _ (d.mono c) (f.mono c)) fun l M x j _ _ e=>?_;obtain rfl:j=x:=e;exact .pure (.string _)
 |_=>exact .lost aq
theorem Fj{v v'}(h:VR ρ v v'):SR P dj ρ K (Uc v) (Uc v'):=by cases h<;>first|exact .pure rfl|exact iC _ _
theorem rP(size n){v v'}(h:VR ρ v v'):SR P bf ρ K (Ua size n v) (Ua size n v'):=by
 cases h with
 |slice l c f=>exact KD f _
 |fJ l c=>exact .pure bf.nil
 |string s=>
  refine .pure ⟨rfl,fun i u g a e=>?_⟩;rw[a]at e;cases e;simp only[fj]at a;cases d:(s.extract 0 n).data[i]? with
  |none=>rw[d]at a;cases a
  |some b=>rw[d]at a;cases a;exact .int _ _
 |_=>exact iC _ _
theorem Fe(n):SR P dj ρ K (askRoom n) (askRoom n):=by
 unfold askRoom;split
 ·exact .noRoom (.pure rfl)
 ·exact .pure rfl
end
end
section
variable [aA]
section
variable {P:aN} {ρ:Ren} {K:Kn}
theorem bf.append{x x' y y'}(h:bf ρ x x')(k:bf ρ y y'):bf ρ (x++y) (x'++y'):=by
 refine⟨by simp[h.1,k.1],fun i u d b a=>?_⟩;rw[FH]at b a;rw[h.1]at a;split at b
 ·rename_i c;rw[aM c]at a;exact h.2 i u d b a
 ·rename_i c;rw[aD c]at a;exact k.2 _ u d b a
def Plain(x:Array au):Prop:=∀(i:Nat) v,x[i]? =some v->∀ρ:Ren,VR ρ v v
theorem Plain.rel{x}(h:Plain x)(ρ):bf ρ x x:=⟨rfl,fun i v c a b=>by rw[a]at b;cases b;exact h i v a ρ⟩
theorem Ex{z}(h:∀ρ:Ren,VR ρ z z):Plain z.cells:=fun i v hv ρ=>(h ρ).cells.2 i v v hv hv
theorem Rr{z}(h:Plain z)(n):Plain (lU z n):=by
 intro i v hv ρ;unfold lU at hv;simp only[fj]at hv;cases hr:(Lr (n*z.size))[i]? with
 |none=>rw[hr]at hv;cases hv
 |some j=>
  rw[hr]at hv;cases hv;have c:j<n*z.size:=by grind
  have b:0<z.size:=by grind
  have a:j %z.size<z.size:=xT _ b;have e:z[j %z.size]? =some (z[j %z.size]!):=by simp[a]
  exact h _ _ e ρ
theorem Fw(c:mw P)(t):SR P (fun _ a b=>b=a/\∀ρ:Ren,VR ρ a a) ρ K (zeroValue t) (zeroValue t):=by
 refine SR.then (kF t) ?_;rintro e L a b _ _ ⟨rfl,d⟩;cases h:b.zero with
 |none=>exact Fv _ _
 |some z=>exact .pure ⟨rfl,c t b z d h⟩
theorem Bm{α c:Type}{Q}(m:String):SR P Q ρ K (pY (α:=α) (.error m)) (pY (α:=c) (.error m)):=by refine SR.then fB fun d L a b _ _ h=>?_;rw[h.1,h.2];exact xg (.iface _ (Le _))
theorem tL{α a b c:Type}{R}(m:String)(f:α->Sem b)(f':a->Sem c):SR P R ρ K (pY (.error m) >>= f) (pY (.error m) >>= f'):=
 SR.then (Q:=fun _ _ _=>False) (Bm m) fun _ _ _ _ _ _ h=>h.elim
theorem Og{α k:Type}(s:Sem α)(f:α->Sem k)(g:∀w v b,s.run P w≠.halt v b)(hf:∀a w,∃x b,(f a).run P w=.halt x b/\jT x)(w):∃x b,(s >>= f).run P w=.halt x b/\jT x:=by
 have e:(s >>= f).run P w=(s.run P w).andThen fun a i=>(f a).run P i:=gH P s f w;cases h:s.run P w with
 |ok a b=>
  obtain⟨x,j,c,d⟩:=hf a b;exact⟨x,j,by rw[e,h];exact c,d⟩
 |halt x b=>exact absurd h (g w x b)
theorem PU(a n w):∃b,(Ub a n).run P w=.ok b w:=by
 unfold Ub;cases h:w.shape? a.block with
 |none=>exact⟨false,by simp[shape,Sem.run,jm,cA,h,jw]⟩
 |some x=>exact⟨_,by simp only[shape,Sem.run,jm,cA,h,jw];rfl⟩
def nJ{α:Type}(P:aN)(s:Sem α):Prop:=∀w:an,∃b,s.run P w=.ok b w
theorem AX{α:Type}(a:α):nJ P (pure a:Sem α):=fun _=>⟨a,rfl⟩
theorem nJ.bind{α g:Type}{s}{f:α->Sem g}(h:nJ P s)(k:∀a,nJ P (f a)):nJ P (s >>= f):=fun w=>by obtain⟨b,d⟩:=h w;obtain⟨c,e⟩:=k b w;exact⟨c,by rw[ug,d];exact e⟩
theorem E0(a):nJ P (frozen a):=fun w=>⟨w.frozen? a,rfl⟩
theorem Sl(size l n base x w):∃b,(Lx size l n base x).run P w=.ok b w:=by
 suffices h:nJ P (Lx size l n base x) from h w
 unfold Lx
 extract_lets last
 have c:∀d,nJ P (last d):=fun d=>by
  dsimp only[last];split
  ·exact AX _
  ·split
   ·exact nJ.bind (fun w=>PU _ _ w) fun _=>AX _
   ·exact AX _
 cases base with
 |none=>exact nJ.bind (AX _) c
 |some a=>exact nJ.bind (fun w=>PU a _ w) fun _=>nJ.bind (E0 _) fun _=>nJ.bind (AX _) c
theorem abF(hZ:mw P){s s' x x'}(hs:VR ρ s s')(hx:VR ρ x x'){t u e ty:aK}{d:jy}(ht:P.underlying t=some (.slice e))(hu:P.underlying u=some d)(hd:d=.string\/∃e',d=.slice e'):SR P VR ρ K (nx #[t,u] ty #[s,x]) (nx #[t,u] ty #[s',x']):=by
 rcases hd with rfl|⟨e',rfl⟩
 all_goals
  unfold nx;simp only[List.getElem?_toArray,List.getElem?_cons_zero,List.getElem?_cons_succ];refine SR.then (aT ht) fun σ L a b g1 _ bB=>?_;obtain⟨rfl,rfl⟩:=bB;dsimp only;have aW:=hx.mono g1;cases (hs.mono g1)with
  |@slice c c' r aB hc=>
   refine SR.then (jN e) fun τ M size A R _ E=>?_;obtain rfl:A=size:=E;refine SR.then (aT hu) fun bV M2 u u' S _ F=>?_;obtain⟨rfl,rfl⟩:=F;refine SR.then (pM false) fun bX M3 z z' T _ G=>?_;obtain⟨rfl,rfl⟩:=G;simp only[eA,dy,BF,cD,false_or];have g5:=Ren.le_trans (Ren.le_trans R S) T;have m:=aW.mono g5;refine SR.then (Fj m) fun bY M4 n p D _ H=>?_;obtain rfl:p=n:=H;have o:=m.mono D;have X:=(hc.mono g5).mono D;split
   ·refine SR.then (rP _ _ o) fun aI B w w' f _ hw=>?_;refine SR.then (Fq ((X.mono f).add _) _ _ 0 B (by simpa using hw.1) fun j q q' l qx=>hw.2 j q q' (by simpa using l) (by simpa using qx)) fun aY M6 _ _ i _ _=>?_;exact .pure (.slice _ _ ((X.mono f).mono i))
   ·refine SR.then (kF e) fun aI B ti aE f _ Z=>?_;obtain rfl:aE=ti:=Z.1;have ah:=o.mono f;split
    ·exact tL _ _ _
    ·refine SR.then (kF e) fun aY M6 tj aG i _ ve=>?_;obtain rfl:aG=tj:=ve.1;split
     ·refine SR.then (Q:=fun _ _ _=>False) (.uR fun w=>Og _ _ (fun w v w1 k=>?_) (fun b w=>?_) w) fun _ _ _ _ _ _ h=>h.elim
      ·obtain⟨b,W⟩:=Sl (P:=P) A r p (some c) x w;rw[W]at k;cases k
      ·cases b
       ·exact⟨_,_,rfl,aq⟩
       ·exact⟨_,_,rfl,aq⟩
     ·refine SR.then (vA _) fun bZ M7 nc az U _ Y=>?_;obtain rfl:az=nc:=Y;refine SR.then (kF e) fun b7 M8 tk aH I _ aa=>?_;obtain rfl:aH=tk:=aa.1;refine SR.then (Fe _) fun b8 M9 _ _ J _ _=>?_;have C:=Ren.le_trans (Ren.le_trans (Ren.le_trans i U) I) J;refine SR.then (rP _ _ (VR.slice r aB ((X.mono f).mono C))) fun bQ aZ y y' N _ hy=>?_;refine SR.then (rP _ _ ((ah.mono C).mono N)) fun bR bf q q' O _ l=>?_;refine SR.then (Fw hZ e) fun bS bg zz bN g _ av=>?_;obtain⟨rfl,ak⟩:=av;refine SR.then (vB e (((hy.mono (Ren.le_trans O g)).append (l.mono g)).append ((Rr (Ex ak) _).rel _))) fun bU bk ad bA _ _ V=>?_;exact .pure (.slice _ _ V)
  |fJ r aB=>
   refine SR.then (jN e) fun τ M size A R _ E=>?_;obtain rfl:A=size:=E;refine SR.then (aT hu) fun bV M2 u u' S _ F=>?_;obtain⟨rfl,rfl⟩:=F;refine SR.then (pM false) fun bX M3 z z' T _ G=>?_;obtain⟨rfl,rfl⟩:=G;simp only[eA,dy,BF,cD,false_or];have m:=aW.mono (Ren.le_trans (Ren.le_trans R S) T);refine SR.then (Fj m) fun bY M4 n p D _ H=>?_;obtain rfl:p=n:=H;have o:=m.mono D;split
   ·refine SR.then (rP _ _ o) fun aI B w w' f _ hw=>?_;exact .pure (.fJ _ _)
   ·refine SR.then (kF e) fun aI B ti aE f _ Z=>?_;obtain rfl:aE=ti:=Z.1;have ah:=o.mono f;split
    ·exact tL _ _ _
    ·refine SR.then (kF e) fun aY M6 tj aG i _ ve=>?_;obtain rfl:aG=tj:=ve.1;split
     ·refine SR.then (Q:=fun _ _ _=>False) (.uR fun w=>Og _ _ (fun w v w1 k=>?_) (fun b w=>?_) w) fun _ _ _ _ _ _ h=>h.elim
      ·obtain⟨b,W⟩:=Sl (P:=P) A r p none x w;rw[W]at k;cases k
      ·cases b
       ·exact⟨_,_,rfl,aq⟩
       ·exact⟨_,_,rfl,aq⟩
     ·refine SR.then (vA _) fun bZ M7 nc az U _ Y=>?_;obtain rfl:az=nc:=Y;refine SR.then (kF e) fun b7 M8 tk aH I _ aa=>?_;obtain rfl:aH=tk:=aa.1;refine SR.then (Fe _) fun b8 M9 _ _ J _ _=>?_;have C:=Ren.le_trans (Ren.le_trans (Ren.le_trans i U) I) J;refine SR.then (rP _ _ (VR.fJ r aB)) fun bQ aZ y y' N _ hy=>?_;refine SR.then (rP _ _ ((ah.mono C).mono N)) fun bR bf q q' O _ l=>?_;refine SR.then (Fw hZ e) fun bS bg zz bN g _ av=>?_;obtain⟨rfl,ak⟩:=av;refine SR.then (vB e (((hy.mono (Ren.le_trans O g)).append (l.mono g)).append ((Rr (Ex ak) _).rel _))) fun bU bk ad bA _ _ V=>?_;exact .pure (.slice _ _ V)
  |_=>exact .lost aq
end
end
section
variable [aA]
section
variable {P:aN} {ρ:Ren} {K:Kn}
theorem SD(op:nu)(k:qK)(x y):SR P VR ρ K (Mg op k x y) (Mg op k x y):=by unfold Mg;split<;>first|exact .pure (.int _ _)|exact iC _ _
theorem acA(op:nu)(x y):SR P VR ρ K (Mi op x y) (Mi op x y):=by unfold Mi;split<;>first|exact .pure (.bool _)|exact iC _ _
theorem acB(op:nu)(k:qK)(x y):SR P VR ρ K (Mj op k x y) (Mj op k x y):=by
 unfold Mj;split
 ·exact Bm _
 ·split<;>first|exact .pure (.int _ _)|exact iC _ _
theorem adh(op:nu)(k:qK)(x)(l:qK)(y):SR P VR ρ K (lg op k x l y) (lg op k x l y):=by
 unfold lg;split
 ·exact Bm _
 ·dsimp only;split<;>first|exact .pure (.int _ _)|exact iC _ _
theorem acz(op:nu)(k:qK)(x y):SR P VR ρ K (Mh op k x y) (Mh op k x y):=by unfold Mh;dsimp only;split<;>first|exact .pure (.int _ _)|exact iC _ _
theorem SO(op:nu)(x y):SR P VR ρ K (Mk op x y) (Mk op x y):=by
 unfold Mk;dsimp only;split
 ·split
  ·exact Fv _ _
  ·exact .pure (.string _)
 all_goals first|exact .pure (.bool _)|exact iC _ _
theorem Kz(op:nu)(t)(k l:qK)(x y):SR P VR ρ K (eG op t (.int k x) (.int l y)) (eG op t (.int k x) (.int l y)):=by
 have a:SR P VR ρ K (stuck "BinOp: operands of different kinds") (stuck "BinOp: operands of different kinds"):=iC _ _;cases op<;>simp only[eG]
 all_goals first
  |exact adh _ _ _ _ _
  |skip
 all_goals
  split
  ·exact a
  ·first
   |exact SD _ _ _ _
   |exact acB _ _ _ _
   |exact acz _ _ _ _
   |exact acA _ _ _
theorem KA(op:nu)(t x y):SR P VR ρ K (eG op t (.string x) (.string y)) (eG op t (.string x) (.string y)):=by cases op<;>simp only[eG]<;>exact SO _ _ _
theorem adk{v v'}(h:VR ρ v v'){lo lo' hi hi'}(j:VO ρ lo lo')(m:VO ρ hi hi'){t e:aK}(w:P.underlying t=some (.slice e)):SR P VR ρ K (vN t v lo hi none) (vN t v' lo' hi' none):=by
 unfold vN;refine SR.then (aT w) fun D L a b d _ s=>?_;obtain⟨rfl,rfl⟩:=s;cases h.mono d with
 |fJ l c=>
  refine SR.then (Fp true _ _ (j.mono d) (m.mono d)) fun A M x f _ _ ex=>?_;obtain rfl:f=x:=ex;refine SR.then (jN e) fun B N n i _ _ g=>?_;obtain rfl:i=n:=g;obtain⟨y,u,z⟩:=f;simp;exact .pure (.fJ _ _)
 |@slice c C l k r=>
  refine SR.then (Fp true _ _ (j.mono d) (m.mono d)) fun A M x f p _ ex=>?_;obtain rfl:f=x:=ex;refine SR.then (jN e) fun B N n i q _ g=>?_;obtain rfl:i=n:=g;have o:=(r.mono p).mono q;obtain⟨y,u,z⟩:=f;split
  ·exact .pure (.slice _ _ o)
  ·exact .pure (.slice _ _ (o.add _))
 |_=>exact .lost aq
theorem SM{v v' lo lo' hi hi'}{t:aK}{d:jy}(j:P.underlying t=some d)(i:∀n e,d≠.array n e)(h:∀c L,ρ.le c->SR P VR c L (vN t v lo hi none) (vN t v' lo' hi' none)):SR P VR ρ K (tW t v lo hi none) (tW t v' lo' hi' none):=by
 unfold tW;refine SR.then (aT j) fun c L a b f _ g=>?_;obtain⟨rfl,rfl⟩:=g;split
 ·exact absurd rfl (i _ _)
 ·exact h c L f
theorem acF{v v'}(h:VR ρ v v'){t e:aK}(d:P.underlying t=some (.slice e))(ty):SR P VR ρ K (zH #[t] ty #[v]) (zH #[t] ty #[v']):=by unfold zH;simp;refine SR.then (aT d) fun g L a b f _ c=>?_;obtain⟨rfl,rfl⟩:=c;cases h<;>first|exact .pure (.int _ _)|exact .lost aq
theorem acG{v v'}(h:VR ρ v v'){t:aK}(d:P.underlying t=some .string)(ty):SR P VR ρ K (zH #[t] ty #[v]) (zH #[t] ty #[v']):=by unfold zH;simp;refine SR.then (aT d) fun f L a b e _ c=>?_;obtain⟨rfl,rfl⟩:=c;cases h<;>first|exact .pure (.int _ _)|exact .lost aq
theorem acf{s s' x x'}(H:VR ρ s s')(J:VR ρ x x'){t u e B:aK}(I:P.underlying t=some (.slice e)):SR P VR ρ K (rS #[t,u] B #[s,x]) (rS #[t,u] B #[s',x']):=by
 unfold rS;simp;refine SR.then (aT I) fun W L a b v _ D=>?_;obtain⟨rfl,rfl⟩:=D;dsimp only;have d:=J.mono v;cases H.mono v with
 |@slice c U l k E=>
  refine SR.then (Fj d) fun Q M n o h _ f=>?_;obtain rfl:o=n:=f;refine SR.then (jN e) fun R C z p i _ g=>?_;obtain rfl:p=z:=g;have y:=Ren.le_trans h i;refine SR.then (rP _ _ (d.mono y)) fun S r w O A _ m=>?_;refine SR.then (Fq ((E.mono y).mono A) _ _ 0 r (by simpa using m.1) fun j q N F G=>m.2 j q N (by simpa using F) (by simpa using G)) fun X T _ _ V _ _=>?_;exact .pure (.int _ _)
 |fJ l k=>
  refine SR.then (Fj d) fun Q M n o h _ f=>?_;obtain rfl:o=n:=f;refine SR.then (jN e) fun R C z p i _ g=>?_;obtain rfl:p=z:=g;refine SR.then (rP _ _ (d.mono (Ren.le_trans h i))) fun S r w O A _ m=>?_;exact .pure (.int _ _)
 |_=>exact .lost aq
end
end
section
variable [aA]
section
variable {P:aN} {ρ:Ren} {K:Kn}
inductive cH{α c:Type}(R:α->c->Prop):List α->List c->Prop
 |nil:cH R [] []
 |cons {a:α} {b:c} {l:List α} {m:List c} (h:R a b) (t:cH R l m):cH R (a::l) (b::m)
def qj(ρ:Ren)(x a:List au):Prop:=cH (VR ρ) x a
theorem bf.list{x a}(h:bf ρ x a):qj ρ x.toList a.toList:=by
 obtain⟨b,c⟩:=h;rcases x with⟨x⟩;rcases a with⟨a⟩;simp at b;simp at c;unfold qj;dsimp only;induction x generalizing a with
 |nil=>
  obtain rfl:a=[]:=Gc b;exact .nil
 |cons v x d=>
  cases a with
  |nil=>simp at b
  |cons f a=>
   refine .cons (c 0 v f rfl rfl) (d a (by grind) fun i u e g j=>c (i+1) u e (by grind) (by grind))
theorem B4{ws ws'}(h:qj ρ ws ws')(off):∀(k:Nat) {x a:Array au},bf ρ x a->
  bf ρ ((ws.zipIdx k).foldl (fun cs (p:au×Nat)=>cs.setIfInBounds (off+p.2) p.1) x) ((ws'.zipIdx k).foldl (fun cs (p:au×Nat)=>cs.setIfInBounds (off+p.2) p.1) a):=by
 unfold qj at h;induction h with
 |nil=>intro k x a b;exact b
 |cons hv _ c=>intro k x a b;exact c (k+1) (b.set hv _)
def rj(ρ:Ren)(x b:List (Nat×au)):Prop:=cH (fun p a=>a.1=p.1/\VR ρ p.2 a.2) x b
theorem rj.mono{σ}(g:ρ.le σ){x x'}(h:rj ρ x x'):rj σ x x':=by
 unfold rj at*;induction h with
 |nil=>exact .nil
 |cons hv _ a=>exact .cons ⟨hv.1,hv.2.mono g⟩ a
inductive GO(ρ:Ren):Option (Array au)->Option (Array au)->Prop
 |none:GO ρ none none
 |some {x a:Array au} (h:bf ρ x a):GO ρ (some x) (some a)
theorem Ii(d:Nat->Option (Nat×Nat)){ps ps'}(h:rj ρ ps ps'):∀{x b:Array au},bf ρ x b->GO ρ (tU d x ps) (tU d b ps'):=by
 unfold rj at h;induction h with
 |nil=>intro x b a;exact .some a
 |@cons p j _ _ hv _ g=>
  intro x b a;obtain⟨i,v⟩:=p;obtain⟨f,l⟩:=j;obtain⟨e,c⟩:=hv;dsimp only at e c;subst e;unfold tU;cases k:d f with
  |none=>exact .none
  |some q=>
   obtain⟨off,size⟩:=q;dsimp only;rw[c.cells.1,a.1];split
   ·exact .none
   ·refine g ?_;have:=B4 c.cells.list off 0 a;rw[<-TX,<-TX,By,By]at this;exact this
theorem acR{α n:Type}{f:α->Sem n}(h:∀a d L,SR P dj d L (f a) (f a))(xs:Array α):SR P dj ρ K (xs.mapM f) (xs.mapM f):=by
 rw[zE];refine Fl _ _ ?_ fun _ a b _ i=>by rw[show b=a from i]
 generalize xs.toList=l;induction l generalizing ρ K with
 |nil=>exact .pure rfl
 |cons a l m=>
  rw[vP];refine SR.then (h a _ _) fun d L b e _ _ j=>?_;obtain rfl:e=b:=j;refine SR.then m fun d L c g _ _ k=>?_;obtain rfl:g=c:=k;exact .pure rfl
theorem abO(k:mw P){t:aK}{fs}(q:P.underlying t=some (.struct fs)){ps d:Array (Nat×au)}(h:rj ρ ps.toList d.toList):SR P VR ρ K (LL t ps) (LL t d):=by
 unfold LL;refine SR.then (xj k t) fun w L z v j _ r=>?_;refine SR.then (aT q) fun A M a b e _ l=>?_;obtain⟨rfl,rfl⟩:=l;refine SR.then (acR (fun f w L=>SR.then (jN f.type) fun _ _ n s _ _ m=>by(obtain rfl:s=n:=m;exact .pure rfl)) fs) fun B N u c g _ p=>?_;obtain rfl:c=u:=p;have hr:=Ii (c[·]?) (h.mono (Ren.le_trans (Ren.le_trans j e) g)) (r.cells.mono (Ren.le_trans e g));revert hr;generalize tU (fun x=>c[x]?) z.cells ps.toList=o;generalize tU (fun x=>c[x]?) v.cells d.toList=y;intro hr;cases hr with
 |none=>exact .lost aq
 |some i=>exact .pure (.agg i.1 i.2)
end
end
section
variable [aA]
section
variable {P:aN} {ρ:Ren} {K:Kn}
theorem aeK:VR ρ (default:au) default:=by first|exact .bool _|exact .nilIface|exact .gi|exact .nilFunc|exact .tuple rfl (fun i v a h=>by simp at h)
theorem Ey{z}(h:Plain z)(n):Plain ((Lr n).map (z[· %z.size]!)):=by
 intro i v hv ρ;simp only[fj]at hv;cases hr:(Lr n)[i]? with
 |none=>rw[hr]at hv;cases hv
 |some j=>
  rw[hr]at hv;cases hv
  by_cases a:j %z.size<z.size
  ·have e:z[j %z.size]? =some (z[j %z.size]!):=by simp[a]
   exact h _ _ e ρ
  ·have e:z[j %z.size]! =default:=by
    rw[getElem!_neg];exact a
   show VR ρ (z[j %z.size]!) (z[j %z.size]!);rw[e];exact aeK
theorem Ro:Plain #[]:=fun i v h=>by simp at h
theorem abP(r:mw P){t e:aK}(w:P.underlying t=some (.slice e))(len){ps d}(h:rj ρ ps.toList d.toList):SR P VR ρ K (LM t len ps) (LM t len d):=by
 unfold LM;refine SR.then (aT w) fun D M a b m _ s=>?_;obtain⟨rfl,rfl⟩:=s;dsimp only;refine SR.then (jN e) fun E N n c p _ u=>?_;obtain rfl:c=n:=u;split
 ·exact .lost aq
 ·split
  ·refine SR.then (pM _) fun l O z B f _ k=>?_;obtain⟨rfl,rfl⟩:=k;have hr:=Ii (fun i=>some (i*c,c)) (h.mono (Ren.le_trans (Ren.le_trans m p) f)) ((Ey Ro (len*c)).rel l);revert hr;generalize tU _ _ ps.toList=o;generalize tU _ _ d.toList=A;intro hr;cases hr with
   |none=>exact .lost aq
   |some j=>exact SR.then (vB e j) fun _ _ _ _ _ _ g=>.pure (.slice _ _ g)
  ·refine SR.then (Fw r e) fun F R y C q _ x=>?_;obtain⟨rfl,v⟩:=x;refine SR.then (pM _) fun l O z B f _ k=>?_;obtain⟨rfl,rfl⟩:=k;have hr:=Ii (fun i=>some (i*c,c)) (h.mono (Ren.le_trans (Ren.le_trans (Ren.le_trans m p) q) f)) ((Ey (Ex v) (len*c)).rel l);revert hr;generalize tU _ _ ps.toList=o;generalize tU _ _ d.toList=A;intro hr;cases hr with
   |none=>exact .lost aq
   |some j=>exact SR.then (vB e j) fun _ _ _ _ _ _ g=>.pure (.slice _ _ g)
theorem acQ(u:mw P){t e:aK}(D:P.underlying t=some (.slice e)){x x' y k}(E:VR ρ x x')(g:VR ρ y k):SR P VR ρ K (BM t x y) (BM t x' k):=by
 unfold BM;refine SR.then (aT D) fun V L a b m _ v=>?_;obtain⟨rfl,rfl⟩:=v;dsimp only;refine SR.then (xe (E.mono m)) fun Y M l G q _ B=>?_;obtain rfl:G=l:=B;refine SR.then (xe (g.mono (Ren.le_trans m q))) fun Z N c p S _ w=>?_;obtain rfl:p=c:=w;refine SR.then (kF e) fun φ O i F T _ A=>?_;obtain rfl:F=i:=A.1;split
 ·split
  ·exact tL _ _ _
  ·split
   ·exact tL _ _ _
   ·refine SR.then (vA _) fun _ _ n j _ _ f=>?_;obtain rfl:j=n:=f;exact tL _ _ _
 ·refine SR.then (Fe _) fun W J _ _ r _ _=>?_;refine SR.then (jN e) fun X Q n j U _ f=>?_;obtain rfl:j=n:=f;split
  ·refine SR.then (pM _) fun I o z H s _ h=>?_;obtain⟨rfl,rfl⟩:=h;exact SR.then (vB e ((Ey Ro _).rel _)) fun _ _ _ _ _ _ d=>.pure (.slice _ _ d)
  ·refine SR.then (Fw u e) fun ψ R y k r _ g=>?_;obtain⟨rfl,C⟩:=g;refine SR.then (pM _) fun I o z H s _ h=>?_;obtain⟨rfl,rfl⟩:=h;exact SR.then (vB e ((Ey (Ex C) _).rel _)) fun _ _ _ _ _ _ d=>.pure (.slice _ _ d)
theorem Sw{v v'}(h:VR ρ v v'):SR P VR ρ K (LB v) (LB v'):=by
 unfold LB;cases h with
 |fJ l c=>exact .pure (.string _)
 |@slice a o l c f=>
  refine SR.then (KD f l) fun q L x m _ _ i=>?_;simp only[<-Array.forIn_toList];have d:=i.list;revert d;generalize x.toList=y;generalize m.toList=p;intro d;refine SR.then (Q:=dj) ?_ fun _ _ b e _ _ g=>by(obtain rfl:e=b:=g;exact .pure (.string _))
  unfold qj at d;generalize ByteArray.empty=acc;induction d generalizing acc with
  |nil=>exact .pure rfl
  |cons hv _ j=>
   simp;cases hv with
   |int k n=>
    cases k
    case u8=>exact j _
    all_goals exact .lost aq
   |_=>exact .lost aq
 |_=>exact .lost aq
theorem abZ{s d e:aK}(r:P.underlying s=some (.slice e))(p:P.underlying d=some .string)(g:P.underlying e=some (.int .u8)){v v'}(h:VR ρ v v')(hv:∀b,v≠.string b)(q:∀k n,v≠.int k n):SR P VR ρ K (convert s d v) (convert s d v'):=by
 unfold convert;refine SR.then (aT r) fun _ _ x w j _ t=>?_;obtain⟨rfl,rfl⟩:=t;refine SR.then (aT p) fun _ _ y A m _ u=>?_;obtain⟨rfl,rfl⟩:=u;cases h with
 |string b=>exact absurd rfl (hv b)
 |int k n=>exact absurd rfl (q k n)
 |fJ l c=>
  refine SR.then (aT g) fun _ _ z i f _ a=>?_;obtain⟨rfl,rfl⟩:=a;exact Sw (.fJ l c)
 |slice l c o=>
  refine SR.then (aT g) fun _ _ z i f _ a=>?_;obtain⟨rfl,rfl⟩:=a;exact Sw (.slice l c (o.mono (Ren.le_trans (Ren.le_trans j m) f)))
 |_=>
  refine SR.then (aT g) fun _ _ z i f _ a=>?_;obtain⟨rfl,rfl⟩:=a;exact .lost aq
end
end
section
variable [aA]
section
variable {P:aN} {ρ:Ren} {K:Kn}
theorem Bl{k:aK}{κ}(a:P.underlying k=some (.int κ))(b b' v v'):SR P dj ρ K (LN b 10000 k v) (LN b' 10000 k v'):=by rw[show(10000:Nat)=9999+1 from rfl];unfold LN;refine SR.then (aT a) fun _ _ x d _ _ c=>?_;obtain⟨rfl,rfl⟩:=c;exact .pure rfl
def wj(ρ:Ren)(x b:List MapEntry):Prop:=cH (fun e a=>VR ρ e.key a.key/\VR ρ e.val a.val/\a.born=e.born) x b
theorem lI.list{x a}(h:lI ρ x a):wj ρ x.toList a.toList:=by
 obtain⟨b,c⟩:=h;rcases x with⟨x⟩;rcases a with⟨a⟩;simp at b;simp at c;unfold wj;dsimp only;induction x generalizing a with
 |nil=>
  obtain rfl:a=[]:=Gc b;exact .nil
 |cons v x d=>
  cases a with
  |nil=>simp at b
  |cons f a=>
   refine .cons (c 0 v f rfl rfl) (d a (by grind) fun i u e g j=>c (i+1) u e (by grind) (by grind))
inductive Found(ρ:Ren):Option (Nat×au)->Option (Nat×au)->Prop
 |none:Found ρ none none
 |some (i:Nat) {v a:au} (h:VR ρ v a):Found ρ (some (i,v)) (some (i,a))
theorem Found.mono{σ}(g:ρ.le σ){x x'}(h:Found ρ x x'):Found σ x x':=by
 cases h with
 |none=>exact .none
 |some i h=>exact .some i (h.mono g)
theorem lI.push{x x'}(h:lI ρ x x'){e e'}(d:VR ρ e.key e'.key/\VR ρ e.val e'.val/\e'.born=e.born):lI ρ (x.push e) (x'.push e'):=by
 refine⟨by simp[h.1],fun i u f b a=>?_⟩;rw[eN]at b a;rw[h.1]at a;split at b
 ·rename_i c;rw[aM c]at a;cases b;cases a;exact d
 ·rename_i c;rw[aD c]at a;exact h.2 i u f b a
theorem lI.modify{x g}(h:lI ρ x g){k k' v j}(n:VR ρ k k')(hv:VR ρ v j)(i):lI ρ (x.modify i fun e=>{e with key:=k,val:=v}) (g.modify i fun e=>{e with key:=k',val:=j}):=by
 refine⟨by simp[h.1],fun l u o b a=>?_⟩;rw[kJ]at b a;split at b
 ·rename_i c;rw[aM c]at a;cases d:x[l]? with
  |none=>rw[d]at b;cases b
  |some e=>
   cases f:g[l]? with
   |none=>rw[f]at a;cases a
   |some m=>
    rw[d]at b;rw[f]at a;cases b;cases a;exact⟨n,hv,(h.2 l e m d f).2.2⟩
 ·rename_i c;rw[aD c]at a;exact h.2 l u o b a
theorem O9{x x'}(h:lI ρ x x')(i:Nat){k k'}(d:VR ρ k k'):VR ρ (((x[i]?).map (·.key)).getD k) (((x'[i]?).map (·.key)).getD k'):=by
 cases a:x[i]? with
 |none=>
  have:x'[i]? =none:=by rw[xA]at a⊢;rw[h.1];exact a
  rw[this];exact d
 |some e=>
  cases b:x'[i]? with
  |none=>
   rw[xA,h.1,<-xA,a]at b;cases b
  |some c=>exact(h.2 i e c a b).1
end
end
section
variable [aA]
inductive TR(ρ:Ren):Target->Target->Prop
 |fn {f f':Fn} {x b:Array au} (h:FR ρ f f') (c:bf ρ x b):TR ρ (.fn f x) (.fn f' b)
 |nil:TR ρ .nil .nil
 |collected {r a:Nat} (h:ρ r a):TR ρ (.collected r) (.collected a)
def DR(ρ:Ren)(d d':Deferred):Prop:=TR ρ d.target d'.target/\bf ρ d.args d'.args
theorem TR.mono{ρ σ}(g:ρ.le σ){t t'}(h:TR ρ t t'):TR σ t t':=by
 cases h with
 |fn h a=>exact .fn (h.mono g) (a.mono g)
 |nil=>exact .nil
 |collected h=>exact .collected (g _ _ h)
theorem DR.mono{ρ σ}(g:ρ.le σ){d d'}(h:DR ρ d d'):DR σ d d':=⟨h.1.mono g,h.2.mono g⟩
def CR(ρ:Ren)(c a:CommCase):Prop:=VR ρ c.chan a.chan/\c.send=none/\a.send=none/\VR ρ c.zero a.zero
inductive NR(ρ:Ren):Next->Next->Prop
 |value {v i:au} (h:VR ρ v i):NR ρ (.value v) (.value i)
 |skip:NR ρ .skip .skip
 |enter (f:bh) {x e:Array au} (hf:aA.ok f) (h:bf ρ x e):NR ρ (.enter f x) (.enter f e)
 |round {l l':Nat} (f:bh) {x e:Array au} (a b:Code) (h0:aA.known f/\aA.code a/\aA.code b) (j:ρ l l') (h:bf ρ x e):NR ρ (.round l f x a b) (.round l' f e a b)
 |defer {d d':Deferred} (h:DR ρ d d'):NR ρ (.defer d) (.defer d')
 |recover:NR ρ .recover .recover
 |comm {c g:CommCase} (h:CR ρ c g):NR ρ (.comm #[c] false .select) (.comm #[g] false .select)
section
variable {P:aN} {ρ:Ren} {K:Kn}
theorem dD{s s'}(h:SR P VR ρ K s s'):SR P NR ρ K (do pure (.value (<-s))) (do pure (.value (<-s'))):=SR.then h fun _ _ _ _ _ _ hv=>.pure (.value hv)
theorem SS{s s'}(h:SR P dj ρ K s s'):SR P NR ρ K (do s;pure .skip) (do s';pure .skip):=SR.then h fun _ _ _ _ _ _ _=>.pure .skip
theorem SK{f f'}(h:VR ρ f f'){x x'}(a:bf ρ x x'):SR P DR ρ K (vM f x) (vM f' x'):=by
 cases h with
 |func g b c d e=>exact .pure ⟨.fn g ⟨d,e⟩,bf.append ⟨b,c⟩ a⟩
 |nilFunc=>exact .pure ⟨.nil,a⟩
 |_=>exact iC _ _
theorem Sx{f fn}(h0:aA.ok f)(hf:P.funcs[f]? =some fn)(c:(fn.name== "runtime.NumGoroutine")=false)(d:fn.body.isNone=false){x x'}(e:bf ρ x x'):SR P NR ρ K (callFunc f x) (callFunc f x'):=by unfold callFunc;refine SR.then fB fun i L a b g _ h=>?_;rw[h.1,h.2,hf];dsimp only;rw[c,d];exact .pure (.enter f h0 (e.mono g))
theorem SC{l l'}(h:ρ l l'):SR P (fun n r m=>OR n (.loop r) (.loop m)) ρ K (tV l) (tV l'):=by
 unfold tV;refine .getObj h (fun o k a=>?_) ⟨_,rfl,aq⟩;refine SR.then (.pure a) fun q M o k p _ a=>?_;cases a with
 |loop h0 b c d e f g i j=>exact .pure (.loop h0 b c d e f g i j)
 |_=>exact .lost aq
theorem bf.abd{y y'}(h:qj ρ y y'):∀(ps:List Nat) {x b:Array au},bf ρ x b->bf ρ ((ps.zip y).foldl (fun t (p:Nat×au)=>t.setIfInBounds p.1 p.2) x) ((ps.zip y').foldl (fun t (p:Nat×au)=>t.setIfInBounds p.1 p.2) b):=by
 unfold qj at h;induction h with
 |nil=>intro ps x b a;cases ps<;>exact a
 |cons hv _ c=>
  intro ps x b a;cases ps with
  |nil=>exact a
  |cons p ps=>exact c ps (a.set hv p)
theorem adx{l l'}(h:ρ l l'){x x'}(a:bf ρ x x'):SR P NR ρ K (zP l x) (zP l' x'):=by
 unfold zP;refine SR.then (SC h) fun n L r m g _ hr=>?_;cases hr with
 |loop h0 i j b c d e f k=>
  rw[a.1,d,b,e,f];split
  ·exact .lost aq
  ·refine .pure (.round _ _ _ ⟨h0.1,h0.2.1,h0.2.2.1⟩ (g _ _ h) ?_);have:=bf.abd (a.mono g).list r.params.toList c;rw[<-TW,<-TW,By,By]at this;exact this
theorem abI{l l'}(h:ρ l l'):SR P dj ρ K (zM l) (zM l'):=by
 unfold zM tV;refine .getObj h (fun o k j=>?_) ⟨_,rfl,aq⟩;cases j with
 |@loop r m h0 a b c d e f g i=>
  refine .setObj h (.inr rfl) (.loop h0 rfl b c d e f g i) ?_;rw[a];cases r.state with
  |ready=>exact .pure rfl
  |_=>exact Bm _
 |_=>exact .lost aq
theorem ach{l l'}(h:ρ l l')(j:Option Code)(i:∀c,j=some c->aA.code c):SR P VR ρ K (rU l j) (rU l' j):=by
 unfold rU tV;refine .getObj h (fun o p k=>?_) ⟨_,rfl,aq⟩;cases k with
 |@loop r q h0 m n a b d e f g=>exact .setObj h (.inr rfl) (.loop ⟨h0.1,h0.2.1,h0.2.2.1,i⟩ rfl rfl a b d e f g) (.pure (.bool _))
 |_=>exact .lost aq
theorem KB{l l'}(h:ρ l l'):SR P (fun _ y n=>n=y/\∀c,y=some c->aA.code c) ρ K (xH l) (xH l'):=by
 unfold xH tV;refine .getObj h (fun o p k=>?_) ⟨_,rfl,aq⟩;cases k with
 |@loop r m h0 b a d e f g i j=>
  show SR P _ ρ (K.and l) (if(r.state==.busy)=true then _ else _) (if(m.state==.busy)=true then _ else _);rw[b];split
  ·exact tL _ _ _
  ·refine .setObj h (.inr rfl) (.loop h0 rfl a d e f g i j) (.pure ?_);exact⟨a,h0.2.2.2⟩
 |_=>exact .lost aq
inductive wq(ρ:Ren):Option Nat->Option Nat->Prop
 |none:wq ρ none none
 |some {l l':Nat} (h:ρ l l'):wq ρ (some l) (some l')
theorem aci{fn}(d:aA.known fn){x x'}(h:bf ρ x x')(ps){a b}(e:aA.code a)(f:aA.code b){r r'}(hr:wq ρ r r'):SR P (fun c y i=>c y.1 i.1/\cH (DR c) y.2 i.2) ρ K (xI fn x ps a b r) (xI fn x' ps a b r'):=by
 unfold xI;cases hr with
 |none=>
  refine .new .rz fun n s=>?_;refine .new (.loop ⟨d,e,f,aq⟩ rfl rfl rfl (h.mono (Ren.Jl _ _ _)) rfl rfl rfl (.inr ⟨rfl,rfl⟩)) fun m p=>?_;refine .pure ⟨.inr ⟨rfl,rfl⟩,.cons ⟨.collected (.inl (.inr ⟨rfl,rfl⟩)),bf.nil⟩ .nil⟩
 |@some l q k=>
  refine SR.then (SC k) fun c L z t g _ o=>?_;cases o with
  |loop _ _ _ _ _ _ _ _ j=>
   refine .new (.loop ⟨d,e,f,aq⟩ rfl rfl rfl (h.mono g) rfl rfl rfl j) fun m p=>?_;exact .pure ⟨.inr ⟨rfl,rfl⟩,.nil⟩
theorem adq{l l'}(h:ρ l l'):SR P (fun _ y b=>y=[]/\b=[]) ρ K (BN l) (BN l'):=by
 unfold BN;refine .getObj h (fun o c a=>?_) ⟨_,rfl,aq⟩;cases a with
 |rz=>exact .setObj h (.inr rfl) .uQ (.pure ⟨rfl,rfl⟩)
 |_=>exact .lost aq
end
end
section
variable [aA]
section
variable {P:aN} {ρ:Ren} {K:Kn}
theorem KI{a a'}(h:AR ρ a a'):SR P dj ρ K (noView a) (noView a'):=by
 unfold noView;refine SR.view h.1 ?_ fun _ _ _ _=>?_
 ·exact .pure rfl
 ·exact .lost trivial
theorem pL{a a'}(h:AR ρ a a'):SR P (fun e x c=>AR e x.1 c.1/\c.2=x.2) ρ K (oN a) (oN a'):=by unfold oN;exact .number h.1 (.pure ⟨h,rfl⟩) fun b f l d=>.pure ⟨d,rfl⟩
theorem Bj{a a'}(h:AR ρ a a'):SR P dj ρ K (byteOf a) (byteOf a'):=by
 unfold byteOf;rw[h.2.2];cases a.spot with
 |some s=>exact .pure rfl
 |none=>
  refine SR.then fB fun k L p j g _ d=>?_;rw[d.1,d.2];refine SR.then (KI (h.mono g)) fun i M _ _ f _ _=>?_;have c:=(h.mono g).mono f;refine .shape c.1 (fun x=>?_) (fun _=>.lost aq) fun _=>⟨_,rfl,aq⟩;obtain⟨e,n⟩:=x;show SR P dj i _ (if P.cellsOf e=0 then _ else _) (if P.cellsOf e=0 then _ else _);rw[c.2.1];split
  ·exact .pure rfl
  ·cases byteOfCell P P.depth e (a.off %P.cellsOf e)with
   |none=>exact .lost aq
   |some b=>exact .pure rfl
theorem SQ{a a' b b'}(h:AR ρ a a')(k:AR ρ b b'):SR P dj ρ K (Ml a b) (Ml a' b'):=by
 refine .assume fun f=>?_;unfold Ml
 by_cases d:a.block=b.block
 ·have l:=f.1.1 _ _ _ h.1 (d▸k.1);have e:(a.block !=b.block)=false:=by simp[d]
  have c:(a'.block !=b'.block)=false:=by simp[l]
  rw[e,c];simp only[Bool.false_or];refine SR.then fB fun u L p t g _ i=>?_;rw[i.1,i.2]
  by_cases m:a.block<P.globals.size
  ·have s:=f.2.1 _ _ h.1 m;have e:decide (a.block≥P.globals.size)=false:=by grind
   have c:decide (a'.block≥P.globals.size)=false:=by grind
   rw[e,c];refine SR.then (Bj (h.mono g)) fun v M x q j _ n=>?_;obtain rfl:q=x:=n;refine SR.then (Bj ((k.mono g).mono j)) fun _ _ y r _ _ o=>?_;obtain rfl:r=y:=o;exact .pure rfl
  ·have e:decide (a.block≥P.globals.size)=true:=bK;rw[e];exact .lost aq
 ·have e:(a.block !=b.block)=true:=by simp[d]
  rw[e];simp;refine .uR fun w=>⟨_,_,rfl,aq⟩
theorem abD(k:qK){a a' b b'}(h:AR ρ a a')(c:AR ρ b b'):SR P VR ρ K (Gp k a b) (Gp k a' b'):=by refine SR.then (SQ h c) fun _ _ x e _ _ d=>?_;obtain rfl:e=x:=d;exact .pure (.int _ _)
theorem abB(op:nu){a a' b b'}(h:AR ρ a a')(c:AR ρ b b'):SR P VR ρ K (Gn op a b) (Gn op a' b'):=by refine SR.then (SQ h c) fun _ _ x e _ _ d=>?_;obtain rfl:e=x:=d;cases op<;>first|exact .pure (.bool _)|exact .lost aq
theorem abC(k:qK){a a'}(h:AR ρ a a')(n):SR P VR ρ K (Ce k a n) (Ce k a' n):=by
 unfold Ce;refine .shape h.1 (fun x=>?_) (fun _=>.lost aq) fun _=>⟨_,rfl,aq⟩;obtain⟨e,c⟩:=x;refine SR.then (pM (some (e,c))) fun o l y d g0 _ b=>?_;obtain⟨rfl,rfl⟩:=b;refine SR.then (kF e) fun m L i j f _ g=>?_;obtain rfl:j=i:=g.1;dsimp only;split
 ·exact .lost aq
 ·refine SR.then (Bj (h.mono (Ren.le_trans g0 f))) fun _ _ y d _ _ b=>?_;obtain rfl:d=y:=b;exact .pure (.int _ _)
theorem ads{a a'}(h:AR ρ a a')(t){y i}(f:VR ρ y i):SR P (fun l v r=>∃b j,v=.pointer (some b)/\r=.pointer (some j)/\AR l b j) ρ K (FL #[] t #[.pointer (some a),y]) (FL #[] t #[.pointer (some a'),i]):=by
 unfold FL;dsimp only;refine SR.then (xe f) fun l L n q g _ o=>?_;obtain rfl:q=n:=o;have d:=h.mono g;split
 ·refine SR.view d.1 ?_ fun _ _ _ _=>?_
  ·exact .pure ⟨_,_,rfl,rfl,d⟩
  ·exact .lost trivial
 ·split
  ·exact .lost aq
  ·refine .shape d.1 (fun x=>?_) (fun _=>.lost aq) fun _=>⟨_,rfl,aq⟩;obtain⟨e,c⟩:=x;refine SR.then (pM (some (e,c))) fun w s y i g0 _ f=>?_;obtain⟨rfl,rfl⟩:=f;refine SR.then fB fun z M p u m _ k=>?_;rw[k.1,k.2,d.2.1];split
   ·exact .pure ⟨_,_,rfl,rfl,⟨m _ _ (g0 _ _ d.1),rfl,d.2.2⟩⟩
   ·exact .lost aq
theorem abH{a a'}(h:AR ρ a a')(l):SR P VR ρ K (asNumber a l) (asNumber a' l):=by unfold asNumber;exact .new (.number l h) fun n b=>.pure (.ptr ⟨.inr ⟨rfl,rfl⟩,rfl,rfl⟩)
def Told(d:jy):Prop:=d=.string\/(∃a,d=.int a)\/∃m,d=.interface m
theorem KG{a a'}(h:AR ρ a a'){t:aK}{d:jy}(p:P.underlying t=some d)(j:Told d){y y'}(r:VR ρ y y'):SR P VR ρ K (movedNumber t (.pointer (some a)) y) (movedNumber t (.pointer (some a')) y'):=by unfold movedNumber;refine SR.then (aT p) fun B L q z g _ k=>?_;rw[k.1,k.2];rw[aD (by rcases j with rfl|⟨s,rfl⟩|⟨m,rfl⟩<;>simp),aD (by rcases j with rfl|⟨s,rfl⟩|⟨m,rfl⟩<;>simp)];refine SR.then (pL (h.mono g)) fun C M b i n _ f=>?_;obtain⟨b,l⟩:=b;obtain⟨i,x⟩:=i;obtain⟨f,e⟩:=f;dsimp only at f e;subst e;refine SR.then (ads f t ((r.mono g).mono n)) fun D N v A w _ hv=>?_;obtain⟨c,u,rfl,rfl,o⟩:=hv;exact abH o _
theorem SB{t:aK}{κ}{i:iX}(X:P.underlying t=some (.int κ))(V:P.info? t=some i)(W:∀u,i.desc≠.named "sync.copyChecker" u){x z y A}(D:VR ρ x z)(E:VR ρ y A):SR P dj ρ K (ef t x y) (ef t z A):=by
 unfold ef sD;rw[show(10000:Nat)=9999+1 from rfl];unfold xV;refine SR.then (aT X) fun σ L d d' g _ U=>?_;obtain⟨rfl,rfl⟩:=U;have v:=E.mono g;cases (D.mono g)with
 |int j n=>
  cases v with
  |int Z m=>
   dsimp only;split
   ·exact .pure rfl
   ·exact .lost aq
  |ptr h=>
   match n with
   |.ofNat 0=>exact .pure rfl
   |.ofNat (m+1)=>exact .lost aq
   |.negSucc m=>exact .lost aq
  |_=>exact .lost aq
 |@ptr a a' S=>
  cases v with
  |int Z n=>
   match n with
   |.ofNat 0=>exact .pure rfl
   |.ofNat (m+1)=>exact .lost aq
   |.negSucc m=>exact .lost aq
  |@ptr b b' T=>
   refine SR.then (pL S) fun τ M c B J _ k=>?_;obtain⟨c,l⟩:=c;obtain⟨B,l'⟩:=B;obtain⟨k,e⟩:=k;dsimp only at k e;refine SR.then (pL (T.mono J)) fun υ N f C Q _ s=>?_;obtain⟨f,q⟩:=f;obtain⟨C,q'⟩:=C;obtain⟨s,I⟩:=s;dsimp only at s I;have k:=k.mono Q;dsimp only;refine SR.then fB fun φ O p p' r _ H=>?_;rw[H.1,H.2];refine .assume fun G=>?_
   by_cases o:c.block=f.block/\c.block<P.globals.size
   ·have F:B.block=C.block:=G.1.1 _ _ _ (r _ _ k.1) (o.1▸r _ _ s.1);rw[aM (by simp[o.1];rw[<-o.1];exact o.2),aM (by simp[F];rw[<-F];exact(G.2.1 _ _ (r _ _ k.1) o.2))];refine SR.then (Bj (k.mono r)) fun τ M x z R _ D=>?_;obtain rfl:z=x:=D;refine SR.then (Bj ((s.mono r).mono R)) fun _ _ y A _ _ E=>?_;obtain rfl:A=y:=E;exact .pure rfl
   ·rw[aD (by simpa using o)];refine .uR fun w=>?_
    have e:(GH t).run P w=.ok i w:=by unfold GH;rw[ug];show(match P.info? t with|some i=>(pure i:Sem iX)|none=>_).run P w=_;rw[V];rfl
    rw[ug,e];dsimp only[Result.andThen];split
    ·rename_i u Y;exact absurd Y (W u)
    ·exact⟨_,_,rfl,aq⟩
  |_=>exact .lost aq
 |gi=>cases v<;>exact .lost aq
 |_=>cases v<;>exact .lost aq
theorem KF{t:aK}{d:jy}(e:P.underlying t=some d)(a:Told d){y y'}(f:VR ρ y y'):SR P VR ρ K (movedNumber t (.pointer none) y) (movedNumber t (.pointer none) y'):=by
 unfold movedNumber;refine SR.then (aT e) fun j L q k g _ b=>?_;rw[b.1,b.2];rw[aD (by rcases a with rfl|⟨i,rfl⟩|⟨m,rfl⟩<;>simp),aD (by rcases a with rfl|⟨i,rfl⟩|⟨m,rfl⟩<;>simp)];dsimp only;unfold FL;dsimp only;refine SR.then (xe (f.mono g)) fun j L n h g _ c=>?_;obtain rfl:h=n:=c;split
 ·exact .lost aq
 ·split
  ·exact .lost aq
  ·exact .lost aq
theorem SJ{x x' y y'}{t:aK}{d:jy}(e:P.underlying t=some d)(b:Told d)(h:∀a L,ρ.le a->SR P VR a L (movedNumber t x y) (movedNumber t x' y')):SR P VR ρ K (do if(<-underlying t) matches .unsafePointer then movedPointer t x y else movedNumber t x y) (do if(<-underlying t) matches .unsafePointer then movedPointer t x' y' else movedNumber t x' y'):=by refine SR.then (aT e) fun a L q i g _ c=>?_;rw[c.1,c.2];rw[aD (by rcases b with rfl|⟨f,rfl⟩|⟨m,rfl⟩<;>simp),aD (by rcases b with rfl|⟨f,rfl⟩|⟨m,rfl⟩<;>simp)];exact h a L g
theorem SI(k:qK){a a'}(h:AR ρ a a')(n):SR P VR ρ K (do Ce k (<-oN a).1 n) (do Ce k (<-oN a').1 n):=
 SR.then (pL h) fun _ _ _ _ _ _ b=>abC _ b.1 _
theorem abX(op:nu){a a' b b'}(h:AR ρ a a')(k:AR ρ b b'):SR P VR ρ K (do Gn op (<-oN a).1 (<-oN b).1) (do Gn op (<-oN a').1 (<-oN b').1):=
 SR.then (pL h) fun _ _ _ _ g _ d=>SR.then (pL (k.mono g)) fun _ _ _ _ c _ e=>abB op (d.1.mono c) e.1
theorem adp{a a' b b'}(h:AR ρ a a')(k:AR ρ b b'):SR P VR ρ K (do Gp .u64 (<-oN a).1 (<-oN b).1) (do Gp .u64 (<-oN a').1 (<-oN b').1):=
 SR.then (pL h) fun _ _ _ _ g _ d=>SR.then (pL (k.mono g)) fun _ _ _ _ c _ e=>abD _ (d.1.mono c) e.1
theorem Ky(op:nu){t:aK}{d:jy}(c:P.underlying t=some d)(a:Told d){x x' y y'}(eq:SR P dj ρ K (ef t x y) (ef t x' y'))(o:VR ρ x x')(e:VR ρ y y'):SR P VR ρ K (eG op t x y) (eG op t x' y'):=by
 have pos:SR P VR ρ K (do pure (.bool (<-ef t x y))) (do pure (.bool (<-ef t x' y'))):=SR.then eq fun _ _ b f _ _ i=>by(obtain rfl:f=b:=i;exact .pure (.bool _))
 have neg:SR P VR ρ K (do pure (.bool (!(<-ef t x y)))) (do pure (.bool (!(<-ef t x' y')))):=SR.then eq fun _ _ b f _ _ i=>by(obtain rfl:f=b:=i;exact .pure (.bool _))
 cases o with
 |int j n=>
  cases e with
  |int l m=>exact Kz op t j l n m
  |ptr h=>cases op<;>simp only[eG]<;>first|exact pos|exact neg|exact .lost aq|exact KG h c a (.int _ _)|exact SI _ h _
  |gi=>cases op<;>simp only[eG]<;>first|exact pos|exact neg|exact .lost aq|exact KF c a (.int _ _)
  |_=>cases op<;>simp only[eG]<;>first|exact pos|exact neg|exact .lost aq
 |string s=>
  cases e with
  |string p=>exact KA op t s p
  |_=>cases op<;>simp only[eG]<;>first|exact pos|exact neg|exact .lost aq
 |ptr h=>
  cases e with
  |int l m=>cases op<;>simp only[eG]<;>first|exact pos|exact neg|exact .lost aq|exact SJ c a fun _ _ g=>KG (h.mono g) c a (.int _ _)|exact KG h c a (.int _ _)|exact SI _ h _
  |ptr k=>cases op<;>simp only[eG]<;>first|exact pos|exact neg|exact .lost aq|exact abX _ h k|exact adp h k
  |_=>cases op<;>simp only[eG]<;>first|exact pos|exact neg|exact .lost aq
 |gi=>
  cases e with
  |int l m=>cases op<;>simp only[eG]<;>first|exact pos|exact neg|exact .lost aq|exact SJ c a fun _ _ g=>KF c a (.int _ _)|exact KF c a (.int _ _)
  |_=>cases op<;>simp only[eG]<;>first|exact pos|exact neg|exact .lost aq
 |_=>cases e<;>cases op<;>simp only[eG]<;>first|exact pos|exact neg|exact .lost aq
theorem abJ(op:nu){t:aK}{κ}{i:iX}(a:P.underlying t=some (.int κ))(d:P.info? t=some i)(e:∀u,i.desc≠.named "sync.copyChecker" u){x x' y y'}(b:VR ρ x x')(c:VR ρ y y'):SR P VR ρ K (eG op t x y) (eG op t x' y'):=
 Ky op a (.inr (.inl ⟨κ,rfl⟩)) (SB a d e b c) b c
theorem acr{t:aK}(c:P.underlying t=some .string){x x' y y'}(e:VR ρ x x')(a:VR ρ y y'):SR P dj ρ K (ef t x y) (ef t x' y'):=by
 unfold ef sD;rw[show(10000:Nat)=9999+1 from rfl];unfold xV;refine SR.then (aT c) fun h L d f g _ b=>?_;obtain⟨rfl,rfl⟩:=b;cases e with
 |string s=>cases a<;>first|exact .pure rfl|exact .lost aq
 |_=>cases a<;>exact .lost aq
theorem abM(op:nu){t:aK}(a:P.underlying t=some .string){x x' y y'}(b:VR ρ x x')(c:VR ρ y y'):SR P VR ρ K (eG op t x y) (eG op t x' y'):=
 Ky op a (.inl rfl) (acr a b c) b c
theorem acm{t:aK}{m}(b:P.underlying t=some (.interface m)){x x'}(c:VR ρ x x'):SR P dj ρ K (ef t x .nilIface) (ef t x' .nilIface):=by unfold ef sD;rw[show(10000:Nat)=9999+1 from rfl];unfold xV;refine SR.then (aT b) fun f L d e g _ a=>?_;obtain⟨rfl,rfl⟩:=a;cases c<;>first|exact .pure rfl|exact .lost aq
theorem abK(op:nu){t:aK}{m}(a:P.underlying t=some (.interface m)){x x'}(b:VR ρ x x'):SR P VR ρ K (eG op t x .nilIface) (eG op t x' .nilIface):=
 Ky op a (.inr (.inr ⟨m,rfl⟩)) (acm a b) b .nilIface
end
end
section
variable [aA]
section
variable {P:aN} {ρ:Ren} {K:Kn}
theorem Ty{v v'}(h:VR ρ v v')(b):VR ρ (.tuple #[v,.bool b]) (.tuple #[v',.bool b]):=by
 refine .tuple rfl fun i u d a c=>?_
 match i,a,c with
 |0,a,c=>cases a;cases c;exact h
 |1,a,c=>cases a;cases c;exact .bool _
 |i+2,a,_=>simp at a
theorem adr(j:mw P){v v'}(h:VR ρ v v'){e t:aK}{d:jy}(l:P.underlying t=some d)(c:∀m,d≠.interface m):SR P VR ρ K (BO v e t true) (BO v' e t true):=by
 unfold BO;refine SR.then (aT l) fun f L a b g _ k=>?_;obtain⟨rfl,rfl⟩:=k;have zero:∀(i:Ren) (M:Kn),SR P VR i M (do pure (.tuple #[<-zeroValue t,.bool false])) (do pure (.tuple #[<-zeroValue t,.bool false])):=fun i M=>SR.then (xj j t) fun _ _ _ _ _ _ o=>.pure (Ty o _);cases (h.mono g)with
 |nilIface=>
  cases b
  case interface m=>exact absurd rfl (c m)
  all_goals exact zero f L
 |@iface x p u n=>
  cases b
  case interface m=>exact absurd rfl (c m)
  all_goals
   dsimp only;split
   ·exact .pure (Ty n _)
   ·exact zero f L
 |_=>
  cases b
  case interface m=>exact absurd rfl (c m)
  all_goals exact .lost aq
theorem acI(n):∀{ρ:Ren} {K:Kn} {a a':eV} (_:AR ρ a a') (acc:ByteArray),SR P dj ρ K (jf a acc n) (jf a' acc n):=by
 induction n with
 |zero=>exact fun _ _=>.pure rfl
 |succ n b=>
  intro ρ K a a' h acc;unfold jf;refine SR.then (KC h .plain) fun d L v c g _ hv=>?_;cases hv with
  |int k m=>
   cases k
   case u8=>exact b ((h.mono g).add 1) _
   all_goals exact .lost aq
  |_=>exact .lost aq
theorem SA(t):SR P dj ρ K (elemOf t) (elemOf t):=by unfold elemOf;refine SR.then (Bn t) fun d L a b _ _ c=>?_;obtain rfl:b=a:=c.1;cases b<;>first|exact .pure rfl|exact .lost aq
theorem acX{x x'}(h:VR ρ x x'){η iR o}(e:η o=x)(m:iR o=x'){op}(r:op.op=.nilCheck o):SR P NR ρ K (execOp η op) (execOp iR op):=by
 unfold execOp;simp only[r,e,m];cases h with
 |gi=>exact zi
 |nilIface=>exact zi
 |nilFunc=>exact zi
 |@func f y a v b w p d g i j=>
  cases p with
  |func _ u=>exact .pure (.value (.func (.func _ u) d g i j))
  |yield q=>exact .pure (.value (.func (.yield q) d g i j))
 |bool b=>exact .pure (.value (.bool b))
 |int k n=>exact .pure (.value (.int k n))
 |string s=>exact .pure (.value (.string s))
 |ptr h=>exact .pure (.value (.ptr h))
 |fJ l c=>exact .pure (.value (.fJ l c))
 |slice l c h=>exact .pure (.value (.slice l c h))
 |lS=>exact .pure (.value .lS)
 |map h=>exact .pure (.value (.map h))
 |mW=>exact .pure (.value .mW)
 |chan h=>exact .pure (.value (.chan h))
 |iface t h=>exact .pure (.value (.iface t h))
 |agg a b=>exact .pure (.value (.agg a b))
 |tuple a b=>exact .pure (.value (.tuple a b))
end
end
section
variable [aA]
section
variable {P:aN} {ρ:Ren} {K:Kn}
theorem acZ{x x'}(h:VR ρ x x'):SR P VR ρ K (oc .not x) (oc .not x'):=by cases h<;>simp only[oc]<;>first|exact .pure (.bool _)|exact .lost aq
theorem KE{x x' y y'}(h:VR ρ x x')(k:VR ρ y y'):SR P VR ρ K (zI x y) (zI x' y'):=by
 cases h with
 |int j n=>cases k<;>simp only[zI]<;>first|exact .pure (.int _ _)|exact .lost aq
 |string s=>
  cases k with
  |string i=>
   simp only[zI];refine SR.then (SO .leq s i) fun m L a b g _ e=>?_;refine SR.then (Sq e) fun o M c d l _ f=>?_;obtain rfl:d=c:=f;exact .pure (.string _)
  |_=>simp only[zI];exact .lost aq
 |_=>cases k<;>simp only[zI]<;>exact .lost aq
theorem acV{x x' y y'}(h:VR ρ x x')(k:VR ρ y y')(ts t):SR P VR ρ K (FK ts t #[x,y]) (FK ts t #[x',y']):=by exact SR.then (KE h k) fun _ _ _ _ _ _ hv=>.pure hv
theorem ace{s d:aK}{j k}(e:P.underlying s=some (.int j))(c:P.underlying d=some (.int k)){x x'}(h:VR ρ x x'):SR P VR ρ K (convert s d x) (convert s d x'):=by unfold convert;refine SR.then (aT e) fun _ _ a b _ _ f=>?_;obtain⟨rfl,rfl⟩:=f;refine SR.then (aT c) fun _ _ a b _ _ g=>?_;obtain⟨rfl,rfl⟩:=g;cases h<;>first|exact .pure (.int _ _)|exact .lost aq
theorem adf{c c' a a' b b'}(hc:VR ρ c c')(d:VR ρ a a')(e:VR ρ b b'):SR P NR ρ K (do pure (.value (if <-asBool c then a else b))) (do pure (.value (if <-asBool c' then a' else b'))):=by
 refine SR.then (Sq hc) fun i L x h g _ f=>?_;obtain rfl:h=x:=f;split
 ·exact .pure (.value (d.mono g))
 ·exact .pure (.value (e.mono g))
theorem adu{x x' y y'}(h:VR ρ x x')(k:VR ρ y y')(pt t2 ty):SR P VR ρ K (Ly #[pt,t2] ty #[x,y]) (Ly #[pt,t2] ty #[x',y']):=by
 unfold Ly;cases h with
 |gi=>
  dsimp only;refine SR.then (xe k) fun w L n b g _ i=>?_;obtain rfl:b=n:=i;simp;split
  ·exact tL _ _ _
  ·split
   ·exact .lost aq
   ·split
    ·exact .pure (.string _)
    ·exact Bm _
 |@ptr a j o=>
  dsimp only;refine SR.then (xe k) fun w L n b g _ i=>?_;obtain rfl:b=n:=i;simp;split
  ·exact tL _ _ _
  ·split
   ·exact .lost aq
   ·split
    ·exact .pure (.string _)
    ·refine SR.then (SA pt) fun A M e f l _ p=>?_;obtain rfl:f=e:=p;have d:=(o.mono g).mono l;unfold variablesAt;refine .program (.shape d.1 (fun z=>?_) (fun _=>.lost aq) fun _=>⟨_,rfl,aq⟩);obtain⟨u,c⟩:=z;have t:(M.and a.block) a.block:=.inr rfl;show SR P VR A _ (if liesAt P P.depth u (c / P.cellsOf u) a.off f b.toNat=true then _ else _) (if liesAt P P.depth u (c / P.cellsOf u) j.off f b.toNat=true then _ else _);rw[d.2.1];split
     ·refine SR.then (acI _ d _) fun B N s v m r q=>?_;obtain rfl:v=s:=q;exact .freeze (d.mono m) (r _ t) (.pure (.string _))
     ·exact .lost aq
 |_=>exact .lost aq
end
end
end
end Go.Proofs.YtpobhljcainmdaaGreat
