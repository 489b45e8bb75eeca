/- Parts of the proof. -/
import Derived.ArgAppend
import Derived.Conc.AppendEvents3
import Derived.Conc.EventLaws
import Derived.Conc.SmallLaws
import Derived.Defers
import Derived.Laws.IdiomCopy
import Derived.Lib.AppendStr
import Derived.Lib.LazyBuf
import Derived.Lib.SliceRun
import Derived.LoopIn
import Derived.LoopNIn
import Derived.Maps.OwnSet
import Derived.RangeFuncBound
import Derived.RangeFuncCalls
import Derived.Recover
import Derived.Shelf.Abstract
import Derived.Shelf.RegionOpen
import Derived.Stop.RegionWithIn
import Derived.Tactics2
import Derived.TacticsInMore
import Derived.Test.YtpobhljcainmdabGreatJ02
set_option maxRecDepth 100000
set_option maxHeartbeats 8000000
set_option linter.all false
namespace Go.Proofs.YtpobhljcainmdabGreat
abbrev _root_.Eq.t:=@Eq.trans
abbrev _root_.Eq.y:=@Eq.symm
abbrev _root_.Iff.t:=@Iff.trans
abbrev _root_.Iff.y:=@Iff.symm
abbrev _root_.Ne.y:=@Ne.symm
abbrev _root_.False.e:=@False.elim
abbrev _root_.Or.e:=@Or.elim
abbrev _root_.Go.CallsIn.m:=@Go.CallsIn.mono
abbrev _root_.Go.RoundIn.m:=@Go.RoundIn.mono
abbrev _root_.Go.RowsIn.m:=@Go.RowsIn.mono
abbrev _root_.Go.RowKit.Below.t:=@Go.RowKit.Below.trans
abbrev _root_.Go.RowKit.Below.m:=@Go.RowKit.Below.mono
abbrev _root_.Go.World.grownBy.t:=@Go.World.grownBy.trans
abbrev _root_.Go.RowKit.Hid.u:=@Go.RowKit.Hid.out
abbrev _root_.Go.Calls.m:=@Go.Calls.mono
abbrev _root_.Go.Aside.u:=@Go.Aside.out
abbrev _root_.Go.World.ownsMap.m:=@Go.World.ownsMap.mono
abbrev _root_.Go.World.Since.t:=@Go.World.Since.trans
abbrev _root_.List.Perm.y:=@List.Perm.symm
abbrev _root_.List.Perm.t:=@List.Perm.trans
abbrev _root_.List.Sublist.t:=@List.Sublist.trans
abbrev _root_.List.IsPrefix.t:=@List.IsPrefix.trans
abbrev _root_.Go.KeepsOthers.t:=@Go.KeepsOthers.trans
abbrev _root_.Go.World.mapTurned.t:=@Go.World.mapTurned.trans
abbrev _root_.Go.Shut.u:=@Go.Shut.out
abbrev _root_.Go.CallsD.m:=@Go.CallsD.mono
abbrev _root_.Go.CallsDIn.m:=@Go.CallsDIn.mono
abbrev _root_.Go.Rows.m:=@Go.Rows.mono
abbrev _root_.Go.YieldAt.m:=@Go.YieldAt.mono
abbrev _root_.Go.StepsIn.m:=@Go.StepsIn.mono
abbrev Cl.u:=@Cl.out
abbrev _root_.Go.Conc.Past.m:=@Go.Conc.Past.mono
open Go.Value renaming slice->ζ,string->ξ,pointer->π,bool->ω,tuple->θ,agg->ν,int->ι
open Go renaming World->aq,Value->aB,maxLen->cP,bodyPost_ret->iB,below_drewN->jj,run_append_room_cells->KZ,run_underlying->Cx,FuncId->aZ,run_convert_bytes_back->yd,run_takeDeferred->rU,info_parts->nG,callsIn_of_wp_marks->QR,TypeId->aY,step_append_lies->Rb,Oper->ep,run_append_nil_string->I6,run_storeCells_cells->I7,growslice_fits->QU,Operand->lU,wpS_region->Le,bodyPost->FJ,results_none->zX,Addr->iL,sizeOf->JV,leaves_cons->QV,grownBy_putObj'->FM,Program->bM
open Go.World renaming cell?_of_block->iO,grownBy_alloc->pN,putObj_heap_other->gq,cell?->gp,cell?_setCell_same'->KM,ownsRow_nil->qH,setCell->iQ,news_of_block->wu,size_alloc->zT,frozen?->qG,cell?_setCell_other->I1,cell?_setCells_out->I2,cell?_setCell_far->I0,frozen?_setCell->I4,drewN_drewN->I3
open Go.Value renaming slice->fM,ownBlock->lW,cells->zR,oneCell'->zS,int->BX
open Go.Lib renaming strCells->jX,run_append_room_string->x8,run_append_grow_string->x7,run_firstCells_string->y7,strCells_length->y8
open Go.IntKind renaming i64->cJ,wrap_i64->vL,signed->Qq,bits->Qp
open Go.Region renaming ready->fS,wanted->cY,binds->zN
open Go.Builtin renaming zeroCells->qA,append_->rD,clear_->um,copy_->uq,lenOf->EK
open _root_.List renaming range->dA,filter_map->A7,replicate->rP,take_succ->C9
open Go.RowKit renaming intOf->dw
open Go.CallsIn renaming inRound->rI
open Go.Result renaming andThen_ok->FG
open _root_.Array renaming getD->rB,replicate->oG,mem_filter->Zq
open Go.Maps renaming int_keyed->Fz,setOf->Cc,keyOf_int_mk->QC,setOf_snoc->E0
open Go.Sem renaming run_bind->Cn,run_pure->KH
open Go.Addr renaming add_lit->Bw
open Go.Fence renaming wide->ig
open _root_.Nat renaming reduceAdd->rS,reduceSub->FB,exists_eq_add_of_le->E5,beq->vY,mod_lt->QF
open Go.WideAt renaming IsKeyLit->QL
open Go.Instr renaming makeFunc->Qn,typeAssert->Ka,sureAddr->EW,loadAt->JX
open Go.Lit renaming int->Fw
open Go.Exit renaming thenS->JO,normal->Qe,ret->Qf
open Go.Oper renaming wp->tr
open Go.DataW renaming insert->ZG
open _root_.UInt8 renaming ofNat->ji
open Go renaming undef->y
open Go.Ending renaming returned->aG
open Go.Obj renaming cells->au
open _root_.Bool renaming false->aa,true->M
open _root_.Option renaming none->aj,some->Z
open _root_.Or renaming inl->aA,inr->az
attribute [local go_sem ↓] Go.wp_at_zero Go.wp_at_succ
attribute [local go_sem] cz cE
open Go.Proofs.Tryz
open Go.RowKit
def ajG(us:av Int)(ck):Maps.has (Cc (H:=Unit) (.agg [])<|us.map<|Fw .i64) (.int .i64 ck)=decide (ck∈us):=by rw[Maps.has_setOf _ _ _ (by intro x b;simp at b;obtain⟨a,_,rfl⟩:=b;trivial)];rw[sR];simp[Lit.sameKey,uw]
abbrev Uses(w:aq)(mb:Nat)(us:av Int):Prop:=w.ownsMap prog 3 (unitElem (H:=Unit)) mb us.length (Cc (.agg []) (us.map (Fw .i64)))
structure eB(w:aq)(rb mb:Nat)(sz mx ph:Int)(us:av Int):Prop where
 box:w.heap[rb]? =Z (au #[I sz,I mx,I ph,.map (Z mb)] 211 (0,0))
 uses:Uses w mb us
def eB.lt{w rb mb sz mx ph us}(h:eB w rb mb sz mx ph us):rb<w.heap.size/\mb<w.heap.size:=⟨(bf.1 h.box).1,h.uses.lt⟩
def eB.cell{w rb mb sz mx ph us}(h:eB w rb mb sz mx ph us):
  w.cell? (F rb 0)=Z (I sz)/\w.cell? (F rb 1)=Z (I mx)/\w.cell? (F rb 2)=Z (I ph)/\w.cell? (F rb 3)=Z (.map<|Z mb):=by
 simp[gp,h.box]
def eB.kept{w w' rb mb sz mx ph us}(h:eB w rb mb sz mx ph us){row}(a:w.grownBy w' row)(b:Z rb≠row)(c:Z mb≠row):eB w' rb mb sz mx ph us:=⟨(a.block _ h.lt.1 b).t h.box,h.uses.kept a c⟩
def MG{w w'}(h:aK w w'):w.grownBy w' aj:=⟨h.os,h.tape,h.output,h.size,λk a _=>h.block k a⟩
def eB.later{w w' rb mb sz mx ph us}(h:eB w rb mb sz mx ph us)(a:aK w w'):eB w' rb mb sz mx ph us:=h.kept (MG a) ay ay
def T2(s i)(h:i+1<s.size):two (s.extract i s.size) 0=two s i:=by
 have e:∀j,i+j<s.size->bt (s.extract i s.size) j=bt s (i+j):=λj a=>by
  unfold bt
  congr 1;simp[rE,rB,a];grind
 unfold two;grind
def vA(s i s' w)(d:s.size<=cP)(a:i+1<s.size)(b:s'=s.extract i s.size):
  Calls prog 256 #[ξ s'] w λe c=>e=aG (I<|two s i)/\∃n,c=w.drewN n:=by
 subst b;have f:(s.extract i s.size).size=s.size-i:=by simp[oH]
 have:=ajx (s.extract i s.size) w Y Y
 rwa [T2 s i a]at this
abbrev uL(rb mb b:Nat)(ck:Int)(us:av Int)(W:aq):Prop:=W.cell? (F rb 3)=Z (.map (Z mb))/\W.cell? (F b 4)=Z (I ck)/\(Instr.lookup 209 (.map (Z mb)) (I ck) M).run prog W=.ok (θ #[ν #[],ω (decide (ck∈us))]) W/\Uses W mb us/\(0<=ck/\ck<=65535)
def uL.mk'{rb mb b ck us W}(d:W.cell? (F rb 3)=Z (.map<|Z mb))(e:W.cell? (F b 4)=Z (I ck))(a:Uses W mb us)(f:0<=ck/\ck<=65535):uL rb mb b ck us W:=
 ⟨d,e,(by
    let⟨v,g,c,hv⟩:=a.look_ok (Fz underlying3) underlying209 (zeroValue164 W) unitElem_mk (kl:=.int .i64 ck) (QC underlying3 A1);obtain⟨rfl,_⟩:=unitElem_inv hv;rw[ajG]at c;exact c),a,f⟩
def uL.keep{rb mb b ck us W o}(h:uL rb mb b ck us W):uL rb mb b ck us (W.alloc o):=have a:=(Below.refl W.heap.size W).alloc (aR _) o;.mk' ((a.cell<|qQ h.1).t h.1) ((a.cell<|qQ h.2.1).t h.2.1) (h.2.2.2.1.alloc o) h.2.2.2.2
abbrev UP(s:ByteArray):bh:=⟨3,⟨#[]⟩,bt s 1,bt s 2,two s 3,two s 5,two s 7,⟨#[]⟩,0⟩
def MN(rb mb sz mx ph us s w)(c:s.size<=cP)(L:9<=s.size)(hR:eB w rb mb sz mx ph us):
  Calls prog 243 #[aQ rb,ξ s] w λe b=>(if bt s 0≠81\/mx<two s 7\/two s 3∈us then e=.panicked [{v:=sA 9,recovered:=aa}]else e=aG (UP s).val)/\aK w b:=by
 unfold cP at c;have n0:0<s.size:=Y;have n1:1<s.size:=Y;have n2:2<s.size:=Y;have i0:(0:Int)<s.size:=Y;have i1:(1:Int)<s.size:=Y;have i2:(2:Int)<s.size:=Y;have i3:(3:Int)<=s.size:=Y;have i5:(5:Int)<=s.size:=Y;have i7:(7:Int)<=s.size:=Y;have G:=pV s 0 Y;have H:=pV s 1 Y;have J:=pV s 2 Y;have r0:=nU s 0;have r1:=nU s 1;have r2:=nU s 2;have k1:cJ.wrap (bt s 1)=bt s 1:=by rw[vL];omega
 have k2:cJ.wrap (bt s 2)=bt s 2:=by rw[vL];omega
 have r5:=pF s 5;have r7:=pF s 7
 let⟨g0,z,g2,A⟩:=hR.cell
 have o:=hR.lt;have r:=o.1;have x:=aX hR;clear hR o;go_enter func243,ntmps243
 go_upto_region 1 with fail
 go_cut [5] (λp b=>∃d,p=aQ (w.heap.size+1)/\b=((w.alloc<|au (mF) 129).alloc<|au (xu s) 129).drewN d)
 case first=>
  refine ga (S:=λ_=>True) trivial λm=>?_;apply tl [0,1,2,3,4,5,6,7];apply tl [9,10,12,13];refine aH [8,16]<|.cons U (λK a=>?_) ?_
  ·go_simp;(refine(vA s 3 _ _ c Y U).m ?_;rintro e b ⟨rfl,d,rfl⟩);go_wp2_with fail;refine a _ _ (trivial)<|λV=>?_;clear a K;refine aH [11,16]<|.cons U (λK a=>?_) ?_
   ·go_simp;(refine(vA s 5 _ _ c Y U).m ?_;rintro e b ⟨rfl,d,rfl⟩);go_wp2_with fail;refine a _ _ (trivial)<|λW=>?_;clear a K;refine aH [14,16]<|.cons U (λK a=>?_) ?_;·go_simp;(refine(vA s 7 _ _ c Y U).m ?_;rintro e b ⟨rfl,d,rfl⟩);go_wp2_with fail;refine a _ _ (trivial)<|λX=>?_;clear a K;apply tl [15];refine rH 16 λK a=>?_;go_simp;refine a _ _ (trivial)<|λaf=>?_;clear a K;refine rH 17 λK a=>?_;go_simp;refine a _ _ (trivial)<|λah=>?_;clear a K;refine dJ ?_;(go_wp2_with fail;go_meet;case rel=>exact⟨_,U,U⟩)
    refine .cons U (λK a=>?_) .nil;go_simp;refine a _ _ (trivial)<|λak=>?_;clear a K;refine rH 14 λK a=>?_;go_simp;(refine(vA s 7 _ _ c Y U).m ?_;rintro e b ⟨rfl,d,rfl⟩);go_wp2_with fail;refine a _ _ (trivial)<|λan=>?_;clear a K;apply tl [15];refine rH 17 λK a=>?_;go_simp;refine a _ _ (trivial)<|λaC=>?_;clear a K;refine dJ ?_;(go_wp2_with fail;go_meet;case rel=>exact⟨_,U,U⟩)
   refine .cons U (λK a=>?_) .nil;go_simp;refine a _ _ (trivial)<|λaD=>?_;clear a K;refine rH 11 λK a=>?_;go_simp;(refine(vA s 5 _ _ c Y U).m ?_;rintro e b ⟨rfl,d,rfl⟩);go_wp2_with fail;refine a _ _ (trivial)<|λaE=>?_;clear a K;refine rH 14 λK a=>?_;go_simp;(refine(vA s 7 _ _ c Y U).m ?_;rintro e b ⟨rfl,d,rfl⟩);go_wp2_with fail;refine a _ _ (trivial)<|λaJ=>?_;clear a K;apply tl [15];refine rH 17 λK a=>?_;go_simp;refine a _ _ (trivial)<|λaL=>?_;clear a K;refine dJ ?_;(go_wp2_with fail;go_meet;case rel=>exact⟨_,U,U⟩)
  refine .cons U (λK a=>?_) .nil;go_simp;refine a _ _ (trivial)<|λO=>?_;clear a K;refine rH 8 λK a=>?_;go_simp;(refine(vA s 3 _ _ c Y U).m ?_;rintro e b ⟨rfl,d,rfl⟩);go_wp2_with fail;refine a _ _ (trivial)<|λP=>?_;clear a K;refine rH 11 λK a=>?_;go_simp;(refine(vA s 5 _ _ c Y U).m ?_;rintro e b ⟨rfl,d,rfl⟩);go_wp2_with fail;refine a _ _ (trivial)<|λQ=>?_;clear a K;refine rH 14 λK a=>?_;go_simp;(refine(vA s 7 _ _ c Y U).m ?_;rintro e b ⟨rfl,d,rfl⟩);go_wp2_with fail;refine a _ _ (trivial)<|λR=>?_;clear a K;apply tl [15];refine rH 17 λK a=>?_;go_simp;refine a _ _ (trivial)<|λT=>?_;clear a K;refine dJ ?_;(go_wp2_with fail;go_meet;case rel=>exact⟨_,U,U⟩)
 case rest=>
  obtain⟨d,rfl,rfl⟩:=hcut;have l:aK w ((w.alloc<|au (mF) 129).alloc<|au (xu s) 129):=bq.alloc ay _;have n:uL rb mb (w.heap.size+1) (two s 3) us (((w.alloc<|au (mF) 129).alloc<|au (xu s) 129).drewN d).drew:=uL.mk' (by simp only[World.drew_drewN,World.cell?_drewN];exact(l.cell (p:=F rb 3) r).t A) (by simp[go_sem]) (x.later l).uses (pF s 3);go_upto_region 2 with fail;go_cut [7] (λq b=>∃d,q=ω (decide<|two s 3∈us)/\b=(((w.alloc<|au (mF) 129).alloc<|au (xu s) 129).alloc<|au #[] 164).drewN d);case first=>refine ga (S:=λb=>uL rb mb (w.heap.size+1) (two s 3) us b) n λm=>?_;apply tl [0,1,2,3,4,5,6,7];apply tl [8,9];refine rH 10 λK a=>?_;go_simp;refine a _ _ (uL.keep m)<|λB=>?_;clear a K;refine rH 11 λK a=>?_;go_simp;refine a _ _ (B)<|λN=>?_;clear a K;apply tl [12];refine dJ ?_;(go_wp2_with fail;go_meet;case rel=>exact⟨_,U,U⟩)
  case rest=>
   clear n;obtain⟨d2,rfl,rfl⟩:=hcut;have q0:¬rb=w.heap.size:=Y;have q1:¬rb=w.heap.size+1:=Y;have q2:¬rb=w.heap.size+1+1:=Y;have k:aK w (((w.alloc<|au (mF) 129).alloc<|au (xu s) 129).alloc<|au #[] 164):=l.t ((Below.refl _ _).alloc bV _);have m1:(((w.alloc<|au (mF) 129).alloc<|au (xu s) 129).alloc<|au #[] 164).cell? (F rb 1)=Z (I mx):=(k.cell (p:=F rb 1) r).t z;by_cases g:bt s 0=81
   ·have C:(bt s 0 !=81)=aa:=by simpa using g
    have t:=aX g;clear g;by_cases i:mx<two s 7
    ·have f:Hid (bt s 0≠81\/mx<two s 7\/two s 3∈us):=az (aA i);have D:decide (mx<two s 7)=M:=by simpa using i
     clear i;go_wp2;go_quiet (fail);go_wp2;exact⟨U,by first|rfl|(rw[aO f]),jj k _⟩
    have D:decide (mx<two s 7)=aa:=by simpa using i
    have u:=aX i;clear i;by_cases j:two s 3∈us
    ·have f:Hid (bt s 0≠81\/mx<two s 7\/two s 3∈us):=az (az j);have E:decide (two s 3∈us)=M:=by simpa using j
     clear j;go_wp2;go_quiet (fail);go_wp2;exact⟨U,by first|rfl|(rw[aO f]),jj k _⟩
    have f:Hid (¬(bt s 0≠81\/mx<two s 7\/two s 3∈us)):=by rintro(h|h|h);exact h t;exact u h;exact j h
    have E:decide (two s 3∈us)=aa:=by simpa using j
    clear j;go_wp2;go_quiet (fail);go_wp2;exact iB (v:=(UP s).val) (by simp[results,results243,go_sem]) U ⟨by first|rfl|(rw[aI f]),(jj ((bq.alloc ay _).alloc bV _)<|d2+nq)⟩
   have f:Hid (bt s 0≠81\/mx<two s 7\/two s 3∈us):=aA g;have C:(bt s 0 !=81)=M:=by simpa using g
   clear g;go_wp2;go_quiet (fail);go_wp2;exact⟨U,by first|rfl|(rw[aO f]),jj k _⟩
def yX{B}{e:aY}{k v n xs w w'}(h:w.ownsRow B e k v n xs)(a:aK w w'):w'.ownsRow B e k v n xs:=h.kept (row:=aj) ⟨a.os,a.tape,a.output,a.size,λj b _=>a.block j b⟩ j4
abbrev jk(w:aq)(b:Nat)(m:bh):Prop:=w.cell? (F b 0)=Z (I m.wh)/\w.cell? (F b 1)=Z (ξ m.nm)/\w.cell? (F b 2)=Z (I m.kd)/\w.cell? (F b 3)=Z (I m.fl)/\w.cell? (F b 4)=Z (I m.ck)/\w.cell? (F b 5)=Z (I m.of)/\w.cell? (F b 6)=Z (I m.ln)/\w.cell? (F b 7)=Z (ξ m.dt)/\w.cell? (F b 8)=Z (I m.er)
def jk.cm{w w' row b m}(h:jk w b m)(a:w.grownBy w' row)(c:b<w.heap.size)(d:Z b≠row):jk w' b m:=by let⟨h0,e,f,g,i,j,k,l,n⟩:=h;exact⟨(a.cell_far _ c d).t h0,(a.cell_far _ c d).t e,(a.cell_far _ c d).t f,(a.cell_far _ c d).t g,(a.cell_far _ c d).t i,(a.cell_far _ c d).t j,(a.cell_far _ c d).t k,(a.cell_far _ c d).t l,(a.cell_far _ c d).t n⟩
def jk.later{w w' b m}(h:jk w b m)(a:aK w w')(d:b<w.heap.size):jk w' b m:=h.cm (row:=aj) ⟨a.os,a.tape,a.output,a.size,λj c _=>a.block j c⟩ d ay
abbrev qN(rb b:Nat)(sz:Int)(m:bh)(W:aq):Prop:=W.cell? (F rb 0)=Z (I sz)/\jk W b m/\W.frozen? (F b 8)=aa
def qN.later{rb b sz m W W'}(h:qN rb b sz m W)(a:aK W W'):qN rb b sz m W':=by have c:=qQ h.2.1.1;exact⟨(a.cell<|qQ h.1).t h.1,h.2.1.later a c,(a.frozen c).t h.2.2⟩
def Iu{W:aq}{b}(m)(h:∀j,j<9->(W.cell?<|F b j).isSome=M):jk (W.setCells b 0 m.cells) b m:=by have key:=World.cell?_setCells_in b m.cells 0 W (λj a=>by simpa using h j a);exact⟨key 0 D3,key 1 D3,key 2 D3,key 3 D3,key 4 D3,key 5 D3,key 6 D3,key 7 D3,key 8 D3⟩
def Xt{W b m}(h:jk W b m)(tmps v)(a:tmps.getD 4 y=aQ b)(c:tmps.getD 5 y=v):
  (results f212 tmps).run prog W=.ok (θ #[m.val,v]) W:=by
 let⟨h0,d,e,f,g,i,j,k,l⟩:=h
 simp at a c;simp[results,results212,go_sem,a,c,h0,d,e,f,g,i,j,k,l]
def ahv{w w1:aq}{o}(a:aK (w.alloc o) w1){m:bh}(c:o=au (gy m) 129):∀j,j<9->(w1.cell?<|F w.heap.size j).isSome=M:=λj b=>by
 subst c;rw[a.cell ay];match j,b with
 |0,_|1,_|2,_|3,_|4,_|5,_|6,_|7,_|8,_=>simp[go_sem]
def Gr{B b w W}(h:Below B w W)(a:B<=b)(m:bh):Below B w (W.setCells b 0 m.cells):=Gs h a _ _ _ _ _ _ _ _ _
def agd(rb s w)(a:s.size<9):
  bN 212 #[aQ rb,ξ s] w (θ #[bh.zero.val,I 0]):=by
 go_enter func212,ntmps212;go_wp2;exact iB (by simp[results,results212,go_sem,bh.zero]) U ⟨U,bq⟩
def agf(rb mb sz mx ph us s w)(b:s.size<=cP)(c:9<=s.size)(hR:eB w rb mb sz mx ph us)(hc:bt s 0≠81\/mx<two s 7\/two s 3∈us):
  Calls prog 212 #[aQ rb,ξ s] w λe a=>e=.panicked [{v:=sA 9,recovered:=aa}]/\aK w a:=by
 have g:Hid (∀W,aK w W->Calls prog 243 #[aQ rb,ξ s] W λe a=>e=.panicked [{v:=sA 9,recovered:=aa}]/\aK W a):=λW d=>by exact(MN rb mb sz mx ph us s W b c<|hR.later d).m (λe a h=>by rw[aO hc]at h;exact h)
 unfold cP at b;go_enter func212,ntmps212;go_wp2_with (go_at_call 243;apply(g _<|bq).m;rintro e i ⟨rfl,f⟩);exact⟨U,U,bq.t<|f.m ay⟩
def age(rb mb sz mx ph us s w)(i:s.size<=cP)(k:9<=s.size)(hR:eB w rb mb sz mx ph us)(hc:¬(bt s 0≠81\/mx<two s 7\/two s 3∈us))(p:bt s 1=1)(hl:(s.size:Int)<9+two s 7):
  bN 212 #[aQ rb,ξ s] w (θ #[bh.zero.val,I 0]):=by
 have n:Hid (∀W,aK w W->bN 243 #[aQ rb,ξ s] W (ν<|xu s)):=λW l=>by exact(MN rb mb sz mx ph us s W i k<|hR.later l).m (λe A h=>by rw[aI hc]at h;exact h)
 have z:=pF s 7;have x:(bt s 1==1)=M:=by simpa using p
 unfold cP at i;go_enter func212,ntmps212;go_wp2_with (go_at_call 243;apply(n _<|bq).m;rintro e a ⟨rfl,d⟩;let⟨q,r⟩:=sw d;have j:w.heap.size<a.heap.size:=(by have:=d.size;simp at this;omega);have t:∀(c:Obj) (o:Nat),(a.alloc c).cell? (F w.heap.size o)=a.cell? (F w.heap.size o):=(λc o=>iO (Below.heap_alloc a c _ j));have u:∀(c:Obj) (o:Nat),(a.alloc c).frozen? (F w.heap.size o)=a.frozen? (F w.heap.size o):=(λc o=>World.frozen?_of_block (Below.heap_alloc a c _ j)));have f:=Iu bh.zero (ahv (m:=bh.zero) d U);have g:=qQ f.1
 exact iB (v:=θ #[bh.zero.val,I 0]) (Xt (b:=w.heap.size) (m:=bh.zero) (jk.later (w:=a.setCells w.heap.size 0 bh.zero.cells) f (bq) g) _ _ U U) U
  ⟨U,(Gr (bq.t<|d.m ay) (aR _) bh.zero).alloc (oI g) _⟩
def aga{W:aq}{rb b sz}{m:bh}{d:ByteArray}(h:W.cell? (F rb 0)=Z (I sz))(i:rb≠b)(a:W.heap[b]? =Z (au (kE m.wh m.nm m.kd m.fl m.ck m.of m.ln ⟨#[]⟩ m.er) 129 (0,0))):
  qN rb b sz {m with dt:=d} (W.setCell (F b 7)<|ξ d).drew:=by
 refine⟨(I0 W ⟨b,7,aj⟩ ⟨rb,0,aj⟩ _<|dB i).t h,?_,?_⟩;have f:∀j,j≠7->((W.setCell (F b 7)<|ξ d).drew).cell? (F b j)=W.cell? (F b j):=λj g=>I1 W ⟨b,7,aj⟩ ⟨b,j,aj⟩ _ (λe=>g P2);refine⟨?_,?_,?_,?_,?_,?_,?_,KM W ⟨b,7,aj⟩ _ (by simp[gp,a]),?_⟩<;>(rw[f _ aM];simp[gp,a]);show(W.setCell (F b 7)<|ξ d).frozen? (F b 8)=aa;rw[I4];simp[qG,a]
def qN.err{rb b sz m W}(h:qN rb b sz m W)(e):jk (W.setCell (F b 8)<|I e) b {m with er:=e}:=by let⟨_,⟨h0,c,d,f,g,i,k,l,n⟩,_⟩:=h;have a:∀j,j≠8->(W.setCell (F b 8)<|I e).cell? (F b j)=W.cell? (F b j):=λj o=>I1 W ⟨b,8,aj⟩ ⟨b,j,aj⟩ _ (λe=>o P2);exact⟨(a 0 aM).t h0,(a 1 aM).t c,(a 2 aM).t d,(a 3 aM).t f,(a 4 aM).t g,(a 5 aM).t i,(a 6 aM).t k,(a 7 aM).t l,KM W ⟨b,8,aj⟩ _ (by rw[n];rfl)⟩
def So{W:aq}{b b' j o v}(h:W.heap[b]? =Z o)(a:b≠b'):(W.setCell (F b' j) v).heap[b]? =Z o:=(Below.heap_setCell W ⟨b',j,aj⟩ v b a).t h
def Sn{W b}(h:W.heap[b]? =Z (au (mF) 129 (0,0))):jk W b bh.zero:=by refine⟨?_,?_,?_,?_,?_,?_,?_,?_,?_⟩<;>simp[gp,h,bh.zero]
def LL{W:aq}{b}(h:W.heap[b]? =Z (au (mF) 129 (0,0))):∀j,j<9->(W.cell?<|F b j).isSome=M:=λj a=>by
 match j,a with
 |0,_|1,_|2,_|3,_|4,_|5,_|6,_|7,_|8,_=>simp[gp,h]
def agb{w W:aq}(m:bh)(tmps v)(a:tmps.getD 4 y=aQ w.heap.size)(b:tmps.getD 5 y=v)(d:∀j,j<9->(W.cell?<|F w.heap.size j).isSome=M)(c:aK w W):
  FJ prog f212 (λe f=>e=aG (θ #[m.val,v])/\aK w f) Qf {tmps:=tmps,defers:=[]}
   (((((((((W.setCell (F w.heap.size 0)<|I m.wh).setCell (F w.heap.size 1)<|ξ m.nm).setCell (F w.heap.size 2)<|I m.kd).setCell (F w.heap.size 3)<|I m.fl).setCell (F w.heap.size 4)<|I m.ck).setCell (F w.heap.size 5)<|I m.of).setCell (F w.heap.size 6)<|I m.ln).setCell (F w.heap.size 7)<|ξ m.dt).setCell (F w.heap.size 8)<|I m.er):=
 iB (Xt (Iu m d) tmps v a b) U ⟨U,Gr c (aR _) m⟩
def LK{W W'}{b:Nat}{o}(h:W.heap[b]? =Z o)(a:aK W W'):W'.heap[b]? =Z o:=(a.block b (bf.1 h).1).t h
def Dv{p:Prop}(h:p):Hid p:=h
def Xr(rb mb sz mx ph us s w)(P:s.size<=cP)(h9:9<=s.size)(hR:eB w rb mb sz mx ph us)(hc:¬(bt s 0≠81\/mx<two s 7\/two s 3∈us))(bC:s.size<=281474976710656)(kx d N)(kb:(bt s 1==1)=kx)(hv:kx=M/\s.extract 9 (9+two s 7).toNat=d/\9+two s 7=N/\¬(s.size:Int)<9+two s 7\/kx=aa/\ByteArray.empty=d/\9=N):
  bN 212 #[aQ rb,ξ s] w (θ #[bh.val ⟨3,⟨#[]⟩,bt s 1,bt s 2,two s 3,two s 5,two s 7,d,uT (xB s d 0) sz⟩,I N]):=by
 have L:Hid (∀W,aK w W->bN 243 #[aQ rb,ξ s] W (ν<|xu s)):=λW hW=>by exact(MN rb mb sz mx ph us s W P h9<|hR.later hW).m (λe i h=>by rw[aI hc]at h;exact h)
 have R:=pF s 5;have T:=pF s 7;have i9:(9:Int)<=s.size:=Y;have J:=hR.cell;have bu:=hR.lt.1;have z:=aX J.1;unfold cP at P;clear hR hc J;rcases hv with⟨rfl,x,v,hl⟩|⟨rfl,x,v⟩<;>(have HD:=Dv x;have HN:=Dv v;clear x v)
 all_goals
  go_enter func212,ntmps212
  go_upto_region 10 with(first|(go_at_call 243;refine(L.u _<|bq).m ?_;rintro e a ⟨rfl,n⟩;obtain⟨MM,aH⟩:=sw n;have o:w.heap.size<a.heap.size:=(by have:=n.size;simp at this;omega))|(go_at_call 98;refine(SE _ _ (by simp<;>omega)).m ?_;rintro e r ⟨rfl,l⟩;obtain⟨aE,aJ⟩:=sw l))
  rw[HD.u];have B:=bq.t (n.m ay);have u:=(B.alloc (oI o) _).t (l.m (by simp;exact oI (Kx o)));have oZ:a.heap.size<r.heap.size:=by have:=l.size;simp at this;omega
  have O:=(l.block _ ay).t (heap_alloc_new a _);have f:=(l.block _ bV).t ((Below.heap_alloc _ _ _ o).t<|(n.block _ ay).t<|heap_alloc_new w _);have H:=aga (W:=r) (rb:=rb) (b:=a.heap.size) (m:=⟨3,⟨#[]⟩,bt s 1,bt s 2,two s 3,two s 5,two s 7,⟨#[]⟩,0⟩) (d:=d) (((u.cell (p:=F rb 0) bu).t z.u)) Y O;have A:Hid ((r.setCell (F a.heap.size 7)<|ξ d).heap[w.heap.size]? =Z (au (mF) 129 (0,0))):=So f Y;have t:Hid (aK w<|r.setCell (F a.heap.size 7)<|ξ d):=u.setCell (p:=F a.heap.size 7) (oI o) _;clear MM aH aE aJ n l B u O f;have k:Hid (qN rb a.heap.size sz (xB s d 0) (r.setCell (F a.heap.size 7)<|ξ d).drew):=H;obtain⟨E,⟨aN,aS,aT,aW,bg,bk,bl,bn,bp⟩,G⟩:=H
  go_cut [7] (λq i=>q=I N/\jk i a.heap.size ⟨3,⟨#[]⟩,bt s 1,bt s 2,two s 3,two s 5,two s 7,d,uT (xB s d 0) sz⟩/\aK w i/\i.heap[w.heap.size]? =Z (au (mF) 129 (0,0)))
  case first=>refine ga (S:=λi=>i.cell? (F rb 0)=Z (I sz)/\i.frozen? (F a.heap.size 8)=aa) ⟨E,G⟩ λaC=>?_;apply tl [1,2,3,4];refine rH 0 λK c=>?_;go_simp;refine c.u _ _ (aC)<|λbz=>?_;clear c K;refine rH 5 λK c=>?_;go_simp;(refine(aaO (xB s d 0) sz _ R.1 R.2 T.1 T.2).m ?_;rintro e V ⟨rfl,g⟩;have bD:V.cell? (F a.heap.size 8)=Z (I 0):=(qN.later k.u g).2.1.2.2.2.2.2.2.2.2;have bE:V.frozen? (F a.heap.size 8)=aa:=(qN.later k.u g).2.2);go_wp2_with fail;refine c.u _ _ (⟨(qN.later k.u g).1,(qN.later k.u g).2.2⟩)<|λD=>?_;clear c K;apply tl [6];refine rH 7 λK c=>?_;go_simp;refine c.u _ _ (⟨(I0 _ ⟨a.heap.size,8,aj⟩ ⟨rb,0,aj⟩ _ (by show a.heap.size≠rb;omega)).t D.1,(I4 _ _ _ _).t D.2⟩) (λbA=>?_);clear c K;refine dJ ?_;(go_wp2_with fail;go_meet;case rel=>exact⟨by rw[<-HN.u],(qN.later k.u g).err _,((t.u.drew).t (g.m (by exact t.u.size))).setCell (p:=F a.heap.size 8) (oI o) _,So (LK (by exact A.u) g) Y⟩)
  case rest=>
   clear aN aS aT aW bg bk bl bn bp E G k A t z L;obtain⟨rfl,⟨z0,z1,z2,z3,z4,z5,z6,z7,z8⟩,C,f⟩:=hcut;have Q:∀j,j<9->(wc.cell?<|F w.heap.size j).isSome=M:=λj hj=>LL f j hj;have P9:Hid (∀j,j<9->(wc.cell?<|F w.heap.size j).isSome=M):=Q;obtain⟨p0,p1,p2,p3,p4,p5,p6,p7,p8⟩:=Sn f;have pf:∀j,wc.frozen? (F w.heap.size j)=aa:=λj=>by simp[qG,f]
   have bw:Hid (wc.heap[w.heap.size]? =Z (au (mF) 129 (0,0))):=f;have X:Hid (aK w wc):=C;clear f Q C;go_wp2;exact agb (W:=wc) ⟨3,⟨#[]⟩,bt s 1,bt s 2,two s 3,two s 5,two s 7,d,uT (xB s d 0) sz⟩ _ _ U U P9.u X.u
def YO(s sz d)(a:0<=sz):uT (xB s d 0) sz=verdict sz (bt s 1) (bt s 2) (two s 5) (two s 7):=aaN _ sz (nU s 1).1 (nU s 2).1 a
def agc(rb mb sz mx ph us s w)(k:0<=sz)(j:s.size<=281474976710656)(hR:eB w rb mb sz mx ph us):
  Calls prog 212 #[aQ rb,ξ s] w λe c=>Ends (mH sz mx us s) e/\aK w c:=by
 have i:s.size<=cP:=by unfold cP;omega
 by_cases d:s.size<9
 refine(agd rb s w d).m λe c h=>⟨az ?_,h.2⟩;unfold mH;rw[aO d];exact⟨aM,h.1⟩;have f:9<=s.size:=Y
 by_cases a:bt s 0≠81\/mx<two s 7\/two s 3∈us
 refine(agf rb mb sz mx ph us s w i f hR a).m λe c h=>⟨aA ?_,h.2⟩;unfold mH
 grind
 by_cases b:bt s 1=1
 by_cases g:(s.size:Int)<9+two s 7
 refine(age rb mb sz mx ph us s w i f hR a b g).m λe c h=>⟨az ?_,h.2⟩;unfold mH;rw[aI d,aI a,aO b,aO g];exact⟨aM,h.1⟩;refine(Xr rb mb sz mx ph us s w i f hR a j _ _ _ (by simpa using b)<|aA ⟨U,U,U,g⟩).m λe c h=>⟨az ?_,h.2⟩;unfold mH;rw[aI d,aI a,aO b,aI g];refine⟨show(3:Int)≠4 by decide,?_⟩;rw[h.1,YO s sz _ k];refine(Xr rb mb sz mx ph us s w i f hR a j _ _ _ (by simpa using b)<|az ⟨U,U,U⟩).m λe c h=>⟨az ?_,h.2⟩;unfold mH;rw[aI d,aI a,aI b];refine⟨show(3:Int)≠4 by decide,?_⟩;rw[h.1,YO s sz _ k];rfl
def agC(n w):(Ka (sA n) 20 287 M).run prog w=.ok (θ #[ν #[I n],ω M]) w:=by simp[Ka,Cx underlying287,go_sem,Result.andThen]
def V2(n w):
  bN 209 #[sA n] w (θ #[bh.closing.val,I n]):=by
 have a:=agC n;go_enter func209,ntmps209;go_wp2
 go_region
 all_goals (go_wp2)
 exact iB (by simp[results,results209,go_sem,bh.closing]) U ⟨U,(bq.alloc ay _).drew⟩
def Dq(W:aq)(b j v):W.grownBy (W.setCell (F b j) v) (Z b):=⟨U,U,U,T9,λk _ a=>Below.heap_setCell W ⟨b,j,aj⟩ v k (λe=>a (by rw[e]))⟩
def Tq(p q w):
  CallsD prog 208 #[π<|Z p,π<|Z q] .returning w λe c d=>e=aG (θ #[])/\c=.returning/\d=w:=by
 refine callsD_of_wpS func208 U λa cs b=>?_;apply wpS_seq;apply Le;simp[wpOpsS,go_sem,recoverD,b,ntmps208,JO];apply wpS_seq;apply Le;simp[wpOpsS,go_sem,JO];apply wpS_cond (t:=aa) (by simp[Act.eval,oG]);simp;refine wpS_of_wp<|wp_skip ?_;cases a
 simp_all[bodyPostS,results,results208]
def aai(bm bn n older w)(l:bm≠bn)(hm:w.heap[bm]? =Z (au (mF) 129 (0,0)))(k:w.heap[bn]? =Z (au #[I 0] 3 (0,0))):
  CallsD prog 208 #[aQ bm,aQ bn] (.panicking ({v:=sA n,recovered:=aa}::older)) w λe z g=>e=aG (θ #[])/\z=.panicking ({v:=sA n,recovered:=M}::older)/\jk g bm bh.closing/\g.cell? (F bn 0)=Z (I n)/\∀B,B<=bm->B<=bn->B<=w.heap.size->Below B w g:=by
 refine callsD_of_wpS func208 U λC cs m=>?_;apply wpS_seq;apply Le;simp[wpOpsS,go_sem,recoverD,m,ntmps208,JO];apply wpS_seq;apply Le;simp[wpOpsS,go_sem,JO];apply wpS_cond (t:=M) (by simp[Act.eval,oG]);simp only[dN];apply wpS_of_wp;simp only[vH,vI,vW,jZ,lT,vN,Fq,Fv,Fu];have HM:=aX hm;have q:=aX k;clear hm k m;go_wp2_with (go_at_call 209;apply(V2 n _).m;rintro e a ⟨rfl,f⟩;have c:=LK HM f;have d:=LK q f;let⟨D,p1,E,G,H,J,K,L,N⟩:=Sn c;have O:∀j,a.frozen? (F bm j)=aa:=(λj=>by simp[qG,c]);have x:a.cell? (F bn 0)=Z (I 0):=(by simp[gp,d]);have P:a.frozen? (F bn 0)=aa:=(by simp[qG,d]);have o:=aX c;have A:=aX d;clear c d);have i:=Iu (W:=a) (b:=bm) bh.closing (LL o);refine⟨U,_,U,θ #[],by simp[results,results208],U,U,?_,?_,?_⟩;exact jk.cm (w:=a.setCells bm 0 bh.closing.cells) (row:=Z bn) i (Dq _ _ _ _) (qQ i.1) (by simp;exact l);refine KM (a.setCells bm 0 bh.closing.cells) ⟨bn,0,aj⟩ _ ?_;have e:=I2 bm bh.closing.cells 0 a ⟨bn,0,aj⟩ (λh=>absurd h (dB l));rw[e,x];rfl;intro B r s u;exact(Gr (f.m u) r bh.closing).setCell (p:=F bn 0) s _
def yD(m:bh)(n:Int):Ending:=if m.wh=4 then .panicked [{v:=sA n,recovered:=aa}]else aG (θ #[ν<|gy m,I n])
def aaw(m n):(yD m n=.panicked [{v:=sA n,recovered:=aa}]/\m.wh=4)\/yD m n=aG (θ #[ν<|gy m,I n]):=by unfold yD;split<;>simp_all
def Mh{f args w x aqi}(h:Calls prog f args w λe b=>Ends x e/\aK w b)(e:aqi=x):
  Calls prog f args w λe b=>e=yD aqi.1 aqi.2/\(aqi.1.wh=4->aqi.1=.closing)/\aK w b:=by
 subst e;refine h.m ?_;rintro e b ⟨⟨a,c⟩|⟨a,c⟩,d⟩;exact⟨c.t (aO (by rw[a];rfl)).y,λ_=>a,d⟩;exact⟨c.t (aI a).y,λh=>absurd h a,d⟩
def Ol{W b bn m n}(h:jk W b m)(o:W.cell? (F bn 0)=Z (I n))(tmps)(a:tmps.getD 4 y=aQ b)(c:tmps.getD 5 y=aQ bn):
  (results f169 tmps).run prog W=.ok (θ #[m.val,I n]) W:=by
 let⟨h0,d,e,f,g,i,j,k,l⟩:=h
 simp at a c;simp[results,results169,go_sem,a,c,h0,d,e,f,g,i,j,k,l,o]
abbrev Nx(w:aq):aq:=(w.alloc (au (mF) 129)).alloc (au #[I 0] 3)
def Wt{w w1}(a:aK (Nx w) w1):w1.heap[w.heap.size]? =Z (au (mF) 129 (0,0))/\w1.heap[w.heap.size+1]? =Z (au #[I 0] 3 (0,0))/\aK w w1:=by refine⟨?_,?_,?_⟩;rw[a.block _ bV,Below.heap_alloc _ _ _ ay];exact heap_alloc_new w _;rw[a.block _ ay];have:=heap_alloc_new (w.alloc<|au (mF) 129) (au #[I 0] 3);rwa [zT]at this;exact(bq.alloc ay _).t<|a.m bV
def aek{w w1}{m:bh}{n}(tmps)(c:tmps.getD 4 y=aQ w.heap.size)(d:tmps.getD 5 y=aQ (w.heap.size+1))(j:aK (Nx w) w1):
  bodyPostD prog f169 (λe o=>e=aG (θ #[m.val,I n])/\aK w o) Qf
   {tmps:=tmps,defers:=[{target:=.fn (.func 208) #[aQ w.heap.size,aQ<|w.heap.size+1],args:=#[]}]}
   ((((((((((w1.setCell (F w.heap.size 0)<|I m.wh).setCell (F w.heap.size 1)<|ξ m.nm).setCell (F w.heap.size 2)<|I m.kd).setCell (F w.heap.size 3)<|I m.fl).setCell (F w.heap.size 4)<|I m.ck).setCell (F w.heap.size 5)<|I m.of).setCell (F w.heap.size 6)<|I m.ln).setCell (F w.heap.size 7)<|ξ m.dt).setCell (F w.heap.size 8)<|I m.er).setCell (F (w.heap.size+1) 0)<|I n):=by
 let⟨hm,k,i⟩:=Wt j
 have a:=Iu m (LL hm)
 have l:((w1.setCells w.heap.size 0 m.cells).setCell (F (w.heap.size+1) 0)<|I n).cell? (F (w.heap.size+1) 0)=Z (I n):=by refine KM (w1.setCells w.heap.size 0 m.cells) ⟨w.heap.size+1,0,aj⟩ _ ?_;have e:=I2 w.heap.size m.cells 0 w1 ⟨w.heap.size+1,0,aj⟩ (λh=>absurd h ay);rw[e];simp[gp,k]
 refine QV (f:=208) (args:=#[aQ w.heap.size,aQ<|w.heap.size+1]) ay (by simp[go_sem]) ?_;apply(Tq _ _ _).m;rintro e q r ⟨rfl,rfl,rfl⟩;exact⟨_,Ol (b:=w.heap.size) (bn:=w.heap.size+1) (m:=m) (n:=n) (jk.cm (row:=Z<|w.heap.size+1) a (Dq _ _ _ _) (qQ a.1) ay) l _ c d,U,(Gr i (aR _) m).setCell (p:=F (w.heap.size+1) 0) (kJ _) _⟩
def aej{w w1}{m:bh}{n}(k:m=.closing)(tmps)(c:tmps.getD 4 y=aQ w.heap.size)(d:tmps.getD 5 y=aQ (w.heap.size+1))(i:aK (Nx w) w1):
  bodyPostD prog f169 (λe o=>e=aG (θ #[m.val,I n])/\aK w o) (Exit.panic [{v:=sA n,recovered:=aa}])
   {tmps:=tmps,defers:=[{target:=.fn (.func 208) #[aQ w.heap.size,aQ<|w.heap.size+1],args:=#[]}]} w1:=by
 subst k
 let⟨hm,l,a⟩:=Wt i
 refine QV (f:=208) (args:=#[aQ w.heap.size,aQ<|w.heap.size+1]) ay (by simp[go_sem]) ?_;apply(aai w.heap.size (w.heap.size+1) n [] w1 Y hm l).m;rintro e p q ⟨rfl,rfl,g,j,h⟩;exact⟨_,Ol (b:=w.heap.size) (bn:=w.heap.size+1) (m:=bh.closing) (n:=n) g j _ c d,U,a.t<|h _ (aR _) (kJ _) a.size⟩
def aei(rb mb sz a ph us s w)(x:0<=sz)(v:s.size<=281474976710656)(hR:eB w rb mb sz a ph us):
  bN 169 #[aQ rb,ξ s] w (θ #[(first sz a ph us s).1.val,I (first sz a ph us s).2]):=by
 have o:s.size<=cP:=by unfold cP;omega
 have D:=hR.cell.2.2.1;have J:∀(q:Fn) (first cap:aF aB) (w:aq),(Qn q first cap).run prog w=.ok (.func q first cap) w:=λ_ _ _ _=>U;have h:Hid (∀W,aK w W->ph=0->Calls prog 210 #[ξ s] W λe d=>e=yD (first sz a ph us s).1 (first sz a ph us s).2/\((first sz a ph us s).1.wh=4->(first sz a ph us s).1=.closing)/\aK W d):=λW k e=>Mh (ach s W o) acy;have i:Hid (∀W,aK w W->ph=1->Calls prog 211 #[ξ s] W λe d=>e=yD (first sz a ph us s).1 (first sz a ph us s).2/\((first sz a ph us s).1.wh=4->(first sz a ph us s).1=.closing)/\aK W d):=λW k e=>Mh (aeL s W o) acy;have j:Hid (∀W,aK w W->ph=2->Calls prog 212 #[aQ rb,ξ s] W λe d=>e=yD (first sz a ph us s).1 (first sz a ph us s).2/\((first sz a ph us s).1.wh=4->(first sz a ph us s).1=.closing)/\aK W d):=λW k e=>Mh (agc rb mb sz a ph us s W x v<|hR.later k) acy;have p:ph≠0->ph≠1->ph≠2->first sz a ph us s=(.zero,0):=λh0 B C=>by unfold first;simp[h0,B,C]
 have K:=qQ D;have L:¬rb=w.heap.size:=Y;have N:¬rb=w.heap.size+1:=Y;have g:Hid (aK w<|(w.alloc<|au (mF) 129).alloc<|au #[I 0] 3):=bq.alloc ay _;generalize first sz a ph us s=A at*
 obtain⟨m,n⟩:=A;dsimp only at*;clear hR x v o
 by_cases r:ph=0\/ph=1\/ph=2
 ·clear p;rcases aaw m n with⟨hE,E⟩|hE<;>rw[hE]at h i j<;>clear hE;all_goals
   rcases r with rfl|rfl|rfl
   all_goals
    go_enter_defers func169,ntmps169
    go_wp2_with (first
     |(go_at_call 210;refine(h.u _ g.u ay).m ?_;rintro e z ⟨rfl,l,c⟩;obtain⟨t,u⟩:=sw c)|(go_at_call 211;refine(i.u _ g.u ay).m ?_;rintro e z ⟨rfl,l,c⟩;obtain⟨t,u⟩:=sw c)|(go_at_call 212;refine(j.u _ g.u ay).m ?_;rintro e z ⟨rfl,l,c⟩;obtain⟨t,u⟩:=sw c))
    first
    |exact aek _ rfl rfl c
    |exact aej (l E) _ rfl rfl c
 have G:(ph==0)=aa:=bV;have b1:(ph==1)=aa:=bV;have H:(ph==2)=aa:=bV;cases p Y Y Y;clear r h i j
 go_enter_defers func169,ntmps169
 go_wp2;refine QV (f:=208) (args:=#[aQ w.heap.size,aQ<|w.heap.size+1]) ay (by simp[go_sem]) ?_;refine(Tq _ _ _).m ?_;rintro e O P ⟨rfl,rfl,rfl⟩;exact⟨_,Ol (b:=w.heap.size) (bn:=w.heap.size+1) (m:=bh.zero) (n:=0) (by simp[jk,go_sem,bh.zero]) (by simp[go_sem]) _ U U,U,g.u⟩
def yu(w w':aq)(rb mb:Nat):Prop:=∃row,w.grownBy w' row/\∀r,row=Z r->r=rb\/r=mb
def ZA{w mb us}(h:Uses w mb us)(ck)(d:0<=ck/\ck<=65535)(hl:us.length<cP):
  ∃a,(Instr.mapUpdate 209 (.map<|Z mb) (I ck)<|.agg #[]).run prog w=.ok () a/\Uses a mb (us++[ck])/\w.grownBy a (Z mb):=by
 let⟨a,c,e,b⟩:=h.update (Fz underlying3) underlying209 hl (kl:=.int .i64 ck) (QC underlying3 A1) unitElem_mk
 refine⟨a,c,?_,b⟩;unfold Uses
 rwa [sV,fQ,nC,xR,E0]
def eB.phase{w rb mb sz mx ph us}(h:eB w rb mb sz mx ph us)(p):eB (w.setCell (F rb 2)<|I p) rb mb sz mx p us:=by
 have b:mb≠rb:=λe=>by let⟨d,c,a,_⟩:=h.uses;rw[e,h.box]at a;cases a
 refine⟨?_,h.uses.setCell b _⟩;have f:=h.lt.1;have a:=(bf.1 h.box).2;simp only[iQ,Bz];simp[h.box]
def eB.frozen{w rb mb sz mx ph us}(h:eB w rb mb sz mx ph us):w.frozen? (F rb 2)=aa:=by simp[qG,h.box]
def eB.drew{w rb mb sz mx ph us}(h:eB w rb mb sz mx ph us):eB w.drew rb mb sz mx ph us:=⟨h.box,h.uses⟩
def Mu{R a w}(hd:a.defers=[])(h:R (aG<|θ #[]) w):FJ prog f213 R Qe a w:=⟨hd,θ #[],by simp[results,results213],h⟩
def abm(rb mb sz mx ph us)(m:bh)(w)(hR:eB w rb mb sz mx ph us)(v:0<=m.ck/\m.ck<=65535)(hl:us.length<cP):
  Calls prog 213 #[aQ rb,m.val] w λe g=>e=aG (θ #[])/\eB g rb mb sz mx (if m.er=0/\m.kd=5 then 3 else ph) (if m.er=0/\m.kd≠5 then us++[m.ck]else us)/\yu w g rb mb:=by
 let⟨D,C,kd,s,a,of,ln,q,j⟩:=m
 dsimp only at v⊢
 let⟨g0,T,g2,V⟩:=hR.cell
 have af:=hR.lt.1;have q0:¬rb=w.heap.size:=Y;have f2:=hR.frozen;have i:=aX hR;clear hR;generalize d:(if j=0/\kd=5 then 3 else ph)=P;generalize l:(if j=0/\kd≠5 then us++[a]else us)=p
 by_cases f:j=0
 ·subst f;by_cases o:kd=5
  ·subst o;obtain rfl:3=P:=Y;obtain rfl:us=p:=by grind
   clear d l;go_enter func213,ntmps213;go_wp2;refine Mu U ⟨U,?_,Z rb,(Dq w rb 2 _).t<|pN _ _<|Z rb,λr e=>aA P2⟩;exact(i.phase 3).kept (pN _ _ aj) ay ay
  obtain rfl:ph=P:=by simpa[o]using d
  obtain rfl:us++[a]=p:=j4;clear d l;have kb:(kd==5)=aa:=j4;have c:eB ((w.alloc<|au (kE D C kd s a of ln q 0) 129).drew) rb mb sz mx ph us:=(i.kept (pN _ _ aj) ay ay).drew;let⟨h,ah,B,n⟩:=ZA c.uses a v hl;have A:Z rb≠Z mb:=λe=>by let⟨R,O,u,_⟩:=c.uses;cases e;rw[c.box]at u;cases u
  have x:eB h rb mb sz mx ph (us++[a]):=⟨(n.block _ c.lt.1 A).t c.box,B⟩;have L:yu w h rb mb:=⟨Z mb,World.grownBy.t (b:=(w.alloc<|au (kE D C kd s a of ln q 0) 129).drew) ⟨U,U,U,ay,λk H _=>Below.heap_alloc _ _ _ H⟩ n,λr e=>az P2⟩;have G:=c.cell.2.2.2;have J:=i.lt.2;have z:h.cell? (F w.heap.size 4)=Z (I a):=(iO (n.block _ ay (λe=>absurd J (by cases e;exact uD _)))).t (by simp[go_sem]);have E:Hid (h.cell? (F rb 3)=Z (.map<|Z mb)/\h.cell? (F w.heap.size 4)=Z (I a)):=⟨x.cell.2.2.2,z⟩;clear z;have N:=aX o;clear o c B n A;go_enter func213,ntmps213;go_upto_region 1 with fail;refine ga (S:=λg=>g.cell? (F rb 3)=Z (.map<|Z mb)/\g.cell? (F w.heap.size 4)=Z (I a)) ⟨G,by simp[go_sem]⟩ λX=>?_;apply tl [0,1,2,3,4,5,6];refine rH 7 λK t=>?_;go_simp;refine t _ _ (E)<|λW=>?_;clear t K;refine dJ ?_;(go_wp2_with fail;exact Mu U ⟨U,x,L⟩)
 obtain rfl:ph=P:=by simpa[f]using d
 obtain rfl:us=p:=by simpa[f]using l
 have Q:(j !=0)=M:=by simpa using f
 clear f d l;go_enter func213,ntmps213;go_wp2;refine Mu U ⟨U,?_,aj,pN _ _ aj,λr e=>by cases e⟩;exact i.kept (pN _ _ aj) ay ay
def Mn{R a w}(hd:a.defers=[])(h:R (aG<|θ #[]) w):FJ prog f170 R Qe a w:=⟨hd,θ #[],by simp[results,results170],h⟩
abbrev EB(us:av Int)(m:bh):av Int:=if accepted m then us++[m.ck]else us
def abn(rb mb sz mx ph us m w)(hR:eB w rb mb sz mx ph us)(x:0<=m.ck/\m.ck<=65535)(hl:us.length<cP):
  Calls prog 170 #[aQ rb,m.val] w λe i=>e=aG (θ #[])/\eB i rb mb sz mx (after ph m) (EB us m)/\yu w i rb mb:=by
 obtain⟨a,b,kd,g,d,of,ln,f,c⟩:=m;dsimp only at x;obtain⟨g0,K,g2,L⟩:=hR.cell;have N:=hR.lt.1;have O:¬rb=w.heap.size:=Y;have f2:=hR.frozen;have s:=aX hR;generalize n:after ph ⟨a,b,kd,g,d,of,ln,f,c⟩=P;generalize o:EB us ⟨a,b,kd,g,d,of,ln,f,c⟩=h;have q:=aX n;have t:=aX o
 have stay:Hid (P=ph->h=us->eB (w.alloc<|au (kE a b kd g d of ln f c) 129) rb mb sz mx P h/\yu w (w.alloc<|au (kE a b kd g d of ln f c) 129) rb mb):=λj k=>by rw[j,k];exact⟨s.u.kept (pN _ _ aj) ay ay,aj,pN _ _ aj,λr e=>by cases e⟩
 have move:Hid (∀p,P=p->h=us->eB ((w.setCell (F rb 2)<|I p).alloc<|au (kE a b kd g d of ln f c) 129) rb mb sz mx P h/\yu w ((w.setCell (F rb 2)<|I p).alloc<|au (kE a b kd g d of ln f c) 129) rb mb):=λp j k=>by rw[j,k];exact⟨(s.u.phase p).kept (pN _ _ aj) ay ay,Z rb,(Dq w rb 2 _).t<|pN _ _<|Z rb,λr e=>aA P2⟩
 by_cases l:a=3
 ·subst l;have B:Hid (Calls prog 213 #[aQ rb,ν<|kE 3 b kd g d of ln f c] (w.alloc<|au (kE 3 b kd g d of ln f c) 129) λe i=>e=aG (θ #[])/\eB i rb mb sz mx P h/\yu w i rb mb):=by
   refine(abm rb mb sz mx ph us ⟨3,b,kd,g,d,of,ln,f,c⟩ _ (s.u.kept (pN _ _ aj) ay ay) x hl).m ?_;rintro e i ⟨z,hr,row,A,D⟩;have j:(if c=0/\kd=5 then 3 else ph)=P:=by rw[<-q.u];simp[after,and_comm]
   have k:(if c=0/\kd≠5 then us++[d]else us)=h:=by rw[<-t.u];simp[EB,accepted]
   dsimp only at hr;rw[j,k]at hr;exact⟨z,hr,row,(pN _ _ row).t A,D⟩
  go_enter func170,ntmps170;go_wp2_with (go_at_call 213;refine B.u.m ?_;rintro e Q ⟨rfl,C,E⟩);exact Mn U ⟨U,C,E⟩
 have J:(a==3)=aa:=by simpa using l
 have o:Hid (h=us):=by show h=us;rw[<-t.u];simp[EB,accepted,l]
 have n:Hid (P=bif a==1&&b.toList==[97]then 1 else bif a==2&&b.toList==[103]then 2 else bif a==4 then 4 else ph):=by show P=_;rw[<-q.u];simp[after,l,cond_eq_ite]
 clear l q t;cases b1:(a==1)<;>cases G:b.toList==[97]<;>cases u:(a==2)<;>cases H:b.toList==[103]<;>cases v:(a==4)
 all_goals first
  |(exfalso;simp at b1 u v;omega)
  |(rw[b1,G,u,H,v]at n
    go_enter func170,ntmps170;go_wp2_with fail
    first
    |exact Mn rfl ⟨rfl,stay.u n.u o.u⟩
    |exact Mn rfl ⟨rfl,move.u _ n.u o.u⟩)
def Ws(sz cl qu mx qn rt bu wk ou ph w):
  Calls prog 95 #[ν<|iV sz cl qu mx qn rt bu wk ou,I ph] w λe a=>e=aG (aQ<|w.heap.size+2)/\
   a=((w.alloc<|au (iV sz cl qu mx qn rt bu wk ou) 28).alloc<|.map #[] 0).alloc (au #[I sz,I mx,I ph,.map<|Z<|w.heap.size+1] 211):=by
 have b:=@run_makeMap prog;go_enter func95,ntmps95;go_wp2;go_ret;exact⟨U,U⟩
def adG(rb s w):
  Calls prog 120 #[aQ rb,ξ s] w λe b=>e=aG (.func (.func 168) #[] #[aQ w.heap.size,aQ<|w.heap.size+1])/\
   b=(w.alloc<|au #[aQ rb] 157).alloc (au #[ξ s] 9):=by
 have c:∀(a:Fn) (first cap:aF aB) (w:aq),(Qn a first cap).run prog w=.ok (.func a first cap) w:=λ_ _ _ _=>U;go_enter func120,ntmps120;go_wp2;go_ret;exact⟨U,U⟩
structure kN(W:aq)(rb mb a sb:Nat)(sz mx:Int)(s:ByteArray)(st:St):Prop where
 rd:eB W rb mb sz mx st.ph st.used
 cp:W.heap[a]? =Z (au #[aQ rb] 157 (0,0))
 tx:W.heap[sb]? =Z (au #[ξ (s.extract st.pos s.size)] 9 (0,0))
 apart:rb≠sb/\mb≠sb/\a≠sb/\a≠rb/\a≠mb
abbrev ib(rb mb a:Nat)(r:Nat):Prop:=r=rb\/r=mb\/r=a
def eS(rb mb a b:Nat)(A B:aq):Prop:=B.heap[rb]? =A.heap[rb]? /\B.heap[mb]? =A.heap[mb]? /\B.heap[a]? =A.heap[a]? /\B.heap[b]? =A.heap[b]?
def Uses.block{w w' mb us}(h:Uses w mb us)(c:w'.heap[mb]? =w.heap[mb]?):Uses w' mb us:=by let⟨b,a,d,r⟩:=h;exact⟨b,a,c.t d,r⟩
def kN.kept{A B rb mb cb sb sz mx s st}(h:kN A rb mb cb sb sz mx s st)(k:eS rb mb cb sb A B):kN B rb mb cb sb sz mx s st:=⟨⟨k.1.t h.rd.box,h.rd.uses.block k.2.1⟩,k.2.2.1.t h.cp,k.2.2.2.t h.tx,h.apart⟩
def kN.later{A B rb mb cb sb sz mx s st}(h:kN A rb mb cb sb sz mx s st)(a:A.grownBy B aj):kN B rb mb cb sb sz mx s st:=h.kept ⟨a.block _ h.rd.lt.1 ay,a.block _ h.rd.lt.2 ay,a.block _ (bf.1 h.cp).1 ay,a.block _ (bf.1 h.tx).1 ay⟩
def kN.step{A B rb mb cb sb sz mx s st m n}(h:kN A rb mb cb sb sz mx s st)(hr:eB B rb mb sz mx (after st.ph m) (EB st.used m))(i:yu A B rb mb):
  kN (B.setCell (F sb 0)<|ξ<|s.extract (st.pos+n.toNat) s.size) rb mb cb sb sz mx s (st.step (m,n)):=by
 let⟨row,b,c⟩:=i
 let⟨a1,a,a3,d,f⟩:=h.apart
 refine⟨⟨?_,Uses.block hr.uses (Below.heap_setCell _ _ _ _ (by exact a))⟩,?_,?_,h.apart⟩;rw[Below.heap_setCell _ _ _ _ (by exact a1)];exact hr.box;rw[Below.heap_setCell _ _ _ _ (by exact a3)];exact (b.block cb (bf.1 h.cp).1 (λe=>(c _ e.y).e d f)).t h.cp;simp only[iQ,Bz,(b.block sb (bf.1 h.tx).1 (λe=>(c _ e.y).e (λe=>a1 e.y) (λe=>a e.y))).t h.tx];simp[St.step]
def TY(sz mx ph us s):0<=(first sz mx ph us s).1.ck/\(first sz mx ph us s).1.ck<=65535:=by
 have g:∀f i,(cL s f i).1.ck=0:=λf=>by
  induction f with
  |zero=>intro i;unfold cL;split<;>rfl
  |succ f a=>intro i;unfold cL;split;rfl;split;exact a _;rfl
 unfold first
 split;rw[qb,g];simp;split
 ·unfold opt;repeat' split
  all_goals simp[bh.zero,bh.closing]
 split
 ·unfold mH;repeat' split
  all_goals (first|exact(pF s 3)|simp[bh.zero,bh.closing])
 simp[bh.zero]
def agE(st:St)(xs:av (bh×Int)):(st.run xs).used.length<=st.used.length+xs.length:=by
 induction xs generalizing st with
 |nil=>simp[St.run]
 |cons x xs a=>
  have:=a (st.step x);have e:(st.step x).used.length<=st.used.length+1:=by simp only[St.step];split<;>simp
  simp only[St.run,uy,gH]at this⊢;omega
section
attribute [local go_sem] Oper.semAt_some
open Go.RowKit Go.Shelf
abbrev Nu(x:bh×Int):aF aB:=#[ν (kE x.1.wh x.1.nm x.1.kd x.1.fl x.1.ck x.1.of x.1.ln x.1.dt x.1.er),I x.2]
def Hu(W:aq)(a:Nat):Nat:=match W.cell? (F a 0)with|some (ξ t)=>t.size|_=>0
def VK{W rb mb cb sb sz mx s st}(h:kN W rb mb cb sb sz mx s st):Hu W sb=s.size-st.pos:=by simp[Hu,gp,h.tx,oH]
def acN(n)(hn:1<=n)(rb mb cb sb sz c s)(st:St)(W)(hz:0<=sz)(bW:s.size<=281474976710656)(hu:st.used.length<=281474976710656)(hp:st.pos<=s.size)(h0:kN W rb mb cb sb sz c s st):
  Iter ig n prog 168 #[aQ cb,aQ sb] Nu (ib rb mb sb) (eS rb mb cb sb) (mR sz c s st)
   (λk i=>mR sz c s st k/\((st.run k).next sz c s).2=0/\kN i rb mb cb sb sz c s (st.run k))
   (λpre i=>mR sz c s st pre/\kN i rb mb cb sb sz c s (st.run pre)) W:=by
 intro l J Jx L bQ hY bw;refine callsIn_of_wp func168 U trivial ?_ U;simp only[ntmps168,nE,gH,nB,rS,FB,vH,vI,vW,vN,jZ,lT]
 gi_wp2
 gi_loopw [5] (λ_ wr=>∃pre,Hid<|mR sz c s st pre/\kN wr rb mb cb sb sz c s (st.run pre)/\J pre wr) (λ_ wr=>Hu wr sb)
 case atStart=>exact⟨[],trivial,h0,bw⟩
 case round=>
  let⟨pre,hH⟩:=hrel;let⟨H,f,O⟩:=hH;clear hH;have V:=OA sz c s st pre hp H;have ah:=agE st pre;generalize v:st.run pre=d at f V ah;obtain⟨⟨m,a⟩,u⟩:∃x,d.next sz c s=x:=⟨_,U⟩;have C:=Wu sz c s d;rw[u]at C;have N:=TY sz c d.ph d.used (s.extract d.pos s.size);have P:first sz c d.ph d.used (s.extract d.pos s.size)=(m,a):=u
  rw[P]at N;obtain⟨t,j⟩:∃t,t=s.extract d.pos s.size:=⟨_,U⟩;have af:t.size=s.size-d.pos:=by rw[j];simp[oH]
  have c1:wr.cell? (F cb 0)=Z (aQ rb):=by simp[gp,f.cp]
  have c2:wr.cell? (F sb 0)=Z (ξ t):=by simp[gp,f.tx,j]
  have hN:Hid (bN 169 #[aQ rb,ξ t] wr<|θ #[ν<|gy m,I a]):=by have:=aei rb mb sz c d.ph d.used t wr hz Y f.rd;rw[j,P]at this;rwa [j]
  by_cases T:a=0
  ·subst T;have HD:Hid (∀b,aK wr b->(∃k,(mR sz c s st k/\((st.run k).next sz c s).2=0/\kN (b.alloc<|au (gy m) 129) rb mb cb sb sz c s (st.run k))/\J k (b.alloc<|au (gy m) 129))):=λb z=>by have B:wr.grownBy (b.alloc<|au (gy m) 129) aj:=(MG z).t (pN _ _ aj);exact⟨pre,⟨H,by rw[v,u],by rw[v];exact f.later B⟩,L _ _ _ aj O B (λr e=>by cases e)⟩
   clear H f O u P N C V ah v af j;gi_wp2_with (first|(refine⟨trivial,?_⟩;gi_at_call 169;apply(callsIn_wide.2 hN).m;rintro e b ⟨rfl,A⟩));apply iB (zX U _ _ _) U;exact⟨⟨_,U⟩,aA<|HD b A⟩
  have bR:(a==0)=aa:=by simpa using T
  have hv:mR sz c s st (pre++[(m,a)]):=(XE sz c s st pre (m,a)).2 ⟨H,by rw[v,u],T⟩;have bV:a<=(t.size:Int):=by rw[af];exact C.2
  have bT:0<=a:=C.1;have bk:d.used.length<cP:=by unfold cP;omega
  have aW:st.run (pre++[(m,a)])=d.step (m,a):=by rw[St.Oz,v]
  have HF:Hid (∀b,aK wr b->Calls prog 170 #[aQ rb,ν<|gy m] (b.alloc<|au (gy m) 129) λe g=>e=aG (θ #[])/\(g.cell? (F sb 0)=Z (ξ t)/\g.frozen? (F sb 0)=aa/\jk g b.heap.size m/\sb<b.heap.size/\
    kN (g.setCell (F sb 0)<|ξ<|t.extract a.toNat t.size) rb mb cb sb sz c s (d.step (m,a))/\J pre (g.setCell (F sb 0)<|ξ<|t.extract a.toNat t.size))):=λb z=>by
   have B:wr.grownBy (b.alloc<|au (gy m) 129) aj:=(MG z).t (pN _ _ aj);have D:=f.later B;have bG:sb<wr.heap.size:=(bf.1 f.tx).1;have aT:sb<b.heap.size:=cS bG z.size;apply(abn rb mb sz c d.ph d.used m (b.alloc<|au (gy m) 129) D.rd N bk).m;rintro e g ⟨he,bE,bg⟩
   let⟨row,S,X⟩:=bg
   have aL:=f.apart;have bh:g.heap[sb]? =_:=(S.block sb (bf.1 D.tx).1 (λe=>(X _ e.y).e (λe=>aL.1 e.y) (λe=>aL.2.1 e.y))).t D.tx
   have hcut:t.extract a.toNat t.size=s.extract (d.pos+a.toNat) s.size:=by rw[j];exact(by
      apply rG;simp[rE,oH]
      congr 1;omega)
   rw[hcut]
   have bC:jk g b.heap.size m:=jk.cm (w:=b.alloc<|au (gy m) 129) (row:=row) (by simp[jk,go_sem]) S ay (λe=>by have:=D.rd.lt;have h1:=f.rd.lt;have:=z.size;rcases X _ e.y with e|e<;>omega)
   exact⟨he,by simp[gp,bh,j],by simp[qG,bh],bC,aT,(D.step (n:=a) bE bg),
    L _ _ _ (Z sb) (L _ _ _ row (L _ _ _ aj O B (λr e=>by cases e)) S<|λr e=>(X r e).e aA (λh=>az (aA h))) (Dq _ _ _ _)<|λr e=>az (az P2)⟩
  have HY:Hid (∀q,J pre q->YieldAt ig (n-1) prog l (Nu (m,a)) q λe i=>(e=aG (ω M)/\J (pre++[(m,a)]) i/\eS rb mb cb sb q i)\/(e=aG (ω aa)/\Jx (pre++[(m,a)]) i/\eS rb mb cb sb q i)):=λq bB=>hY pre (m,a) q bB hv;have p:Hid (mR sz c s st (pre++[(m,a)])/\st.run (pre++[(m,a)])=d.step (m,a)/\Hu wr sb=s.size-d.pos/\d.pos+a.toNat<=s.size):=⟨hv,aW,VK f,Y⟩;clear H f O u P N V ah v j hv aW bk C af;gi_wp2_with (first|(refine⟨trivial,?_⟩;gi_at_call 169;apply(callsIn_wide.2 hN).m;rintro e b ⟨rfl,A⟩;have an:=aX A;let⟨MM,bS⟩:=sw A;clear A;have bu:b.cell? (F cb 0)=Z (aQ rb):=(an.cell<|qQ c1).t c1;have hx:∀(ob:Obj) (o:Nat),(b.alloc ob).cell? (F cb o)=b.cell? (F cb o):=(λob o=>iO (Below.heap_alloc b ob _<|qQ bu)))|(refine⟨trivial,?_⟩;gi_at_call 170;apply(callsIn_wide.2<|HF b an).m;rintro e g ⟨rfl,d2,df,⟨m0,m1,m2,m3,m4,m5,m6,m7,m8⟩,aT,aN,aS⟩;have cv:¬sb=b.heap.size:=Y;let⟨fn,cw,assign,body,hy,R⟩:=HY _ aS;have aC:=aX aN;clear aN aS));apply R.m;rintro e W3 (⟨rfl,UG,G⟩|⟨rfl,UH,G⟩)
  ·have E:=aC.kept G;have K:=aX E;have Q:=aX UG;clear E UG G R hy;gi_wp2;go_roundw;case rel=>exact⟨pre++[(m,a)],p.1,by rw[p.2.1];exact K,Q⟩
   case measure=>rw[p.2.2.1,VK K];have:=p.2.2.2;have h1:(d.step (m,a)).pos=d.pos+a.toNat:=U;rw[h1];omega
  have E:=aC.kept G;have K:=aX E;have Q:=aX UH;clear E UH G R hy;gi_wp2;apply iB (zX U _ _ _) U;exact⟨⟨_,U⟩,az ⟨pre++[(m,a)],⟨p.1,by rw[p.2.1];exact K⟩,Q⟩⟩
end
open Go.Conc
structure aS(X:Nat->Prop)(w w':aq):Prop where
 os:w'.os=w.os
 size:w.heap.size<=w'.heap.size
 block:∀k,k<w.heap.size->¬X k->w'.heap[k]? =w.heap[k]?
def aS.refl(X w):aS X w w:=⟨U,aR _,λ_ _ _=>U⟩
def aS.trans{X a b c}(h:aS X a b)(k:aS X b c):aS X a c:=⟨k.os.t h.os,cM h.size k.size,λi d e=>(k.block i (cS d h.size) e).t (h.block i d e)⟩
abbrev aS.t:=@aS.trans
def aS.mono{X aqg a b}(h:aS X a b)(e:∀k,k<a.heap.size->X k->aqg k):aS aqg a b:=⟨h.os,h.size,λi c f=>h.block i c λd=>f (e i c d)⟩
abbrev aS.m:=@aS.mono
def aS.below{X w w'}(h:aK w w'):aS X w w':=⟨h.os,h.size,λk a _=>h.block k a⟩
def aS.set{X a w}(h:aS X a w){p}(d:X p.block)(v):aS X a (w.setCell p v):=⟨h.os,by simpa using h.size,λk c b=>(Below.heap_setCell w p v k<|λe=>b (e▸d)).t (h.block k c b)⟩
abbrev Lm(w:aq)(c:Nat)(no wt sz cl f b e rt a g d:Int)(rb:Nat)(s:ByteArray)(out:aB)(tok de:Int)(ch:Nat):Prop:=w.heap[c]? =Z (au (clL no wt sz cl f b e rt a g d rb s out tok de ch) 162 (0,0))
def aD{w:aq}{b T:Nat}{x:aF aB}(h:w.heap[b]? =Z (au x T (0,0))){i:Nat}{v:aB}(hv:x[i]? =Z v):w.cell? (F b i)=Z v:=by simp[gp,h,hv]
def bp{w:aq}{b T:Nat}{x:aF aB}(h:w.heap[b]? =Z (au x T (0,0)))(i):w.frozen? (F b i)=aa:=by simp[qG,h]
def bG{w:aq}{b T:Nat}{x:aF aB}(h:w.heap[b]? =Z (au x T (0,0)))(i v):(w.setCell (F b i) v).heap[b]? =Z (au (x.setIfInBounds i v) T (0,0)):=by simp[iQ,Bz,h]
def oT{w:aq}{b k o}(h:w.heap[k]? =o)(a:k≠b)(i v):(w.setCell (F b i) v).heap[k]? =o:=(Below.heap_setCell w ⟨b,i,aj⟩ v k a).t h
def fC{P fn R a w}(hr:fn.results=#[])(hd:a.defers=[])(h:R (aG<|θ #[]) w):FJ P fn R Qe a w:=⟨hd,θ #[],L4,h⟩
def aJ(w:aq)(b i:Nat)(v:aB){T:Nat}{x:aF aB}(h:w.heap[b]? =Z (au x T (0,0)))(hv:x[i]? =Z v:=by rfl):w.cell? ⟨b,i,aj⟩=Z v:=aD h hv
def Xm{P o a w w' K Q aqi sl x}{t u:aY}{v v' s}(d:cY o aqi=M)(b:o.op=.call {callee:=.builtin .append,args:=#[sl,x],argTypes:=#[t,u]}) (c:a.eval sl=v) (e:a.eval x=ξ s) (hr:(rD #[t,u] o.type #[v,ξ s]).run P w=.ok v' w') (h:K (a.put o.dst v') w'):
  if cY o aqi=M then tr P o a w K Q else K (a.put o.dst y) w:=by
 rw[aO d];unfold tr execOp;simp only[b,resolve,invoke,builtin,Cn,KH,FG,sW,nC,xR,c,e,hr];exact h
def gP{w:aq}{B e k n:Nat}{v:aB}{xs:av aB}(h:w.ownsRow B e k v n xs):∃c cap,v=ζ c n cap:=by rcases h.2 with⟨a,b⟩|⟨g,cap,d,a,_⟩;exact⟨aj,0,by rw[a,b]⟩;exact⟨_,cap,a⟩
abbrev uM(w:aq)(b:Nat)(m:bh):Prop:=w.heap[b]? =Z (au (gy m) 129 (0,0))
abbrev uN(w:aq)(out:aB)(o:ByteArray):Prop:=w.ownsRow 0 5 1 out o.size (jX o)
abbrev HeS(c b:Nat)(sz cl g d f rt a h e:Int)(m:bh)(W:aq):Prop:=
 (W.cell? (F c 2)=Z (I sz)/\W.cell? (F c 3)=Z (I cl)/\W.cell? (F c 4)=Z (I g)/\W.cell? (F c 5)=Z (I d)/\W.cell? (F c 6)=Z (I f)/\W.cell? (F c 7)=Z (I rt)/\W.cell? (F c 8)=Z (I a)/\W.cell? (F c 9)=Z (I h)/\W.cell? (F c 10)=Z (I e))/\
 (W.cell? (F b 0)=Z (I m.wh)/\W.cell? (F b 1)=Z (ξ m.nm)/\W.cell? (F b 2)=Z (I m.kd)/\W.cell? (F b 3)=Z (I m.fl)/\W.cell? (F b 4)=Z (I m.ck)/\W.cell? (F b 5)=Z (I m.of)/\W.cell? (F b 6)=Z (I m.ln)/\W.cell? (F b 7)=Z (ξ m.dt)/\W.cell? (F b 8)=Z (I m.er))
section
variable {W W':aq}
def bT{W W'}(a:aK W W'){k:Nat}{x}(h:W.heap[k]? =Z x):W'.heap[k]? =Z x:=(a.block k (bf.1 h).1).t h
end
section
attribute [local go_sem] Oper.semAt_some
open Go.RowKit Go.Shelf
structure J1(W:aq)(c rb mb ch:Nat)(sz cl qu mx qn rt bu wk ou de:Int)(k:Cl):Prop where
 box:∃v,Lm W c k.no k.wt sz cl qu mx qn rt bu wk ou rb k.aN v k.tok de ch/\uN W v k.u
 rd:∃rp,eB W rb mb sz mx rp []/\(k.ph≠4->rp=k.ph)
 chan:W.heap[ch]? =Z (.chan 0 #[] (decide (k.ph=4)) 0 0 aa)
abbrev Aside(rb mb b:Nat)(x:Nat):Prop:=x=rb\/x=mb\/x=b\/x=b+1\/x=b+2\/x=b+3
section
def nT{W a:aq}{row i o}(h:W.heap[i]? =Z o)(b:W.grownBy a row)(hr:row≠Z i):a.heap[i]? =Z o:=(b.block i (bf.1 h).1 (λe=>hr e.y)).t h
end
abbrev kp(c rb a:Nat)(s:ByteArray)(W:aq):Prop:=W.cell? (F c 11)=Z (aQ rb)/\W.cell? (F c 12)=Z (ξ s)/\W.cell? (F a 0)=Z (aQ c)
def kp.acX{c rb B0 s W x aqi}(h:kp c rb B0 s W):kp c rb B0 s ((W.alloc x).alloc aqi):=by have a:aK W ((W.alloc x).alloc aqi):=((Below.refl _ W).alloc (aR _) _).alloc ay _;exact⟨bH a h.1,bH a h.2.1,bH a h.2.2⟩
def zd(c rb b a:Nat)(s:ByteArray)(x:bh×Int)(d:Nat):Act:=
 {tmps:=#[aQ c,aQ a,aQ d,I x.2,aQ c,ω M,ω aa,aQ c,aQ c,π<|Z<|F c 11,aQ rb,
   aQ c,aQ c,π<|Z<|F c 12,ξ s,.func (.func 168) #[] #[aQ b,aQ<|b+1],
   ν<|kE x.1.wh x.1.nm x.1.kd x.1.fl x.1.ck x.1.of x.1.ln x.1.dt x.1.er,I x.2,y,y,y,y,y,y,y,y,y,y,y,y,y,y,y],defers:=[]}
def yv(c rb b a:Nat)(s t:ByteArray)(m:bh)(K:Nat)(d:Nat):Act:=
 {tmps:=#[aQ c,aQ a,aQ d,I K,aQ c,ω M,ω aa,aQ c,aQ c,π<|Z<|F c 11,aQ rb,
   aQ c,aQ c,π<|Z<|F c 12,ξ s,.func (.func 168) #[] #[aQ b,aQ<|b+1],
   ν<|gy m,I K,aQ c,aQ c,aQ c,π<|Z<|F c 12,ξ t,I K,ξ<|t.extract K t.size,aQ c,π<|Z<|F c 12,y,y,y,y,y,y],defers:=[]}
def nb(c rb b e:Nat)(s:ByteArray)(x:bh×Int)(a:Act)(W:aq):Prop:=∃d,b+4<=d/\W.heap[d]? =Z (au (kE x.1.wh x.1.nm x.1.kd x.1.fl x.1.ck x.1.of x.1.ln x.1.dt x.1.er) 129 (0,0))/\a=zd c rb b e s x d
def nb.bears{c rb mb b B0 s}(k:rb<b)(l:mb<b)(x:bh×Int):Bears (λr=>ib rb mb (b+1) r\/r=b+2+1) (nb c rb b B0 s x):=by rintro a W j row ⟨d,f,g2,g⟩ i hr;refine⟨d,f,nT g2 i<|λe=>?_,g⟩;rcases hr _ e with(h|h|h)|h<;>omega
abbrev xz(w1:aq)(rb:Nat)(s:ByteArray):aq:=((w1.alloc (au #[aQ rb] 157)).alloc (au #[ξ s] 9)).drew
def afL(w1 rb s):(xz w1 rb s).heap.size=w1.heap.size+2/\(xz w1 rb s).heap[w1.heap.size]? =Z (au #[aQ rb] 157 (0,0))/\(xz w1 rb s).heap[w1.heap.size+1]? =Z (au #[ξ s] 9 (0,0))/\aK w1 (xz w1 rb s):=by refine⟨ay,(Below.heap_alloc _ _ _ ay).t<|heap_alloc_new w1 _,?_,(((Below.refl _ w1).alloc (aR _) _).alloc ay _).drew⟩;have:=heap_alloc_new (w1.alloc<|au #[aQ rb] 157) (au #[ξ s] 9);rwa [zT]at this
def acQ{rb mb b X W W'}(d:aS X W W')(e:∀i,X i->¬Aside rb mb b i)(a:rb<W.heap.size)(c:mb<W.heap.size)(j:b+4<=W.heap.size):Two (b+2) W W'/\eS rb mb b (b+1) W W':=by have key:∀i,i<W.heap.size->Aside rb mb b i->W'.heap[i]? =W.heap[i]? :=λi g f=>d.block i g λh=>e i h f;exact⟨⟨key _ Y R2,key _ Y R2⟩,key _ a R2,key _ c R2,key _ Y R2,key _ Y R2⟩
def fO{W:aq}{i j:Nat}{o o'}(h:W.heap[i]? =Z o)(b:W.heap[j]? =Z o')(a:o≠o'):i≠j:=λe=>a j4
def aeO{W v o i x}(h:uN W v o)(c:W.heap[i]? =Z x)(d:∀a,x≠au a 5 (0,0)):Z i≠v.ownBlock:=λe=>by rcases h.2 with⟨rfl,_⟩|⟨g,cap,a,rfl,_,b,_⟩;cases e;cases e;exact d a<|ey<|c.y.t b
def ze{X W W' i x}(h:aS X W W')(a:W.heap[i]? =Z x)(b:¬X i):W'.heap[i]? =Z x:=(h.block i (bf.1 a).1 b).t a
def cI(cl:av (aV Nat)):av Nat:=cl.filterMap id
def kY(v:aV Nat):aB:=π (v.map λc=>⟨c,0,aj⟩)
def ahs{cl:av (aV Nat)}{i c}(h:cl[i]? =Z (Z c)):cI (cl.take<|i+1)=cI (cl.take i)++[c]:=by rw[rQ,h];simp[cI]
def ahr{cl:av (aV Nat)}{i}(h:cl[i]? =Z aj):cI (cl.take<|i+1)=cI (cl.take i):=by rw[rQ,h];simp[cI]
def aht(cl i):∃r,cI cl=cI (cl.take i)++r:=⟨cI<|cl.drop i,by unfold cI;rw[<-List.filterMap_append,pL]⟩
abbrev yY(c:Nat):aF aB:=#[aQ c]
def IN(xb w):
  Calls prog 60 #[aQ xb] w λe b=>e=aG (.func (.func 99) #[] #[aQ w.heap.size])/\b=w.alloc (au #[aQ xb] 29):=by
 have c:∀(a:Fn) (first cap:aF aB) (w:aq),(Qn a first cap).run prog w=.ok (.func a first cap) w:=λ_ _ _ _=>U;go_enter func60,ntmps60;go_wp2;go_ret;exact⟨U,U⟩
def IQ(n)(R:1<=n)(cb xb sb N cl W)(K:W.cell? (F cb 0)=Z (aQ xb))(S:W.cell? (F xb 9)=Z (ζ (Z<|F sb 0) N N))(P:cl.length=N)(H:N<=65535)(x:∀(j:Nat) v,cl[j]? =Z v->W.cell? (F sb j)=Z (kY v)):
  Iter ig n prog 99 #[aQ cb] yY (λ_=>False) (λA B=>B.heap[sb]? =A.heap[sb]?) (λd=>∃r,cI cl=d++r)
   (λd _=>d=cI cl) (λpre _=>∃r,cI cl=pre++r) W:=by
 intro l J C E G w q;refine callsIn_of_wp func99 U trivial ?_ U;simp only[ntmps99,nE,gH,nB,rS,FB,vH,vI,vW,vN,jZ,lT]
 gi_wp2
 gi_loopw [10] (λi wr=>∃j:Nat,j<=N/\i=I j/\Hid (J (cI<|cl.take j) wr/\wr.heap[sb]? =W.heap[sb]?)) (λi _=>N-(dw i).toNat)
 case atStart=>exact⟨0,cO _,U,q,U⟩
 case round=>
  obtain⟨j,L,rfl,a⟩:=hrel;by_cases Q:j<N
  ·have z:decide ((j:Int)<(N:Int))=M:=bV;obtain⟨v,hv⟩:∃v,cl[j]? =Z v:=⟨cl[j],by rw[dj]⟩;have m:wr.cell? (F sb j)=Z (kY v):=by rw[iO a.2];exact x j v hv
   rcases v with _|c
   ·simp only[kY,iA]at m;gi_wp2;refine⟨λ_ h=>acB,?_⟩;gi_wp2;go_roundw;case rel=>exact⟨j+1,Y,by go_num,by rw[(aX<|ahr hv)];exact a.1,a.2⟩
    case measure=>simp[dw];omega
   have f:=aX (ahs hv);have g:Hid (∃r,cI cl=(cI (cl.take j)++[c])++r):=by have:=aht cl (j+1);rwa [f]at this
   simp only[kY,eO]at m;let⟨D,V,assign,body,T,u⟩:=w (cI<|cl.take j) c wr a.1 g;gi_wp2;apply u.m;rintro e k (⟨rfl,s,o⟩|⟨rfl,t,o⟩)
   ·have b:Hid (J (cI<|cl.take<|j+1) k/\k.heap[sb]? =W.heap[sb]?):=⟨by rw[f];exact s,o.t<|aX a.2⟩;gi_wp2;go_roundw;case rel=>exact⟨j+1,Y,by go_num,b⟩
    case measure=>simp[dw];omega
   gi_wp2;apply iB (zX U _ _ _) U;exact⟨⟨_,U⟩,az ⟨_,g,aX t⟩⟩
  have z:decide ((j:Int)<(N:Int))=aa:=bV;have O:j=N:=Y;have p:Hid (J (cI cl) wr):=by have:=a.1;rwa [qE Y]at this
  gi_wp2;exact fC U U ⟨⟨_,U⟩,aA ⟨_,U,p⟩⟩
def Ih(c n w)(h:w.cell? (F c 0)=Z (I n)):
  eZ 96 #[aQ c] w (I n):=by
 go_enter func96,ntmps96;go_wp2;go_ret;exact⟨U,U⟩
structure yq(W:aq)(xb sb N:Nat)(cl:av (aV Nat)):Prop where
 sl:W.cell? (F xb 9)=Z (ζ (Z (F sb 0)) N N)
 len:cl.length=N
 small:N<=65535
 at_:∀(j:Nat) v,cl[j]? =Z v->W.cell? (F sb j)=Z (kY v)
 row:∃o,W.heap[sb]? =Z o
def yq.old{W W' xb sb N cl}(h:yq W xb sb N cl)(a:aK W W'):yq W' xb sb N cl:=⟨bH a h.sl,h.len,h.small,λj v b=>bH a (h.at_ j v b),by let⟨o,c⟩:=h.row;exact⟨o,bT a c⟩⟩
abbrev CK(xb:Nat)(u:Int)(B:Nat)(c:Nat):Act:={tmps:=#[aQ xb,I u,y,aQ B,aQ (B+1),aQ c,aQ xb,.func (.func 99) #[] #[aQ (B+1+1)],aQ c,y,y,y,y,y],defers:=[]}
abbrev mc(xb:Nat)(u:Int)(B:Nat)(c:Nat)(k:Int)(a:Bool):Act:={tmps:=#[aQ xb,I u,y,aQ B,aQ (B+1),aQ c,aQ xb,.func (.func 99) #[] #[aQ (B+1+1)],aQ c,aQ c,I k,I u,ω a,y],defers:=[]}
def bC{w:aq}{b k i v}(a:k≠b):(w.setCell (F b i) v).heap[k]? =w.heap[k]? :=Below.heap_setCell w ⟨b,i,aj⟩ v k a
def ky(w:aq)(u:Int)(no:Nat->Int)(pre:av Nat)(W:aq):Prop:=aK w W/\W.heap[w.heap.size]? =Z (au #[I u] 3 (0,0))/\W.heap[w.heap.size+1]? =Z (au #[π aj] 134 (0,0))/\∀c∈pre,no c≠u
def qk(w:aq)(u:Int)(no:Nat->Int)(pre:av Nat)(W:aq):Prop:=aK w W/\∃a c,pre=a++[c]/\(∀c∈a,no c≠u)/\no c=u/\W.heap[w.heap.size+1]? =Z (au #[aQ c] 134 (0,0))
abbrev ec(w:aq)(xb:Nat)(u:Int):aq:=((w.alloc (au #[I u] 3)).alloc (au #[π aj] 134)).alloc (au #[aQ xb] 29)
def aaV(xb sb N cl u)(no:Nat->Int)(w:aq)(hS:yq w xb sb N cl)(bE:∀c∈cI cl,w.cell? (F c 0)=Z (I<|no c)):
  CallsIn ig 3 prog 58 #[aQ xb,I u] w λe w'=>e=aG (kY<|(cI cl).find? λc=>decide (no c=u))/\aK w w':=by
 refine QR func58 U trivial ?_ U;simp only[ntmps58,nE,gH,nB,rS,FB,vH,vI,vW,vN,jZ,lT]
 gi_wp2_with (first|(refine⟨trivial,?_⟩;gi_at_call 60;refine(callsIn_wide.2<|IN xb _).m ?_;rintro e w1 ⟨rfl,rfl⟩))
 have ak:aK w (ec w xb u):=(bq.alloc ay _).alloc bV _;have bL:(ec w xb u).heap.size=w.heap.size+3:=ay;have e1:(ec w xb u).heap[w.heap.size]? =Z (au #[I u] 3 (0,0)):=(Below.heap_alloc _ _ _ bV).t ((Below.heap_alloc _ _ _ ay).t<|heap_alloc_new w _);have e2:(ec w xb u).heap[w.heap.size+1]? =Z (au #[π aj] 134 (0,0)):=(Below.heap_alloc _ _ _ ay).t (by have:=heap_alloc_new (w.alloc<|au #[I u] 3) (au #[π aj] 134);rwa [zT]at this);have e3:(ec w xb u).heap[w.heap.size+1+1]? =Z (au #[aQ xb] 29 (0,0)):=by have:=heap_alloc_new ((w.alloc<|au #[I u] 3).alloc<|au #[π aj] 134) (au #[aQ xb] 29);rwa [zT,zT]at this
 have bR:sb<w.heap.size:=by obtain⟨o,ho⟩:=hS.row;exact(bf.1 ho).1
 show Code.wpIn ig 3 prog _ _ _ (ec w xb u);generalize ec w xb u=g at*;have bB:ky w u no [] g:=⟨ak,e1,e2,λc h=>by cases h⟩
 have bI:Bears (λr=>False\/r=g.heap.size+1) (ky w u no):=by
  rintro pre W E row ⟨z,P,Q,T⟩ q hr;have s:∀r,row=Z r->r=w.heap.size+4:=λr e=>by rcases hr r e with h|h;cases h;omega
  exact⟨z.grown q z.size (λk e=>by have:=s k e;omega),nT P q (λe=>by have:=s _ e;omega),nT Q q (λe=>by have:=s _ e;omega),T⟩
 have bX:Bears (λr=>False\/r=g.heap.size+1) (qk w u no):=by
  rintro pre W E row ⟨z,aS,c,P,Q,T,h5⟩ q hr;have s:∀r,row=Z r->r=w.heap.size+4:=λr e=>by rcases hr r e with h|h;cases h;omega
  exact⟨z.grown q z.size (λk e=>by have:=s k e;omega),aS,c,P,Q,T,nT h5 q (λe=>by have:=s _ e;omega)⟩
 refine Ba (w:=g) U aM (gf:=99) (lb:=#[aQ<|w.heap.size+1+1]) U trivial (enters_of func99 aW U) (encs:=yY) (λ_=>U)
  (R:=λ_=>False) (Kp:=λA B=>B.heap[sb]? =A.heap[sb]?) (V:=λx=>∃r,cI cl=x++r) (S:=λx _=>x=cI cl) (Sp:=λpre _=>∃r,cI cl=pre++r)
  (λW hW=>?seq) (λr h=>h.e) (λh k=>k.t h) (λW o=>gq Y) (λx W E row h _ _=>h) (λx W E row h _ _=>h)
  (ky w u no) (qk w u no) bI bX bB (λc a _=>a=CK xb u w.heap.size c) (λc a W E row h _ _=>h) ?assign ?body ?done ?stop
 case seq=>have bD:aK w W:=ak.grown hW ak.size (λk e=>by cases e);have bu:=nT e3 hW ay;have G:=hS.old bD;exact IQ 2 aM (w.heap.size+1+1) xb sb N cl W (aD bu U) G.sl G.len G.small G.at_
 case assign=>rintro l pre c W K b hv jR d;gi_wp2;exact d _ W ⟨U,U⟩ U b U
 case body=>
  rintro l pre c a' W b rfl ⟨r,hv⟩ jR;have hc:c∈cI cl:=by rw[hv];simp
  have cN:W.cell? (F c 0)=Z (I<|no c):=bH b.1 (bE c hc);have cU:=aJ W w.heap.size 0 (I u) b.2.1;have cR:=aJ W (w.heap.size+1) 0 (π aj) b.2.2.1;have fR:=bp b.2.2.1 0;have D:Hid (ky w u no pre W):=b;clear b;by_cases t:no c=u
  ·have bN:(no c==u)=M:=by simpa using t
   have H:Hid (no c=u):=t;clear t;gi_wp2;rename_i J C;have ah:=C;have L:J (mc xb u w.heap.size c (no c) M) W.drew:=by refine ah _ _ ?_;unfold mc;clear C;gi_wp2;obtain⟨f,i2,m,n⟩:=D.u;rw[bL];refine⟨⟨?_,?_⟩,?_,?_,pre,c,U,n,H.u,?_⟩;exact bC Y;exact bC Y;exact bC Y;exact f.drew.setCell (p:=F (w.heap.size+1) 0) (kJ _) _;exact bG (w:=W.drew) m 0 _
   refine JA (S:=λW=>W.cell? (F w.heap.size 0)=Z (I u)) 3 aW cU λhH=>?_;apply tg [0,2];refine jr 1 λK d=>?_;go_simp;refine⟨trivial,?_⟩;refine(rI l<|callsIn_wide.2<|Ih c (no c) W.drew cN).m ?_;rintro e w1 ⟨rfl,rfl⟩;refine d.u _ _ hH λ_=>?_;refine jz λK d=>?_;go_simp;refine d.u _ _ ?_;refine Jz aW ?_ _;exact L
  have bN:(no c==u)=aa:=by simpa using t
  have H:Hid (no c≠u):=t;clear t;gi_wp2;rename_i J C;have ah:=C;have L:J (mc xb u w.heap.size c (no c) aa) W.drew:=by refine ah _ _ ?_;unfold mc;clear C;gi_wp2;obtain⟨f,i2,m,n⟩:=D.u;refine⟨⟨U,U⟩,U,f.drew,i2,m,λO j=>?_⟩;rcases jg.1 j with h|h;exact n O h;rw[iz.1 h];exact H.u
  refine JA (S:=λW=>W.cell? (F w.heap.size 0)=Z (I u)) 3 aW cU λhH=>?_;apply tg [0,2];refine jr 1 λK d=>?_;go_simp;refine⟨trivial,?_⟩;refine(rI l<|callsIn_wide.2<|Ih c (no c) W.drew cN).m ?_;rintro e w1 ⟨rfl,rfl⟩;refine d.u _ _ hH λ_=>?_;refine jz λK d=>?_;go_simp;refine d.u _ _ ?_;refine Jz aW ?_ _;exact L
 case done=>rintro x W rfl b X;have cR:=aJ W (w.heap.size+1) 0 (π aj) b.2.2.1;have fR:=bp b.2.2.1 0;have D:Hid (ky w u no (cI cl) W):=b;clear b;gi_wp2;obtain⟨f,i2,m,n⟩:=D.u;have bA:(W.setCell (F (w.heap.size+1) 0)<|π aj).heap[g.heap.size]? =Z (.deferred<|Z []):=oT X Y _ _;have MJ:(W.setCell (F (w.heap.size+1) 0)<|π aj).heap[w.heap.size+1]? =Z (au #[π aj] 134 (0,0)):=bG m 0 _;have j:=aD (w:=(W.setCell (F (w.heap.size+1) 0)<|π aj).putObj g.heap.size<|.deferred aj) ((gq Y).t MJ) (i:=0) (v:=π aj) U;refine⟨ay,aA ⟨_,_,U,rU bA,π aj,by simp[results,results58,go_sem,j],?_,?_⟩⟩;rw[Kj.2 (λc hc=>by simpa using n c hc)];rfl;exact(f.setCell (p:=F (w.heap.size+1) 0) (kJ _) _).grown (FM _ _ _) (by have:=f.size;simpa using this) (λk e=>by cases e;omega)
 case stop=>
  rintro pre W ⟨r,hv⟩ hx X;have HX:Hid (qk w u no pre W):=hx;clear hx;gi_wp2;obtain⟨f,aS,c,rfl,m,n,i5⟩:=HX.u;have j:=aD (w:=W.putObj g.heap.size<|.deferred aj) ((gq Y).t i5) (i:=0) (v:=aQ c) U;refine⟨ay,aA ⟨_,_,U,rU X,aQ c,by simp[results,results58,go_sem,j],?_,?_⟩⟩;have e:(cI cl).find? (λc=>decide (no c=u))=Z c:=by rw[hv,lS,List.find?_append,Kj.2 (λO j=>by simpa using m O j)];simp[n]
  rw[e];rfl;exact f.grown (FM _ _ _) f.size (λk e=>by cases e;omega)
def aaT(xb sb N cl u)(no:Nat->Int)(w)(hS:yq w xb sb N cl)(a:∀c∈cI cl,w.cell? (F c 0)=Z (I<|no c)):
  bN 58 #[aQ xb,I u] w (kY<|(cI cl).find? λc=>decide (no c=u)):=callsIn_wide.1 (aaV xb sb N cl u no w hS a)
end
def eX(c n:Int):Int:=(if c<0 then -(c+1)else c).tmod n
def AX(c){n}(h0:0<n):0<=eX c n/\eX c n<n:=by unfold eX;exact⟨BL _ j4,EZ _ h0⟩
abbrev dy(c:Int):Prop:=-9223372036854775808<=c/\c<=9223372036854775807
def NN(c n w)(hc:dy c)(h0:0<n)(i:n<=9223372036854775807):
  Calls prog 13 #[I c,I n] w λe f=>∃r,e=aG (I r)/\(0<=r/\r<n)/\f=w:=by
 by_cases j:c<0
 ·have g:cJ.wrap (c+1)=c+1:=by rw[vL];omega
  have h:cJ.wrap (-(c+1))= -(c+1):=by rw[vL];omega
  have hr:0<=(-(c+1)).tmod n/\(-(c+1)).tmod n<n:=⟨BL _ Y,EZ _ h0⟩;have a:=aX hr;have d:¬n=0:=Y;go_enter func13,ntmps13;go_wp2;go_ret;exact⟨_,U,by rw[<-Int.neg_tmod];exact a,U⟩
 have hr:0<=c.tmod n/\c.tmod n<n:=⟨BL _ Y,EZ _ h0⟩;have a:=aX hr;have d:¬n=0:=Y;go_enter func13,ntmps13;go_wp2;go_ret;exact⟨_,U,by first|exact a|(rw[(EY Y).y];exact a),rfl⟩
section
end
def agy(rb p w)(h:w.cell? (F rb 2)=Z (I p)):
  eZ 207 #[aQ rb] w (I p):=by
 go_enter func207,ntmps207;go_wp2;go_ret;exact⟨U,U⟩
def dI{x}(a:-9223372036854775808<=x)(b:x<=9223372036854775807):cJ.wrap x=x:=by rw[vL];omega
def aS.drew'{X a w}(h:aS X a w):aS X a w.drew:=⟨h.os,h.size,h.block⟩
abbrev om(sz cl f c e rt a h d:Int)(g N:Nat)(bF clock:Int)(stop:Bool)(aC:Int)(b:aV iL):aF aB:=#[I sz,I cl,I f,I c,I e,I rt,I a,I h,I d,ζ (Z (F g 0)) N N,I bF,I 0,I 0,I clock,ω stop,I aC,ω aa,ζ aj 0 0,ζ aj 0 0,π b,ζ aj 0 0]
abbrev J5(W:aq)(xb:Nat)(sz cl f c e rt a h d:Int)(g N:Nat)(bF clock:Int)(stop:Bool)(aC:Int)(b:aV iL):Prop:=W.heap[xb]? =Z (au (om sz cl f c e rt a h d g N bF clock stop aC b) 64 (0,0))
def tU(cs:av (aV Nat)):aF aB:=(cs.map kY).toArray
abbrev Ai(W:aq)(a:Nat)(cs:av (aV Nat)):Prop:=W.heap[a]? =Z (au (tU cs) 134 (0,0))
def xA{cs}{j:Nat}{v}(h:cs[j]? =Z v):(tU cs)[j]? =Z (kY v):=by simp[tU,h]
def XB{cs}(j)(v:aV Nat):(tU cs).setIfInBounds j (kY v)=tU (cs.set j v):=by simp[tU,Fj]
def adh(gone:Nat->Bool):aV Nat->aV Nat
 |some c=>if gone c then aj else Z c
 |none=>aj
def lets(gone:Nat->Bool)(cs:av (aV Nat)):av (aV Nat):=cs.map (adh gone)
def yZ{d:Type}{l:av d}{j a}(h:l[j]? =Z a):l.set j a=l:=by let⟨b,c⟩:=bY.1 h;rw[<-c];exact List.set_getElem_self b
def aaC(a w):(binOp .eql 134 (π aj)<|π<|Z a).run prog w=.ok (ω aa) w:=by
 have b:(Op.equal 134 (π aj)<|π<|Z a).run prog w=.ok aa w:=by unfold Op.equal;rw[show Op.maxDepth=9999+1 from U];unfold Op.equalIn;rw[Cn,Cx underlying134];rfl
 unfold binOp;rw[Cn,b];rfl
def abo(cs:av (aV Nat))(j:Nat):Prop:=cs[j]? =Z aj/\∀i,i<j->cs[i]? ≠Z aj
def Vt(sb N cs w)(hR:Ai w sb cs)(hl:cs.length=N)(l:N<=65535):
  Calls prog 56 #[ζ (Z<|F sb 0) N N,π aj] w λe k=>k=w/\((∃j:Nat,e=aG (I j)/\abo cs j)\/(e=aG (I<|-1)/\∀i:Nat,cs[i]? ≠Z aj)):=by
 go_enter func56,ntmps56;go_wp2
 go_loop [8] (λi=>∃j:Nat,j<=N/\i=I j/\Hid (∀i,i<j->cs[i]? ≠Z aj)) (λi=>N-(dw i).toNat)
 case atStart=>exact⟨0,cO _,U,λi h=>by omega⟩
 case round=>
  obtain⟨j,n,rfl,b⟩:=hrel;by_cases o:j<N
  ·have g:decide ((j:Int)<(N:Int))=M:=bV;obtain⟨v,hv⟩:∃v,cs[j]? =Z v:=⟨cs[j],by rw[dj]⟩;have f:=aD hR (xA hv);have d:=aX hv;rcases v with _|c;·simp only[kY,iA]at f;go_wp2;go_ret;exact⟨U,aA ⟨j,U,d,b⟩⟩
   simp only[kY,eO]at f;have m:=aaC ⟨c,0,aj⟩ w;go_wp2;go_round;case rel=>refine⟨j+1,Y,by go_num,λi a=>?_⟩;by_cases e:i=j;subst e;rw[d];simp;exact b i Y
   case measure=>simp[dw];omega
  have g:decide ((j:Int)<(N:Int))=aa:=bV;go_wp2;go_ret;refine⟨U,az ⟨U,λi a=>?_⟩⟩;have:=(bY.1 a).1;exact b i Y a
def Cl.fresh(no wt bu:Int):Cl:=⟨no,wt,0,⟨#[]⟩,⟨#[]⟩,bu⟩
abbrev iU(b:Nat)(sz cl qu mx qn rt bu wk ou:Int)(W:aq):Prop:=W.cell? (F b 0)=Z (I sz)/\W.cell? (F b 1)=Z (I cl)/\W.cell? (F b 2)=Z (I qu)/\W.cell? (F b 3)=Z (I mx)/\W.cell? (F b 4)=Z (I qn)/\W.cell? (F b 5)=Z (I rt)/\W.cell? (F b 6)=Z (I bu)/\W.cell? (F b 7)=Z (I wk)/\W.cell? (F b 8)=Z (I ou)
section
variable {b:Nat} {sz cl qu mx qn rt bu wk ou:Int} {W W':aq}
def iU.later(h:iU b sz cl qu mx qn rt bu wk ou W)(a:aK W W'):iU b sz cl qu mx qn rt bu wk ou W':=⟨bH a h.1,bH a h.2.1,bH a h.2.2.1,bH a h.2.2.2.1,bH a h.2.2.2.2.1,bH a h.2.2.2.2.2.1,bH a h.2.2.2.2.2.2.1,bH a h.2.2.2.2.2.2.2.1,bH a h.2.2.2.2.2.2.2.2⟩
def iU.a1{x}(h:iU b sz cl qu mx qn rt bu wk ou W):iU b sz cl qu mx qn rt bu wk ou (W.alloc x):=h.later ((Below.refl _ W).alloc (aR _) _)
def iU.a3{x aqi z}(h:iU b sz cl qu mx qn rt bu wk ou W):iU b sz cl qu mx qn rt bu wk ou (((W.alloc x).alloc aqi).alloc z):=h.a1.a1.a1
end
def adL(w):(Instr.makeChan 159<|I 0).run prog w=.ok (.chan<|Z w.heap.size) (w.alloc<|.chan 0 #[] aa 0 0 aa):=by have h:(prog.info? 164).map (·.bytes)=Z 0:=aW;let⟨i,a,c⟩:=gJ.1 h;simpa using run_makeChan underlying159 a .i64 0 Y Y
def Rw(w:aq)(sz cl qu mx qn rt bu wk ou no wt:Int)(e:Ending)(w':aq):Prop:=∃c d f a,e=aG (aQ c)/\J1 w' c d f a sz cl qu mx qn rt bu wk ou 0 (Cl.fresh no wt bu)/\Lm w' c no wt sz cl qu mx qn rt bu wk ou d ⟨#[]⟩ (ζ aj 0 0) bu 0 a/\aK w w'/\w.heap.size<=c/\w.heap.size<=d/\w.heap.size<=f/\w.heap.size<=a
def gD{W:aq}{o x}{k:Nat}(h:W.heap[k]? =Z x):(W.alloc o).heap[k]? =Z x:=(Below.heap_alloc W o k (bf.1 h).1).t h
def new1{W:aq}{o k}(h:k=W.heap.size):(W.alloc o).heap[k]? =Z o:=by subst h;exact heap_alloc_new W o
def Wr{w V rb mb ch c}(sz cl qu mx qn rt bu wk ou no wt)(l:aK w V)(i:V.heap[rb]? =Z (au #[I sz,I mx,I 0,.map<|Z mb] 211 (0,0)))(j:V.heap[mb]? =Z (.map #[] 0))(k:V.heap[ch]? =Z (.chan 0 #[] aa 0 0 aa))(d:Lm V c no wt sz cl qu mx qn rt bu wk ou rb ⟨#[]⟩ (ζ aj 0 0) bu 0 ch)(f:w.heap.size<=c)(g2:w.heap.size<=rb)(g:w.heap.size<=mb)(h:w.heap.size<=ch):Rw w sz cl qu mx qn rt bu wk ou no wt (aG<|aQ c) V:=by obtain⟨n,m,a,e⟩:=World.ownsMap_made w prog 3 unitElem;rw[heap_alloc_new]at a;cases a;exact⟨c,rb,mb,ch,U,⟨⟨_,d,qH _ _ _ _⟩,⟨0,⟨i,#[],0,j,e⟩,λ_=>U⟩,k⟩,d,l,f,g2,g,h⟩
def U9(sz cl qu mx qn rt bu wk ou no wt w):
  Calls prog 57 #[ν<|iV sz cl qu mx qn rt bu wk ou,I no,I wt] w (Rw w sz cl qu mx qn rt bu wk ou no wt):=by
 have l:=adL;go_enter func57,ntmps57
 go_upto_region 1 with fail
 refine ga (S:=iU w.heap.size sz cl qu mx qn rt bu wk ou) ⟨by simp[go_sem],by simp[go_sem],by simp[go_sem],by simp[go_sem],by simp[go_sem],by simp[go_sem],by simp[go_sem],by simp[go_sem],by simp[go_sem]⟩ λc=>?_;apply tl [0,1,2,3,5,6];refine aH [4,7]<|.cons U (λK a=>?_) ?_
 ·go_simp;(refine(Ws sz cl qu mx qn rt bu wk ou 0 _).m ?_;rintro e i ⟨rfl,rfl⟩);go_wp2_with fail;refine a _ _ (iU.a3 c)<|λd=>?_;clear a K;refine rH 7 λK a=>?_;go_simp;refine a _ _ (iU.a1 d)<|λf=>?_;clear a K;apply tl [8];refine rH 9 λK a=>?_;go_simp;refine a _ _ (iU.a1 f)<|λj=>?_;clear a K;apply tl [10];refine dJ ?_;(go_wp2_with fail;go_ret;exact(by refine Wr (rb:=w.heap.size+1+2) (mb:=w.heap.size+1+1) (ch:=w.heap.size+1+1+1+1) sz cl qu mx qn rt bu wk ou no wt ?_ (gD<|gD<|new1 ay) (gD<|gD<|gD<|new1 ay) (gD<|new1 ay) (new1 ay) Y Y Y Y;exact((((bq.alloc ay _).alloc bV _).alloc bV _).alloc bV _).alloc bV _ |>.drew))
 refine .cons U (λK a=>?_) .nil;go_simp;refine a _ _ (iU.a1 c)<|λg=>?_;clear a K;refine rH 4 λK a=>?_;go_simp
 (refine(Ws sz cl qu mx qn rt bu wk ou 0 _).m ?_;rintro e i ⟨rfl,rfl⟩)
 go_wp2_with fail;refine a _ _ (iU.a3 g)<|λh=>?_;clear a K;apply tl [8];refine rH 9 λK a=>?_;go_simp;refine a _ _ (iU.a1 h)<|λk=>?_;clear a K;apply tl [10];refine dJ ?_
 (go_wp2_with fail;go_ret;exact(by refine Wr (rb:=w.heap.size+1+1+2) (mb:=w.heap.size+1+1+1) (ch:=w.heap.size+1) sz cl qu mx qn rt bu wk ou no wt ?_ (gD<|new1 ay) (gD<|gD<|new1 ay) (gD<|gD<|gD<|gD<|new1 ay) (new1 ay) Y Y Y Y;exact((((bq.alloc ay _).alloc bV _).alloc bV _).alloc bV _).alloc bV _ |>.drew))
section
open Go.ConcN (sumTo)
section
variable [an] {Q:Exit->Act->aq->Prop} {a:Act} {u:aq} {ops:aF ep} {i d k:Nat} {rest:av Nat} {o:ep} {Lf:aZ->av Nat} {f0:aZ} {x:Int}
def CX(ops:aF ep)(a:Act)(o:ep):Prop:=cY o (yielded ops a.tmps)=M
def FO.see{ad:iL}{t x g:Nat}{m:Obj}{vs:aF aB}(D:an.tY g=Z m)(p:∀w,(isAgg t).run prog w=.ok M w)(r:∀w,(sizeOf t).run prog w=.ok x w)(E:∀w n,(isAgg t).events prog w n=n)(B:ops[i]? =Z o)(A:CX ops a o)(hd:o.dst=Z d)(q:o.op=.load t (.tmp k))(hv:a.eval (.tmp k)=π (Z ad))(z:ad.block=g)(L:vs.size=x)(hc:∀w:aq,w.heap[g]? =Z m->∀j,(h:j<vs.size)->w.cell? (ad.add j)=Z vs[j])(hr:∀w:aq,w.heap[g]? =Z m->(loadCells ad x).run prog w=.ok vs w)(C:∀G,VR G (ν vs)<|ν vs)(c:FO Lf f0 prog ops Q rest (a.put (Z d)<|ν vs) u):FO Lf f0 prog ops Q (i::rest) a u:=by refine FO.Ec D B A hd (λw l=>?_) (λw l e f=>?_) C c;unfold execOp;rw[q];dsimp only;rw[hv];simp[JX,EW,loadVar,p,r,hr w l];unfold execOp at f;rw[q]at f;dsimp only at f;rw[hv]at f;simp[JX,EW,loadVar,p,r,E,hr w l]at f;rcases events_loadCellsFrom_at ad (λb=>b=g) z x 0 #[] w #[] (λj K=>by rw[jM,hc w l j Y];rfl) e f with h|⟨H,s,J,v⟩;simp at h;exact⟨_,s,v⟩
end
structure iD(a b:Act)(d:Nat)(v:aB):Prop where
 size:b.tmps.size=a.tmps.size
 defers:b.defers=a.defers
 same:∀k,k≠d->b.eval (.tmp k)=a.eval (.tmp k)
 new:d<a.tmps.size->b.eval (.tmp d)=v
def xw(a:Act)(d:Nat)(v:aB):iD a (a.put (Z d) v) d v:=⟨Xc _ _ _,put_defers _ _ _,λ_ h=>Tx v h,λh=>Ty v h⟩
section
variable [an] {P:bM} {l:av aZ} {Q:Exit->Act->aq->Prop} {a:Act} {u:aq} {ops:aF ep} {i k:Nat} {o:ep} {Lf:aZ->av Nat} {f0:aZ} {v:aB} {x:Int}
def eP(Lf:aZ->av Nat)(f0:aZ)(P:bM)(b:Region.Mode)(ops:aF ep)(Q:Exit->Act->aq->Prop):Nat->aF Bool->Act->aq->Prop
 |0,listed,a,u=>fS b ops listed=[]/\FO Lf f0 P ops Q [] a u|n+1,listed,a,u=>(fS b ops listed=[]->FO Lf f0 P ops Q [] a u)/\
  ∀i∈fS b ops listed,∀is,(∀c d,eP Lf f0 P b ops Q n (listed.setIfInBounds i M) c d->FO Lf f0 P ops Q is c d)->FO Lf f0 P ops Q (i::is) a u
def eP.sound{md}:∀(fuel t:Nat) (listed:aF Bool) (a:Act) (u:aq),eP Lf f0 P md ops Q fuel listed a u->FO Lf f0 P ops Q (Region.linearise.go md ops fuel t listed []) a u:=by
 intro fuel;induction fuel with
 |zero=>intro t listed a u h;simpa[Region.linearise.go]using h.2
 |succ fuel j=>
  intro t listed a u h;obtain⟨f,g⟩:=h;simp only[Region.linearise.go];change FO Lf f0 P ops Q (match(fS md ops listed)[t %(fS md ops listed).length]? with|some i=>Region.linearise.go md ops fuel (t / (fS md ops listed).length) (listed.setIfInBounds i M) [i]|none=>[].reverse) a u;rcases hi:(fS md ops listed)[t %(fS md ops listed).length]? with _|i;have e:fS md ops listed=[]:=by
   cases hr:fS md ops listed with
   |nil=>rfl
   |cons x b=>rw[hr]at hi;have n:t %(x::b).length<(x::b).length:=QF _ ay;grind
  simpa using f e;simp only[];rw[linearise_go_acc,List.reverse_singleton,List.singleton_append];exact g i (jC hi) _ λc m d=>j _ _ c m d
def FX.afT{id}(hm:P.follows .mixedOrders=M)(h:eP Lf f0 P .any ops Q ops.size (oG ops.size aa) a {u with drawn:=u.drawn+1}):FX Lf f0 P (.region id ops M) Q a u:=GX.afU λt=>by simp only[Region.schedule,hm,Bool.true_or,dN];exact eP.sound ops.size t _ a _ h
def nX(ops:aF ep)(i:Nat):av Nat:=match ops[i]? with|none=>[]|some o=>(o.after.filter λe=>zN .any e).toList.map (·.on)
def gR(ops:aF ep)(i:Nat):Nat:=((ops[i]?).bind (·.dst)).getD 0
def nZ(n k:Nat):aF Bool:=(Array.range n).map λi=>decide (i<k)
def afP{listed}(h:i∈fS .any ops listed):i<ops.size/\listed.getD i M=aa/\∀j∈nX ops i,listed.getD j aa=M:=by unfold fS at h;let⟨n,b⟩:=rO.1 h;have f:=nD.1 n;simp only[cQ,uk]at b;refine⟨f,b.1,λj c=>?_⟩;have g:=gi f;have d:=b.2;rw[g]at d;simp at d;unfold nX at c;rw[g]at c;obtain⟨e,p,rfl⟩:=jY.1 c;let⟨m,hm,r⟩:=EG.1 (Zq.1 (vG.1 p)).1;grind
def afQ{listed}(c:i<ops.size)(e:listed.getD i M=aa)(f:∀j∈nX ops i,listed.getD j aa=M):i∈fS .any ops listed:=by unfold fS;refine rO.2 ⟨nD.2 c,?_⟩;have d:=gi c;simp only[cQ,uk];refine⟨e,?_⟩;rw[d];simp only[eO,oK,Array.all_eq_true];intro m hm;by_cases b:zN .any ops[i].after[m]=M;have:=f ops[i].after[m].on (by unfold nX;rw[d];exact jY.2 ⟨_,vG.2<|Zq.2 ⟨Array.getElem_mem hm,b⟩,U⟩);simp[this];simp[Bool.not_eq_true _▸b]
def SU(ops:aF ep)(k z:Nat):Bool:=(dA k).all λi=>decide (i=z)||(dA<|k+1).any λj=>decide (i<j)&&(!decide (j=z)&&(nX ops j).contains i)
def Ee(ops:aF ep)(n k0 z b:Nat)(c:av Nat):Bool:=decide (ops.size=n)&&(decide (k0<n)&&(SU ops k0 z&&(((dA n).all λi=>(nX ops i).all λj=>decide (j<i))&&(((dA k0).all λi=>decide (gR ops i<b)&&(!c.contains (gR ops i)&&(dA k0).all λj=>decide (i=j)||!decide (gR ops i=gR ops j)))&&(dA n).all λi=>decide (i<=k0)||(dA i).any λj=>decide (k0<=j)&&(nX ops i).contains j))))
def To(n k0)(h:k0<=n):(nZ n k0).toList.count aa=n-k0:=by
 have b:∀m,k0<=m->((dA m).map λi=>decide (i<k0)).count aa=m-k0:=by
  intro m;induction m with
  |zero=>intro _;simp
  |succ m c=>
   intro hm;rw[uB,sV,List.count_append];by_cases h:k0<=m;rw[c h];grind;have d:m+1=k0:=Y;have:((dA m).map λi=>decide (i<k0)).count aa=0:=by refine List.count_eq_zero.2 λe=>?_;grind
   grind
 have:=b n h;simp only[nZ,mJ,Array.toList_range];omega
def SS{l:aF Bool}{i}(h:i<l.size)(b):(l.setIfInBounds i b).toList.count aa+(if l[i]=aa then 1 else 0)=l.toList.count aa+(if b=aa then 1 else 0):=by grind
def eP.adT{n k0 z:Nat}(hn:ops.size=n)(MU:k0<n)(aW:SU ops k0 z=M)(bw:((dA n).all λi=>(nX ops i).all λj=>decide (j<i))=M)(aX:∀i j,i<k0->j<k0->gR ops i=gR ops j->i=j)(Base:Act->Prop)(B:Nat->aB->aq->Prop)(S:aq->Prop)(Mv:aq->aq->Prop)(bz:∀u r j w,Mv u r->B j w u->B j w r)
  (hb:∀a s i v,i<k0->iD a s (gR ops i) v->Base a->Base s) (bp:∀i,k0<i->i<n->∃j,k0<=j/\j<i/\j∈nX ops i)
  (bA:∀a i,i<k0->Base a->gR ops i<a.tmps.size)
  (step:∀i,i<k0->∀a u is,Base a->S u->(∀j∈nX ops i,j<k0->B j (a.eval<|.tmp<|gR ops j) u)->(∀s v r,B i v r->S r->Mv u r->iD a s (gR ops i) v->FO Lf f0 P ops Q is s r)->FO Lf f0 P ops Q (i::is) a u)
  (bG:∀a u,Base a->S u->(∀i,i<k0->B i (a.eval<|.tmp<|gR ops i) u)->eP Lf f0 P .any ops Q (n-k0) (nZ n k0) a u)
  (bH:z<k0->∀a u,Base a->S u->(∀i,i<k0->i≠z->B i (a.eval<|.tmp<|gR ops i) u)->eP Lf f0 P .any ops Q (n-k0+1) ((nZ n k0).setIfInBounds z aa) a u) (E:Base a) (hS:S u):eP Lf f0 P .any ops Q n (oG n aa) a u:=by
 suffices H:∀(c:Nat) (listed:aF Bool) (a:Act) (u:aq),listed.size=n->listed.toList.count aa=c->(∀i,k0<=i->i<n->listed[i]? =Z aa)->(∀i,i<k0->listed[i]? =Z M->(∀j∈nX ops i,listed.getD j aa=M)/\B i (a.eval<|.tmp<|gR ops i) u)->Base a->S u->eP Lf f0 P .any ops Q c listed a u by refine H n _ a u ay ay (λi _ b=>by simp[b]) (λi b h=>?_) E hS;rw[Array.getElem?_replicate]at h;split at h<;>cases h
 intro c;induction c with
 |zero=>
  intro listed a u hs W J _ _ _;have g:aa∈listed.toList:=by have:=J k0 (aR _) MU;exact vG.2<|vF this
  have:=List.count_pos_iff.2 g;omega
 |succ c ih=>
  intro listed a u hs W J R E hS;by_cases N:∀i,i<k0->i≠z->listed[i]? =Z M;have bJ:(nZ n k0).size=n:=by simp[nZ]
  have V:∀i,i<n->(nZ n k0)[i]? =Z (decide<|i<k0):=λi b=>by simp[nZ,b]
  by_cases hz:k0<=z\/listed[z]? =Z M;have e:listed=nZ n k0:=by refine By λi=>?_;by_cases p:i<n;rw[V i p];by_cases b:i<k0;rw[lY b];by_cases q:i=z;subst q;exact hz.e (λh=>by omega) id;exact N i b q;rw[lX b];exact J i Y p;rw[vC Y,vC Y]
  have aC:n-k0=c+1:=by rw[<-W,e,To n k0 Y]
  rw[e,<-aC];refine bG a u E hS λi b=>(R i b ?_).2;rw[e,V i Y,lY b];have aL:z<k0:=Nat.lt_of_not_le λh=>hz (aA h);have bB:listed[z]? =Z aa:=by
   have hx:listed[z]? =Z listed[z]:=gi Y;cases h:listed[z]with
   |false=>rw[hx,h]
   |true=>exact absurd (az (by rw[hx,h])) hz
  have e:listed=(nZ n k0).setIfInBounds z aa:=by refine By λi=>?_;by_cases q:z=i;subst q;rw[bB,EF Y];rw[gn q];by_cases p:i<n;rw[V i p];by_cases b:i<k0;rw[lY b];exact N i b<|dB q;rw[lX b];exact J i Y p;rw[vC Y,vC Y]
  have aC:n-k0+1=c+1:=by
   have g:=SS (l:=nZ n k0) (i:=z) Y aa;have C:(nZ n k0)[z]'Y=M:=by have:=V z Y;rw[gi Y,lY aL]at this;exact ey this
   rw[<-e,W,To n k0 Y,C]at g;simp at g;omega
  rw[e,<-aC];refine bH aL a u E hS λi b bu=>(R i b<|N i b bu).2;have bt:∃i,i<k0/\listed[i]? ≠Z M:=by refine ny λh=>N λi b _=>ny λC=>h ⟨i,b,C⟩
  have aT:(∀j∈nX ops k0,listed.getD j aa=M)->False:=by
   intro hk;refine N λi b q=>?_;have bh:∀m i,i<k0->i≠z->k0-i<=m->listed[i]? =Z M:=by
    intro m;induction m with
    |zero=>intro i b _ h;omega
    |succ m bE=>
     intro i b q h;have g:=nA.1 aW i (nD.2 b);rw[vJ,tB]at g;obtain⟨j,A,d⟩:=uw.1 (g.resolve_left q);simp only[cQ,tB,List.contains_iff_mem,uk,decide_eq_false_iff_not]at d;have aJ:=nD.1 A;have G:listed.getD i aa=M:=by rcases lq j k0 with L|hge;exact(R j L<|bE j L d.2.1 Y).1 i d.2.2;have:j=k0:=Y;subst this;exact hk i d.2.2
     have O:i<listed.size:=Y;rw[gi O];simpa[rB,O]using G
   exact bh (k0-i) i b q<|aR _
  refine⟨λh=>?_,λi b is hK=>?_⟩;exfalso;have bq:∃i,i<k0/\listed[i]? ≠Z M/\∀j,j<i->listed[j]? =Z M:=by
   obtain⟨i,g,C⟩:=bt;induction i using Nat.strongRecOn with
   |_ i bD=>by_cases G:∀j,j<i->listed[j]? =Z M;exact⟨i,g,C,G⟩;have:∃j,j<i/\listed[j]? ≠Z M:=ny λf=>G λj A=>ny λt=>f ⟨j,A,t⟩;obtain⟨j,A,d⟩:=this;exact bD j A Y d
  obtain⟨i,g,C,G⟩:=bq;have O:i<listed.size:=Y;have aD:listed[i]=aa:=by
   rw[gi O]at C;cases hx:listed[i]with
   |false=>rfl
   |true=>exact absurd (by rw[hx]) C
  have p:i∈fS .any ops listed:=afQ Y (by simp[rB,O,aD]) λj A=>by
   have L:j<i:=by have f:=nA.1 bw i (nD.2 Y);exact mM<|nA.1 f j A
   have t:=G j L;have D:j<listed.size:=Y;rw[gi D]at t;simp[rB,D,ey t]
  rw[h]at p;cases p;obtain⟨bL,bk,X⟩:=afP b;have p:i<n:=Y;have af:i<k0:=by refine ny λhge=>?_;rcases lq k0 i with L|hle;obtain⟨j,K,d,bl⟩:=bp i L p;have f:=X j bl;have t:=J j K Y;have D:j<listed.size:=Y;rw[gi D]at t;simp[rB,D,ey t]at f;have:i=k0:=Y;subst this;exact aT X
  have bg:∀j∈nX ops i,j<k0->B j (a.eval<|.tmp<|gR ops j) u:=λj A aJ=>by have f:=X j A;have D:j<listed.size:=Y;refine(R j aJ ?_).2;rw[gi D];simpa[rB,D]using f
  have ah:i<listed.size:=Y;have aD:listed[i]=aa:=by simpa[rB,ah]using bk
  refine step i af a u is E hS bg λs v r hv Dr hM hN=>hK s r (ih _ s r (by simp[hs]) ?_ (λj K d=>?_) (λj K d=>?_) (hb a s i v af hN E) Dr);have:=SS ah M;rw[aD,W]at this;simp at this;simpa using this;rw[gn Y];exact J j K d;by_cases aE:i=j;subst aE;refine⟨λm hm=>?_,?_⟩;have f:=X m hm;by_cases T:m=i;subst T;simp[rB,ah];rw[ue,gn<|dB T,<-ue];exact f;rw[hN.new<|bA a i af E];exact hv;rw[gn aE]at d;obtain⟨f,t⟩:=R j K d;refine⟨λm hm=>?_,?_⟩;by_cases T:m=i;subst T;simp[rB,ah];rw[ue,gn<|dB T,<-ue];exact f m hm;rw[hN.same _ λe=>aE (aX i j af K e.y)];exact bz _ _ _ _ hM t
def eP.one{fuel j listed}(h:fS .any ops listed=[j])(c:∀is,(∀b e,eP Lf f0 P .any ops Q fuel (listed.setIfInBounds j M) b e->FO Lf f0 P ops Q is b e)->FO Lf f0 P ops Q (j::is) a u):eP Lf f0 P .any ops Q (fuel+1) listed a u:=⟨λg=>j4,λi d is f=>by rw[h]at d;obtain rfl:=iz.1 d;exact c is f⟩
def eP.none{listed}(h:fS .any ops listed=[])(c:Q .normal a u):eP Lf f0 P .any ops Q 0 listed a u:=⟨h,GO.nil c⟩
end
section
variable [an] {Q:Exit->Act->aq->Prop} {a:Act} {u:aq} {ops:aF ep} {i d k:Nat} {rest:av Nat} {o:ep} {Lf:aZ->av Nat} {f0:aZ}
def FO.adg{t:Nat}{ad:aV iL}{n c0:Nat}(l:∃e,prog.underlying t=Z (.slice e))(j:ops[i]? =Z o)(h:CX ops a o)(hd:o.dst=Z d)(g:o.op=.call {callee:=.builtin .len,args:=#[.tmp k],argTypes:=#[t]}) (hv:a.eval (.tmp k)=.slice ad n c0) (c:FO Lf f0 prog ops Q rest (a.put (Z d)<|I n) u):FO Lf f0 prog ops Q (i::rest) a u:=by
 obtain⟨p,q⟩:=l;exact FO.blind j h hd (λw=>by
  have m:=ev hv;unfold execOp;rw[g];go_simp) (λw=>by
  have m:=ev hv;unfold execOp;rw[g];go_simp) (az λr=>.int _ _) c
end
section
variable [an] {P:bM} {Q:Exit->Act->aq->Prop} {a:Act} {u:aq} {b:Frame} {cs:av Frame} {ops:aF ep} {i:Nat} {rest:av Nat} {o:ep} {Lf:aZ->av Nat} {f0:aZ}
def FO.Ss{d:Nat}(B:ops[i]? =Z o)(G:cY o (yielded ops a.tmps)=M){f:aZ}{fn:Func}{body:Code}{args:aF lU}{n:aF aY}(C:o.op=.call {callee:=.value<|.func f,args,argTypes:=n}) (hd:o.dst=Z d) (w:P.funcs[f]? =Z fn) (A:(fn.name== "runtime.NumGoroutine")=aa) (s:fn.body=Z body) (z:an.known f) (E:∀x:aF aB,results fn x=results fn (dU (Lf f) x)) (H:∀h,(∀(j:Nat) v,a.tmps[j]? =Z v->j∉Lf f0->VR h v v)->∀(j:Nat) v,(Frame.enter P f (args.map a.eval) .normal).tmps[j]? =Z v->j∉Lf f->VR h v v)
  (c:iT Lf P f (args.map a.eval) u λe m=>∃v,e=aG v/\FO Lf f0 P ops Q rest (a.put (Z d) v) m):FO Lf f0 P ops Q (i::rest) a u:=λb k cs g t D=>by
 refine GO.call B G C w A s z (λx=>by rw[<-g.2];exact E x) (λJ h K l r=>?_) ((c g.2).mono λe m ⟨v,p,q⟩=>⟨v,p,by rw[hd];exact q⟩) b k cs g t D;rw[<-g.2];exact H h (by rw[<-l.1,l.2];exact r.tmps)
def FO.S3{l:av aZ}{d:Nat}(t:Fit P l)(H:ops[i]? =Z o)(N:cY o (yielded ops a.tmps)=M){f:aZ}{fn:Func}{body:Code}{args:aF lU}{q:aF aY}(J:o.op=.call {callee:=.value<|.func f,args,argTypes:=q}) (hd:o.dst=Z d) (n:P.funcs[f]? =Z fn) (G:(fn.name== "runtime.NumGoroutine")=aa) (m:fn.body=Z body) (E:an.known f) (hv:Lf f=[]) (B:args.all (dY l)=M) (A:args.map a.eval=args.map (sP (Lf f0) a).eval)
  (c:dX P f (args.map a.eval) u λe p=>∃v,e=aG v/\FO Lf f0 P ops Q rest (a.put (Z d) v) p):FO Lf f0 P ops Q (i::rest) a u:=λb k cs g C K=>by
 have L:an.dU f=[]:=by rw[<-g.2];exact hv
 refine GO.call H N J n G m E (λx=>by rw[L,PI]) (λS O T h w=>GC n m λj v D _=>?_) (c.mono λe p ⟨v,r,s⟩=>⟨v,r,by rw[hd];exact s⟩) b k cs g C K;have z:∀(i:Nat) v,a.tmps[i]? =Z v->i∉Lf f0->VR O v v:=by rw[<-h.1,h.2];exact w.tmps
 have:=YQ (a:=sP (Lf f0) a) t.it (PK z) B;rw[<-A]at this;exact this.at j v D
def Di{f fn body}{args:aF aB}{L:av Nat}(g:P.funcs[f]? =Z fn)(e:fn.body=Z body)(h:∀(j:Nat) v,args[j]? =Z v->j∉L->∀ρ,VR ρ v v)(ρ j v)(hv:(Frame.enter P f args .normal).tmps[j]? =Z v)(l:j∉L):VR ρ v v:=GC g e (λj v a b=>h j v a b ρ) j v hv l
end
section
variable [an] {P:bM} {f:aZ} {fn:Func} {c:Code} {args:aF aB} {W:aq} {Lf:aZ->av Nat} {R:Ending->aq->Prop} {Post:aB->aq->Prop}
def agF(aJ:P=an.prog)(H:Lf=an.dU)(C:∀ρ (j:Nat) v,(Frame.enter P f args .normal).tmps[j]? =Z v->j∉Lf f->VR ρ v v)(hf:P.funcs[f]? =Z fn)(q:fn.body=Z c){t0}(A:fn.results=#[.tmp t0])(bu:P.inits.idxOf? f=aj)(hk:an.known f)(z:P.globals.size<=W.heap.size)(aN:∀b o,an.tY b=Z o->W.heap[b]? =Z o)
  (h:iT Lf P f args (mask (λ_=>False) W) R) (aL:∀e u,R e u->∃v,e=aG v) (aK:∀v s m,R (aG v) s->(∀b,b<W.heap.size->m.heap[b]? =W.heap[b]?)->W.heap.size<=m.heap.size->m.os=W.os->m.output=W.output->m.tape=W.tape->Post v m):
  ∃r last o m E,runNT P (r+1) (solo (G (Frame.enter P f args .normal) []) W) #[]=(.ended o m,E)/\runN P r (solo (G (Frame.enter P f args .normal) []) W)=.next last/\step P last=.ended o m/\Conc.Good P Post last o m E:=by
 rw[solo_eq_crowd];obtain⟨N,L,S',bB,p,bk,s,bn,m,aT,E,q',K,⟨rfl,aC,e,he,hR,aE⟩,w,t,_⟩:=h H [] _ _ _ _ _ aj _ _ (Wk (gs:=#[G (Frame.enter P f args .normal) []]) (S:=λ_=>False) (Own:=λ_=>False) aJ U (leavers_one P _) (past_nil.m<|cO _) (λi j h=>by simp[Trace.g?]at h) (λb q=>q.e) (λb h=>h.e) z (Zj hf q hk (H▸C _)) (λg z=>by cases z) λl h=>h.e) (λb o q=>⟨λx C=>C.2.e id id,aN b o q,λ_ _ h=>h⟩);obtain⟨v,rfl⟩:=aL e s hR;obtain⟨l1,l2,l3,bl,J,l5⟩:=aE;rw[aC,hf]at J;cases J
 have hv:v=p.tmps.getD t0 y:=by
  have:(results fn p.tmps).run P s=.ok (p.tmps.getD t0 y) s:=by simp[results,A]
  grind
 have hp:∀d,Post v (m.at d):=λd=>aK v s (m.at d) hR (λb q=>t.cm b q λa ha=>ha.2.e id id) t.size t.os t.output t.tape
 obtain⟨r,last,o,aX,aW,h1,h2,h3,h4⟩:=beside_ends (P:=P) (Shun:=L) (B:=m.heap.size) (D:=λ_ _ _=>False) (Post:=Post) (λ_ _ _ h=>h.e) (sl:=aT) (n:=0) w.Ao w.kV w.past (by
  rintro bA ⟨d,rfl⟩;refine⟨U,v,#[],?_,ay,hp d⟩;have O:(results fn p.tmps).run P (m.at d)=.ok v (m.at d):=by simp[results,A,hv]
  have T:(results fn p.tmps).events P (m.at d) #[]=#[]:=events_results_tmp A _ _;have V:P.funcs[p.fn]? =Z fn:=j4;have X:P.inits.idxOf? p.fn=aj:=j4;simp[G,stepG,unwind,doReturn,l1,l2,l3,V,O,T,X,seen,GStep.after])
 refine⟨N+r,last,o,aX,aW,?_,?_,h3,h4⟩
 rwa [show N+r+1=N+(r+1) by omega,Bf K]
 rwa [runN_add,<-runNT_fst P _ _ #[],K]
end
end
def lk:av (Nat×aB)->Nat->aV aB
 |[],_=>aj|p::l,k=>bif vY p.1 k then Z p.2 else lk l k
structure Fa(n:Nat)(a:Act)(L:av (Nat×aB)):Prop where
 size:a.tmps.size=n
 defers:a.defers=[]
 at_:∀k v,lk L k=Z v->a.eval (.tmp k)=v
def Gh(L:av (Nat×aB)):av (Nat×aB)->Prop
 |[]=>True|p::r=>lk L p.1=Z p.2/\Gh L r
def VO{L}:∀{c:av (Nat×aB)},Gh L c->∀k v,lk c k=Z v->lk L k=Z v
 |[],_,k,v,h=>by cases h
 |p::r,f,k,v,h=>by
  unfold lk at h;cases b:vY p.1 k with
  |true=>rw[b]at h;simp at h;rw[<-(zK b),<-h];exact f.1
  |false=>rw[b]at h;exact VO f.2 k v h
def Fa.sub{n a L aqe}(h:Fa n a L)(b:Gh L aqe):Fa n a aqe:=⟨h.size,h.defers,λk v e=>h.at_ k v (VO b k v e)⟩
def Fa.put{n d a L}(h:Fa n a L)(v)(hd:d<n):Fa n (a.put (Z d) v) ((d,v)::L):=
 ⟨(Xc _ _ _).t h.size,(put_defers _ _ _).t h.defers,λk x e=>by
  unfold lk at e;cases b:vY d k with
  |true=>rw[b]at e;have c:=zK b;simp at e;rw[<-c,<-e];exact Ty v (by rw[h.size];exact hd)
  |false=>
   rw[b]at e;have c:k≠d:=λx=>by rw[x,Nat.beq_refl]at b;cases b
   exact(Tx v c).t (h.at_ k x e)⟩
def iu(ops:aF ep)(L:av (Nat×aB)):aV (Nat×Bool)->Bool
 |none=>M|some (j,b)=>match(ops[j]?).bind (·.dst)with|none=>aa|some p=>match lk L p with|some (ω x)=>x==b|_=>aa
def fb(L:av (Nat×aB)):lU->aV aB
 |.tmp k=>lk L k|.const v=>Z v|_=>aj
def mW(B:av Nat)(n d:Nat)(xs:av lU):Bool:=decide (d<n)&&xs.all λx=>match x with|.tmp k=>!B.contains k|.const _=>M|_=>aa
section
variable [an] {l:av aZ} {a:Act} {ops:aF ep} {n d k:Nat} {o:ep} {v vx:aB} {x:lU} {L:av (Nat×aB)}
def Fa.wants(E:Fa n a L)(c:iu ops L o.guard=M)(m:∀j b p,o.guard=Z (j,b)->(ops[j]?).bind (·.dst)=Z p->p<n):CX ops a o:=by
 unfold CX cY;rcases hg:o.guard with _|q;rfl;let⟨j,b⟩:=q;rw[hg]at c;unfold iu at c;simp only at c;rcases hj:ops[j]? with _|oj;rw[hj]at c;cases c;rw[hj]at c;simp at c;cases e:oj.dst with
 |none=>rw[e]at c;cases c
 |some p=>
  rw[e]at c;simp only at c;cases f:lk L p with
  |none=>rw[f]at c;cases c
  |some r=>
   rw[f]at c;cases r<;>simp at c;rename_i x;have t:x=b:=j4;have i:p<a.tmps.size:=by rw[E.size];exact m j b p hg j4
   have g:a.tmps[p]? =Z (ω b):=by have h:=gi i;rw[h];have s:=ev (E.at_ p _ f);grind
   simp[yielded,hj,e,g]
def aaF(E:Fa n a L)(h:fb L x=Z vx):a.eval x=vx:=by
 cases x with
 |tmp k=>exact E.at_ k vx h
 |const v=>cases h;rfl
 |_=>cases h
def Au{B xs}(h:mW B n d xs=M):d<n:=by unfold mW at h;exact mM ((cQ _ _).mp h).1
def U7{B xs}(h:mW B n d xs=M)(c:x∈xs):(sP B a).eval x=a.eval x:=by
 unfold mW at h;have b:=nA.1 ((cQ _ _).mp h).2 x c;cases x with
 |tmp k=>refine zm λe=>?_;grind
 |const v=>rfl
 |_=>cases b
def U6{B xs}(h:mW B n d xs=M)(c:Operand.tmp k∈xs):k∉B:=λb=>by unfold mW at h;grind
def iH(ops:aF ep)(n:Nat):aV (Nat×Bool)->Bool
 |none=>M|some (j,_)=>match(ops[j]?).bind (·.dst)with|none=>M|some p=>decide (p<n)
def Fa.wt(E:Fa n a L)(f:(iu ops L o.guard&&iH ops n o.guard)=M):CX ops a o:=by have h:=(cQ _ _).mp f;refine E.wants h.1 λj b p e g=>?_;have c:=h.2;rw[e]at c;unfold iH at c;grind
def tK(L:av (Nat×aB)):av lU->aV (av aB)
 |[]=>Z []|x::r=>match fb L x,tK L r with|some v,Z b=>Z (v::b)|_,_=>aj
def Gl(E:Fa n a L):∀{xs:av lU} {vs:av aB},tK L xs=Z vs->xs.map a.eval=vs
 |[],vs,h=>by cases h;rfl
 |x::r,vs,h=>by
  unfold tK at h;cases b:fb L x with
  |none=>rw[b]at h;cases h
  |some v=>
   cases c:tK L r with
   |none=>rw[b,c]at h;cases h
   |some e=>rw[b,c]at h;cases h;rw[nC,aaF E b,Gl E c]
def Fa.add(h:Fa n a L)(e:a.eval (.tmp d)=v):Fa n a ((d,v)::L):=⟨h.size,h.defers,λk x b=>by
  unfold lk at b;cases c:vY d k with
  |true=>rw[c]at b;simp at b;rwa [<-zK c,<-b]
  |false=>rw[c]at b;exact h.at_ k x b⟩
def Wa:∀{L:av (Nat×aB)} {k:Nat} {v:aB},lk L k=Z v->k∈L.map Prod.fst
 |[],_,_,h=>by cases h
 |p::l,k,v,h=>by
  unfold lk at h;cases b:vY p.1 k with
  |true=>rw[<-zK b];exact fJ ..
  |false=>rw[b]at h;exact gC _<|Wa h
end
abbrev ic(xb sb N:Nat)(sz cl qu mx qn rt bu wk ou:Int)(W:aq):Prop:=iU xb sz cl qu mx qn rt bu wk ou W/\W.cell? (F xb 9)=Z (ζ (Z (F sb 0)) N N)
section
variable {xb sb N:Nat} {sz cl qu mx qn rt bu wk ou:Int} {W W':aq}
def ic.later(h:ic xb sb N sz cl qu mx qn rt bu wk ou W)(a:aK W W'):ic xb sb N sz cl qu mx qn rt bu wk ou W':=⟨h.1.later a,bH a h.2⟩
end
abbrev jp(b:Nat):aB:=aQ b
abbrev kF(n:Nat)(f:Nat->Nat):av aB:=(dA n).map λx=>jp (f x)
structure gK(w:aq)(a b:Nat)(v:aB)(n:Nat)(f:Nat->Nat):Prop where
 head:w.cell? (F a b)=Z v
 row:w.ownsRow 0 176 1 v n (kF n f)
 cm:Z a≠v.ownBlock
def gK.form{w hb ho n v f}(h:gK w hb ho v n f):∃a cap,v=ζ a n cap/\n<=cap/\cap<=cP:=by rcases h.row.2 with⟨b,c⟩|⟨g,cap,i,b,_,_,d,e,_⟩;exact⟨aj,0,by rw[b,c],Y,by unfold cP;omega⟩;exact⟨_,cap,b,d,e⟩
def Ir{n f x}(h:x<n):(kF n f)[x]? =Z (jp<|f x):=by simp[kF,h]
def gK.full{w hb ho n v f}(h:gK w hb ho v n f)(h0:0<n):∃g cap a,v=ζ (Z<|F g 0) n cap/\w.heap[g]? =Z (au a 176 (0,0))/\n<=cap/\cap<=cP/\a.size=cap/\hb≠g/\∀x,x<n->a[x]? =Z (jp<|f x):=by rcases h.row.2 with⟨b,c⟩|⟨g,cap,a,b,_,c,d,i,l,j⟩;omega;refine⟨g,cap,a,b,c,d,i,Y,λe=>h.cm (by rw[b,e];rfl),λx k=>?_⟩;have:=Ir (f:=f) k;rwa [<-j,vP,aO Y,zw]at this
def acs(hb ho n v f w)(h:gK w hb ho v n f):
  eZ 110 #[π<|Z<|F hb ho] w (I n):=by
 obtain⟨a,cap,rfl,_⟩:=h.form;have b:=h.head;go_enter func110,ntmps110;go_wp2;go_ret;exact⟨U,U⟩
def Vl(hb ho n v f w)(h:gK w hb ho v n f)(h0:0<n):
  eZ 106 #[π<|Z<|F hb ho] w (θ #[jp<|f 0,ω M]):=by
 obtain⟨g,cap,e,rfl,a,_,_,_,_,b⟩:=h.full h0;have c:=h.head;have d:=aD a (b 0 h0);have i:((n:Int)==0)=aa:=bV;have j:(0:Int)<(n:Int):=Y;go_enter func106,ntmps106;go_wp2
 go_ret2
 exact⟨U,U⟩
def WU(i:Nat)(h0:0<i)(a:i<=1048576)(w):
  eZ 255 #[I i] w (I (par i:Nat)):=by
 go_enter func255,ntmps255;go_wp2;go_ret;refine⟨?_,U⟩;have e:((i:Int)-1) / 2=((par i:Nat):Int):=j4
 rw[<-e];rfl
structure mj(w:aq)(j:Nat)(k:Key):Prop where
 due:w.cell? (F j 5)=Z (I k.1)
 order:w.cell? (F j 6)=Z (I k.2)
def Q2(i j)(a b:Key)(w)(h:mj w i a)(k:mj w j b):
  Calls prog 288 #[jp i,jp j] w λe o=>e=aG (ω<|eI a b)/\∃d,o=w.drewN d:=by
 obtain⟨l,m⟩:=h;obtain⟨d5,d6⟩:=k;obtain⟨a1,c⟩:=a;obtain⟨b1,f⟩:=b;dsimp only at l m d5 d6;generalize n:eI (a1,c) (b1,f)=z;cases p:decide (a1<b1)<;>cases q:(a1==b1)<;>cases r:decide (c<f)
 all_goals
  go_enter func288,ntmps288
  go_upto_region 1 with fail
  go_quiet (fail)
  go_wp2;go_ret;exact⟨by rw[<-(aX n).u];simp_all[eI],_,U⟩
def adI{d}(a w)(hd:d=prog.types.size+Made.depth):(method d 176 (π<|Z a) "Before").run prog w=.ok (288,π<|Z a) w:=by subst hd;kernel_rfl
def S4(x aqi w):(callFunc 288 #[x,aqi]).run prog w=.ok (.enter 288 #[x,aqi]) w:=by have a:(f288.name== "runtime.NumGoroutine")=aa:=aW;have b:f288.body.isNone=aa:=aW;unfold callFunc;simp only[Cn,run_program,FG,func288,a,b,ff,dM,KH]
def VC(hb ho n i k v f)(a:Nat->Key)(w)(h:gK w hb ho v n f)(j:i<n)(l:k<n)(z:n<=1048576)(b:∀x,x<n->mj w (f x) (a<|f x)):
  Calls prog 189 #[π<|Z<|F hb ho,I i,I k] w λe c=>e=aG (ω<|eI (a<|f i)<|a<|f k)/\∃d,c=w.drewN d:=by
 obtain⟨g,cap,u,rfl,p,_,_,_,_,q⟩:=h.full Y;have r:=h.head;have s:=aD p (q i j);have t:=aD p (q k l)
 have o:Hid (∀c,(∃d,c=w.drewN d)->mj c (f i) (a<|f i)/\mj c (f k) (a<|f k)):=by rintro c ⟨d,rfl⟩;exact⟨⟨(b i j).due,(b i j).order⟩,⟨(b k l).due,(b k l).order⟩⟩
 go_enter func189,ntmps189
 go_upto_region 1 with fail
 apply wp_region_quiet_lit aW aW
 iterate 15 (quiet_step (fail))
 refine wpQuiet_step<|λK b=>?_;go_simp;refine⟨ω<|eI (a<|f i)<|a<|f k,λm=>?_,b _ ?_⟩
 ·rw[adI _ _ aW,FG,S4];refine⟨U,Calls.quiet_of<|Q2 (f i) (f k) (a<|f i) (a<|f k) (w.drewN m) (o _ ⟨m,U⟩).1 (o _ ⟨m,U⟩).2⟩
 quiet_step (fail)
 apply wpQuiet_nil;rintro _ ⟨m,rfl⟩;go_wp2;go_ret;exact⟨U,_,U⟩
def tM{W:aq}{a b o x u v}(h:W.cell? (F a o)=Z v)(c:a≠b):(W.setCell (F b x) u).cell? (F a o)=Z v:=by rwa [iO<|bC c]
def gK.swap{w a ho n i k g cap f cur}(h:gK w a ho (ζ (Z<|F g 0) n cap) n f)(r:i<n)(s:k<n)(p:w.heap[g]? =Z (au cur 176 (0,0)))(q:n<=cap)(hm:cap<=cP)(hc:cur.size=cap)(m:a≠g)(c:∀x,x<n->cur[x]? =Z (jp<|f x))(d):
  gK (((w.drewN d).setCell (F g i)<|jp<|f k).setCell (F g k)<|jp<|f i) a ho (ζ (Z<|F g 0) n cap) n (gZ f i k)/\aS (·=g) w (((w.drewN d).setCell (F g i)<|jp<|f k).setCell (F g k)<|jp<|f i):=by
 refine⟨⟨tM (tM h.head m) m,⟨by simp[kF],az ⟨g,cap,_,U,cO _,(bG (bG p i (jp<|f k)) k<|jp<|f i),q,hm,bV,(by
    refine ux λx=>?_;rw[vP];split;rename_i h;have l:x<n:=Y;rw[Ir l,zw];unfold gZ;by_cases e:x=k;subst e;grind;rw[gn Y,aI e];by_cases j:x=i;subst j;rw[PU,aO Y,aO U];rw[gn Y,aI j];exact c x l;exact(Kl bV).y)⟩⟩,h.cm⟩,U,ay,λb a c=>?_⟩
 exact(bC c).t<|bC c
def Yt(j ho n i k v f w)(h:gK w j ho v n f)(s:i<n)(t:k<n)(Q:i≠k):
  Calls prog 190 #[π<|Z<|F j ho,I i,I k] w λe p=>e=aG (θ #[])/\gK p j ho v n (gZ f i k)/\aS (λb=>Z b=v.ownBlock) w p:=by
 obtain⟨g,cap,u,rfl,o,z,A,B,m,l⟩:=h.full Y;have c:=h.head;have H:=aD o (l i s);have J:=aD o (l k t);have fz:∀x,w.frozen? (F g x)=aa:=λx=>bp o x;have r:=bG (show(w.drewN 1).heap[g]? =Z (au u 176 (0,0)) from o) i (jp<|f k);have L:∀x,((w.drewN 1).setCell (F g i)<|jp<|f k).frozen? (F g x)=aa:=λx=>bp r x;have q:=h.swap s t o z A B m l 1;have d:=aX q;have O:(i:Int)<(n:Int):=Y;have P:(k:Int)<(n:Int):=Y;clear h l o q r;go_enter func190,ntmps190
 go_upto_region 0 with fail
 refine ga (S:=λp=>p.cell? (F j ho)=Z (ζ (Z<|F g 0) n cap)) c λN=>?_;apply tl [0,1,2,3,4,5,6,7];apply tl [8,9,10,11,12,13,14,15];apply tl [17,18,19,20,21,22];refine aH [16,23]<|.cons U (λK a=>?_) ?_
 ·go_simp;refine a _ _ c<|λC=>?_;clear a K;refine rH 23 λK a=>?_;go_simp;refine a _ _ c<|λD=>?_;clear a K;apply tl [24];refine rH 25 λK a=>?_;go_simp;refine a _ _ (tM c m)<|λE=>?_;clear a K;apply tl [26];refine rH 27 λK a=>?_;go_simp;refine a _ _ (tM (tM c m) m)<|λG=>?_;clear a K;refine dJ ?_;(go_wp2;refine fC U U ⟨U,d.1,d.2.os,d.2.size,λb j l=>d.2.block b j λe=>l C1⟩)
 refine .cons U (λK a=>?_) .nil;go_simp;refine a _ _ c<|λC=>?_;clear a K;refine rH 16 λK a=>?_;go_simp;refine a _ _ c<|λD=>?_;clear a K;apply tl [24];refine rH 25 λK a=>?_;go_simp;refine a _ _ (tM c m)<|λE=>?_;clear a K;apply tl [26];refine rH 27 λK a=>?_;go_simp;refine a _ _ (tM (tM c m) m)<|λG=>?_;clear a K;refine dJ ?_
 (go_wp2;refine fC U U ⟨U,d.1,d.2.os,d.2.size,λb j l=>d.2.block b j λe=>l C1⟩)
structure mq(n:Nat)(f f':Nat->Nat):Prop where
 aN:∀x,x<n->∃a,a<n/\f' x=f a
 all:∀a,a<n->∃x,x<n/\f' x=f a
 one:(∀x a,x<n->a<n->f x=f a->x=a)->∀x a,x<n->a<n->f' x=f' a->x=a
def mq.refl(n f):mq n f f:=⟨λx h=>⟨x,h,U⟩,λx h=>⟨x,h,U⟩,λh=>h⟩
def mq.trans{n f g h}(a:mq n f g)(b:mq n g h):mq n f h:=
 ⟨λx d=>by let⟨k,i,e⟩:=b.aN x d;let⟨z,j,c⟩:=a.aN k i;exact⟨z,j,e.t c⟩,
  λz j=>by let⟨k,i,e⟩:=a.all z j;let⟨x,d,c⟩:=b.all k i;exact⟨x,d,c.t e⟩,λo=>b.one (a.one o)⟩
abbrev mq.t:=@mq.trans
def mq.gZ{n i k}(f)(g:i<n)(h:k<n):mq n f (gZ f i k):=by refine⟨λx j=>?_,λd l=>?_,λo x d j l e=>?_⟩;by_cases a:x=i;exact⟨k,h,R3⟩;by_cases b:x=k;exact⟨i,g,by subst b;simp[Proofs.YtpobhljcainmdabGreat.gZ,a]⟩;exact⟨x,j,L8⟩;by_cases a:d=k;exact⟨i,g,R3⟩;by_cases b:d=i;refine⟨k,h,?_⟩;subst b;unfold Proofs.YtpobhljcainmdabGreat.gZ;rw[aI<|λe=>a e.y,aO U];exact⟨d,l,L8⟩;simp only[Proofs.YtpobhljcainmdabGreat.gZ]at e;by_cases a:x=i;by_cases b:d=i;omega;rw[aO a,aI b]at e;by_cases c:d=k;rw[aO c]at e;have:=o _ _ h g e;omega;rw[aI c]at e;have:=o _ _ h l e;omega;rw[aI a]at e;by_cases m:x=k;rw[aO m]at e;by_cases b:d=i;rw[aO b]at e;have:=o _ _ g h e;omega;rw[aI b]at e;by_cases c:d=k;omega;rw[aI c]at e;have:=o _ _ g l e;omega;rw[aI m]at e;by_cases b:d=i;rw[aO b]at e;have:=o _ _ j h e;omega;rw[aI b]at e;by_cases c:d=k;rw[aO c]at e;have:=o _ _ j g e;omega;rw[aI c]at e;exact o _ _ j l e
def VE(K:Nat->Key)(f i k):(λx=>K (gZ f i k x))=gZ (λx=>K (f x)) i k:=by funext x;simp only[gZ];grind
def mj.cy{w w' j k X}(h:mj w j k)(c:aS X w w')(b:¬X j):mj w' j k:=by have a:=c.block j (jo h.due) b;exact⟨(iO a).t h.due,(iO a).t h.order⟩
def Keyed(w:aq)(v:aB)(n:Nat)(f:Nat->Nat)(K:Nat->Key):Prop:=∀x,x<n->mj w (f x) (K<|f x)/\Z (f x)≠v.ownBlock
def Keyed.mix{w w' v n f f' K}(h:Keyed w v n f K)(m:mq n f f')(d:aS (λb=>Z b=v.ownBlock) w w'):Keyed w' v n f' K:=λx g=>by let⟨c,a,e⟩:=m.aN x g;rw[e];exact⟨(h c a).1.cy d (h c a).2,(h c a).2⟩
def Keyed.drewN{w v n f K}(h:Keyed w v n f K)(d):Keyed (w.drewN d) v n f K:=λx a=>⟨⟨(h x a).1.due,(h x a).1.order⟩,(h x a).2⟩
def gK.drewN{w hb ho n v f}(h:gK w hb ho v n f)(d):gK (w.drewN d) hb ho v n f:=⟨h.head,h.row,h.cm⟩
structure Ah(w W:aq)(a c:Nat)(v:aB)(n:Nat)(f:Nat->Nat)(K:Nat->Key)(q:Nat)(f':Nat->Nat):Prop where
 heap:gK W a c v n f'
 keys:Keyed W v n f' K
 mix:mq n f f'
 up:yp n (λx=>K (f' x)) q
 cy:aS (λb=>Z b=v.ownBlock) w W
def Ah.drewN{w W hb ho n q v f f' K}(h:Ah w W hb ho v n f K q f')(d):Ah w (W.drewN d) hb ho v n f K q f':=⟨h.heap.drewN d,h.keys.drewN d,h.mix,h.up,⟨h.cy.os,h.cy.size,h.cy.block⟩⟩
def agt(hb ho n i v f K0 w)(h:gK w hb ho v n f)(C:i<n)(D:n<=1048576)(B:Keyed w v n f K0)(A:yp n (λx=>K0 (f x)) i):
  Calls prog 242 #[π<|Z<|F hb ho,I i] w λe g=>e=aG (θ #[])/\∃c,gK g hb ho v n c/\mq n f c/\Hp n (λx=>K0 (c x))/\aS (λb=>Z b=v.ownBlock) w g:=by
 have r:Hid (Ah w w hb ho v n f K0 i f):=⟨h,B,mq.refl _ _,A,aS.refl _ _⟩;go_enter func242,ntmps242;go_wp2
 go_loopw [1] (λp wr=>∃q c,p=I (q:Nat)/\q<n/\Hid (Ah w wr hb ho v n f K0 q c)) (λp _=>(dw p).toNat)
 case atStart=>exact⟨i,f,U,C,r⟩
 case round=>
  obtain⟨q,c,rfl,k,hR⟩:=hrel;by_cases h0:q=0;·subst h0;go_wp2;have R:=hR;exact fC U U ⟨U,c,R.heap,R.mix,R.up.done<|aA U,R.cy⟩
  have G:(0:Int)<(q:Int):=Y;have j:par q<n:=j4;have l:Hid (∀d,Calls prog 189 #[π<|Z<|F hb ho,I q,I (par q:Nat)] (wr.drewN d) λe g=>e=aG (ω<|eI (K0<|c q)<|K0<|c<|par q)/\∃z,g=wr.drewN (d+z)):=λd=>by apply(VC hb ho n q (par q) v c K0 (wr.drewN d) (hR.heap.drewN d) k j D<|λx E=>((hR.keys.drewN d) x E).1).m;rintro e g ⟨rfl,m,rfl⟩;exact⟨U,m,I3 ..⟩
  rcases lD:eI (K0<|c q) (K0<|c<|par q)with _|_
  ·rw[lD]at l;go_wp2_with (first
    |(go_at_call 255;apply(WU q Y Y _).m;rintro e o ⟨rfl,rfl⟩)|(go_at_call 189;apply(l 0).m;rintro e o ⟨rfl,d,rfl⟩))
   have R:=hR.drewN d;exact fC U U ⟨U,c,R.heap,R.mix,R.up.done<|az lD,R.cy⟩
  rw[lD]at l;have u:Hid (∀d,Calls prog 190 #[π<|Z<|F hb ho,I q,I (par q:Nat)] (wr.drewN d) λe g=>e=aG (θ #[])/\Ah w g hb ho v n f K0 (par q) (gZ c q<|par q)):=λd=>by have R:=hR.drewN d;refine(Yt hb ho n q (par q) v c (wr.drewN d) R.heap k j (by simp only[par];omega)).m ?_;rintro e g ⟨rfl,a,b⟩;refine⟨U,a,R.keys.mix (.gZ c k j) b,R.mix.t<|.gZ c k j,?_,R.cy.t b⟩;rw[VE];exact R.up.step Y k lD
  go_wp2_with (first
   |(go_at_call 255;apply(WU q Y Y _).m;rintro e o ⟨rfl,rfl⟩)|(go_at_call 189;apply(l 0).m;rintro e o ⟨rfl,d,rfl⟩)|(go_at_call 190;apply(u _).m;rintro e o ⟨rfl,t⟩;have s:=aX t))
  refine⟨⟨par q,_,?_,j,s⟩,?_⟩;have e:(((q-1:Nat):Int) / 2)=((par q:Nat):Int):=by simp only[par];omega
  rw[e];simp[dw];omega
def afp(n f j):kF n f++[jp j]=kF (n+1) (λx=>if x=n then j else f x):=by
 unfold kF;rw[uB,sV]
 congr 1;refine rN λx a=>?_;grind;simp
def acF:(prog.info? 176).map (λi=>(i.zero,i.size,i.bytes))=Z (Z<|π aj,1,8):=aW
abbrev more(f:Nat->Nat)(n j:Nat):Nat->Nat:=λx=>if x=n then j else f x
def afr{w W hb ho n j g cap v f K kU x}{m:aY}(q:w.heap[hb]? =Z (au kU m (0,0)))(u:kU[ho]? =Z v)(Q:m≠176)(af:w.ownsRow 0 176 1 v n (kF n f))(P:Keyed w v n f K)(S:∀x,x<n->f x≠hb)(z:mj w j (K j))(A:Z j≠v.ownBlock)(V:j≠hb)(R:W.ownsRow 0 176 1 (ζ (Z<|F g 0) (n+1) cap) (n+1) (kF n f++[jp j]))(r:(w.alloc<|au x 176).grownBy W v.ownBlock)(t:v.ownBlock=Z g\/g=w.heap.size+1):
  W.cell? (F hb ho)=Z v/\W.frozen? (F hb ho)=aa/\(W.setCell (F hb ho)<|ζ (Z<|F g 0) (n+1) cap).heap[hb]? =Z (au (kU.setIfInBounds ho<|ζ (Z<|F g 0) (n+1) cap) m (0,0))/\
  gK (W.setCell (F hb ho)<|ζ (Z<|F g 0) (n+1) cap) hb ho (ζ (Z<|F g 0) (n+1) cap) (n+1) (more f n j)/\Keyed (W.setCell (F hb ho)<|ζ (Z<|F g 0) (n+1) cap) (ζ (Z<|F g 0) (n+1) cap) (n+1) (more f n j) K/\
  aS (λb=>b=hb\/Z b=v.ownBlock) w (W.setCell (F hb ho)<|ζ (Z<|F g 0) (n+1) cap):=by
 have X:=(bf.1 q).1
 have B:Z hb≠v.ownBlock:=λe=>by rcases af.2 with⟨c,_⟩|⟨G,D,s,c,_,d,_⟩;rw[c]at e;cases e;rw[c]at e;cases e;rw[q]at d;cases d;exact Q rfl
 have C:hb≠g:=λe=>by rcases t with h|h;exact B (by rw[h,e]);omega
 have old:∀b,b<w.heap.size->Z b≠v.ownBlock->W.heap[b]? =w.heap[b]? :=λb p l=>(r.block b bV l).t (Below.heap_alloc w _ b p);have o:=(old hb X B).t q;have d:=bG o ho (ζ (Z<|F g 0) (n+1) cap);have ah:=r.size;simp at ah
 have cy:aS (λb=>b=hb\/Z b=v.ownBlock) w (W.setCell (F hb ho)<|ζ (Z<|F g 0) (n+1) cap):=⟨by show W.os=w.os;rw[r.os];rfl,bV,λb p l=>(bC<|λe=>l (aA e)).t (old b p λe=>l (az e))⟩
 have T:=(bf.1 u).1;have key:∀i k,mj w i k->Z i≠v.ownBlock->i≠hb->mj (W.setCell (F hb ho)<|ζ (Z<|F g 0) (n+1) cap) i k:=λi k h c d=>h.cy cy (λe=>e.e d c)
 have cm:∀i k,mj w i k->Z i≠v.ownBlock->Z i≠(fM (Z<|F g 0) (n+1) cap).ownBlock:=λi k h c e=>by have E:i=g:=D4;rcases t with h'|h';exact c (by rw[h',E]);have:=jo h.due;simp only at this;omega
 refine⟨aD o u,bp o _,d,⟨aD d (by simp[T]),⟨by simp[kF],?_⟩,λe=>C D4⟩,λx l=>?_,cy⟩;rcases R.2 with⟨h,_⟩|⟨G,D,s,c,d,H,J,L,N,O⟩;cases h;cases c;exact az ⟨g,cap,s,rfl,d,(bC<|λe=>C e.y).t H,J,L,N,by rw[O,afp]⟩;simp only[more]
 by_cases e:x=n
 rw[aO e];exact⟨key j _ z A V,cm j _ z A⟩;rw[aI e]
 let⟨a,b⟩:=P x Y
 exact⟨key _ _ a b<|S x Y,cm _ _ a b⟩
def afq(a ho n j v f K0 kU Th w)(p:w.heap[a]? =Z (au kU Th (0,0)))(z:kU[ho]? =Z v)(K:Th≠176)(B:w.ownsRow 0 176 1 v n (kF n f))(hn:n<1048576)(J:Keyed w v n f K0)(L:∀x,x<n->f x≠a)(P:mj w j (K0 j))(R:Z j≠v.ownBlock)(Q:j≠a)(H:Hp n λx=>K0 (f x)):
  Calls prog 206 #[π<|Z<|F a ho,jp j] w λe r=>e=aG (θ #[])/\∃l d,r.heap[a]? =Z (au (kU.setIfInBounds ho l) Th (0,0))/\r.ownsRow 0 176 1 l (n+1) (kF (n+1) d)/\mq (n+1) (more f n j) d/\Hp (n+1) (λx=>K0 (d x))/\aS (λb=>b=a\/Z b=v.ownBlock) w r/\(l.ownBlock=v.ownBlock\/∀g,l.ownBlock=Z g->w.heap.size<=g):=by
 let⟨iP,O,V,W,X⟩:=nG acF
 have aT:=(bf.1 p).1;have c0:=aD p z;have HM:Hid (w.heap[a]? =Z (au kU Th (0,0))/\w.ownsRow 0 176 1 v n (kF n f)/\Keyed w v n f K0/\mj w j (K0 j)):=⟨p,B,J,P⟩;have A:a≠w.heap.size:=Y;go_enter func206,ntmps206
 go_wp2_with (first
  |(at_builtin;have _t:=trivial;refine wpList_append_lies _ n7 _ _ 58 n7 0 176 iP _ 1 8 underlying58 O V W X n7 Y v n (kF n f) n7 (B.alloc _) ⟨w.heap.size,0,aj⟩ 1 1 [jp j] n7 n7 (wu<|heap_alloc_new w _) ack Y B5 Y ay (w.heap.size+1) ay ?_;intro g cap m S N u aW;let⟨m1,m2,m3,C,m5,m6⟩:=afr HM.1 z K HM.2.1 HM.2.2.1 L HM.2.2.2 R Q S N u;have o:Hid ((m.setCell (F a ho)<|ζ (Z<|F g 0) (n+1) cap).heap[a]? =Z (au (kU.setIfInBounds ho<|ζ (Z<|F g 0) (n+1) cap) Th (0,0))/\
  gK (m.setCell (F a ho)<|ζ (Z<|F g 0) (n+1) cap) a ho (ζ (Z<|F g 0) (n+1) cap) (n+1) (more f n j)/\Keyed (m.setCell (F a ho)<|ζ (Z<|F g 0) (n+1) cap) (ζ (Z<|F g 0) (n+1) cap) (n+1) (more f n j) K0/\
  aS (λb=>b=a\/Z b=v.ownBlock) w (m.setCell (F a ho)<|ζ (Z<|F g 0) (n+1) cap)/\(v.ownBlock=Z g\/g=w.heap.size+1)):=⟨m3,C,m5,m6,u⟩;have c4:=C.head)
  |(go_at_call 242;apply(agt a ho (n+1) n _ (more f n j) K0 _ o.2.1 Y Y o.2.2.1 (by
     refine⟨λx h0 q A=>?_,λh0 c hc aQ T=>?_⟩;have h1:par x<n:=by simp only[par];omega
     have:=H x h0 Y;simp only[more];rwa [aI Y,aI A];simp only[par]at T;omega)).m;rintro e w5 ⟨rfl,d,D,r2,r3,k⟩))
 let⟨a1,a2,a3,i,s⟩:=o
 refine fC U U ⟨U,_,d,(k.block a (bf.1 a1).1 D.cm).t a1,D.row,r2,r3,⟨k.os.t i.os,cM i.size k.size,λb a q=>(k.block b (cS a i.size)<|λe=>?_).t (i.block b a q)⟩,?_⟩;have t:b=g:=D4
 rcases s with h|h;exact q (az (by rw[h,t]));omega;rcases s with h|h;exact aA (by rw[h];rfl);refine az λG e=>?_;have t:g=G:=D4
 omega
structure Ak(w W:aq)(a c:Nat)(v:aB)(n:Nat)(f:Nat->Nat)(K:Nat->Key)(q:Nat)(f':Nat->Nat):Prop where
 heap:gK W a c v n f'
 keys:Keyed W v n f' K
 mix:mq n f f'
 dn:ym n (λx=>K (f' x)) q
 cy:aS (λb=>Z b=v.ownBlock) w W
def Ak.drewN{w W hb ho n q v f f' K}(h:Ak w W hb ho v n f K q f')(d):Ak w (W.drewN d) hb ho v n f K q f':=⟨h.heap.drewN d,h.keys.drewN d,h.mix,h.dn,⟨h.cy.os,h.cy.size,h.cy.block⟩⟩
def qS(n:Nat)(f:Nat->Key)(q:Nat):Nat->Nat
 |0=>q|k+1=>kT n f q (2*q+1+k) (qS n f q k)
def Uj(n f q):∀k,qS n f q k<=2*q+k
 |0=>by simp only[qS];omega|k+1=>by have:=Uj n f q k;simp only[qS,kT];split<;>omega
def YP{P fn R a w}(hr:fn.results=#[])(hd:a.defers=[])(h:R (aG<|θ #[]) w):FJ P fn R Qf a w:=⟨hd,θ #[],L4,h⟩
def ahp(hb ho n i v f j w)(h:gK w hb ho v n f)(V:i<=n)(hn:n<=1048576)(Q:Keyed w v n f j)(P:ym n (λx=>j (f x)) i):
  Calls prog 156 #[π<|Z<|F hb ho,I i] w λe l=>e=aG (θ #[])/\∃g,gK l hb ho v n g/\mq n f g/\Hp n (λx=>j (g x))/\aS (λb=>Z b=v.ownBlock) w l:=by
 have H:Hid (Ak w w hb ho v n f j i f):=⟨h,Q,mq.refl _ _,P,aS.refl _ _⟩;go_enter func156,ntmps156;go_wp2
 go_loopw [1,4,5] (λD _ _ wr=>∃q g,D=I (q:Nat)/\q<=n/\Hid (Ak w wr hb ho v n f j q g)) (λD _ _ _=>n-(dw D).toNat)
 case atStart=>exact⟨i,f,U,V,H⟩
 case round=>
  obtain⟨q,g,rfl,hq,hR⟩:=hrel;let⟨sa,cap,hv,S,X⟩:=hR.heap.form;have O:∀d,(wr.drewN d).cell? (F hb ho)=Z (ζ sa n cap):=λd=>hv▸hR.heap.head;clear hv S X;have L:Hid (∀d x p,x<n->p<n->Calls prog 189 #[π<|Z<|F hb ho,I (x:Nat),I (p:Nat)] (wr.drewN d) λe l=>e=aG (ω<|eI (j<|g x)<|j<|g p)/\∃u,l=wr.drewN (d+u)):=λd x p C hy=>by apply(VC hb ho n x p v g j (wr.drewN d) (hR.heap.drewN d) C hy hn<|λx C=>((hR.keys.drewN d) x C).1).m;rintro e l ⟨rfl,m,rfl⟩;exact⟨U,m,I3 ..⟩
  go_wp2;go_loopw [4,5] (λm c wi=>∃k:Nat,k<=2/\c=I ((2*q+1+k:Nat):Int)/\m=I (qS n (λx=>j (g x)) q k:Nat)/\∃d,wi=wr.drewN d) (λ_ c _=>2*q+3-(dw c).toNat);case atStart=>exact⟨0,Y,by go_num,U,0,U⟩
  case round=>
   obtain⟨k,hk,rfl,rfl,d,rfl⟩:=hrel;have aC:=Uj n (λx=>j (g x)) q k;generalize hm:qS n (λx=>j (g x)) q k=m at*;have c1:=O d;by_cases aE:k<2
   ·have W:((2*q+1+k:Nat):Int)<=2*(q:Int)+2:=Y;generalize z:2*q+1+k=c at*
    by_cases A:c<n
    ·have T:(c:Int)<(n:Int):=Y;have r:=L d c m A Y;cases s:eI (j<|g c) (j<|g m)with
     |true=>
      have o:qS n (λx=>j (g x)) q (k+1)=c:=by simp only[qS,kT,hm,z];exact aO ⟨A,s⟩
      rw[s]at r;go_wp2_with (go_at_call 189;apply r.m;rintro e G ⟨rfl,u,rfl⟩);refine⟨⟨k+1,Y,by go_num,by rw[o],_,U⟩,?_⟩;simp[dw];omega
     |false=>
      have o:qS n (λx=>j (g x)) q (k+1)=m:=by simp only[qS,kT,hm,z];exact aI (λh=>by rw[s]at h;cases h.2)
      rw[s]at r;go_wp2_with (go_at_call 189;apply r.m;rintro e G ⟨rfl,u,rfl⟩);refine⟨⟨k+1,Y,by go_num,by rw[o],_,U⟩,?_⟩;simp[dw];omega
    have T:¬(c:Int)<(n:Int):=Y;have o:qS n (λx=>j (g x)) q (k+1)=m:=by simp only[qS,kT,hm,z];exact aI<|λh=>A h.1
    go_wp2;refine⟨⟨k+1,Y,by go_num,by rw[o],_,U⟩,?_⟩;simp[dw];omega
   obtain rfl:k=2:=Y;have W:¬((2*q+1+2:Nat):Int)<=2*(q:Int)+2:=Y;have B:=hm;by_cases t:m=q;·subst t;go_wp2;have R:=hR.drewN d;exact YP U U ⟨U,g,R.heap,R.mix,R.dn.done B,R.cy⟩
   have aH:((m:Int)==(q:Int))=aa:=bV;let⟨l1,E,l3,l4⟩:=Up B t;have N:Hid (Calls prog 190 #[π<|Z<|F hb ho,I q,I m] (wr.drewN d) λe l=>e=aG (θ #[])/\Ak w l hb ho v n f j m (gZ g q m)):=by have R:=hR.drewN d;apply(Yt hb ho n q m v g (wr.drewN d) R.heap Y E<|λe=>t e.y).m;rintro e l ⟨rfl,a,b⟩;refine⟨U,a,R.keys.mix (.gZ g Y E) b,R.mix.t<|.gZ g Y E,?_,R.cy.t b⟩;rw[VE];exact R.dn.step B t
   go_wp2_with (go_at_call 190;apply N.m;rintro e G ⟨rfl,K⟩;have J:=aX K);refine⟨⟨m,_,U,Y,J⟩,?_⟩;simp[dw];omega
def yU{P o a w w' K Q aqi sl x}{t u:aY}{v v' z}(d:cY o aqi=M)(b:o.op=.call {callee:=.builtin .append,args:=#[sl,x],argTypes:=#[t,u]}) (c:a.eval sl=v) (e:a.eval x=z) (hr:(rD #[t,u] o.type #[v,z]).run P w=.ok v' w') (h:K (a.put o.dst v') w'):
  if cY o aqi=M then tr P o a w K Q else K (a.put o.dst y) w:=by
 rw[aO d];unfold tr execOp;simp only[b,resolve,invoke,builtin,Cn,KH,FG,sW,nC,xR,c,e,hr];exact h
def sO{T g}:∀(xs:av aB) (o:Nat) (W:aq) (a:aF aB),W.heap[g]? =Z (au a T (0,0))->
  ∃b,(W.setCells g o xs).heap[g]? =Z (au b T (0,0))/\b.size=a.size/\(∀i,i<o\/o+xs.length<=i->b[i]? =a[i]?)/\(∀i u,xs[i]? =Z u->o+i<a.size->b[o+i]? =Z u)/\(∀k,k≠g->(W.setCells g o xs).heap[k]? =W.heap[k]?)/\(W.setCells g o xs).heap.size=W.heap.size/\(W.setCells g o xs).os=W.os:=by
 intro xs;induction xs with
 |nil=>exact λo W a h=>⟨a,h,U,λ_ _=>U,λi u d=>by simp at d,λ_ _=>U,U,U⟩
 |cons x xs q=>
  intro o W a h;let⟨e,f,j,l,r,m,n,p⟩:=q (o+1) (W.setCell (F g o) x) _ (bG h o x);refine⟨e,f,by rw[j];simp,λi s=>?_,λi u d t=>?_,λk c=>(m k c).t (bC c),n.t ay,p.t U⟩;rw[l i j4];exact gn j4;cases i with
  |zero=>grind
  |succ i=>grind
def aab(s a L cap)(b:s=ζ a L cap)(hc:L<=cap)(hm:cap<=cP)(w):
  eZ 167 #[s,I 0,I 0] w s:=by
 subst b;unfold cP at hm;go_enter func167,ntmps167;go_wp2
 all_goals (go_ret;exact⟨U,U⟩)
abbrev Ta(w:aq)(g L n:Nat)(news:av aB):aq:=(w.drew.setCells g 0 news).setCells g (L-n) (rP n (ι .u8 0))
def aac(g L cap n news cur w)(h0:0<n)(J:n<=L)(hc:L<=cap)(hm:cap<=cP)(hl:news.length=L-n)(k:∀u∈news,u.oneCell'=M)(a:w.heap[g]? =Z (au cur 5 (0,0)))(N:cur.size=cap)(c:∀j u,news[j]? =Z u->cur[n+j]? =Z u):
  Calls prog 167 #[ζ (Z<|F g 0) L cap,I 0,I n] w λe B=>e=aG (ζ (Z<|F g 0) (L-n) cap)/\B=Ta w g L n news:=by
 have c:∀j u,news[j]? =Z u->w.cell? (F g<|n+j)=Z u:=λj u b=>aD a (c j u b);have o:∀j,j<L->(w.cell?<|F g j).isSome=M:=λj d=>by rw[aD a<|gi Y];rfl
 have m:∀j,w.frozen? (F g j)=aa:=λj=>bp a j
 let⟨q,x,O,z,Q⟩:=nG infoByte
 obtain⟨A,C,p⟩:∃A:iL,(if cap=n then Z (⟨g,0,aj⟩:iL)else Z ⟨g,n,aj⟩)=Z A/\(∀t u,news[t]? =Z u->w.drew.cell? (A.add t)=Z u):=by by_cases h:cap=n;refine⟨⟨g,0,aj⟩,akV,λt u b=>?_⟩;have e:news.length=0:=Y;rw[vQ.1 e]at b;simp at b;exact⟨⟨g,n,aj⟩,akV,λt u b=>by rw[Bw];exact c t u b⟩
 have r:Hid ((rD #[99,99] 99 #[ζ (Z<|F g 0) 0 cap,ζ (Z A) (L-n)<|cap-n]).run prog w.drew=.ok (ζ (Z<|F g 0) (0+(L-n)) cap) (w.drew.setCells g (0+0*q.size) news)):=KZ (P:=prog) w.drew 99 99 5 q underlying99 x g 0 0 cap A (L-n) (cap-n) news (by rw[z,hl];omega) p k Y (λj d=>by rw[xX,jM];exact(o j Y)) (λj d=>by rw[xX,jM];exact m j)
 have hv:=zeroValue5
 have H:∀i,(um #[99] i #[ζ (Z<|F g<|L-n) (L-(L-n))<|cap-(L-n)]).run prog (w.drew.setCells g 0 news)=.ok (θ #[]) (Ta w g L n news):=λi=>by have:=Lib.run_clear_slice (P:=prog) (w.drew.setCells g 0 news) 99 5 i (ι .u8 0) underlying99 hv U U g (L-n) (L-(L-n)) (cap-(L-n)) Y ?_ ?_;rw[this,show L-(L-n)=n by omega];intro j d;let⟨s,f,v,_⟩:=sO news 0 w.drew cur a;rw[aD f<|gi Y];rfl;intro j d;let⟨s,f,v,_⟩:=sO news 0 w.drew cur a;exact bp f _
 unfold cP at hm;have G:((0:Int)==(n:Int))=aa:=bV;clear p c o m k hv a;go_enter func167,ntmps167
 go_upto_region 5 with fail
 refine ga (S:=λ_=>True) trivial λE=>?_;apply tl [0,1,2,3,4,5];refine rH 6 λK l=>?_
 (refine yU U U U U r ?_;simp)
 refine l _ _ (trivial)<|λD=>?_;clear l K;apply tl [7];refine dJ ?_
 (go_wp2;go_ret;exact⟨U,U⟩)
def IM{P}(w t e ty z)(f:P.underlying t=Z (.slice e))(hv:∀w,(zeroValue e).run P w=.ok z w)(b o n c)(h:0<n)(zs)(g:(qA z.cells n).toList=zs)(d:∀u∈zs,u.oneCell'=M)(hc:∀j,j<zs.length->(w.cell?<|F b<|o+j).isSome=M)(hf:∀j,j<zs.length->w.frozen? (F b<|o+j)=aa):
  (um #[t] ty #[.slice (Z<|F b o) n c]).run P w=.ok (.tuple #[]) (w.setCells b o zs):=by
 have a:=I7 (P:=P) b o zs 0 w Y Y d;simp at a;obtain⟨m,rfl⟩:∃m,n=m+1:=⟨n-1,Y⟩;simp[um,Cx f,hv,g,a]
def Tc{w T k g cap n cur news zs}(m:w.heap[g]? =Z (au cur T (0,0)))(t:cur.size=cap*k)(l:n+1<=cap)(hm:cap<=cP)(hl:news.length=n*k)(u:zs.length=k):
  ((w.drew.setCells g 0 news).setCells g (n*k) zs).ownsRow 0 T k (ζ (Z<|F g 0) n cap) n news/\aS (·=g) w ((w.drew.setCells g 0 news).setCells g (n*k) zs):=by
 let⟨c,e,o,p,q,f,h,j⟩:=sO news 0 w.drew cur m
 let⟨d,f1,f2,f3,f4,f5,f6,f7⟩:=sO zs (n*k) _ c e
 have s:n*k+k<=cap*k:=by rw[<-Ce];exact th k l
 refine⟨⟨hl,az ⟨g,cap,d,U,cO _,f1,Y,hm,Y,?_⟩⟩,f7.t j,xV (f6.t h).y,λb r a=>(f5 b a).t (f b a)⟩;refine ux λi=>?_
 grind
def take_at{a:aF aB}{x rest m k}(h:a.toList.take m=x++rest)(c:x.length=k):∀j u,rest[j]? =Z u->a[k+j]? =Z u:=λj u b=>by
 have d:(x++rest)[k+j]? =Z u:=by rw[vO Y,c,Cd];exact b
 grind
def Ij{zs:av aB}(h:zs.all (·.oneCell')=M):∀u∈zs,u.oneCell'=M:=λu a=>nA.1 h u a
abbrev nz:av aB:=[I 0,ξ ⟨#[]⟩,I 0,I 0,I 0,I 0,I 0,ξ ⟨#[]⟩,I 0,I 0]
abbrev SZ(w:aq)(g L:Nat)(news:av aB):aq:=(w.drew.setCells g 0 news).setCells g ((L-1) *10) nz
def Z9(g L cap news cur w)(G:0<L)(hc:L<=cap)(hm:cap<=cP)(hl:news.length=(L-1) *10)(m:∀u∈news,u.oneCell'=M)(c:w.heap[g]? =Z (au cur 205 (0,0)))(O:cur.size=cap*10)(d:∀j u,news[j]? =Z u->cur[10+j]? =Z u):
  Calls prog 254 #[ζ (Z<|F g 0) L cap,I 0,I 1] w λe x=>e=aG (ζ (Z<|F g 0) (L-1) cap)/\x=SZ w g L news:=by
 have d:∀j u,news[j]? =Z u->w.cell? (F g<|10+j)=Z u:=λj u a=>aD c (d j u a);have r:∀j,j<cap*10->(w.cell?<|F g j).isSome=M:=λj b=>by rw[aD c<|gi Y];rfl
 have o:∀j,w.frozen? (F g j)=aa:=λj=>bp c j;have q:(prog.info? 205).map (·.size)=Z 10:=aW
 let⟨k,p,v⟩:=gJ.1 q
 obtain⟨A,C,s⟩:∃A:iL,(if cap=1 then Z (⟨g,0,aj⟩:iL)else Z ⟨g,10,aj⟩)=Z A/\(∀t u,news[t]? =Z u->w.drew.cell? (A.add t)=Z u):=by by_cases h:cap=1;refine⟨⟨g,0,aj⟩,akV,λt u a=>?_⟩;have e:news.length=0:=Y;rw[vQ.1 e]at a;simp at a;exact⟨⟨g,10,aj⟩,akV,λt u a=>by rw[Bw];exact d t u a⟩
 have l:Hid ((rD #[160,160] 160 #[ζ (Z<|F g 0) 0 cap,ζ (Z A) (L-1)<|cap-1]).run prog w.drew=.ok (ζ (Z<|F g 0) (0+(L-1)) cap) (w.drew.setCells g (0+0*k.size) news)):=KZ w.drew 160 160 205 k underlying160 p g 0 0 cap A (L-1) (cap-1) news (by rw[v,hl]) s m Y (λj b=>by rw[xX,jM];exact(r _ Y)) (λj b=>by rw[xX,jM];exact o _)
 have N:∀f,(um #[160] f #[ζ (Z<|F g<|(L-1) *10) (L-(L-1))<|cap-(L-1)]).run prog (w.drew.setCells g 0 news)=.ok (θ #[]) (SZ w g L news):=λf=>by let⟨z,i,B,_⟩:=sO news 0 w.drew cur c;refine IM (w.drew.setCells g 0 news) 160 205 f _ underlying160 zeroValue205 g ((L-1) *10) (L-(L-1)) (cap-(L-1)) Y _ (by rw[show L-(L-1)=1 by omega];kernel_rfl) (Ij n7) ?_ ?_;intro j b;have:j<10:=b;rw[aD i<|gi Y];rfl;exact λj _=>bp i _
 unfold cP at hm;have H:(1:Int)<=(L:Int):=Y;have J:((cap:Int)==1)=decide (cap=1):=by by_cases h:cap=1<;>simp[h];omega
 go_enter func254,ntmps254
 go_upto_region 5 with fail
 refine ga (S:=λ_=>True) trivial λE=>?_;apply tl [0,1,2,3,4,5];refine rH 6 λK n=>?_
 (apply yU U U U U l.u;simp)
 refine n _ _ (trivial)<|λD=>?_;apply tl [7];refine dJ ?_
 (go_wp2;go_ret;exact⟨U,U⟩)
abbrev qm:av aB:=[I 0,ω aa,I 0]
abbrev SY(w:aq)(g L:Nat)(news:av aB):aq:=(w.drew.setCells g 0 news).setCells g ((L-1) *3) qm
def Z5(g L cap news cur w)(G:0<L)(hc:L<=cap)(hm:cap<=cP)(hl:news.length=(L-1) *3)(m:∀u∈news,u.oneCell'=M)(c:w.heap[g]? =Z (au cur 181 (0,0)))(O:cur.size=cap*3)(d:∀j u,news[j]? =Z u->cur[3+j]? =Z u):
  Calls prog 241 #[ζ (Z<|F g 0) L cap,I 0,I 1] w λe x=>e=aG (ζ (Z<|F g 0) (L-1) cap)/\x=SY w g L news:=by
 have d:∀j u,news[j]? =Z u->w.cell? (F g<|3+j)=Z u:=λj u a=>aD c (d j u a);have r:∀j,j<cap*3->(w.cell?<|F g j).isSome=M:=λj b=>by rw[aD c<|gi Y];rfl
 have o:∀j,w.frozen? (F g j)=aa:=λj=>bp c j;have q:(prog.info? 181).map (·.size)=Z 3:=aW
 let⟨k,p,v⟩:=gJ.1 q
 obtain⟨A,C,s⟩:∃A:iL,(if cap=1 then Z (⟨g,0,aj⟩:iL)else Z ⟨g,3,aj⟩)=Z A/\(∀t u,news[t]? =Z u->w.drew.cell? (A.add t)=Z u):=by by_cases h:cap=1;refine⟨⟨g,0,aj⟩,akV,λt u a=>?_⟩;have e:news.length=0:=Y;rw[vQ.1 e]at a;simp at a;exact⟨⟨g,3,aj⟩,akV,λt u a=>by rw[Bw];exact d t u a⟩
 have l:Hid ((rD #[57,57] 57 #[ζ (Z<|F g 0) 0 cap,ζ (Z A) (L-1)<|cap-1]).run prog w.drew=.ok (ζ (Z<|F g 0) (0+(L-1)) cap) (w.drew.setCells g (0+0*k.size) news)):=KZ w.drew 57 57 181 k underlying57 p g 0 0 cap A (L-1) (cap-1) news (by rw[v,hl]) s m Y (λj b=>by rw[xX,jM];exact(r _ Y)) (λj b=>by rw[xX,jM];exact o _)
 have N:∀f,(um #[57] f #[ζ (Z<|F g<|(L-1) *3) (L-(L-1))<|cap-(L-1)]).run prog (w.drew.setCells g 0 news)=.ok (θ #[]) (SY w g L news):=λf=>by let⟨z,i,B,_⟩:=sO news 0 w.drew cur c;refine IM (w.drew.setCells g 0 news) 57 181 f _ underlying57 zeroValue181 g ((L-1) *3) (L-(L-1)) (cap-(L-1)) Y _ (by rw[show L-(L-1)=1 by omega];kernel_rfl) (Ij n7) ?_ ?_;intro j b;have:j<3:=b;rw[aD i<|gi Y];rfl;exact λj _=>bp i _
 unfold cP at hm;have H:(1:Int)<=(L:Int):=Y;have J:((cap:Int)==1)=decide (cap=1):=by by_cases h:cap=1<;>simp[h];omega
 go_enter func241,ntmps241
 go_upto_region 5 with fail
 refine ga (S:=λ_=>True) trivial λE=>?_;apply tl [0,1,2,3,4,5];refine rH 6 λK n=>?_
 (apply yU U U U U l.u;simp)
 refine n _ _ (trivial)<|λD=>?_;apply tl [7];refine dJ ?_
 (go_wp2;go_ret;exact⟨U,U⟩)
def Z6{v n x rest}(w)(h:w.ownsRow 0 181 3 v (n+1) (x++rest))(c:x.length=3)(q:∀u∈rest,u.oneCell'=M):
  Calls prog 241 #[v,I 0,I 1] w λe f=>∃d,e=aG d/\f.ownsRow 0 181 3 d n rest/\aS (λb=>Z b=v.ownBlock) w f/\d.ownBlock=v.ownBlock:=by
 have m:rest.length=n*3:=by have:=h.1;simp[c]at this;omega
 rcases h.2 with⟨_,h0⟩|⟨g,cap,p,rfl,t,l,o,i,j,s⟩;omega;apply(Z5 g (n+1) cap rest p w Y o i m q l j<|take_at s c).m;rintro e f ⟨rfl,rfl⟩
 let⟨a,b⟩:=Tc (zs:=qm) l j o i m U
 exact⟨_,U,a,⟨b.os,b.size,λk r c=>b.block k r λe=>c C1⟩,U⟩
def Z7(g n cap cur w)(h0:0<n)(hc:n<=cap)(hm:cap<=cP)(d:w.heap[g]? =Z (au cur 176 (0,0)))(D:cur.size=cap):
  Calls prog 155 #[ζ (Z<|F g 0) n cap,I ((n-1:Nat):Int),I n] w λe q=>e=aG (ζ (Z<|F g 0) (n-1) cap)/\q=w.drew.setCells g (n-1) [π aj]:=by
 have o:∀j,j<cap->(w.cell?<|F g j).isSome=M:=λj a=>by rw[aD d<|gi Y];rfl
 have k:∀j,w.frozen? (F g j)=aa:=λj=>bp d j;have m:(prog.info? 176).map (·.size)=Z 1:=aW
 let⟨p,l,E⟩:=gJ.1 m
 obtain⟨A,x⟩:∃A:iL,(if cap=n then Z (⟨g,0,aj⟩:iL)else Z ⟨g,n,aj⟩)=Z A:=by by_cases h:cap=n;exact⟨_,aO h⟩;exact⟨_,aI h⟩
 have f:Hid ((rD #[58,58] 58 #[ζ (Z<|F g 0) (n-1) cap,ζ (Z A) 0<|cap-n]).run prog w.drew=.ok (ζ (Z<|F g 0) (n-1) cap) w.drew):=KZ w.drew 58 58 176 p underlying58 l g 0 (n-1) cap A 0 (cap-n) [] ay (λj u b=>by simp at b) (λu b=>by cases b) Y (λj a=>by simp at a) (λj a=>by simp at a)
 have C:∀c,(um #[58] c #[ζ (Z<|F g<|n-1) (n-(n-1))<|cap-(n-1)]).run prog w.drew=.ok (θ #[]) (w.drew.setCells g (n-1) [π aj]):=λc=>by refine IM w.drew 58 176 c _ underlying58 zeroValue176 g (n-1) (n-(n-1)) (cap-(n-1)) Y _ (by rw[show n-(n-1)=1 by omega];kernel_rfl) (Ij n7) ?_ ?_;intro j a;have:j<1:=a;exact o _ Y;exact λj _=>k _
 unfold cP at hm;have r:(((n-1:Nat):Int)==(n:Int))=aa:=bV;have s:((n-1:Nat):Int)<=(n:Int):=Y;have t:n-1<=cap:=Y;have v:n-1<=n:=Y;go_enter func155,ntmps155
 go_upto_region 5 with fail
 refine ga (S:=λ_=>True) trivial λB=>?_;apply tl [0,1,2,3,4,5];refine rH 6 λK i=>?_
 (apply yU U U U U f.u;simp)
 refine i _ _ (trivial)<|λz=>?_;apply tl [7];refine dJ ?_
 (go_wp2;go_ret;exact⟨U,U⟩)
abbrev down(f:Nat->Nat)(m:Nat):Nat->Nat:=λx=>if x=0 then f m else f x
def afk{w hb ho m g cap d d' f K kU cur}{j:aY}(C:w.heap[hb]? =Z (au kU j (0,0)))(G:ho<kU.size)(E:w.heap[g]? =Z (au cur 176 (0,0)))(N:m+1<=cap)(hm:cap<=cP)(hc:cur.size=cap)(i:hb≠g)(H:∀x,x<m+1->cur[x]? =Z (jp<|f x))(B:Keyed w (ζ (Z<|F g 0) (m+1) cap) (m+1) f K)(D:∀x,x<m+1->f x≠hb):
  ∃W,((((w.drewN d).setCell (F g 0)<|jp<|f m).drewN d').setCells g m [π aj]).setCell (F hb ho) (ζ (Z<|F g 0) m cap)=W/\W.heap[hb]? =Z (au (kU.setIfInBounds ho<|ζ (Z<|F g 0) m cap) j (0,0))/\
   gK W hb ho (ζ (Z<|F g 0) m cap) m (down f m)/\Keyed W (ζ (Z<|F g 0) m cap) m (down f m) K/\aS (λb=>b=hb\/b=g) w W/\((((w.drewN d).setCell (F g 0)<|jp<|f m).drewN d').setCells g m [π aj]).heap[hb]? =Z (au kU j (0,0)):=by
 have g0:=E;have A:(((w.drewN d).setCell (F g 0)<|jp<|f m).drewN d').heap[g]? =_:=(bG g0 0<|jp<|f m)
 let⟨r,s,t,u,J,o,v,z⟩:=sO [π aj] m _ _ A
 have b1:=(o hb i).t ((bC i).t C);have n:=bG b1 ho (ζ (Z<|F g 0) m cap)
 have cy:aS (λb=>b=hb\/b=g) w (((((w.drewN d).setCell (F g 0)<|jp<|f m).drewN d').setCells g m [π aj]).setCell (F hb ho)<|ζ (Z<|F g 0) m cap):=⟨z,by simp;rw[v];simp,λb L k=>(bC<|λe=>k (aA e)).t ((o b λe=>k (az e)).t<|bC λe=>k (az e))⟩
 refine⟨_,U,n,⟨aD n (by simp[G]),⟨by simp[kF],az ⟨g,cap,r,U,cO _,(bC<|λe=>i e.y).t s,Y,hm,by simp at t;omega,?_⟩⟩,λe=>i D4⟩,λx O=>?_,cy,b1⟩;refine ux λx=>?_;rw[vP];split;rename_i h;have p:x<m:=Y;rw[Ir p,zw,u x<|aA p];simp only[down]
 by_cases e:x=0
 subst e;rw[aO U,PU,aO Y];rw[aI e,gn Y];exact H x Y;exact(Kl bV).y
 have key:∀c,c<m+1->mj (((((w.drewN d).setCell (F g 0)<|jp<|f m).drewN d').setCells g m [π aj]).setCell (F hb ho)<|ζ (Z<|F g 0) m cap) (f c) (K<|f c)/\Z (f c)≠Z g:=λc q=>by let⟨a,b⟩:=B c q;have l:f c≠g:=λe=>b C1;exact⟨a.cy cy<|λe=>e.e (D c q) l,λe=>l (by simpa using e)⟩
 simp only[down]
 by_cases e:x=0
 rw[aO e];exact key m Y;rw[aI e];exact key x Y
def afj(hb ho m v f K0 kU Th w)(n:w.heap[hb]? =Z (au kU Th (0,0)))(s:kU[ho]? =Z v)(X:Th≠176)(t:w.ownsRow 0 176 1 v (m+1) (kF (m+1) f))(hn:m<1048576)(c:Keyed w v (m+1) f K0)(af:∀x,x<m+1->f x≠hb)(W:Hp (m+1) λx=>K0 (f x)):
  Calls prog 108 #[π<|Z<|F hb ho] w λe a=>e=aG (θ #[jp<|f 0,ω M])/\∃z j,a.heap[hb]? =Z (au (kU.setIfInBounds ho z) Th (0,0))/\a.ownsRow 0 176 1 z m (kF m j)/\mq m (down f m) j/\Hp m (λx=>K0 (j x))/\aS (λb=>b=hb\/Z b=v.ownBlock) w a/\z.ownBlock=v.ownBlock:=by
 have ah:Z hb≠v.ownBlock:=λe=>by rcases t.2 with⟨r,_⟩|⟨g',aQ,aW,r,_,A,_⟩;rw[r]at e;cases e;rw[r]at e;cases e;rw[n]at A;cases A;exact X rfl
 have k:gK w hb ho v (m+1) f:=⟨aD n s,t,ah⟩;obtain⟨g,cap,aT,rfl,i,E,G,k3,H,h⟩:=k.full Y;have q:=k.head;have c1:=aD i (h m Y);have fz:=bp i 0;have c2:=aD i (h 0 Y);have R:Hid (∀d,Calls prog 106 #[π<|Z<|F hb ho] (w.drewN d) λe a=>e=aG (θ #[jp<|f 0,ω M])/\a=w.drewN d):=λd=>Vl hb ho (m+1) _ f (w.drewN d) (k.drewN d) Y;have HM:Hid (∀d d',_):=λd d'=>afk (d:=d) (d':=d') n ((bf.1 s).1) i E G k3 H h c af
 let⟨W6,C,J,L,N,O,u⟩:=HM 1 1
 have Q:Hid (Calls prog 155 #[ζ (Z<|F g 0) (m+1) cap,I m,I<|(m:Int)+1] ((w.drewN 1).setCell (F g 0)<|jp<|f m) λe a=>e=aG (ζ (Z<|F g 0) m cap)/\a.cell? (F hb ho)=Z (ζ (Z<|F g 0) (m+1) cap)/\a.frozen? (F hb ho)=aa/\
   (a.setCell (F hb ho)<|ζ (Z<|F g 0) m cap).heap[hb]? =Z (au (kU.setIfInBounds ho<|ζ (Z<|F g 0) m cap) Th (0,0))/\gK (a.setCell (F hb ho)<|ζ (Z<|F g 0) m cap) hb ho (ζ (Z<|F g 0) m cap) m (down f m)/\Keyed (a.setCell (F hb ho)<|ζ (Z<|F g 0) m cap) (ζ (Z<|F g 0) m cap) m (down f m) K0/\aS (λb=>b=hb\/b=g) w (a.setCell (F hb ho)<|ζ (Z<|F g 0) m cap)):=by
  have g0:=i;have key:Calls prog 155 #[ζ (Z<|F g 0) (m+1) cap,I m,I<|(m:Int)+1] ((w.drewN 1).setCell (F g 0)<|jp<|f m) λe a=>e=aG (ζ (Z<|F g 0) m cap)/\a=(((w.drewN 1).setCell (F g 0)<|jp<|f m).drewN 1).setCells g m [π aj]:=Z7 g (m+1) cap _ _ Y E G (bG g0 0<|jp<|f m) bV;apply key.m;rintro e a ⟨rfl,rfl⟩;refine⟨U,aD u s,bp u ho,?_⟩;have V:=C;change(iQ ((((w.drewN 1).setCell (F g 0)<|jp<|f m).drewN 1).setCells g m [π aj]) ⟨hb,ho,aj⟩<|ζ (Z<|F g 0) m cap).heap[hb]? =_/\gK (iQ ((((w.drewN 1).setCell (F g 0)<|jp<|f m).drewN 1).setCells g m [π aj]) ⟨hb,ho,aj⟩<|ζ (Z<|F g 0) m cap) _ _ _ _ _/\Keyed (iQ ((((w.drewN 1).setCell (F g 0)<|jp<|f m).drewN 1).setCells g m [π aj]) ⟨hb,ho,aj⟩<|ζ (Z<|F g 0) m cap) _ _ _ _/\aS _ _ (iQ ((((w.drewN 1).setCell (F g 0)<|jp<|f m).drewN 1).setCells g m [π aj]) ⟨hb,ho,aj⟩<|ζ (Z<|F g 0) m cap);rw[V];exact⟨J,L,N,O⟩
 have T:((w.drewN 1).setCell (F g 0)<|jp<|f m).cell? (F hb ho)=Z (ζ (Z<|F g 0) (m+1) cap):=tM q H;have bq:(m:Int)<(m:Int)+1:=Y;have bn:(0:Int)<(m:Int)+1:=Y;clear HM J L N O u h c t k i n C;go_enter func108,ntmps108
 go_upto_region 4 with(go_at_call 106;apply(R 0).m;rintro e w1 ⟨rfl,rfl⟩)
 refine ga (S:=λa=>a.cell? (F hb ho)=Z (ζ (Z<|F g 0) (m+1) cap)) q λbl=>?_;apply tl [0,1,2,3,4,5,6,7];apply tl [8,9];refine rH 10 λK c=>?_;go_simp;refine c _ _ q<|λhA=>?_;clear c K;apply tl [11];refine rH 12 λK c=>?_;go_simp;refine c _ _ T<|λhB=>?_;clear c K;refine dJ ?_
 go_wp2_with (first
  |(go_at_call 155;apply Q.m;rintro e w5 ⟨rfl,c5,f5,B⟩;have p:=aX B;clear B)
  |(go_at_call 156;apply(ahp hb ho m 0 _ (down f m) K0 _ p.2.1 Y Y p.2.2.1 (by
     refine⟨λx h0 h hp=>?_,λh0=>by omega⟩;have:=W x h0 Y;simp only[down];rwa [aI hp,aI Y])).m;rintro e w7 ⟨rfl,j,P,r2,r3,o⟩))
 go_ret2
 let⟨a1,a2,a3,l⟩:=p
 exact⟨U,_,j,(o.block hb (bf.1 a1).1 P.cm).t a1,P.row,r2,r3,⟨o.os.t l.os,cM l.size o.size,λb D h=>(o.block b (cS D l.size)<|λe=>h (az e)).t (l.block b D<|λe=>h (e.e aA λe=>az C1))⟩,U⟩
abbrev bP(x:UInt8):aB:=ι .u8 (x.toNat:Int)
def fq:aF UInt8->Nat->av UInt8->aF UInt8
 |B,_,[]=>B|B,o,x::a=>fq (B.setIfInBounds o x) (o+1) a
def AP:∀(xs:av UInt8) (B:aF UInt8) (o:Nat),(fq B o xs).size=B.size
 |[],_,_=>rfl|x::xs,B,o=>by rw[fq,AP xs];simp
abbrev pQ(W:aq)(b:Nat)(B:aF UInt8):Prop:=W.heap[b]? =Z (au (B.map bP) 5 (0,0))
def Bb{g}:∀(xs:av UInt8) (o:Nat) (W:aq) (B:aF UInt8),pQ W g B->
  pQ (W.setCells g o<|xs.map bP) g (fq B o xs)/\(∀k,k≠g->(W.setCells g o<|xs.map bP).heap[k]? =W.heap[k]?)/\(W.setCells g o<|xs.map bP).heap.size=W.heap.size/\(W.setCells g o<|xs.map bP).os=W.os
 |[],o,W,B,h=>⟨h,λ_ _=>U,U,U⟩
 |x::xs,o,W,B,h=>by
  have f:pQ (W.setCell (F g o)<|bP x) g (B.setIfInBounds o x):=by
   have:=bG h o (bP x);unfold pQ;rw[this]
   congr 2;exact(zy ..).y
  obtain⟨a,b,c,d⟩:=Bb xs (o+1) _ _ f;exact⟨a,λk e=>(b k e).t (bC e),c.t ay,d.t U⟩
def Of{W b B}(h:pQ W b B){i}(a:i<B.size):W.cell? (F b i)=Z (bP B[i]):=aD h D2
abbrev dZ(c:Nat×av UInt8):av aB:=I (c.1:Int)::c.2.map bP
structure dc(W:aq)(d bb db:Nat)(cv:aB)(n:Nat)(B D:aF UInt8)(C:av (Nat×av UInt8)):Prop where
 box:W.heap[d]? =Z (au #[ζ (Z (F bb 0)) n n,ζ (Z (F db 0)) n n,cv] 103 (0,0))
 bytes:pQ W bb B
 fX:pQ W db D
 cache:W.ownsRow 0 106 5 cv C.length (C.flatMap dZ)
 sizes:B.size=n/\D.size=n
 fits:∀c∈C,c.1+4<=n/\c.2.length=4
 apart:bb≠db
 small:n<=65536
def aaj(d a db n off len cv B D)(C:av (Nat×av UInt8))(w)(h:dc w d a db cv n B D C)(hl:off+len<=n):
  eZ 130 #[jp d,I off,I len] w (ξ ⟨B.extract off<|off+len⟩):=by
 have f:=aJ w d 0 (ζ (Z<|F a 0) n n) h.box;obtain⟨A,b⟩:∃A:iL,(if n=off then Z (⟨a,0,aj⟩:iL)else Z ⟨a,off,aj⟩)=Z A:=j4
 have o:=h.small;have p:=h.sizes.1
 have k:∀cap,(convert 99 9<|ζ (Z A) len cap).run prog w=.ok (ξ ⟨B.extract off<|off+len⟩) w:=λcap=>by have c:(B.extract off<|off+len).toList.length=len:=bV;have:=yd w 99 9 5 A cap (B.extract off<|off+len).toList underlying99 underlying5 underlying9 (λj l=>by have m:j<len:=Y;rw[aI Y]at b;cases b;rw[Bw,Of h.bytes Y];simp);rwa [c]at this
 have g:((off:Int)+(len:Int))<=(n:Int):=Y;have i:(off:Int)<=(off:Int)+(len:Int):=Y
 trace_state
 go_enter func130,ntmps130;go_wp2;go_ret;exact⟨U,U⟩
def WL(l:av UInt8):∀u∈l.map bP,u.oneCell'=M:=λu a=>by obtain⟨x,_,rfl⟩:=jY.1 a;rfl
def Oy{P}(w dT sT ty elem b o dLen dCap t l)(d:P.underlying dT=Z (.slice elem))(e:∀w,(JV elem).run P w=.ok 1 w)(hl:t.data.toList.take dLen=l)(hc:∀j,j<l.length->(w.cell?<|F b<|o+j).isSome=M)(hf:∀j,j<l.length->w.frozen? (F b<|o+j)=aa):
  ∃r,(uq #[dT,sT] ty #[.slice (Z<|F b o) dLen dCap,.string t]).run P w=.ok r (w.setCells b o<|l.map bP):=by
 have a:=I7 (P:=P) b o (l.map bP) 0 w j4 j4 (WL l);simp at a;have f:t.data.toList.length=t.size:=U
 have c:List.take (Nat.min t.size dLen) (t.data.toList.map bP)=l.map bP:=by
  rw[<-List.map_take,<-hl]
  congr 1;by_cases h:t.size<=dLen;rw[show Nat.min t.size dLen=t.size from uE h,qE Y,qE Y];rw[show Nat.min t.size dLen=dLen from Nat.min_eq_right Y]
 refine⟨goInt<|Nat.min t.size dLen,?_⟩;simp[uq,Cx d,EK,Builtin.firstCells,e];rw[show List.take (t.size.min dLen) (List.map (λb=>BX IntKind.u8 ↑b.toNat) t.data.toList)=l.map bP from c,a];rfl
def Ja(w):(JV 5).run prog w=.ok 1 w:=by let⟨e,a,c,b,d⟩:=nG infoByte;simp[JV,typeInfo,a,b]
def secs(off:Nat)(s:av UInt8)(q:Nat):av (Nat×av UInt8):=(dA q).map λi=>(off+4*i,(s.drop<|4*i).take 4)
def yk(off s q):secs off s (q+1)=secs off s q++[(off+4*q,(s.drop<|4*q).take 4)]:=by simp[secs,uB]
def Gi(w W:aq)(d c f n off:Nat)(B D:aF UInt8)(C:av (Nat×av UInt8))(e:aB)(s:av UInt8)(q:Nat):Prop:=∃a,dc W d c f a n B D (C++secs off s q)/\aS (λb=>b=d\/b=c\/Z b=e.ownBlock) w W/\(a.ownBlock=e.ownBlock\/∀g,a.ownBlock=Z g->w.heap.size<=g)
def acJ:(prog.info? 106).map (λi=>(i.zero,i.size,i.bytes))=Z (Z<|ν #[I 0,ι .u8 0,ι .u8 0,ι .u8 0,ι .u8 0],5,16):=aW
def IA{P o a w w' K Q aqi sl x}{t u:aY}{v v' z}(d:cY o aqi=M)(b:o.op=.call {callee:=.builtin .copy,args:=#[sl,x],argTypes:=#[t,u]}) (c:a.eval sl=v) (e:a.eval x=z) (hr:(uq #[t,u] o.type #[v,z]).run P w=.ok v' w') (h:K (a.put o.dst v') w'):
  if cY o aqi=M then tr P o a w K Q else K (a.put o.dst y) w:=by
 rw[aO d];unfold tr execOp;simp only[b,resolve,invoke,builtin,Cn,KH,FG,sW,nC,xR,c,e,hr];exact h
abbrev eN(o:Int)(a b1 b c:UInt8):aF aB:=#[I o,bP a,bP b1,bP b,bP c]
def agN{wr}(o)(b b1 c d:UInt8)(k):
  ∃a,((wr.alloc<|au (eN o 0 0 0 0) 106).drewN k).setCells wr.heap.size 1 ([b,b1,c,d].map bP)=a/\a.heap[wr.heap.size]? =Z (au (eN o b b1 c d) 106 (0,0))/\aK wr a/\a.heap.size=wr.heap.size+1:=by
 have h0:((wr.alloc<|au (eN o 0 0 0 0) 106).drewN k).heap[wr.heap.size]? =Z (au (eN o 0 0 0 0) 106 (0,0)):=heap_alloc_new wr _;have e:=bG (bG h0 1<|bP b) 2 (bP b1);refine⟨_,U,bG (bG e 3<|bP c) 4 (bP d),?_,by simp[World.setCells]⟩;exact((((jj (bq) _).setCell (aR _) _).setCell (aR _) _).setCell (aR _) _).setCell (aR _) _
def dc.below{w w' d bb db n cv B D C}(h:dc w d bb db cv n B D C)(a:aK w w'):dc w' d bb db cv n B D C:=by refine⟨bT a h.box,bT a h.bytes,bT a h.fX,⟨h.cache.1,?_⟩,h.sizes,h.fits,h.apart,h.small⟩;rcases h.cache.2 with b|⟨g,cap,c,b,e,f,i⟩;exact aA b;exact az ⟨g,cap,c,b,e,bT a f,i⟩
def dc.cm{w d bb db n cv B D C}(h:dc w d bb db cv n B D C){k x}{T:aY}(j:w.heap[k]? =Z (au x T (0,0)))(i:T≠106):Z k≠cv.ownBlock:=λe=>by rcases h.cache.2 with⟨a,_⟩|⟨f,b,c,a,_,g,_⟩;rw[a]at e;cases e;rw[a]at e;cases e;grind
def OC{a j f:aq}{d bb db n g cap AA B D C' x news c}(R:dc a d bb db AA n B D C')(q:f.ownsRow 0 106 5 (ζ (Z<|F g 0) (C'.length+1) cap) (C'.length+1) (C'.flatMap dZ++news))(m:j.grownBy f AA.ownBlock)(p:j.heap=(a.alloc x).heap)(C:j.os=a.os)(u:AA.ownBlock=Z g\/g=a.heap.size+1)(hc:news=dZ c)(z:c.1+4<=n/\c.2.length=4):
  f.cell? (F d 2)=Z AA/\f.frozen? (F d 2)=aa/\dc (f.setCell (F d 2)<|ζ (Z<|F g 0) (C'.length+1) cap) d bb db (ζ (Z<|F g 0) (C'.length+1) cap) n B D (C'++[c])/\aS (λb=>b=d\/Z b=AA.ownBlock) a (f.setCell (F d 2)<|ζ (Z<|F g 0) (C'.length+1) cap):=by
 have old:∀b,b<a.heap.size->Z b≠AA.ownBlock->f.heap[b]? =a.heap[b]? :=λb l i=>(m.block b (by rw[p];simp;omega) i).t (by rw[p];exact Below.heap_alloc a _ b l);have lt:∀{b:Nat} {o:Obj},a.heap[b]? =Z o->b<a.heap.size:=λh=>(bf.1 h).1;have k:=(old d (lt R.box)<|R.cm R.box aM).t R.box;have v:=fO R.bytes R.box ay;have w:=fO R.fX R.box ay
 have A:g≠d:=λe=>by rcases u with h|h;exact R.cm R.box aM (by rw[h,e]);have:=lt R.box;omega
 have r:=m.size;rw[p]at r;simp at r;refine⟨aD k U,bp k _,⟨(bG k 2<|ζ (Z<|F g 0) (C'.length+1) cap),(bC v).t<|(old bb (lt R.bytes)<|R.cm R.bytes aM).t R.bytes,(bC w).t<|(old db (lt R.fX)<|R.cm R.fX aM).t R.fX,?_,R.sizes,?_,R.apart,R.small⟩,⟨m.os.t C,bV,λb l i=>(bC<|λe=>i (aA e)).t (old b l λe=>i (az e))⟩⟩;rw[fQ,rL];have e:[c].flatMap dZ=news:=by simp[hc]
 rw[e];refine⟨q.1,?_⟩;rcases q.2 with⟨h,_⟩|⟨N,L,t,G,H,J,K⟩;cases h;cases G;exact az ⟨g,cap,t,rfl,H,(bC A).t J,K⟩;intro s E;rcases jg.1 E with h|h;exact R.fits s h;have:s=c:=acm
 rw[this];exact z
def aam(d k db n off m cv B D)(C:av (Nat×av UInt8))(s w)(h:dc w d k db cv n B D C)(cC:off<n)(hl:off+s.size<=n)(hm:s.size=4*m)(hC:C.length+m<=1099511627776):
  Calls prog 194 #[jp d,I off,ξ s] w λe w'=>e=aG (θ #[])/\Gi w w' d k db n off (fq B off s.data.toList) D C cv s.data.toList m:=by
 have hn:=h.small;have hz:=h.sizes.1;have c0:=aJ w d 0 (ζ (Z<|F k 0) n n) h.box;have e0:(off:Int)<=(n:Int):=Y;have cB:¬n=off:=Y
 obtain⟨r,UO⟩:∃r,(uq #[99,9] 3 #[ζ (Z<|F k off) (n-off)<|n-off,ξ s]).run prog w=.ok r (w.setCells k off<|s.data.toList.map bP):=by have cx:s.data.toList.length=s.size:=U;exact Oy w 99 9 3 5 k off (n-off) (n-off) s s.data.toList underlying99 Ja (qE Y) (λj hj=>by rw[Of h.bytes Y];rfl) (λj hj=>bp h.bytes _)
 have H1:Hid (Gi w (w.setCells k off<|s.data.toList.map bP) d k db n off (fq B off s.data.toList) D C cv s.data.toList 0):=by
  obtain⟨a1,a2,a3,a4⟩:=Bb s.data.toList off w B h.bytes;have bQ:d≠k:=fO h.box h.bytes ay;have bO:Z k≠cv.ownBlock:=λe=>by rcases h.cache.2 with⟨G,_⟩|⟨J,bq,bt,G,_,Q,_⟩;rw[G]at e;cases e;rw[G]at e;cases e;exact fO h.bytes Q ay rfl
  refine⟨cv,⟨(a2 d bQ).t h.box,a1,(a2 db<|λe=>h.apart e.y).t h.fX,?_,⟨by rw[AP];exact hz,h.sizes.2⟩,by simpa[secs]using h.fits,h.apart,hn⟩,⟨a4,Y,λb _ hb=>a2 b λe=>hb (az<|aA e)⟩,aA U⟩;have:C++secs off s.data.toList 0=C:=by simp[secs]
  rw[this];refine⟨h.cache.1,?_⟩;rcases h.cache.2 with G|⟨J,bq,bt,G,Q,h3,h4⟩;exact aA G;refine az ⟨J,bq,bt,G,Q,(a2 J λe=>bO (by rw[G,<-e];rfl)).t h3,h4⟩
 generalize w.setCells k off (s.data.toList.map bP)=W1 at*;have HM:=aX hm;clear h hm;go_enter func194,ntmps194;go_wp2
 go_loopw [6] (λiv wr=>∃t q:Nat,iv=I (t:Int)/\Hid (t=4*q/\q<=m/\Gi w wr d k db n off (fq B off s.data.toList) D C cv s.data.toList q)) (λiv _=>4*m-(dw iv).toNat)
 case atStart=>exact⟨0,0,U,U,cO _,H1.u⟩
 case round=>
  obtain⟨t,q,rfl,hR⟩:=hrel;by_cases cz:t<s.size
  ·have h4:(t:Int)<(s.size:Int):=Y;have cE:t+4<=s.size:=by have:=hR.u.1;have:=HM.u;omega
   obtain⟨l,R,T,O⟩:=hR.u.2.2;have c2:=aJ wr d 2 l R.box;have HR:Hid (dc wr d k db l n (fq B off s.data.toList) D (C++secs off s.data.toList q)/\aS (λb=>b=d\/b=k\/Z b=cv.ownBlock) w wr/\(l.ownBlock=cv.ownBlock\/∀g,l.ownBlock=Z g->w.heap.size<=g)):=⟨R,T,O⟩;have hd:d<wr.heap.size:=(bf.1 R.box).1;have cA:t<=s.size:=Y;obtain⟨p,b1,v,z,bC⟩:∃p b1 v z:UInt8,(s.data.toList.drop t).take 4=[p,b1,v,z]:=by
    have bR:((s.data.toList.drop t).take 4).length=4:=by have:s.data.toList.length=s.size:=U;simp;omega
    match(s.data.toList.drop t).take 4,bR with
    |[p,b1,v,z],_=>exact⟨p,b1,v,z,U⟩
   obtain⟨f,bB,N,bn,YR⟩:=agN (wr:=wr) ((off:Int)+(t:Int)) p b1 v z 1;obtain⟨r2,Dt⟩:∃r2,(uq #[99,9] 3 #[ζ (Z<|F wr.heap.size 1) 4 4,ξ<|s.extract t s.size]).run prog (wr.alloc<|au (eN ((off:Int)+(t:Int)) 0 0 0 0) 106).drew=.ok r2 f:=by
    have h0:(wr.alloc<|au (eN ((off:Int)+(t:Int)) 0 0 0 0) 106).drew.heap[wr.heap.size]? =Z (au (eN ((off:Int)+(t:Int)) 0 0 0 0) 106 (0,0)):=heap_alloc_new wr _;rw[<-bB];refine Oy _ 99 9 3 5 wr.heap.size 1 4 4 (s.extract t s.size) [p,b1,v,z] underlying99 Ja ?_ (λj hj=>?_)<|λj hj=>bp h0 _;rw[<-bC];simp;rw[List.take_take,uE Y];match j,hj with
    |0,_|1,_|2,_|3,_=>rw[aD h0 (i:=_) U];rfl
   have bH:=aX Dt;clear R T O Dt bB;go_upto_region 5 with fail;refine ga (S:=λ_=>True) trivial λcq=>?_;apply tl [0,1,2,3,4];refine rH 5 λK a=>?_;(refine IA U U U U bH.u ?_;simp);refine a.u _ _ (trivial)<|λcm=>?_;clear a K;refine dJ ?_;obtain⟨c,V⟩:∃c,C++secs off s.data.toList q=c:=⟨_,U⟩;have E:Hid (dc f d k db l n (fq B off s.data.toList) D c/\aS (λb=>b=d\/b=k\/Z b=cv.ownBlock) w f/\(l.ownBlock=cv.ownBlock\/∀g,l.ownBlock=Z g->w.heap.size<=g)):=⟨V▸HR.u.1.below bn,HR.u.2.1.t<|.below bn,HR.u.2.2⟩;have aK:Hid (∀x,(f.alloc x).ownsRow 0 106 5 l c.length<|c.flatMap dZ):=λx=>E.u.1.cache.alloc x;have aC:Hid (∀u∈dZ (off+t,[p,b1,v,z]),u.oneCell'=M):=Ij U;have cD:c.length+1<=1099511627776:=by have G:=hR.u.1;have Q:=HM.u;rw[<-V];simp[secs];omega
   have an:Hid ((off+t,[p,b1,v,z]).1+4<=n/\(off+t,[p,b1,v,z]).2.length=4):=⟨by show off+t+4<=n;omega,U⟩;obtain⟨iS,aQ,aT,aW,jR⟩:=nG acJ;have cj:=aJ f d 2 l E.u.1.box;have k0:=aJ f wr.heap.size 0 (I<|(off:Int)+(t:Int)) N;have k1:=aJ f wr.heap.size 1 (bP p) N;have k2:=aJ f wr.heap.size 2 (bP b1) N;have k3:=aJ f wr.heap.size 3 (bP v) N;have k4:=aJ f wr.heap.size 4 (bP z) N;have cw:d<f.heap.size:=Y;have bX:=aX V;have HW:=aX YR
   have J4:Hid (∀(g cap:Nat) (A:aq),(dc (A.setCell (F d 2)<|ζ (Z<|F g 0) (c.length+1) cap) d k db (ζ (Z<|F g 0) (c.length+1) cap) n (fq B off s.data.toList) D (c++[(off+t,[p,b1,v,z])])/\aS (λb=>b=d\/Z b=l.ownBlock) f (A.setCell (F d 2)<|ζ (Z<|F g 0) (c.length+1) cap)/\(l.ownBlock=Z g\/g=f.heap.size+1))->
     (∃t1 q1:Nat,BX cJ ((t:Int)+4)=I (t1:Int)/\Hid (t1=4*q1/\q1<=m/\Gi w (A.setCell (F d 2)<|ζ (Z<|F g 0) (c.length+1) cap) d k db n off (fq B off s.data.toList) D C cv s.data.toList q1))/\4*m-(dw<|I<|(t:Int)+4).toNat<4*m-(dw<|I (t:Int)).toNat):=λg cap A W=>by
    have G:=hR.u.1;have Q:=HM.u;refine⟨⟨t+4,q+1,by go_num,Y,Y,ζ (Z<|F g 0) (c.length+1) cap,?_,?_,?_⟩,by simp[dw];omega⟩;rw[yk,<-lS,V,<-G,bC];exact W.1;refine⟨W.2.1.os.t E.u.2.1.os,cM E.u.2.1.size W.2.1.size,λb hb hx=>(W.2.1.block b (cS hb E.u.2.1.size)<|λe=>?_).t (E.u.2.1.block b hb hx)⟩;rcases e with e|e;exact hx<|aA e;rcases E.u.2.2 with o|o;exact hx<|az<|az<|e.t o;have:=o b e.y;omega;rcases W.2.2 with o|o;rcases E.u.2.2 with o2|o2;exact aA (by rw[<-o2,o];rfl);refine az λJ e=>?_;have e':g=J:=D4
    exact o2 J (by rw[o,e']);refine az λJ e=>?_;have e':g=J:=D4
    have:=E.u.2.1.size;omega
   clear N bn YR V;go_upto_region 6 with fail;refine ga (S:=λ_=>True) trivial λcr=>?_;apply tl [0,1,2,3];refine aH [4,5]<|.cons U (λK a=>?_) ?_;·go_simp;refine a.u _ _ (trivial)<|λhA=>?_;clear a K;refine rH 5 λK a=>?_;go_simp;refine a.u _ _ (trivial)<|λhB=>?_;clear a K;refine rH 6 λK a=>?_;go_simp;refine a.u _ _ (trivial)<|λhC=>?_;clear a K;refine rH 7 λK a=>?_;(refine Rb _ n7 _ _ 101 n7 0 106 iS _ 5 16 underlying101 aQ aT aW jR n7 Y l c.length (c.flatMap dZ) n7 (aK.u _) ⟨f.heap.size,0,aj⟩ 1 1 (dZ (off+t,[p,b1,v,z])) n7 n7 (wu<|heap_alloc_new f _) (aC.u) Y B5 Y ay (f.heap.size+1) ay ?_;intro g cap A L X H bD;obtain⟨f1,f2,f3,f4⟩:=OC E.u.1 L X U U H U an.u;have P:Hid (dc (A.setCell (F d 2)<|ζ (Z<|F g 0) (c.length+1) cap) d k db (ζ (Z<|F g 0) (c.length+1) cap) n (fq B off s.data.toList) D (c++[(off+t,[p,b1,v,z])])/\aS (λb=>b=d\/Z b=l.ownBlock) f (A.setCell (F d 2)<|ζ (Z<|F g 0) (c.length+1) cap)/\(l.ownBlock=Z g\/g=f.heap.size+1)):=⟨f3,f4,H⟩;clear f3 f4 L H);refine a.u _ _ (trivial)<|λhG=>?_;clear a K;apply tl [8,9];refine rH 10 λK a=>?_;go_simp;refine a.u _ _ (trivial)<|λhH=>?_;clear a K;refine dJ ?_;go_wp2;exact J4.u g cap A P.u
   refine .cons U (λK a=>?_) .nil;go_simp;refine a.u _ _ (trivial)<|λhA=>?_;clear a K;refine aH [4,6]<|.cons U (λK a=>?_) ?_;·go_simp;refine a.u _ _ (trivial)<|λhB=>?_;clear a K;refine rH 6 λK a=>?_;go_simp;refine a.u _ _ (trivial)<|λhC=>?_;clear a K;refine rH 7 λK a=>?_;(refine Rb _ n7 _ _ 101 n7 0 106 iS _ 5 16 underlying101 aQ aT aW jR n7 Y l c.length (c.flatMap dZ) n7 (aK.u _) ⟨f.heap.size,0,aj⟩ 1 1 (dZ (off+t,[p,b1,v,z])) n7 n7 (wu<|heap_alloc_new f _) (aC.u) Y B5 Y ay (f.heap.size+1) ay ?_;intro g cap A L X H bD;obtain⟨f1,f2,f3,f4⟩:=OC E.u.1 L X U U H U an.u;have P:Hid (dc (A.setCell (F d 2)<|ζ (Z<|F g 0) (c.length+1) cap) d k db (ζ (Z<|F g 0) (c.length+1) cap) n (fq B off s.data.toList) D (c++[(off+t,[p,b1,v,z])])/\aS (λb=>b=d\/Z b=l.ownBlock) f (A.setCell (F d 2)<|ζ (Z<|F g 0) (c.length+1) cap)/\(l.ownBlock=Z g\/g=f.heap.size+1)):=⟨f3,f4,H⟩;clear f3 f4 L H);refine a.u _ _ (trivial)<|λhG=>?_;clear a K;apply tl [8,9];refine rH 10 λK a=>?_;go_simp;refine a.u _ _ (trivial)<|λhH=>?_;clear a K;refine dJ ?_;go_wp2;exact J4.u g cap A P.u
   refine .cons U (λK a=>?_) .nil;go_simp;refine a.u _ _ (trivial)<|λhB=>?_;clear a K;refine rH 4 λK a=>?_;go_simp;refine a.u _ _ (trivial)<|λhC=>?_;clear a K;refine rH 7 λK a=>?_;(refine Rb _ n7 _ _ 101 n7 0 106 iS _ 5 16 underlying101 aQ aT aW jR n7 Y l c.length (c.flatMap dZ) n7 (aK.u _) ⟨f.heap.size,0,aj⟩ 1 1 (dZ (off+t,[p,b1,v,z])) n7 n7 (wu<|heap_alloc_new f _) (aC.u) Y B5 Y ay (f.heap.size+1) ay ?_;intro g cap A L X H bD;obtain⟨f1,f2,f3,f4⟩:=OC E.u.1 L X U U H U an.u;have P:Hid (dc (A.setCell (F d 2)<|ζ (Z<|F g 0) (c.length+1) cap) d k db (ζ (Z<|F g 0) (c.length+1) cap) n (fq B off s.data.toList) D (c++[(off+t,[p,b1,v,z])])/\aS (λb=>b=d\/Z b=l.ownBlock) f (A.setCell (F d 2)<|ζ (Z<|F g 0) (c.length+1) cap)/\(l.ownBlock=Z g\/g=f.heap.size+1)):=⟨f3,f4,H⟩;clear f3 f4 L H);refine a.u _ _ (trivial)<|λhG=>?_;clear a K;apply tl [8,9];refine rH 10 λK a=>?_;go_simp;refine a.u _ _ (trivial)<|λhH=>?_;clear a K;refine dJ ?_;go_wp2;exact J4.u g cap A P.u
  have h4:¬(t:Int)<(s.size:Int):=Y;go_wp2;have bT:q=m:=by have:=hR.u;have:=HM.u;omega
  exact fC U U ⟨U,bT▸hR.u.2.2⟩
def acZ(db n o)(c b1 d f:UInt8)(D w)(h:pQ w db D)(O:D.size=n)(L:o+4<=n)(H:n<=65536):
  Calls prog 38 #[ν<|eN o c b1 d f,ζ (Z<|F db 0) n n] w λe k=>e=aG (θ #[])/\pQ k db (fq D o [c,b1,d,f])/\aS (·=db) w k:=by
 have A:=(bf.1 h).1;have m:(w.alloc<|au (eN o c b1 d f) 106).heap[w.heap.size]? =Z (au (eN o c b1 d f) 106 (0,0)):=heap_alloc_new w _;have g:(w.alloc<|au (eN o c b1 d f) 106).drew.heap[db]? =Z (au (D.map bP) 5 (0,0)):=(Below.heap_alloc w _ db A).t h;have s:=aJ (w.alloc<|au (eN o c b1 d f) 106) w.heap.size 0 (I (o:Int)) m;have J:¬n=o:=Y;have N:(o:Int)<=(n:Int):=Y
 have u:Hid ((uq #[99,99] 3 #[ζ (Z<|F db o) (n-o)<|n-o,ζ (Z<|F w.heap.size 1) 4 4]).run prog (w.alloc<|au (eN o c b1 d f) 106).drew=.ok (goInt 4) ((w.alloc<|au (eN o c b1 d f) 106).drew.setCells db o<|[c,b1,d,f].map bP)):=by
  refine run_copy_cells (P:=prog) _ 99 99 3 5 db o (n-o) (n-o) ⟨w.heap.size,1,aj⟩ 4 4 ([c,b1,d,f].map bP) underlying99 aW ?_ ?_ ?_ (λj i=>bp g _)<|WL _;show 4=Nat.min 4 (n-o);exact(uE Y).y;intro j v i;rw[Bw];match j with
  |0|1|2|3=>exact(aD m U).t i
  |j+4=>simp at i
  intro j i;have G:j<4:=i;rw[aD g<|gi bV];rfl
 have p:Hid (pQ ((w.alloc<|au (eN o c b1 d f) 106).drew.setCells db o<|[c,b1,d,f].map bP) db (fq D o [c,b1,d,f])/\aS (·=db) w ((w.alloc<|au (eN o c b1 d f) 106).drew.setCells db o<|[c,b1,d,f].map bP)):=by obtain⟨a1,l,a3,q⟩:=Bb [c,b1,d,f] o (w.alloc<|au (eN o c b1 d f) 106).drew D g;exact⟨a1,q,by rw[a3];simp,λb z B=>(l b B).t (Below.heap_alloc w _ b z)⟩
 have t:((w.alloc<|au (eN o c b1 d f) 106).drew.setCells db o<|[c,b1,d,f].map bP).cell? (F w.heap.size 0)=Z (I (o:Int)):=by obtain⟨a1,l,a3,q⟩:=Bb [c,b1,d,f] o (w.alloc<|au (eN o c b1 d f) 106).drew D g;exact(iO (a:=F w.heap.size 0)<|l w.heap.size Y).t s
 have x:=aX t;clear h m g t;go_enter func38,ntmps38
 go_upto_region 1 with fail
 refine ga (S:=λk=>k.cell? (F w.heap.size 0)=Z (I (o:Int))) s λE=>?_;apply tl [0,1,2,3,4,5];refine rH 6 λK r=>?_
 (refine IA U U U U u ?_;simp)
 refine r _ _ x<|λC=>?_;clear r K;refine dJ ?_;go_wp2;exact fC U U ⟨U,p.1,p.2⟩
def qT(D:aF UInt8)(C:av (Nat×av UInt8)):aF UInt8:=C.foldl (λD c=>fq D c.1 c.2) D
def VH(D):∀(C:av (Nat×av UInt8)),(qT D C).size=D.size:=by
 intro C;induction C generalizing D with
 |nil=>rfl
 |cons c C a=>exact(a<|fq D c.1 c.2).t<|AP _ _ _
def yn(D)(C:av (Nat×av UInt8))(c:Nat×av UInt8):qT D (C++[c])=fq (qT D C) c.1 c.2:=by simp[qT]
def XL{w:aq}{g cur}{C:av (Nat×av UInt8)}(e:w.heap[g]? =Z (au cur 106 (0,0)))(n:cur.toList.take (C.length*5)=C.flatMap dZ){i:Nat}{o:Nat}{a b1 b d:UInt8}(f:C[i]? =Z (o,[a,b1,b,d]))(hf:∀c∈C,c.2.length=4):
  w.cell? (F g<|i*5)=Z (I (o:Int))/\w.cell? (F g<|i*5+1)=Z (bP a)/\w.cell? (F g<|i*5+2)=Z (bP b1)/\w.cell? (F g<|i*5+3)=Z (bP b)/\w.cell? (F g<|i*5+4)=Z (bP d):=by
 have key:∀(C:av (Nat×av UInt8)) (i:Nat),(∀c∈C,c.2.length=4)->C[i]? =Z (o,[a,b1,b,d])->∀j,j<5->(C.flatMap dZ)[i*5+j]? =(dZ (o,[a,b1,b,d]))[j]? :=by
  intro C;induction C with
  |nil=>intro i _ h;simp at h
  |cons c C p=>
   intro i hf h j k;have l:(dZ c).length=5:=j4;rw[pH];cases i with
   |zero=>grind
   |succ i=>grind
 have m:=(bY.1 f).1;have cell:∀j,j<5->cur[i*5+j]? =(dZ (o,[a,b1,b,d]))[j]? :=λj k=>by grind
 exact⟨aD e<|cell 0 Y,aD e<|cell 1 Y,aD e<|cell 2 Y,aD e<|cell 3 Y,aD e<|cell 4 Y⟩
def Gb(w W:aq)(d b a:Nat)(cv:aB)(n:Nat)(B D:aF UInt8)(C:av (Nat×av UInt8))(i:Nat):Prop:=dc W d b a cv n B (qT D<|C.take i) C/\aS (·=a) w W
def abj(d bb db n cv B D)(C:av (Nat×av UInt8))(w)(h:dc w d bb db cv n B D C)(hC:C.length<=1099511627776):
  Calls prog 191 #[jp d] w λe p=>e=aG (θ #[])/\dc p d bb db (ζ aj 0 0) n B (qT D C) []/\aS (λb=>b=d\/b=db) w p:=by
 have H0:Hid (Gb w w d bb db cv n B D C 0):=⟨h,aS.refl _ _⟩;obtain⟨A,cap,rfl⟩:=gP h.cache;have c2:=aJ w d 2 (ζ A C.length cap) h.box;have hd:=(bf.1 h.box).1;clear h;go_enter func191,ntmps191;go_wp2
 go_loopw [9] (λJ wr=>∃i:Nat,i<=C.length/\J=I (i:Int)/\Hid (Gb w wr d bb db (ζ A C.length cap) n B D C i)) (λJ _=>C.length-(dw J).toNat)
 case atStart=>exact⟨0,cO _,U,H0⟩
 case round=>
  obtain⟨i,hi,rfl,hR⟩:=hrel;by_cases bn:i<C.length
  ·have G:(i:Int)<(C.length:Int):=Y;obtain⟨c,z⟩:∃c,C[i]? =Z c:=⟨C[i],dj bn⟩;obtain⟨aQ,f4⟩:=hR.1.fits c (jC z);obtain⟨o,N⟩:=c;obtain⟨f,b1,j,l,rfl⟩:∃f b1 j l:UInt8,N=[f,b1,j,l]:=by
    match N,f4 with
    |[f,b1,j,l],_=>exact⟨f,b1,j,l,U⟩
   obtain⟨g,t,rfl,hg,ah⟩:∃g t,A=Z ⟨g,0,aj⟩/\wr.heap[g]? =Z (au t 106 (0,0))/\t.toList.take (C.length*5)=C.flatMap dZ:=by rcases hR.1.cache.2 with⟨v,m⟩|⟨g,O,t,v,_,m,_,_,_,q⟩;omega;cases v;exact⟨g,t,rfl,m,q⟩
   obtain⟨k0,k1,k2,k3,k4⟩:=XL hg ah z (λc h=>(hR.1.fits c h).2);have c1:=aJ wr d 1 (ζ (Z<|F db 0) n n) hR.1.box;have bk:d<wr.heap.size:=(bf.1 hR.1.box).1;have X:d≠db:=fO hR.1.box hR.1.fX ay;have bJ:db<wr.heap.size:=(bf.1 hR.1.fX).1;have P:(wr.alloc<|au (eN o f b1 j l) 106).heap[wr.heap.size]? =Z (au (eN o f b1 j l) 106 (0,0)):=heap_alloc_new wr _;have s:aK wr (wr.alloc<|au (eN o f b1 j l) 106):=bq;have L:Hid (∀W,aS (·=db) (wr.alloc<|au (eN o f b1 j l) 106) W->W.cell? (F d 1)=Z (ζ (Z<|F db 0) n n)/\W.cell? (F wr.heap.size 0)=Z (I (o:Int))/\W.cell? (F wr.heap.size 1)=Z (bP f)/\W.cell? (F wr.heap.size 2)=Z (bP b1)/\W.cell? (F wr.heap.size 3)=Z (bP j)/\W.cell? (F wr.heap.size 4)=Z (bP l)):=λW V=>by have e1:W.heap[d]? =wr.heap[d]? :=(V.block d bV X).t (Below.heap_alloc wr _ d bk);have u:W.heap[wr.heap.size]? =Z (au (eN o f b1 j l) 106 (0,0)):=(V.block wr.heap.size ay Y).t P;exact⟨(iO (a:=F d 1) e1).t c1,aD u U,aD u U,aD u U,aD u U,aD u U⟩
   have HL:Hid (∀k,Calls prog 38 #[ν<|eN o f b1 j l,ζ (Z<|F db 0) n n] ((wr.alloc<|au (eN o f b1 j l) 106).drewN k) λe p=>e=aG (θ #[])/\aS (·=db) (wr.alloc<|au (eN o f b1 j l) 106) p/\Gb w p d bb db (ζ (Z<|F g 0) C.length cap) n B D C (i+1)):=λk=>by have R:=hR.1.below s;refine(acZ db n o f b1 j l (qT D<|C.take i) _ (show pQ ((wr.alloc<|au (eN o f b1 j l) 106).drewN k) db _ from R.fX) R.sizes.2 aQ R.small).m ?_;rintro e p ⟨rfl,v,m⟩;have E:aS (·=db) (wr.alloc<|au (eN o f b1 j l) 106) p:=⟨m.os,m.size,m.block⟩;have old:∀{b:Nat} {x:Obj},(wr.alloc<|au (eN o f b1 j l) 106).heap[b]? =Z x->b≠db->p.heap[b]? =Z x:=λr bt=>(E.block _ (bf.1 r).1 bt).t r;refine⟨U,E,⟨old R.box X,old R.bytes R.apart,?_,⟨R.cache.1,?_⟩,⟨R.sizes.1,by rw[VH];have:=R.sizes.2;rw[VH]at this;exact this⟩,R.fits,R.apart,R.small⟩,(hR.2.t ⟨s.os,s.size,λb r _=>s.block b r⟩).t E⟩;rw[C9,z];show pQ p db (qT D<|C.take i++[(o,[f,b1,j,l])]);rwa [yn];rcases R.cache.2 with q|⟨g',O,aL,q,G,h5,h6⟩;exact aA q;exact az ⟨g',O,aL,q,G,old h5 (λe=>R.cm R.fX aM (by rw[q,<-e];rfl)),h6⟩
   have s0:=L _ (aS.refl _ _);clear hg ah P s;go_upto_region 3 with fail;refine ga (S:=λW=>W.cell? (F d 1)=Z (ζ (Z<|F db 0) n n)/\W.cell? (F wr.heap.size 0)=Z (I (o:Int))/\W.cell? (F wr.heap.size 1)=Z (bP f)/\W.cell? (F wr.heap.size 2)=Z (bP b1)/\W.cell? (F wr.heap.size 3)=Z (bP j)/\W.cell? (F wr.heap.size 4)=Z (bP l)) s0 λbE=>?_;apply tl [0,1,2,3,4];refine rH 5 λK Q=>?_;go_simp;go_at_call 38;refine(HL 1).m ?_;rintro e w5 ⟨rfl,v,m⟩;have H5:=aX m;refine Q _ _ (L _ v)<|λhH=>?_;clear Q K m;refine dJ ?_;go_wp2;refine⟨⟨i+1,Y,by go_num,H5⟩,?_⟩;simp[dw];omega
  have G:¬(i:Int)<(C.length:Int):=Y;have bl:i=C.length:=Y;have H:Hid (dc wr d bb db (ζ A C.length cap) n B (qT D C) C/\aS (·=db) w wr):=by have:=hR;rw[bl]at this;unfold Gb at this;rwa [pM]at this
  have bz:=aJ wr d 2 (ζ A C.length cap) H.1.box;have bA:wr.frozen? (F d 2)=aa:=bp H.1.box _;go_wp2;obtain⟨R,T⟩:=H;have m:=bG R.box 2 (ζ aj 0 0);have yH:bb≠d:=fO R.bytes R.box ay;have bh:db≠d:=fO R.fX R.box ay;exact fC U U ⟨U,⟨m,(bC yH).t R.bytes,(bC bh).t R.fX,qH _ _ _ _,R.sizes,λc z=>(by cases z),R.apart,R.small⟩,⟨T.os,by simpa using T.size,λb r hx=>(bC<|λe=>hx (aA e)).t (T.block b r λe=>hx (az e))⟩⟩
def jQ(off a:Nat)(c:Nat×av UInt8):Bool:=decide (off<=c.1)&&decide (c.1<a)
structure uJ(w:aq)(c a off b:Nat):Prop where
 from_:w.cell? (F c 0)=Z (I (off:Int))
 till:w.cell? (F a 0)=Z (I (b:Int))
def uJ.below{w w' ob eb off en}(h:uJ w ob eb off en)(a:aK w w'):uJ w' ob eb off en:=⟨(iO<|a.block ob<|jo h.from_).t h.from_,(iO<|a.block eb<|jo h.till).t h.till⟩
def UU(f b off a o:Nat)(c b1 d e:UInt8)(w)(h:uJ w f b off a):
  bN 232 #[ν<|eN o c b1 d e,jp f,jp b] w (ω<|jQ off a (o,[c,b1,d,e])):=by
 have q:=jo h.from_;have k:=jo h.till;obtain⟨n,p⟩:=h;have r:f≠w.heap.size:=j4
 have s:b≠w.heap.size:=by have:b<w.heap.size:=k;omega
 have key:∀x:Bool,jQ off a (o,[c,b1,d,e])=x->bN 232 #[ν<|eN o c b1 d e,jp f,jp b] w (ω x):=by
  intro x g;by_cases i:off<=o
  ·have l:(off:Int)<=(o:Int):=Y;by_cases j:o<a
   ·have m:(o:Int)<(a:Int):=Y;have:x=M:=by rw[<-g];simp[jQ,i,j]
    subst this;go_enter func232,ntmps232;go_wp2;go_ret;exact⟨U,bq⟩
   have m:¬(o:Int)<(a:Int):=Y;have:x=aa:=by rw[<-g];simp[jQ,i,j]
   subst this;go_enter func232,ntmps232;go_wp2;go_ret;exact⟨U,bq⟩
  have l:¬(off:Int)<=(o:Int):=Y;have:x=aa:=by rw[<-g];simp[jQ,i]
  subst this;go_enter func232,ntmps232;go_wp2;go_ret;exact⟨U,bq⟩
 exact key _ U
abbrev MR(b a:Nat):aB:=.func (.func 232) #[] #[jp b,jp a]
def agO{w:aq}{g cap n}{C:av (Nat×av UInt8)}(h:w.ownsRow 0 106 5 (ζ (Z<|F g 0) C.length cap) C.length (C.flatMap dZ))(hf:∀c∈C,c.1+4<=n/\c.2.length=4){i}(m:i<C.length):
  ∃o a b1 b d,C[i]? =Z (o,[a,b1,b,d])/\w.cell? (F g<|i*5)=Z (I ((o:Nat):Int))/\w.cell? (F g<|i*5+1)=Z (bP a)/\w.cell? (F g<|i*5+2)=Z (bP b1)/\w.cell? (F g<|i*5+3)=Z (bP b)/\w.cell? (F g<|i*5+4)=Z (bP d):=by
 obtain⟨c,f⟩:∃c,C[i]? =Z c:=⟨C[i],dj m⟩;obtain⟨r,f4⟩:=hf c (jC f);obtain⟨o,j⟩:=c
 obtain⟨a,b1,b,d,rfl⟩:∃a b1 b d:UInt8,j=[a,b1,b,d]:=by
  match j,f4 with
  |[a,b1,b,d],_=>exact⟨a,b1,b,d,U⟩
 rcases h.2 with⟨e,k⟩|⟨s,p,q,e,_,k,_,_,_,l⟩;cases e;cases e;exact⟨o,a,b1,b,d,f,XL k l f<|λc h=>(hf c h).2⟩
def acC(q cap ob eb off en n)(C:av (Nat×av UInt8))(w)(h:w.ownsRow 0 106 5 (ζ q C.length cap) C.length (C.flatMap dZ))(hf:∀c∈C,c.1+4<=n/\c.2.length=4)(D:uJ w ob eb off en)(O:C.length<=1099511627776):
  Calls prog 247 #[ζ q C.length cap,MR ob eb] w λe r=>aK w r/\((e=aG (I<|-1)/\∀c∈C,jQ off en c=aa)\/∃i,e=aG (I ((i:Nat):Int))/\i<C.length/\(∀j c,j<i->C[j]? =Z c->jQ off en c=aa)/\∃c,C[i]? =Z c/\jQ off en c=M):=by
 have s:Hid (w.ownsRow 0 106 5 (ζ q C.length cap) C.length (C.flatMap dZ)/\uJ w ob eb off en):=⟨h,D⟩;go_enter func247,ntmps247;go_wp2
 go_loopw [8] (λv wr=>∃i:Nat,i<=C.length/\v=I (i:Int)/\Hid (aK w wr/\∀j c,j<i->C[j]? =Z c->jQ off en c=aa)) (λv _=>C.length-(dw v).toNat)
 case atStart=>exact⟨0,cO _,U,Below.refl _ _,λj c p=>by omega⟩
 case round=>
  obtain⟨i,P,rfl,hR⟩:=hrel;by_cases A:i<C.length
  ·have B:(i:Int)<(C.length:Int):=Y;obtain⟨g,rfl⟩:∃g,q=Z ⟨g,0,aj⟩:=by rcases s.1.2 with⟨x,N⟩|⟨g,K,L,x,_⟩;omega;cases x;exact⟨g,rfl⟩
   obtain⟨o,f,b1,k,l,z,R,S,T,V,W⟩:=agO (yX s.1 hR.1) hf A;have d:Hid (Calls prog 232 #[ν<|eN o f b1 k l,jp ob,jp eb] wr λe r=>e=aG (ω<|jQ off en (o,[f,b1,k,l]))/\aK w r):=by refine(UU ob eb off en o f b1 k l wr<|s.2.below hR.1).m ?_;rintro e r ⟨rfl,G⟩;exact⟨U,hR.1.t<|G.m hR.1.size⟩
   cases m:jQ off en (o,[f,b1,k,l])with
   |true=>rw[m]at d;go_wp2_with (go_at_call 232;refine d.m ?_;rintro e J ⟨rfl,t⟩);go_ret;exact⟨t,az ⟨i,U,A,hR.2,_,z,m⟩⟩
   |false=>rw[m]at d;go_wp2_with (go_at_call 232;refine d.m ?_;rintro e J ⟨rfl,t⟩);refine⟨⟨i+1,Y,by go_num,t,λj c p u=>?_⟩,?_⟩;by_cases e:j=i;subst e;rw[z]at u;cases u;exact m;exact hR.2 j c Y u;simp[dw];omega
  have B:¬(i:Int)<(C.length:Int):=Y;have H:∀a b,(a,b)∈C->jQ off en (a,b)=aa:=λa b E=>by obtain⟨j,p⟩:=pJ.1 E;have Q:=(bY.1 p).1;exact hR.2 j _ Y p
  go_wp2;go_ret;exact⟨hR.1,aA ⟨U,H⟩⟩
abbrev stay(off a:Nat)(C:av (Nat×av UInt8)):av (Nat×av UInt8):=C.filter λc=>!jQ off a c
structure mg(w W:aq)(g cap off b:Nat)(C:av (Nat×av UInt8))(i j:Nat):Prop where
 row:∃a,W.heap[g]? =Z (au a 106 (0,0))/\a.size=cap*5/\(∀x,x<i*5->a[x]? =((stay off b (C.take j)).flatMap dZ)[x]?)/\∀x,j*5<=x->x<C.length*5->a[x]? =(C.flatMap dZ)[x]?
 many:i=(stay off b (C.take j)).length
 lt:i<j
 le:j<=C.length
 cy:aS (·=g) w W
def OY(off en)(C:av (Nat×av UInt8)){j c}(h:C[j]? =Z c):stay off en (C.take<|j+1)=stay off en (C.take j)++(if jQ off en c=M then[]else[c]):=by
 unfold stay;rw[C9,h,Option.toList_some,zF]
 congr 1;cases a:jQ off en c<;>simp[a]
def AG{C:av (Nat×av UInt8)}(hf:∀c∈C,c.2.length=4):(C.flatMap dZ).length=C.length*5:=by
 induction C with
 |nil=>rfl
 |cons c C a=>grind
def mg.pass{w W W' g cap off en i j C c}(h:mg w W g cap off en C i j)(hc:C[j]? =Z c)(o:jQ off en c=M)(a:aK W W'):mg w W' g cap off en C i (j+1):=by
 obtain⟨d,f,k,l,m⟩:=h.row;have e:stay off en (C.take<|j+1)=stay off en (C.take j):=by rw[OY off en C hc,aO o,lf]
 exact⟨⟨d,bT a f,k,by rw[e];exact l,λx q p=>m x Y p⟩,by rw[e];exact h.many,Kx h.lt,(bY.1 hc).1,h.cy.t ⟨a.os,a.size,λb n _=>a.block b n⟩⟩
def mg.keep{w W W' g cap off en i j o b0 b1 b2 b3 C}(h:mg w W g cap off en C i j)(J:C.length<=cap)(hf:∀c∈C,c.2.length=4)(hc:C[j]? =Z (o,[b0,b1,b2,b3]))(A:jQ off en (o,[b0,b1,b2,b3])=aa)(a:aK W W'):
  mg w (W'.setCells g (i*5)<|dZ (o,[b0,b1,b2,b3])) g cap off en C (i+1) (j+1):=by
 obtain⟨n,t,H,u,v⟩:=h.row;have K:=(bY.1 hc).1;have e:stay off en (C.take<|j+1)=stay off en (C.take j)++[(o,[b0,b1,b2,b3])]:=by rw[OY off en C hc,aI (by rw[A];simp)]
 have O:=h.lt;have N:=th 5 Y;obtain⟨m,p,E,f,q,r,G,s⟩:=sO (dZ (o,[b0,b1,b2,b3])) (i*5) W' n (bT a t);have L:(dZ (o,[b0,b1,b2,b3])).length=5:=U
 have B:((stay off en<|C.take j).flatMap dZ).length=i*5:=by rw[AG<|λc hc=>hf c (uA (rO.1 hc).1),h.many]
 refine⟨⟨m,p,Y,λx d=>?_,λx d D=>?_⟩,by rw[e,fQ,<-h.many];rfl,Y,Y,h.cy.t ⟨s.t a.os,by have:=a.size;omega,λb z d=>(r b d).t (a.block b z)⟩⟩;rw[e,rL]
 by_cases l:x<i*5
 rw[f x<|aA l,BS Y];exact u x l;rw[vO Y,B];have:([(o,[b0,b1,b2,b3])].flatMap dZ)=dZ (o,[b0,b1,b2,b3]):=ay;rw[this];have k:x-i*5<(dZ (o,[b0,b1,b2,b3])).length:=Y;have:=q (x-i*5) _ (dj k) Y;rw[show i*5+(x-i*5)=x by omega]at this;rw[this,dj k];rw[f x<|az Y];exact v x Y D
def mg.cells{w W g cap off en i j n C}(h:mg w W g cap off en C i j)(z:C.length<=cap)(hf:∀c∈C,c.1+4<=n/\c.2.length=4)(m:j<C.length):
  ∃o a b1 b d,C[j]? =Z (o,[a,b1,b,d])/\W.cell? (F g<|j*5)=Z (I ((o:Nat):Int))/\W.cell? (F g<|j*5+1)=Z (bP a)/\W.cell? (F g<|j*5+2)=Z (bP b1)/\W.cell? (F g<|j*5+3)=Z (bP b)/\W.cell? (F g<|j*5+4)=Z (bP d):=by
 obtain⟨p,e,v,x,q⟩:=h.row;obtain⟨c,l⟩:∃c,C[j]? =Z c:=⟨C[j],dj m⟩;obtain⟨u,f4⟩:=hf c (jC l);obtain⟨o,f⟩:=c
 obtain⟨a,b1,b,d,rfl⟩:∃a b1 b d:UInt8,f=[a,b1,b,d]:=by
  match f,f4 with
  |[a,b1,b,d],_=>exact⟨a,b1,b,d,U⟩
 have A:=AG (C:=C) (λc h=>(hf c h).2)
 have key:∀k,k<5->p[j*5+k]? =(dZ (o,[a,b1,b,d]))[k]? :=λk s=>by
  rw[q (j*5+k) Y Y];have r:C=C.take j++(o,[a,b1,b,d])::C.drop (j+1):=by have:=pL j C;rw[BQ m]at this;grind
  have t:((C.take j).flatMap dZ).length=j*5:=T4;rw[r,rL,pH,vO Y,t,Cd,BS (by show k<5;exact s)]
 exact⟨o,a,b1,b,d,l,aD e<|key 0 Y,aD e<|key 1 Y,aD e<|key 2 Y,aD e<|key 3 Y,aD e<|key 4 Y⟩
def mg.room{w W g cap off en i j C}(h:mg w W g cap off en C i j)(f:C.length<=cap):∃a,W.heap[g]? =Z (au a 106 (0,0))/\a.size=cap*5/\i*5+5<=a.size:=by obtain⟨a,b,c,_⟩:=h.row;have d:=h.lt;have e:=h.le;grind
def mg.first {w W g cap off en i n C}(h:w.ownsRow 0 106 5 (ζ (Z<|F g 0) C.length cap) C.length (C.flatMap dZ))(hf:∀c∈C,c.1+4<=n/\c.2.length=4)(d:aK w W)(G:i<C.length)(v:∀j c,j<i->C[j]? =Z c->jQ off en c=aa){c}(hc:C[i]? =Z c)(t:jQ off en c=M):mg w W g cap off en C i (i+1):=by
 have e:stay off en (C.take i)=C.take i:=by refine Fg.2 λx a=>?_;obtain⟨j,f⟩:=pJ.1 a;rw[vP]at f;split at f;rename_i u;rw[v j x u f];rfl;cases f
 have m:stay off en (C.take<|i+1)=C.take i:=by rw[OY off en C hc,aO t,lf,e]
 rcases h.2 with⟨k,o⟩|⟨A,z,l,k,_,o,B,D,p,q⟩;cases k;cases k;have E:=AG (C:=C) (λc h=>(hf c h).2);have cell:∀x,x<C.length*5->l[x]? =(C.flatMap dZ)[x]? :=λx a=>by rw[<-q,vP,aO a,zw]
 refine⟨⟨l,bT d o,p,λx a=>?_,λx _ a=>cell x a⟩,by rw[m,vS,uE Y],Y,Y,⟨d.os,d.size,λb r _=>d.block b r⟩⟩;rw[m,cell x Y];have s:C.flatMap dZ=(C.take i).flatMap dZ++(C.drop i).flatMap dZ:=by rw[<-rL,pL]
 have H:((C.take i).flatMap dZ).length=i*5:=T4;rw[s,BS Y]
abbrev xC:aB:=ν #[I 0,ι .u8 0,ι .u8 0,ι .u8 0,ι .u8 0]
def XK:xC.cells=#[I 0,ι .u8 0,ι .u8 0,ι .u8 0,ι .u8 0]:=aW
def agM(m):∀u∈(qA xC.cells m).toList,u.oneCell'=M:=λu a=>by
 rw[XK]at a;simp only[qA,mJ,jY]at a;obtain⟨k,_,rfl⟩:=a;have b:k %5<5:=QF _ Y;generalize k %5=q at b;match q,b with
 |0,_|1,_|2,_|3,_|4,_=>rfl
def agL(m):(qA xC.cells m).toList.length=m*5:=by rw[lQ,size_zeroCells,XK];rfl
def mg.over{w W g cap off en i n C}(h:mg w W g cap off en C i C.length)(A:C.length<=cap)(o:cap<=cP)(hf:∀c∈C,c.1+4<=n/\c.2.length=4)(zs):
  (W.setCells g (i*5) zs).ownsRow 0 106 5 (ζ (Z<|F g 0) i cap) (stay off en C).length ((stay off en C).flatMap dZ)/\aS (·=g) w (W.setCells g (i*5) zs):=by
 obtain⟨d,k,v,l,z⟩:=h.row;have hm:=h.many;rw[pM]at hm l;obtain⟨a,e,r,s,t,f,u,j⟩:=sO zs (i*5) W d k;have D:=h.lt
 have p:((stay off en C).flatMap dZ).length=i*5:=by rw[AG<|λc m=>(hf c (rO.1 m).1).2,hm]
 have B:=th 5 Y;refine⟨⟨by rw[p,<-hm],az ⟨g,cap,a,by rw[<-hm],cO _,e,Y,o,Y,?_⟩⟩,h.cy.t ⟨j,Y,λb _ q=>f b q⟩⟩;rw[<-hm];refine ux λx=>?_
 grind
def aaa(r cap ob eb off en n)(C:av (Nat×av UInt8))(w)(h:w.ownsRow 0 106 5 (ζ r C.length cap) C.length (C.flatMap dZ))(hf:∀c∈C,c.1+4<=n/\c.2.length=4)(L:uJ w ob eb off en)(hC:C.length<=1099511627776)(bl:∀g,r=Z ⟨g,0,aj⟩->ob≠g/\eb≠g):
  Calls prog 231 #[ζ r C.length cap,MR ob eb] w λe w'=>∃R,e=aG R/\w'.ownsRow 0 106 5 R (stay off en C).length ((stay off en C).flatMap dZ)/\aS (λb=>Z b=(fM r C.length cap).ownBlock) w w'/\R.ownBlock=(fM r C.length cap).ownBlock:=by
 have q:Hid (w.ownsRow 0 106 5 (ζ r C.length cap) C.length (C.flatMap dZ)/\uJ w ob eb off en):=⟨h,L⟩;have S:=acC r cap ob eb off en n C w h hf L hC;have an:=aX S;have aQ:=gP h;clear h L S;go_enter func231,ntmps231;go_wp2_with (go_at_call 247;refine an.m ?_;rintro e w1 ⟨z,aN⟩;rcases aN with⟨rfl,G⟩|⟨i,rfl,hi,G,c,t,u⟩)
 ·have e:stay off en C=C:=Fg.2 λc t=>by rw[G c t];rfl
  go_ret;exact⟨_,U,by rw[e];exact yX q.1 z,⟨z.os,z.size,λb N _=>z.block b N⟩,U⟩
 obtain⟨g,E,rfl⟩:∃g,C.length<=cap/\r=Z ⟨g,0,aj⟩:=by rcases q.1.2 with⟨f,H⟩|⟨g,aE,A,f,_,_,J,_⟩;omega;cases f;exact⟨g,J,rfl⟩
 have bk:cap<=cP:=by rcases q.1.2 with⟨f,H⟩|⟨g,aE,A,f,_,_,J,K,_⟩;cases f;cases f;exact K
 have HD:=aX (mg.first q.1 hf z hi G t u);obtain⟨bn,bt⟩:=bl g U;have ak:Hid (∀W,aS (·=g) w W->uJ W ob eb off en):=λW V=>⟨(iO (a:=F ob 0)<|V.block ob (jo q.2.from_) bn).t q.2.from_,(iO (a:=F eb 0)<|V.block eb (jo q.2.till) bt).t q.2.till⟩;have bh:((i:Int)==-1)=aa:=ay;clear z G t u aQ;rw[bh]
 go_loopw [5,6] (λiv O wr=>∃i j:Nat,iv=I (i:Int)/\O=I (j:Int)/\Hid (mg w wr g cap off en C i j)) (λ_ O _=>C.length-(dw O).toNat)
 case atStart=>exact⟨i,i+1,U,by go_num,HD⟩
 case round=>
  obtain⟨i,j,rfl,rfl,hR⟩:=hrel;have bJ:=hR.le;have bH:=hR.lt;by_cases bg:j<C.length
  ·have K:(j:Int)<(C.length:Int):=Y;obtain⟨o,l,b1,m,p,t,k0,k1,k2,k3,k4⟩:=hR.cells E hf bg;have bD:g<wr.heap.size:=by obtain⟨A,f,_⟩:=hR.row;exact(bf.1 f).1
   have v:aK wr (wr.alloc<|au (eN o l b1 m p) 106):=bq;have hA:(wr.alloc<|au (eN o l b1 m p) 106).heap[wr.heap.size]? =Z (au (eN o l b1 m p) 106 (0,0)):=heap_alloc_new wr _;have D:Hid (bN 232 #[ν<|eN o l b1 m p,jp ob,jp eb] (wr.alloc<|au (eN o l b1 m p) 106)<|ω<|jQ off en (o,[l,b1,m,p])):=UU ob eb off en o l b1 m p _ ((ak _ hR.cy).below v);have HV:Hid (∀d,aK (wr.alloc<|au (eN o l b1 m p) 106) d->(∀k,k<5->∃x,d.cell? (F g<|i*5+k)=Z x)/\∀k,d.frozen? (F g k)=aa):=λd s=>by obtain⟨A,f,H,J⟩:=hR.room E;have T:d.heap[g]? =Z (au A 106 (0,0)):=bT s (bT v f);exact⟨λk X=>⟨_,aD T<|gi Y⟩,λk=>bp T k⟩
   cases u:jQ off en (o,[l,b1,m,p])with
   |true=>rw[u]at D;go_wp2_with (go_at_call 232;refine D.m ?_;rintro e d ⟨rfl,s⟩);refine⟨⟨i,j+1,U,by go_num,hR.pass t u<|v.t<|s.m v.size⟩,?_⟩;simp[dw];omega
   |false=>rw[u]at D;go_wp2_with (go_at_call 232;refine D.m ?_;rintro e d ⟨rfl,s⟩;have hv:d.heap[wr.heap.size]? =Z (au (eN o l b1 m p) 106 (0,0)):=bT s hA;have m0:=aJ d wr.heap.size 0 (I (o:Int)) hv;have m1:=aJ d wr.heap.size 1 (bP l) hv;have m2:=aJ d wr.heap.size 2 (bP b1) hv;have m3:=aJ d wr.heap.size 3 (bP m) hv;have m4:=aJ d wr.heap.size 4 (bP p) hv;obtain⟨hr,fr⟩:=HV d s;obtain⟨x0,r0⟩:=hr 0 Y;obtain⟨x1,r1⟩:=hr 1 Y;obtain⟨x2,r2⟩:=hr 2 Y;obtain⟨x3,r3⟩:=hr 3 Y;obtain⟨x4,r4⟩:=hr 4 Y;rw[xU]at r0;clear hr hv);refine⟨⟨i+1,j+1,by go_num,by go_num,hR.keep E (λc h=>(hf c h).2) t u<|v.t<|s.m v.size⟩,?_⟩;simp[dw];omega
  have K:¬(j:Int)<(C.length:Int):=Y;have aW:j=C.length:=Y;have hv:∀w,(zeroValue 106).run prog w=.ok xC w:=zeroValue106;have bC:∀Q,(um #[101] Q #[ζ (Z<|F g<|i*5) (C.length-i)<|cap-i]).run prog wr=.ok (θ #[]) (wr.setCells g (i*5) (qA xC.cells<|C.length-i).toList):=λQ=>by
   obtain⟨A,f,H,_⟩:=hR.row;have bL:i*5+(C.length-i) *5<=cap*5:=by rw[<-ej];exact th 5 Y
   refine IM (P:=prog) wr 101 106 Q _ underlying101 hv g (i*5) (C.length-i) (cap-i) Y _ U (agM _) ?_<|λk _=>bp f _;intro k X;rw[agL]at X;rw[aD f<|gi Y];rfl
  have B:Hid ((wr.setCells g (i*5) (qA xC.cells<|C.length-i).toList).ownsRow 0 106 5 (ζ (Z<|F g 0) i cap) (stay off en C).length ((stay off en C).flatMap dZ)/\aS (·=g) w (wr.setCells g (i*5) (qA xC.cells<|C.length-i).toList)):=(aW▸hR:mg w wr g cap off en C i C.length).over E bk hf _;generalize wr.setCells g (i*5) (qA xC.cells<|C.length-i).toList=W9 at*;have bE:(i:Int)<=(cap:Int):=Y;have bG:(i:Int)<=(C.length:Int):=Y;clear hv;go_wp2;go_ret;exact⟨_,U,B.1,⟨B.2.os,B.2.size,λb N hx=>B.2.block b N λe=>hx C1⟩,U⟩
def SP{P b off n B s}(w)(c:P.underlying 99=Z (.slice 5))(d:∀w,(JV 5).run P w=.ok 1 w)(h:pQ w b B)(e:B.size=n)(hl:off+s.size<=n):
  ∃r,(uq #[99,9] 3 #[.slice (Z<|F b off) (n-off)<|n-off,.string s]).run P w=.ok r (w.setCells b off<|s.data.toList.map bP):=by
 have f:s.data.toList.length=s.size:=U;exact Oy w 99 9 3 5 b off (n-off) (n-off) s s.data.toList c d (qE Y) (λj a=>by rw[Of h Y];rfl) (λj a=>bp h _)
def dc.lay{w d bb db n off cv B D C}(h:dc w d bb db cv n B D C)(s):dc (w.setCells bb off<|s.map bP) d bb db cv n (fq B off s) D C/\aS (·=bb) w (w.setCells bb off<|s.map bP):=by obtain⟨a1,a,a3,g⟩:=Bb s off w B h.bytes;refine⟨⟨(a d (fO h.box h.bytes ay)).t h.box,a1,(a db<|λe=>h.apart e.y).t h.fX,⟨h.cache.1,?_⟩,⟨by rw[AP];exact h.sizes.1,h.sizes.2⟩,h.fits,h.apart,h.small⟩,⟨g,Y,λb _ o=>a b o⟩⟩;rcases h.cache.2 with c|⟨f,i,j,c,k,l,m⟩;exact aA c;exact az ⟨f,i,j,c,k,(a f λe=>h.cm h.bytes aM (by rw[c,<-e];rfl)).t l,m⟩
def dc.acY{w d bb db n off cv B D C}(h:dc w d bb db cv n B D C)(s):dc (w.setCells db off<|s.map bP) d bb db cv n B (fq D off s) C/\aS (·=db) w (w.setCells db off<|s.map bP):=by obtain⟨a1,a,a3,g⟩:=Bb s off w D h.fX;refine⟨⟨(a d<|fO h.box h.fX ay).t h.box,(a bb h.apart).t h.bytes,a1,⟨h.cache.1,?_⟩,⟨h.sizes.1,by rw[AP];exact h.sizes.2⟩,h.fits,h.apart,h.small⟩,⟨g,Y,λb _ o=>a b o⟩⟩;rcases h.cache.2 with c|⟨f,i,j,c,k,l,m⟩;exact aA c;exact az ⟨f,i,j,c,k,(a f λe=>h.cm h.fX aM (by rw[c,<-e];rfl)).t l,m⟩
def VG(d f i n off cv B D)(C:av (Nat×av UInt8))(s w)(h:dc w d f i cv n B D C)(cw:off<n)(hl:off+s.size<=n)(hC:C.length<=1099511627776):
  Calls prog 192 #[jp d,I off,ξ s] w λe t=>e=aG (θ #[])/\∃aC,dc t d f i aC n (fq B off s.data.toList) (fq D off s.data.toList) (stay off (off+s.size) C)/\aS (λb=>b=d\/b=f\/b=i\/Z b=cv.ownBlock) w t/\aC.ownBlock=cv.ownBlock:=by
 have hn:=h.small;obtain⟨k,cap,rfl⟩:=gP h.cache;have J:aK w (w.alloc<|au #[I (off:Int)] 3):=bq;have hA:(w.alloc<|au #[I (off:Int)] 3).heap[w.heap.size]? =Z (au #[I (off:Int)] 3 (0,0)):=heap_alloc_new w _;have O:∀{W:aq} {b:Nat} {o:Obj},W.heap[b]? =Z o->b<W.heap.size:=λh=>(bf.1 h).1
 have H:dc (w.alloc<|au #[I (off:Int)] 3).drew d f i (ζ k C.length cap) n B D C:=by have:=h.below J;exact⟨this.box,this.bytes,this.fX,this.cache,this.sizes,this.fits,this.apart,this.small⟩
 obtain⟨r1,aL⟩:=SP (P:=prog) (off:=off) (s:=s) (w.alloc<|au #[I (off:Int)] 3).drew underlying99 Ja H.bytes H.sizes.1 hl;obtain⟨l,A⟩:=H.lay (off:=off) s.data.toList;have ak:((w.alloc<|au #[I (off:Int)] 3).drew.setCells f off<|s.data.toList.map bP).heap[w.heap.size]? =Z (au #[I (off:Int)] 3 (0,0)):=(A.block w.heap.size ay (by have:=O h.bytes;omega)).t hA;have xh:w.heap.size+1<=((w.alloc<|au #[I (off:Int)] 3).drew.setCells f off<|s.data.toList.map bP).heap.size:=by have:=A.size;exact akY
 have an:aS (λb=>b=d\/b=f\/b=i\/Z b=(fM k C.length cap).ownBlock) w ((w.alloc<|au #[I (off:Int)] 3).drew.setCells f off<|s.data.toList.map bP):=⟨A.os.t J.os,by have:=A.size;have:=J.size;simp at*;omega,λb p u=>(A.block b bV<|λe=>u (az<|aA e)).t (J.block b p)⟩;have bg:=aX aL;clear aL A;generalize (w.alloc<|au #[I (off:Int)] 3).drew.setCells f off (s.data.toList.map bP)=m at*;have V:dc m.drew d f i (ζ k C.length cap) n (fq B off s.data.toList) D C:=⟨l.box,l.bytes,l.fX,l.cache,l.sizes,l.fits,l.apart,l.small⟩;obtain⟨r2,Dt⟩:=SP (P:=prog) (off:=off) (s:=s) m.drew underlying99 Ja V.fX V.sizes.2 hl;obtain⟨v,E⟩:=V.acY (off:=off) s.data.toList;have X:(m.drew.setCells i off<|s.data.toList.map bP).heap[w.heap.size]? =Z (au #[I (off:Int)] 3 (0,0)):=(E.block w.heap.size (by show w.heap.size<m.heap.size;omega) (by have:=O h.fX;omega)).t ak;have bQ:w.heap.size+1<=(m.drew.setCells i off<|s.data.toList.map bP).heap.size:=cM xh E.size;have z:aS (λb=>b=d\/b=f\/b=i\/Z b=(fM k C.length cap).ownBlock) w (m.drew.setCells i off<|s.data.toList.map bP):=an.t ⟨E.os,E.size,λb p u=>E.block b p λe=>u (az<|az<|aA e)⟩;have bh:=aX Dt;clear Dt E an V;generalize m.drew.setCells i off (s.data.toList.map bP)=a at*;have c0:=aJ (w.alloc<|au #[I (off:Int)] 3) d 0 (ζ (Z<|F f 0) n n) H.box;have k0:=aJ (w.alloc<|au #[I (off:Int)] 3) w.heap.size 0 (I (off:Int)) hA;have c1:=aJ m d 0 (ζ (Z<|F f 0) n n) l.box;have bu:=aJ m d 1 (ζ (Z<|F i 0) n n) l.box;have k1:=aJ m w.heap.size 0 (I (off:Int)) ak;have c2:=aJ a d 1 (ζ (Z<|F i 0) n n) v.box;have cg:=aJ a d 2 (ζ k C.length cap) v.box;have k2:=aJ a w.heap.size 0 (I (off:Int)) X;have cu:¬n=off:=Y;have cx:(off:Int)<=(n:Int):=Y;have cq:d<a.heap.size:=O v.box;have H2:Hid (dc a d f i (ζ k C.length cap) n (fq B off s.data.toList) (fq D off s.data.toList) C/\aS (λb=>b=d\/b=f\/b=i\/Z b=(fM k C.length cap).ownBlock) w a/\a.heap[w.heap.size]? =Z (au #[I (off:Int)] 3 (0,0))):=⟨v,z,X⟩;have Hh:w.heap.size<a.heap.size:=Y
 have bk:Hid (Calls prog 231 #[ζ k C.length cap,MR w.heap.size a.heap.size] (a.alloc<|au #[I<|(off:Int)+(s.size:Int)] 3) λe t=>∃r af L G,r=ζ af L G/\e=aG r/\t.cell? (F d 2)=Z (ζ k C.length cap)/\t.frozen? (F d 2)=aa/\dc (t.setCell (F d 2) r) d f i r n (fq B off s.data.toList) (fq D off s.data.toList) (stay off (off+s.size) C)/\aS (λb=>b=d\/b=f\/b=i\/Z b=(fM k C.length cap).ownBlock) w (t.setCell (F d 2) r)/\r.ownBlock=(fM k C.length cap).ownBlock):=by have bB:aK a (a.alloc<|au #[I<|(off:Int)+(s.size:Int)] 3):=bq;have j:=v.below bB;have aE:(a.alloc<|au #[I<|(off:Int)+(s.size:Int)] 3).heap[a.heap.size]? =Z (au #[I<|(off:Int)+(s.size:Int)] 3 (0,0)):=heap_alloc_new a _;have aH:(a.alloc<|au #[I<|(off:Int)+(s.size:Int)] 3).heap[w.heap.size]? =Z (au #[I (off:Int)] 3 (0,0)):=bT bB X;refine(aaa k cap w.heap.size a.heap.size off (off+s.size) n C _ j.cache j.fits ⟨aD aH U,by rw[Int.natCast_add];exact aD aE U⟩ hC ?_).m ?_;intro g hg;have e1:=j.cm aH aM;have e2:=j.cm aE aM;exact⟨λe=>e1 (by rw[hg,e];rfl),λe=>e2 (by rw[hg,e];rfl)⟩;rintro e t ⟨r,rfl,p1,Q,R⟩;have old:∀{b:Nat} {x:aF aB} {T:aY},(a.alloc<|au #[I<|(off:Int)+(s.size:Int)] 3).heap[b]? =Z (au x T (0,0))->T≠106->t.heap[b]? =Z (au x T (0,0)):=λp hT=>(Q.block _ (O p)<|j.cm p hT).t p;have b1:=old j.box aM;have b2:=bG b1 2 r;have yH:f≠d:=fO j.bytes j.box ay;have bO:i≠d:=fO j.fX j.box ay;obtain⟨af,G,bR⟩:=gP p1;refine⟨r,af,_,G,bR,U,aD b1 U,bp b1 _,⟨b2,(bC yH).t<|old j.bytes aM,(bC bO).t<|old j.fX aM,⟨p1.1,?_⟩,j.sizes,λc hc=>j.fits c (rO.1 hc).1,j.apart,j.small⟩,⟨by show t.os=w.os;exact Q.os.t (bB.os.t z.os),by have:=Q.size;have:=bB.size;have:=z.size;simp at*;omega,λb p u=>?_⟩,R⟩;rcases p1.2 with q|⟨g,G,bz,q1,q2,q3,q4⟩;exact aA q;refine az ⟨g,G,bz,q1,q2,(bC λe=>?_).t q3,q4⟩;exact j.cm j.box aM (by rw[<-R,q1,<-e];rfl);have bL:b<a.heap.size:=cS p z.size;exact(bC<|λe=>u (aA e)).t<|(Q.block b bV<|λe=>u (az<|az<|az e)).t<|(bB.block b bL).t<|z.block b p u
 clear h J hA H l v z ak X xh bQ O;go_enter func192,ntmps192
 go_upto_region 1 with fail
 refine ga (S:=λW=>W.cell? (F d 0)=Z (ζ (Z<|F f 0) n n)/\W.cell? (F w.heap.size 0)=Z (I (off:Int))) ⟨c0,k0⟩ λcj=>?_;apply tl [0,1,2,3,4,5,6];refine rH 7 λK N=>?_
 (refine IA U U U U bg ?_;simp)
 refine N _ _ ⟨c1,k1⟩<|λhH=>?_;clear N K;refine dJ ?_
 go_upto_region 2 with fail
 refine ga (S:=λW=>W.cell? (F d 1)=Z (ζ (Z<|F i 0) n n)/\W.cell? (F w.heap.size 0)=Z (I (off:Int))) ⟨bu,k1⟩ λck=>?_;apply tl [0,1,2,3,4,5,6];refine rH 7 λK N=>?_
 (refine IA U U U U bh ?_;simp)
 refine N _ _ ⟨c2,k2⟩<|λhH=>?_;clear N K;refine dJ ?_;go_wp2_with (go_at_call 231;refine bk.m ?_;rintro e w5 ⟨r,af,L,G,rfl,rfl,p1,Q,R⟩;have H5:=aX R;clear R);exact fC U U ⟨U,_,H5⟩
structure Rq where
 m:bh
 no:Int
abbrev aU(r:Rq):aF aB:=#[I r.m.wh,ξ r.m.nm,I r.m.kd,I r.m.fl,I r.m.ck,I r.m.of,I r.m.ln,ξ r.m.dt,I r.m.er,I r.no]
structure Rq.Ok(r:Rq):Prop where
 of0:0<=r.m.of
 of1:r.m.of<=65535
 nh:0<=r.m.ln
 qU:r.m.ln<=65535
def Rq.touch(a b:Rq):Bool:=!(decide (a.m.kd=0)&&decide (b.m.kd=0))&&(decide (a.m.of<b.m.of+b.m.ln)&&decide (b.m.of<a.m.of+a.m.ln))
def IF(m w)(h0:0<=m.ln)(g:m.ln<=65535):
  bN 195 #[ν<|gy m] w (I<|sizeOf' m):=by
 let⟨i,h,kd,f,b,of,ln,c,d⟩:=m
 dsimp only at h0 g⊢
 by_cases a:kd=0
 ·subst a;go_enter func195,ntmps195;go_wp2;go_ret;exact⟨U,bq⟩
 have j:(kd==0)=aa:=D2
 have e:sizeOf' ⟨i,h,kd,f,b,of,ln,c,d⟩=4:=by simp[sizeOf',a]
 rw[e];go_enter func195,ntmps195;go_wp2;go_ret;exact⟨U,bq⟩
def Xi(r w):
  bN 200 #[ν<|aU r] w (I<|cw r.m):=by
 let⟨⟨h,g,kd,f,b,of,ln,c,d⟩,no⟩:=r
 by_cases a:kd=2
 ·subst a;go_enter func200,ntmps200;go_wp2;go_ret;exact⟨U,bq⟩
 have i:(kd==2)=aa:=D2
 have e:cw ⟨h,g,kd,f,b,of,ln,c,d⟩=ln:=by simp[cw,a]
 rw[e];go_enter func200,ntmps200;go_wp2;go_ret;exact⟨U,bq⟩
def Oj(r w)(h:r.Ok):
  bN 253 #[ν<|aU r] w (I<|r.m.of+r.m.ln):=by
 let⟨h0,a,b,c⟩:=h
 let⟨⟨j,i,kd,g,d,of,ln,e,f⟩,no⟩:=r
 dsimp only at h0 a b c⊢;go_enter func253,ntmps253;go_wp2;go_ret;exact⟨U,bq⟩
abbrev dD(W:aq)(b:Nat)(r:Rq):Prop:=W.cell? (F b 0)=Z (I r.m.wh)/\W.cell? (F b 1)=Z (ξ r.m.nm)/\W.cell? (F b 2)=Z (I r.m.kd)/\W.cell? (F b 3)=Z (I r.m.fl)/\W.cell? (F b 4)=Z (I r.m.ck)/\W.cell? (F b 5)=Z (I r.m.of)/\W.cell? (F b 6)=Z (I r.m.ln)/\W.cell? (F b 7)=Z (ξ r.m.dt)/\W.cell? (F b 8)=Z (I r.m.er)/\W.cell? (F b 9)=Z (I r.no)
def dD.of{W b r}(h:W.heap[b]? =Z (au (aU r) 205 (0,0))):dD W b r:=⟨aD h U,aD h U,aD h U,aD h U,aD h U,aD h U,aD h U,aD h U,aD h U,aD h U⟩
def yw(w:aq)(a b:Rq)(W:aq):Prop:=W.heap[w.heap.size]? =Z (au (aU a) 205 (0,0))/\W.heap[w.heap.size+1]? =Z (au (aU b) 205 (0,0))/\aK w W
def yw.old{w V W a b}(h:yw w a b V)(c:aK V W):yw w a b W:=⟨bT c h.1,bT c h.2.1,h.2.2.t<|c.m h.2.2.size⟩
def yw.cells{w W a b}(h:yw w a b W):dD W w.heap.size a/\dD W (w.heap.size+1) b:=⟨dD.of h.1,dD.of h.2.1⟩
def YG(a b w)(j:a.Ok)(k:b.Ok):
  bN 238 #[ν<|aU a,ν<|aU b] w (ω<|a.touch b):=by
 have g:Hid (yw w a b<|(w.alloc<|au (aU a) 205).alloc<|au (aU b) 205):=⟨(Below.heap_alloc _ _ _ ay).t<|heap_alloc_new w _,by have:=heap_alloc_new (w.alloc<|au (aU a) 205) (au (aU b) 205);simpa using this,bq.alloc ay _⟩;have h:Hid (a.Ok/\b.Ok):=⟨j,k⟩;generalize t:a.touch b=z;cases u:(a.m.kd==0)<;>cases v:(b.m.kd==0)<;>(try cases o:decide (a.m.of<b.m.of+b.m.ln))<;>(try cases p:decide (b.m.of<a.m.of+a.m.ln))
 all_goals
  go_enter func238,ntmps238
  first
  |(go_upto_region 3 with fail
    refine ga (S:=λW=>dD W w.heap.size a/\dD W (w.heap.size+1) b) g.u.cells λs=>?_;apply tl [0,1,2,3];refine rH 4 λK f=>?_;go_simp;go_at_call 253;refine(Oj b _ h.u.2).m ?_;rintro e x ⟨rfl,c⟩;have d:=aX<|g.u.old ⟨c.os,c.tape,c.output,c.size,c.block⟩;refine f.u _ _ d.u.cells (λq=>?_);clear f K c;apply tl [5,6]
    first
    |(apply tlz [7,8,9,10,11,12])
    |(apply tl [7,8,9,10]
      refine rH 11 λK f=>?_;go_simp;go_at_call 253;refine(Oj a _ h.u.1).m ?_;rintro e n ⟨rfl,i⟩
      replace d:Hid (yw w a b n):=d.u.old i
      refine f.u _ _ d.u.cells (λr=>?_);clear f K i;apply tl [12])
    apply tl [13,14];refine dJ ?_;go_wp2;go_ret;exact⟨by simp_all[Rq.touch],d.u.2.2⟩)
  |(go_wp2
    go_ret;exact⟨by simp_all[Rq.touch],g.u.2.2⟩)
def abe{b:Type}(a:b->av aB)(k)(hF:∀x,(a x).length=k):∀(l:av b) (i:Nat) (x:b),l[i]? =Z x->∀j,j<k->(l.flatMap a)[i*k+j]? =(a x)[j]? :=by
 intro l;induction l with
 |nil=>intro i x h;simp at h
 |cons c l e=>
  intro i x h j d;rw[pH];cases i with
  |zero=>grind
  |succ i=>grind
abbrev kr(w:aq)(v:aB)(q:av Rq):Prop:=w.ownsRow 0 205 10 v q.length (q.flatMap λr=>(aU r).toList)
def kr.form{w v q}(h:kr w v q):∃a cap,v=ζ a q.length cap/\q.length<=cap/\cap<=cP:=by rcases h.2 with⟨b,c⟩|⟨g,cap,f,b,_,_,d,e,_⟩;exact⟨aj,0,by rw[b,c],Y,by unfold cP;omega⟩;exact⟨_,cap,b,d,e⟩
def kr.at {w a n cap q}(h:kr w (ζ a n cap) q){i r}(d:q[i]? =Z r):∃g,a=Z ⟨g,0,aj⟩/\
  (w.cell? (F g<|i*10)=Z (I r.m.wh)/\w.cell? (F g<|i*10+1)=Z (ξ r.m.nm)/\w.cell? (F g<|i*10+2)=Z (I r.m.kd)/\w.cell? (F g<|i*10+3)=Z (I r.m.fl)/\w.cell? (F g<|i*10+4)=Z (I r.m.ck)/\w.cell? (F g<|i*10+5)=Z (I r.m.of)/\w.cell? (F g<|i*10+6)=Z (I r.m.ln)/\w.cell? (F g<|i*10+7)=Z (ξ r.m.dt)/\w.cell? (F g<|i*10+8)=Z (I r.m.er)/\w.cell? (F g<|i*10+9)=Z (I r.no)):=by
 have p:=(bY.1 d).1;rcases h.2 with⟨c,b⟩|⟨g,l,e,c,_,b,_,_,o,f⟩;omega;cases c
 have cell:∀j,j<10->e[i*10+j]? =(aU r).toList[j]? :=λj k=>by rw[<-abe (λr=>(aU r).toList) 10 (λ_=>U) q i r d j k,<-f,vP,aO Y,zw]
 exact⟨g,U,aD b<|cell 0 Y,aD b<|cell 1 Y,aD b<|cell 2 Y,aD b<|cell 3 Y,aD b<|cell 4 Y,aD b<|cell 5 Y,aD b<|cell 6 Y,aD b<|cell 7 Y,aD b<|cell 8 Y,aD b<|cell 9 Y⟩
abbrev Pv(r:Rq):aB:=.func (.func 238) #[ν (aU r)] #[]
def acD(v q r w)(h:kr w v q)(hr:r.Ok)(E:∀x∈q,x.Ok)(L:q.length<=1048576):
  Calls prog 265 #[v,Pv r] w λe l=>aK w l/\∃i:Int,e=aG (I i)/\decide (0<=i)=q.any (r.touch ·):=by
 obtain⟨a,cap,rfl,H,hm⟩:=h.form;generalize A:q.any (r.touch ·)=B;have t:=aX A;have m:Hid (kr w (ζ a q.length cap) q/\r.Ok/\∀x∈q,x.Ok):=⟨h,hr,E⟩;go_enter func265,ntmps265;go_wp2
 go_loopw [8] (λs wr=>∃i:Nat,i<=q.length/\s=I (i:Int)/\Hid (aK w wr/\∀j x,j<i->q[j]? =Z x->r.touch x=aa)) (λs _=>q.length-(dw s).toNat)
 case atStart=>exact⟨0,cO _,U,Below.refl _ _,λj c k=>by omega⟩
 case round=>
  obtain⟨i,J,rfl,hR⟩:=hrel;by_cases D:i<q.length
  ·have z:(i:Int)<(q.length:Int):=Y;obtain⟨x,b⟩:∃x,q[i]? =Z x:=⟨q[i],dj D⟩;have u:kr wr (ζ a q.length cap) q:=yX m.1 hR.1;obtain⟨g,rfl,N,O,P,Q,R,S,T,V,W,X⟩:=u.at b;have d:Hid (Calls prog 238 #[ν<|aU r,ν<|aU x] wr λe l=>e=aG (ω<|r.touch x)/\aK w l):=by apply(YG r x wr m.2.1<|m.2.2 x<|jC b).m;rintro e l ⟨rfl,C⟩;exact⟨U,hR.1.t<|C.m hR.1.size⟩
   clear u;cases f:r.touch x with
   |true=>have n:=uw.2 ⟨x,jC b,f⟩;rw[f]at d;go_wp2_with (go_at_call 238;apply d.m;rintro e G ⟨rfl,o⟩);go_ret;exact⟨o,(i:Int),U,by rw[<-t,n];simp⟩
   |false=>rw[f]at d;go_wp2_with (go_at_call 238;apply d.m;rintro e G ⟨rfl,o⟩);refine⟨⟨i+1,Y,by go_num,o,λj c k p=>?_⟩,?_⟩;by_cases e:j=i;subst e;rw[b]at p;cases p;exact f;exact hR.2 j c Y p;simp[dw];omega
  have z:¬(i:Int)<(q.length:Int):=Y;have n:q.any (r.touch ·)=aa:=by rw[vM];intro x b;let⟨j,k⟩:=pJ.1 b;have K:=(bY.1 k).1;rw[hR.2 j x Y k];simp
  go_wp2;go_ret;exact⟨hR.1,-1,U,by rw[<-t,n];rfl⟩
def V9(v q r w)(h:kr w v q)(hr:r.Ok)(f:∀x∈q,x.Ok)(d:q.length<=1048576):
  bN 252 #[v,Pv r] w (ω (q.any (r.touch ·))):=by
 generalize a:q.any (r.touch ·)=B;go_enter func252,ntmps252;go_wp2_with (go_at_call 265;apply(aX (a▸acD v q r w h hr f d)).m;rintro e g ⟨b,i,rfl,c⟩);go_ret;exact⟨by rw[<-c];rfl,b⟩
structure Ft where
 delay:Int
 eJ:Bool
 part:Int
abbrev DD(c:Nat)(rv:aB)(f:Ft)(due a:Int):aF aB:=#[jp c,rv,I f.delay,ω f.eJ,I f.part,I due,I a]
structure fA(W:aq)(j c:Nat)(rv:aB)(q:av Rq)(f:Ft)(due order:Int):Prop where
 box:W.heap[j]? =Z (au (DD c rv f due order) 231 (0,0))
 row:kr W rv q
def fA.key{W j c rv q f due order}(h:fA W j c rv q f due order):mj W j (due,order):=⟨aD h.box U,aD h.box U⟩
def fA.below{w w' j c rv q f due order}(h:fA w j c rv q f due order)(a:aK w w'):fA w' j c rv q f due order:=⟨bT a h.box,yX h.row a⟩
def fA.drewN{w j c rv q f due order}(h:fA w j c rv q f due order)(d):fA (w.drewN d) j c rv q f due order:=⟨h.box,h.row⟩
def acP(j c rv q)(f:Ft)(due order r w)(h:fA w j c rv q f due order)(hr:r.Ok)(p:∀x∈q,x.Ok)(u:q.length<=1048576):
  bN 237 #[jp j,ν<|aU r] w (ω (q.any (r.touch ·))):=by
 have b:aK w (w.alloc<|au (aU r) 205):=bq;have i:(w.alloc<|au (aU r) 205).heap[w.heap.size]? =Z (au (aU r) 205 (0,0)):=heap_alloc_new w _;have g:Hid (∀W,aK (w.alloc<|au (aU r) 205) W->W.cell? (F j 1)=Z rv/\dD W w.heap.size r):=λW n=>⟨aD (bT n<|bT b h.box) U,dD.of<|bT n i⟩;have z:=g _ (Below.refl _ _);generalize l:q.any (r.touch ·)=B
 have t:Hid (∀k,Calls prog 252 #[rv,Pv r] ((w.alloc<|au (aU r) 205).drewN k) λe s=>e=aG (ω B)/\aK (w.alloc<|au (aU r) 205) s):=λk=>by rw[<-l];apply(V9 rv q r _ ((h.below b).drewN k).row hr p u).m;rintro e s ⟨rfl,a⟩;exact⟨U,a.os,a.tape,a.output,a.size,a.block⟩
 have d:=aX b;obtain⟨ra,v,rfl,_⟩:=h.row.form;clear h hr p i b l;go_enter func237,ntmps237
 go_upto_region 1 with fail
 refine ga (S:=λW=>W.cell? (F j 1)=Z (ζ ra q.length v)/\dD W w.heap.size r) z λC=>?_;apply tl [0,1,2,3,4,5];refine rH 6 λK m=>?_;go_simp;go_at_call 252;apply(t 1).m;rintro e D ⟨rfl,o⟩;refine m _ _ (g _ o)<|λA=>?_;clear m K;apply tl [7];refine dJ ?_;go_wp2;go_ret;exact⟨U,d.t<|o.m d.size⟩
def mD{W:aq}{a b o x u v}(h:W.drew.cell? (F a o)=Z v)(c:a≠b):(W.setCell (F b x) u).drew.cell? (F a o)=Z v:=by exact tM h c
def fA.drew{w j c rv q f due order}(h:fA w j c rv q f due order):fA w.drew j c rv q f due order:=⟨h.box,h.row⟩
def aS.drew{X w W}(h:aS X w W):aS X w W.drew:=⟨h.os,h.size,h.block⟩
abbrev dK(f:Ft):aF aB:=#[I f.delay,ω f.eJ,I f.part]
def aiF(j c rv q)(f0 f:Ft)(Ts WN now order w)(h:fA w j c rv q f0 Ts WN)(h0:0<=now)(H:now<=281474976710656)(x:0<=f.delay)(z:f.delay<=65535):
  Calls prog 204 #[jp j,I now,I order,ν<|dK f] w λe A=>e=aG (θ #[])/\fA A j c rv q f (now+f.delay) order/\aS (·=j) w A:=by
 let⟨a,d,part⟩:=f
 dsimp only at x z;have p:aK w (w.alloc<|au (dK ⟨a,d,part⟩) 181):=bq;have m:(w.alloc<|au (dK ⟨a,d,part⟩) 181).heap[w.heap.size]? =Z (au (dK ⟨a,d,part⟩) 181 (0,0)):=heap_alloc_new w _;have hj:=(bf.1 h.box).1;have l:=bT p h.box;have r:(w.alloc<|au (dK ⟨a,d,part⟩) 181).cell? (F w.heap.size 0)=Z (I a)/\(w.alloc<|au (dK ⟨a,d,part⟩) 181).cell? (F w.heap.size 1)=Z (ω d)/\(w.alloc<|au (dK ⟨a,d,part⟩) 181).cell? (F w.heap.size 2)=Z (I part):=⟨aD m U,aD m U,aD m U⟩;have i:w.heap.size≠j:=Y;have P:=aJ (w.alloc<|au (dK ⟨a,d,part⟩) 181) j 2 (I f0.delay) l;have Q:=aJ (w.alloc<|au (dK ⟨a,d,part⟩) 181) j 3 (ω f0.eJ) l;have R:=aJ (w.alloc<|au (dK ⟨a,d,part⟩) 181) j 4 (I f0.part) l;have T:=aJ (w.alloc<|au (dK ⟨a,d,part⟩) 181) j 5 (I Ts) l;have V:=aJ (w.alloc<|au (dK ⟨a,d,part⟩) 181) j 6 (I WN) l;have X:∀k,(w.alloc<|au (dK ⟨a,d,part⟩) 181).frozen? (F j k)=aa:=λk=>bp l k
 have v:Hid (fA ((((((w.alloc<|au (dK ⟨a,d,part⟩) 181).setCell (F j 2)<|I a).setCell (F j 3)<|ω d).setCell (F j 4)<|I part).setCell (F j 5)<|I<|cJ.wrap<|now+a).setCell (F j 6)<|I order) j c rv q ⟨a,d,part⟩ (cJ.wrap<|now+a) order/\aS (·=j) w ((((((w.alloc<|au (dK ⟨a,d,part⟩) 181).setCell (F j 2)<|I a).setCell (F j 3)<|ω d).setCell (F j 4)<|I part).setCell (F j 5)<|I<|cJ.wrap<|now+a).setCell (F j 6)<|I order)):=by have G:=bG (bG (bG (bG l 2<|I a) 3 (ω d)) 4<|I part) 5 (I<|cJ.wrap<|now+a);have off:∀b,b≠j->((((((w.alloc<|au (dK ⟨a,d,part⟩) 181).setCell (F j 2)<|I a).setCell (F j 3)<|ω d).setCell (F j 4)<|I part).setCell (F j 5)<|I<|cJ.wrap<|now+a).setCell (F j 6)<|I order).heap[b]? =(w.alloc<|au (dK ⟨a,d,part⟩) 181).heap[b]? :=λb o=>(bC o).t ((bC o).t<|(bC o).t<|(bC o).t<|bC o);refine⟨⟨(bG G 6<|I order),(h.below p).row.1,?_⟩,⟨p.os,ay,λb o J=>(off b J).t (p.block b o)⟩⟩;rcases(h.below p).row.2 with t|⟨g,cap,C,t,L,u,N⟩;exact aA t;refine az ⟨g,cap,C,t,L,(off g λe=>?_).t u,N⟩;rw[e,l]at u;cases u
 have B:Hid (cJ.wrap (now+a)=now+a):=(by rw[vL];omega:cJ.wrap (now+a)=now+a);clear h p m l h0 H x z;go_enter func204,ntmps204
 go_upto_region 1 with fail
 generalize w.alloc (au (dK ⟨a,d,part⟩) 181)=O at*;refine ga (S:=λW=>W.cell? (F w.heap.size 0)=Z (I a)/\W.cell? (F w.heap.size 1)=Z (ω d)/\W.cell? (F w.heap.size 2)=Z (I part)) r λah=>?_;apply tl [0,1,2,3,4,5,6,7];generalize cJ.wrap (now+a)=D at*;apply tl [8,9,10];refine rH 11 λK n=>?_;go_simp;refine n _ _ ⟨mD (mD (mD r.1 i) i) i,mD (mD (mD r.2.1 i) i) i,mD (mD (mD r.2.2 i) i) i⟩<|λm=>?_;clear n K;apply tl [12,13];refine rH 14 λK n=>?_;go_simp;refine n _ _ ⟨mD m.1 i,mD m.2.1 i,mD m.2.2 i⟩<|λs=>?_;clear n K;apply tl [15,16];refine rH 17 λK n=>?_;go_simp;refine n _ _ ⟨mD s.1 i,mD s.2.1 i,mD s.2.2 i⟩<|λhC=>?_;clear n K;refine dJ ?_;go_wp2;have e:=B;subst e;exact fC U U ⟨U,v.1.drew,v.2.drew⟩
abbrev DH(no wt sz cl e b d rt a f c:Int)(rb:Nat)(s:ByteArray)(q:aB)(bw prom:Int)(out:aB)(tok de sv:Int)(ch:Nat):aF aB:=#[I no,I wt,I sz,I cl,I e,I b,I d,I rt,I a,I f,I c,aQ rb,ξ s,q,I bw,I prom,out,I tok,I de,I sv,.chan (Z ch)]
def TW(c cap a w)(h:w.cell? (F c 13)=Z (ζ a 0 cap)):
  bN 132 #[jp c] w (θ #[afZ,ω aa]):=by
 have b:=jo h;go_enter func132,ntmps132;go_wp2;refine iB (by simp[results,results132,go_sem]) U ⟨U,?_⟩
 repeat (refine Below.setCell ?_ (aR _) _)
 exact bq
def TX(c v r q w)(h:w.cell? (F c 13)=Z v)(b:kr w v (r::q)):
  bN 132 #[jp c] w (θ #[ν<|aU r,ω M]):=by
 have z:=jo h;obtain⟨a,cap,rfl,_⟩:=b.form;obtain⟨g,rfl,d,e,f,j,k,l,m,n,o,p⟩:=b.at (i:=0) U;simp at d e f j k l m n o p;have A:=jo d;have B:(((r::q).length:Int)==0)=aa:=j4
 have C:(0:Int)<((r::q).length:Int):=j4
 generalize (r::q).length=L at*
 let⟨⟨E,D,kd,x,s,of,ln,t,u⟩,no⟩:=r
 go_enter func132,ntmps132;go_wp2;refine iB (by simp[results,results132,go_sem]) U ⟨U,?_⟩
 repeat (refine Below.setCell ?_ (aR _) _)
 exact bq
def ML(c w oa)(n cap:Nat)(k prom ou)(g:n<=4194304)(f:0<=k/\k<=131072)(i:0<=prom/\prom<=4194304)(h:w.cell? (F c 16)=Z (ζ oa n cap))(b:w.cell? (F c 15)=Z (I prom))(d:w.cell? (F c 10)=Z (I ou)):
  Calls prog 228 #[jp c,I k] w λe a=>e=aG (ω<|decide<|(n:Int)+prom+k<=ou)/\∃m,a=w.drewN m:=by
 go_enter func228,ntmps228;go_wp2
 go_quiet (fail)
 go_wp2;go_ret;exact⟨U,_,U⟩
def Sv(c r de w)(h:w.cell? (F c 18)=Z (I de)):
  bN 164 #[jp c,ν<|aU r] w (ω<|decide<|cw r.m<=de):=by
 have q:c<w.heap.size:=jo h;have d:aK w (w.alloc<|au (aU r) 205):=bq;have i:(w.alloc<|au (aU r) 205).heap[w.heap.size]? =Z (au (aU r) 205 (0,0)):=heap_alloc_new w _
 have g:Hid (∀W,aK (w.alloc<|au (aU r) 205) W->W.cell? (F c 18)=Z (I de)/\dD W w.heap.size r):=λW l=>⟨(iO (a:=F c 18)<|(l.block c bV).t<|d.block c q).t h,dD.of<|bT l i⟩
 have s:=g _ (Below.refl _ _);have f:=aX d
 have p:Hid (∀k,Calls prog 200 #[ν<|aU r] ((w.alloc<|au (aU r) 205).drewN k) λe o=>e=aG (I<|cw r.m)/\aK (w.alloc<|au (aU r) 205) o):=λk=>by apply(Xi r _).m;rintro e o ⟨rfl,b⟩;exact⟨U,b.os,b.tape,b.output,b.size,b.block⟩
 clear d i;generalize cw r.m=t at*;go_enter func164,ntmps164
 go_upto_region 1 with fail
 refine ga (S:=λW=>W.cell? (F c 18)=Z (I de)/\dD W w.heap.size r) s λv=>?_;apply tl [0,2,3,4,5];refine rH 1 λK j=>?_;go_simp;go_at_call 200;apply(p 1).m;rintro e x ⟨rfl,n⟩;refine j _ _ (g _ n)<|λu=>?_;clear j K;apply tl [6,7];refine dJ ?_;go_wp2;go_ret;exact⟨U,f.t<|n.m f.size⟩
def Below.drew'{B w W}(h:Below B w W):Below B w W.drew:=⟨h.os,h.tape,h.output,h.size,h.block⟩
def eC{B w W}(h:Below B w W)(k v):Below B w (W.setCell (F B k) v):=Below.setCell h (aR _) _
def Sf{B w W}(h:Below B w W)(v0 v1 v2 v3 v4 v5 v6 v7 v8 v9):Below B w ((((((((((W.setCell (F B 0) v0).setCell (F B 1) v1).setCell (F B 2) v2).setCell (F B 3) v3).setCell (F B 4) v4).setCell (F B 5) v5).setCell (F B 6) v6).setCell (F B 7) v7).setCell (F B 8) v8).setCell (F B 9) v9).drew:=Below.drew' (eC (eC (eC (eC (eC (eC (eC (eC (eC (eC h _ _) _ _) _ _) _ _) _ _) _ _) _ _) _ _) _ _) _ _)
abbrev qp:aF aB:=#[I 0,ξ ⟨#[]⟩,I 0,I 0,I 0,I 0,I 0,ξ ⟨#[]⟩,I 0,I 0]
abbrev rZ(W:aq)(b:Nat):Prop:=W.heap[b]? =Z (au qp 205 (0,0))
abbrev uO(W:aq)(c:Nat)(tok:Int)(b:Nat)(r:Rq):Prop:=W.cell? (F c 17)=Z (I tok)/\dD W b r
def uO.old{W W' c b tok r}(h:uO W c tok b r)(f:aK W W'):uO W' c tok b r:=by have e:∀{a k:Nat} {v:aB},W.cell? (F a k)=Z v->W'.cell? (F a k)=Z v:=λ{a k v} d=>(iO<|f.block a<|jo d).t d;grind
def uO.drewN{W c b tok r}(h:uO W c tok b r)(m):uO (W.drewN m) c tok b r:=h
def needs(q:av Rq):Int:=match q with|[]=>6|r::_=>6+sizeOf' r.m
def agx(c n cap oa prom a v r q w)(h:w.cell? (F c 13)=Z v)(z:kr w v (r::q))(hr:r.Ok)(o:n<=4194304)(t:0<=prom/\prom<=4194304)(p:w.cell? (F c 16)=Z (ζ oa n cap))(u:w.cell? (F c 15)=Z (I prom))(s:w.cell? (F c 10)=Z (I a)):
  bN 185 #[jp c] w (ω<|decide<|(n:Int)+prom+needs (r::q)<=a):=by
 have g:=aX (TX c v r q w h z)
 have J:0<=sizeOf' r.m/\sizeOf' r.m<=65539:=by have G:=hr.nh;have H:=hr.qU;unfold sizeOf';split<;>omega
 have HM:Hid (∀W,aK w W->(Calls prog 195 #[ν<|kE r.m.wh r.m.nm r.m.kd r.m.fl r.m.ck r.m.of r.m.ln r.m.dt r.m.er] W λe b=>e=aG (I<|sizeOf' r.m)/\aK w b)/\Calls prog 228 #[jp c,I<|6+sizeOf' r.m] W λe b=>e=aG (ω<|decide<|(n:Int)+prom+(6+sizeOf' r.m)<=a)/\aK w b):=λW d=>by have old:∀(k:Nat) (x:aB),w.cell? (F c k)=Z x->W.cell? (F c k)=Z x:=λk x A=>(iO<|d.block c<|jo h).t A;constructor;apply(IF r.m W hr.nh hr.qU).m;rintro e b ⟨rfl,i⟩;exact⟨U,d.t<|i.m d.size⟩;refine(ML c W oa n cap _ prom a o ⟨Y,Y⟩ t (old _ _ p) (old _ _ u)<|old _ _ s).m ?_;rintro e b ⟨rfl,m,rfl⟩;exact⟨U,jj d _⟩
 have e:needs (r::q)=6+sizeOf' r.m:=U;rw[e];generalize sizeOf' r.m=sm at*;generalize decide ((n:Int)+prom+(6+sm)<=a)=ok at*
 let⟨⟨P,K,kd,E,B,of,ln,C,D⟩,no⟩:=r
 go_enter func185,ntmps185
 go_wp2_with (first
  |(go_at_call 132;apply g.m;rintro e L ⟨rfl,f⟩)|(go_at_call 195;apply(HM _<|f.t<|bq.m f.size).1.m;rintro e N ⟨rfl,j⟩)|(go_at_call 228;apply(HM _ j).2.m;rintro e O ⟨rfl,l⟩))
 go_ret;exact⟨U,l⟩
def agw(c n cap cap' a oa prom b)(w:aq)(h:w.cell? (F c 13)=Z (ζ a 0 cap'))(j:n<=4194304)(p:0<=prom/\prom<=4194304)(l:w.cell? (F c 16)=Z (ζ oa n cap))(q:w.cell? (F c 15)=Z (I prom))(o:w.cell? (F c 10)=Z (I b)):
  bN 185 #[jp c] w (ω<|decide<|(n:Int)+prom+needs []<=b):=by
 have HM:Hid (∀W,aK w W->Calls prog 228 #[jp c,I 6] W λe g=>e=aG (ω<|decide<|(n:Int)+prom+needs []<=b)/\aK w g):=λW d=>by have old:∀(k:Nat) (x:aB),w.cell? (F c k)=Z x->W.cell? (F c k)=Z x:=λk x r=>(iO<|d.block c<|jo h).t r;refine(ML c W oa n cap 6 prom b j ⟨Y,Y⟩ p (old _ _ l) (old _ _ q)<|old _ _ o).m ?_;rintro e g ⟨rfl,m,rfl⟩;exact⟨U,jj d _⟩
 generalize decide ((n:Int)+prom+needs []<=b)=ok at*;go_enter func185,ntmps185
 go_wp2_with (first
  |(go_at_call 132;apply(aX<|TW c cap' a w h).m;rintro e s ⟨rfl,f⟩)|(go_at_call 228;apply(HM _<|f.t<|bq.m f.size).m;rintro e t ⟨rfl,i⟩))
 go_ret;exact⟨U,i⟩
def adC(c ch v q qu ok w)(s:w.cell? (F c 20)=Z (.chan<|Z ch))(t:w.heap[ch]? =Z (.chan 0 #[] aa 0 0 aa))(h:w.cell? (F c 13)=Z v)(u:kr w v q)(x:w.cell? (F c 4)=Z (I qu))(z:∀k,Calls prog 185 #[jp c] (w.drewN k) λe g=>e=aG (ω ok)/\aK w g):
  bN 148 #[jp c] w (ω<|decide ((q.length:Int)<qu)&&ok):=by
 obtain⟨a,cap,rfl,_⟩:=u.form;have n:=jo h;have i:Hid (∀k,Calls prog 97 #[jp c] (w.drewN k) λe g=>e=aG (ω aa)/\g=w.drewN k):=λk=>AM c ch (w.drewN k) s t;have j:Hid (∀W,aK w W->W.cell? (F c 13)=Z (ζ a q.length cap)/\W.cell? (F c 4)=Z (I qu)):=λW l=>⟨(iO<|l.block c n).t h,(iO<|l.block c n).t x⟩;have d:=j _ (Below.refl _ _);generalize q.length=L at*
 by_cases o:(L:Int)<qu
 ·have f:=lY o;rw[f,Bool.true_and];go_enter func148,ntmps148;go_upto_region 1 with fail;refine ga (S:=λW=>W.cell? (F c 13)=Z (ζ a L cap)/\W.cell? (F c 4)=Z (I qu)) d λr=>?_;apply tl [0];refine rH 1 λK b=>?_;go_simp;go_at_call 97;apply(i 1).m;rintro e A ⟨rfl,rfl⟩;refine b _ _ d<|λp=>?_;clear b K;apply tl [2,3,4,5,6,7,8,9];apply tl [10,11,12,13,14,15,16,17];refine rH 18 λK b=>?_;go_simp;go_at_call 185;apply((aX z) 1).m;rintro e C ⟨rfl,m⟩;refine b _ _ (j _ m)<|λB=>?_;clear b K;apply tl [19,20];refine dJ ?_;go_wp2;go_ret;exact⟨U,m⟩
 rw[lX o,Bool.false_and];go_enter func148,ntmps148
 go_upto_region 1 with fail
 refine ga (S:=λW=>W.cell? (F c 13)=Z (ζ a L cap)/\W.cell? (F c 4)=Z (I qu)) d λr=>?_;apply tl [0];refine rH 1 λK b=>?_;go_simp;go_at_call 97;apply(i 1).m;rintro e A ⟨rfl,rfl⟩;refine b _ _ d<|λp=>?_;clear b K;apply tl [2,3,4,5,6,7,8,9];apply tl [10,11,12,13,14,15,16];apply tlz [17,18];apply tl [19,20];refine dJ ?_;go_wp2;go_ret;exact⟨U,jj (Below.refl _ _) _⟩
def jy(er:UInt8)(ck:Int)(d:ByteArray):ByteArray:=⟨#[82]⟩++⟨#[er]⟩++⟨(cu ck).toArray⟩++d
def Xp(er:UInt8)(ck d w)(f:0<=ck)(g:ck<=65535)(hd:d.size<=65535):
  bN 196 #[I (er.toNat:Int),I ck,ξ d] w (ξ<|jy er ck d):=by
 have c:Hid (∀W,aK w W->Calls prog 235 #[I ck] W λe b=>e=aG (ξ ⟨(cu ck).toArray⟩)/\aK w b):=λW a=>by apply(Nn ck W f g).m;rintro e b ⟨rfl,h⟩;exact⟨U,a.t<|h.m a.size⟩
 have n:(⟨(cu ck).toArray⟩:ByteArray).size=2:=U;generalize k:(⟨(cu ck).toArray⟩:ByteArray)=l at*;have m:(er.toNat:Int)%256=(er.toNat:Int):=by have:=er.toNat_lt;omega
 have e:jy er ck d=⟨#[82]⟩++⟨#[er]⟩++l++d:=by rw[jy,k]
 rw[e];go_enter func196,ntmps196
 go_wp2_with (first
  |(go_at_call 234;apply(NI er _).m;rintro e o ⟨rfl,i⟩)|(go_at_call 235;apply(c _ i).m;rintro e p ⟨rfl,j⟩))
 go_ret;exact⟨U,j⟩
def WB(c n w)(h:decide (n<0)=M):
  eZ 116 #[aQ c,I n] w (θ #[ξ ⟨#[]⟩,I 5]):=by
 go_enter func116,ntmps116;go_wp2
 go_ret2
 exact⟨U,U⟩
def X3(b cap w):(convert 99 9<|ζ b 0 cap).run prog w=.ok (ξ ⟨#[]⟩) w:=by
 cases b with
 |some a=>exact yd w 99 9 5 a cap [] underlying99 underlying5 underlying9 (λj c=>by cases c)
 |none=>rw[run_convert_bytes_string w 99 9 5 aj 0 cap underlying99 underlying5 underlying9];rfl
structure Cf where
 sz:Int
 cl:Int
 qu:Int
 mx:Int
 qn:Int
 rt:Int
 bu:Int
 wk:Int
 ou:Int
structure Ck where
 no:Int
 wt:Int
 ph:Int
 aN:ByteArray
 q:av Rq
 bw:Int
 prom:Int
 out:ByteArray
 tok:Int
 de:Int
 sv:Int
 us:av Int
abbrev Ck.u:=@Ck.out
def gM(g:Cf)(m:bh):ByteArray:=if m.wh=3 then(if m.er=0 then⟨#[]⟩else jy (ji m.er.toNat) m.ck ⟨#[]⟩)else answer g.sz g.mx m
def Ck.shut(k:Ck):Ck:={k with ph:=4,aN:=⟨#[]⟩,q:=[],out:=⟨#[]⟩}
def Ck.hear(g:Cf)(k:Ck)(x:bh×Int):Ck:={k with ph:=after k.ph x.1,aN:=k.aN.extract x.2.toNat k.aN.size,out:=k.u++gM g x.1,q:=if accepted x.1 then k.q++[⟨x.1,-1⟩]else k.q,us:=if accepted x.1 then k.us++[x.1.ck]else k.us}
def Ck.may(g:Cf)(k:Ck):Prop:=k.ph≠4/\(k.q.length:Int)<g.qu/\(k.u.size:Int)+k.prom+needs k.q<=g.ou
def Ck.read(g:Cf):Nat->Ck->Ck
 |0,k=>k|f+1,k=>
  if k.ph≠4/\(k.q.length:Int)<g.qu/\(k.u.size:Int)+k.prom+needs k.q<=g.ou then
   let x:=first g.sz g.mx k.ph k.us k.aN
   if x.2=0 then k else if x.1.wh=4 then k.shut else Ck.read g f (k.hear g x)
  else k
inductive qJ(g:Cf)(k:Ck):av (bh×Int)->Ck->Prop
 |nil:qJ g k [] k
 |snoc {pre:av (bh×Int)} {k1:Ck} {x:bh×Int} (h:qJ g k pre k1) (b:k1.may g) (c:first g.sz g.mx k1.ph k1.us k1.aN=x) (h0:x.2≠0) (a:x.1.wh≠4):qJ g k (pre++[x]) (k1.hear g x)
section
variable {g:Cf} {k k1:Ck} {x:bh×Int} {pre:av (bh×Int)}
def Xk(a:k.may g)(c:first g.sz g.mx k.ph k.us k.aN=x)(h0:x.2≠0)(b:x.1.wh≠4)(f):Ck.read g (f+1) k=Ck.read g f (k.hear g x):=by unfold Ck.may at a;rw[Ck.read,aO a];simp only[c,h0,b,dM]
def afN(a:k.may g)(c:first g.sz g.mx k.ph k.us k.aN=x)(h0:x.2≠0)(b:x.1.wh=4)(f):Ck.read g (f+1) k=k.shut:=by unfold Ck.may at a;rw[Ck.read,aO a];simp only[c,h0,b,dM,dN]
theorem afM(h0:(first g.sz g.mx k.ph k.us k.aN).2=0)(f):Ck.read g f k=k:=by
 cases f with
 |zero=>rfl
 |succ f=>rw[Ck.read];grind
def Xj(a:¬k.may g)(f):Ck.read g f k=k:=by
 cases f with
 |zero=>rfl
 |succ f=>rw[Ck.read];exact aI a
def Oh(h:qJ g k pre k1):∀f,Ck.read g (pre.length+f) k=Ck.read g f k1:=by
 induction h with
 |nil=>intro f;simp
 |@snoc pre k1 x h b c h0 a d=>intro f;have e:(pre++[x]).length+f=pre.length+(f+1):=bV;rw[e,d<|f+1,Xk b c h0 a]
def GW(h:qJ g k pre k1):
  k1.ph=((⟨k.ph,k.us,0⟩:St).run pre).ph/\((⟨k.ph,k.us,0⟩:St).run pre).used=k1.us/\k1.aN=k.aN.extract ((⟨k.ph,k.us,0⟩:St).run pre).pos k.aN.size/\((⟨k.ph,k.us,0⟩:St).run pre).pos<=k.aN.size/\
   k1.no=k.no/\k1.wt=k.wt/\k1.tok=k.tok/\k1.bw=k.bw/\k1.prom=k.prom/\k1.de=k.de/\k1.sv=k.sv:=by
 induction h with
 |nil=>refine⟨U,U,?_,cO _,U,U,U,U,U,U,U⟩;show k.aN=k.aN.extract 0 k.aN.size;simp
 |@snoc pre k1 x h l c h0 j i=>
  let⟨d,e,a,n,f⟩:=i;have b:=Mm g.sz g.mx k1.ph k1.us k1.aN;rw[c]at b;have m:k1.aN.size=k.aN.size-((⟨k.ph,k.us,0⟩:St).run pre).pos:=by rw[a];simp[oH]
  rw[St.Oz];refine⟨?_,?_,?_,?_,f⟩;show after k1.ph x.1=after _ x.1;rw[d];show(if accepted x.1 then _ else _)=if accepted x.1 then _ else _
  rw[e];show k1.aN.extract x.2.toNat k1.aN.size=k.aN.extract (((⟨k.ph,k.us,0⟩:St).run pre).pos+x.2.toNat) k.aN.size;rw[a];apply rG;simp[oH]
  congr 1;omega;show((⟨k.ph,k.us,0⟩:St).run pre).pos+x.2.toNat<=k.aN.size;omega
def Uz(h:qJ g k pre k1):((⟨k.ph,k.us,0⟩:St).run pre).next g.sz g.mx k.aN=first g.sz g.mx k1.ph k1.us k1.aN:=by let⟨a,b,c,_⟩:=GW h;unfold St.next;rw[a,b,c]
end
def mN:aB->Prop
 |ι _ _=>True|ξ _=>True|ω _=>True|_=>False
def nP(W:aq)(v:aB):Prop:=∀g,v.ownBlock=Z g->∃x T,W.heap[g]? =Z (au x T (0,0))/\∀u∈x.toList,mN u
def Et(W):nP W (ζ aj 0 0):=λg h=>by cases h
def nP.keep{W W' v}(h:nP W v)(e:∀g,v.ownBlock=Z g->W'.heap[g]? =W.heap[g]?):nP W' v:=λg a=>by let⟨x,T,b,d⟩:=h g a;exact⟨x,T,(e g a).t b,d⟩
def eF{W W':aq}{T k n:Nat}{v:aB}{xs:av aB}(h:W.ownsRow 0 T k v n xs)(f:∀g,v.ownBlock=Z g->W'.heap[g]? =W.heap[g]?):W'.ownsRow 0 T k v n xs:=by refine⟨h.1,?_⟩;rcases h.2 with h|⟨g,cap,a,rfl,b,d,e⟩;exact aA h;exact az ⟨g,cap,a,rfl,b,(f g rfl).t d,e⟩
def Be{W:aq}{T k n:Nat}{v:aB}{xs:av aB}(h:W.ownsRow 0 T k v n xs){g:Nat}(a:v.ownBlock=Z g):g<W.heap.size:=(h.lt g a).2
def GJ{z n}(h:∀u∈z.toList,mN u):∀u∈(qA z n).toList,mN u:=λu a=>by
 simp only[qA,mJ,jY]at a;obtain⟨i,b,rfl⟩:=a;have d:i<n*z.size:=j4
 have:i %z.size<z.size:=QF _ (Nat.pos_of_ne_zero λe=>by grind);grind
def Ug(s):∀u∈jX s,mN u:=λu a=>by simp only[jX,jY]at a;obtain⟨b,_,rfl⟩:=a;trivial
structure Ge(w w':aq)(v a:aB)(news:av aB):Prop where
 at_:a.ownBlock=v.ownBlock\/∀g,a.ownBlock=Z g->w.heap.size<=g
 Yz:nP w v->(∀u∈news,mN u)->nP w' a
def Jm{w g n cap a}{T:aY}(h:nP w (ζ (Z<|F g 0) n cap))(f:w.heap[g]? =Z (au a T (0,0))):∀u∈a.toList,mN u:=by let⟨x,b,d,e⟩:=h g U;grind
def RS{P}(w t u ty e)(i:TypeInfo)(f:P.underlying t=Z (.slice e))(a:P.underlying u=Z .string)(d:P.info? e=Z i)(z:i.zero=Z (.int .u8 0))(m:i.size=1)(p:i.bytes=1)(v n xs)(l:w.ownsRow 0 e 1 v n xs)(s)(O:n+s.size<=140737488355328):
  ∃A o,(rD #[t,u] ty #[v,.string s]).run P w=.ok A o/\o.ownsRow 0 e 1 A (n+s.size) (xs++jX s)/\w.grownBy o v.ownBlock/\Ge w o v A (jX s):=by
 let⟨A,o,hr,K,L,_⟩:=Lib.run_append_own_string w 0 t u ty e i f a d z m p v n xs l s B5 O (cO _)
 refine⟨A,o,hr,K,L,(by
    have G:xs.length=n:=by simpa using l.1
    rcases l.2 with⟨rfl,rfl⟩|⟨g,cap,B,rfl,Q,j,V,R,S,H⟩;by_cases hm:s.size=0;have r:=y7 (P:=P) w 1 s;grind;have k:=I6 (P:=P) w t u ty e i (.int .u8 0) f a d z s Y Y (by rw[p];omega);rw[k]at hr;cases hr;exact az λg h=>by cases h;exact aR _
    by_cases E:n+s.size<=cap;have k:=x8 (P:=P) w t u ty e i f a d m g n cap B j s E Y;rw[k]at hr;cases hr;exact aA U;have D:=l.cells (g:=g) U;have k:=x7 (P:=P) w t u ty e i (.int .u8 0) f a d z ⟨g,0,aj⟩ n cap xs (by rw[m];simpa using G) D s Y Y (by rw[p];exact QU Y Y);rw[k]at hr;cases hr;exact az λg h=>by cases h;exact aR _),λN r=>?_⟩
 rcases l.2 with⟨rfl,rfl⟩|⟨g,cap,B,rfl,Q,j,V,R,S,H⟩
 by_cases hm:s.size=0
 have r:=y7 (P:=P) w 1 s;rw[hm]at r;simp[rD,Cx f,Cx a,sizeOf,typeInfo,d,m,EK,hm,r]at hr
 grind
 have k:=I6 (P:=P) w t u ty e i (.int .u8 0) f a d z s Y Y (by rw[p];omega);rw[k]at hr;cases hr;intro g j;cases j;refine⟨_,_,heap_alloc_new w.drew _,λx hx=>?_⟩;rw[uh,jg]at hx;rcases hx with hx|hx;simp at hx;obtain⟨b,_,rfl⟩:=hx;trivial;exact GJ (λu a=>by simp[zR]at a;subst a;trivial) x hx;have T:=Jm N j
 by_cases E:n+s.size<=cap
 have k:=x8 (P:=P) w t u ty e i f a d m g n cap B j s E Y;rw[k]at hr;cases hr;intro J C;cases C;refine⟨_,_,setRow_heap w g B _ e _ j,λx hx=>?_⟩
 grind
 have D:=l.cells (g:=g) U;have k:=x7 (P:=P) w t u ty e i (.int .u8 0) f a d z ⟨g,0,aj⟩ n cap xs (by rw[m];simpa using by simpa using l.1) D s Y Y (by rw[p];exact QU Y Y);rw[k]at hr;cases hr;intro J C;cases C;refine⟨_,_,heap_alloc_new w.drew _,λx hx=>?_⟩;simp only[uh,jg]at hx;rcases hx with(hx|hx)|hx;rw[<-H]at hx;exact T x (uA (by simpa using hx));exact r x (by simpa using hx);exact GJ (λu a=>by simp[zR]at a;subst a;trivial) x hx
def LH{P}(w t ty e)(i:TypeInfo)(z size bytes)(A:P.underlying t=Z (.slice e))(p:P.info? e=Z i)(D:i.zero=Z z)(L:i.size=size)(H:i.bytes=bytes)(X:z.cells.size=size)(T:0<size)(N:∀u∈z.cells.toList,mN u)(v n xs)(s:w.ownsRow 0 e size v n xs)(a m c news)(hl:news.length=m*size)(r:∀j u,news[j]? =Z u->w.cell? (a.add j)=Z u)(E:∀u∈news,u.oneCell'=M)(hm:0<m)(G:n+m<=cP)(J:(n+m) *bytes<=140737488355328):
  ∃f d,(rD #[t,t] ty #[v,.slice (Z a) m c]).run P w=.ok f d/\d.ownsRow 0 e size f (n+m) (xs++news)/\w.grownBy d v.ownBlock/\Ge w d v f news:=by
 let⟨f,d,hr,k1,k2,_⟩:=run_append_own w 0 t ty e i z size bytes A p D L H X T v n xs s a m c news hl r E G J (cO _)
 subst L H;have aD:n+m<=9223372036854775807:=by simp only[cP]at G;omega
 refine⟨f,d,hr,k1,k2,?_⟩;rcases s.2 with⟨rfl,rfl⟩|⟨g,cap,B,rfl,ak,b,aC,an,Q,V⟩;rw[run_append_nil w t ty e i z A p D a m c news hl r Y Y j4]at hr;cases hr;refine⟨az λg h=>by cases h;exact aR _,λl o g b=>?_⟩;cases b;refine⟨_,_,heap_alloc_new w.drew _,λx hx=>?_⟩;rw[uh,jg]at hx;rcases hx with hx|hx;exact o x j4;exact GJ N x hx
 by_cases K:n+m<=cap
 have R:n*i.size+news.length<=B.size:=by rw[hl,Q,<-ej];exact th _ K
 rw[(run_append_room w t ty e i A p g n cap B b a m c news hl r E K R)]at hr;cases hr;refine⟨aA U,λl o O C=>?_⟩;have kU:=Jm l b;cases C;refine⟨_,_,setRow_heap w g B _ e _ b,λx hx=>?_⟩
 grind
 rw[(run_append_grow w t ty e i z A p D ⟨g,0,aj⟩ n cap xs s.1 (s.cells U) a m c news hl r Y Y<|QU Y J)]at hr;cases hr;refine⟨az λg h=>by cases h;exact aR _,λl o O C=>?_⟩;cases C;refine⟨_,_,heap_alloc_new w.drew _,λx hx=>?_⟩;simp only[uh,jg]at hx;rcases hx with(hx|hx)|hx;rw[<-V]at hx;exact(Jm l b) x (uA (by simpa using hx));exact o x j4;exact GJ N x hx
abbrev kO(g:Cf)(k:Ck)(rb:Nat)(q out:aB)(ch:Nat):aF aB:=DH k.no k.wt g.sz g.cl g.qu g.mx g.qn g.rt g.bu g.wk g.ou rb k.aN q k.bw k.prom out k.tok k.de k.sv ch
structure cD(W:aq)(c rb ch:Nat)(q v:aB)(g:Cf)(k:Ck):Prop where
 box:W.heap[c]? =Z (au (kO g k rb q v ch) 162 (0,0))
 row:kr W q k.q
 out:uN W v k.u
 tq:nP W q
 tv:nP W v
 chan:W.heap[ch]? =Z (.chan 0 #[] (decide (k.ph=4)) 0 0 aa)
abbrev cD.u:=@cD.out
section
variable {W W':aq} {c rb ch:Nat} {q v:aB} {g:Cf} {k:Ck}
def cD.keep(h:cD W c rb ch q v g k)(e:W'.heap[c]? =W.heap[c]?)(f:W'.heap[ch]? =W.heap[ch]?)(a:∀b,q.ownBlock=Z b->W'.heap[b]? =W.heap[b]?)(d:∀b,v.ownBlock=Z b->W'.heap[b]? =W.heap[b]?):cD W' c rb ch q v g k:=⟨e.t h.box,eF h.row a,eF h.u d,h.tq.keep a,h.tv.keep d,f.t h.chan⟩
def cD.eE(h:cD W c rb ch q v g k):c<W.heap.size/\ch<W.heap.size/\(∀b,q.ownBlock=Z b->b<W.heap.size)/\∀b,v.ownBlock=Z b->b<W.heap.size:=⟨(bf.1 h.box).1,(bf.1 h.chan).1,λ_ a=>Be h.row a,λ_ a=>Be h.u a⟩
def cD.old(h:cD W c rb ch q v g k)(a:aK W W'):cD W' c rb ch q v g k:=have l:=h.eE;h.keep (a.block _ l.1) (a.block _ l.2.1) (λb e=>a.block _ (l.2.2.1 b e)) λb e=>a.block _ (l.2.2.2 b e)
def cD.cy{X}(h:cD W c rb ch q v g k)(a:aS X W W')(d:¬X c)(f:¬X ch)(i:∀b,q.ownBlock=Z b->¬X b)(j:∀b,v.ownBlock=Z b->¬X b):cD W' c rb ch q v g k:=have l:=h.eE;h.keep (a.block _ l.1 d) (a.block _ l.2.1 f) (λb e=>a.block _ (l.2.2.1 b e) (i b e)) λb e=>a.block _ (l.2.2.2 b e) (j b e)
def cD.apart(h:cD W c rb ch q v g k):c≠ch/\Z c≠q.ownBlock/\Z c≠v.ownBlock/\Z ch≠q.ownBlock/\Z ch≠v.ownBlock/\(∀b,q.ownBlock=Z b->Z b≠v.ownBlock):=by
 have key:∀{T k n:Nat} {u:aB} {i:av aB} {b:Nat} {o:Obj},W.ownsRow 0 T k u n i->W.heap[b]? =Z o->(∀a,o≠au a T (0,0))->Z b≠u.ownBlock:=λ{T k n u i b o} hr d l e=>by rcases hr.2 with⟨rfl,_⟩|⟨j,cap,a,rfl,_,f,_⟩;cases e;cases e;exact l a<|ey<|d.y.t f
 refine⟨λe=>?_,key h.row h.box ay,key h.u h.box ay,key h.row h.chan ay,key h.u h.chan ay,λb d e=>?_⟩;have m:=h.box;have p:=h.chan;grind;rcases h.row.2 with⟨rfl,_⟩|⟨j,cap,a,rfl,_,f,_⟩;cases d;cases d;exact key h.u f ay e
def cD.put(h:cD W c rb ch q v g k){k'}(i u)(d:(kO g k rb q v ch).setIfInBounds i u=kO g k' rb q v ch)(m:k'.q=k.q)(j:k'.u=k.u)(l:k'.ph=k.ph):cD (W.setCell (F c i) u) c rb ch q v g k':=by let⟨a1,f,a3,_⟩:=h.apart;have off:∀b,b≠c->(W.setCell (F c i) u).heap[b]? =W.heap[b]? :=λb d=>bC d;refine⟨d▸bG h.box i u,?_,?_,h.tq.keep λb e=>off b λa=>f (by rw[e,a]),h.tv.keep λb e=>off b λa=>a3 (by rw[e,a]),?_⟩;rw[m];exact eF h.row λb e=>off b λa=>f (by rw[e,a]);rw[j];exact eF h.u λb e=>off b λa=>a3 (by rw[e,a]);rw[l];exact(off ch<|dB a1).t h.chan
def cD.drewN(h:cD W c rb ch q v g k)(n):cD (W.drewN n) c rb ch q v g k:=⟨h.box,h.row,h.u,h.tq,h.tv,h.chan⟩
def cD.drew(h:cD W c rb ch q v g k):cD W.drew c rb ch q v g k:=⟨h.box,h.row,h.u,h.tq,h.tv,h.chan⟩
end
abbrev ov(g:Cf):aB:=ν (iV g.sz g.cl g.qu g.mx g.qn g.rt g.bu g.wk g.ou)
abbrev nL(m:bh):aB:=ν (gy m)
structure bh.Ok(m:bh):Prop where
 nm:m.nm.size<=65535
 ck:0<=m.ck/\m.ck<=65535
 er:0<=m.er/\m.er<=255
def O2(g m w)(h0:0<=g.sz/\g.sz<=65535)(p:0<=g.mx/\g.mx<=65535)(hm:m.Ok)(k:m.wh=1\/m.wh=2\/m.wh=3\/m.wh=4):
  bN 186 #[ov g,nL m] w (ξ<|gM g m):=by
 by_cases h:m.wh=3
 ·let⟨x,s,kd,o,c,of,ln,n,b⟩:=m;let⟨r,i,j⟩:=hm;dsimp only at h r i j;subst h;obtain⟨v,hv⟩:∃v,v=gM g ⟨3,s,kd,o,c,of,ln,n,b⟩:=⟨_,U⟩;rw[<-hv];by_cases d:b=0;·subst d;have f:=aX hv;clear hv k;go_enter func186,ntmps186;go_wp2;go_ret;exact⟨by rw[f];rfl,bq.alloc ay _⟩
  obtain⟨a,rfl⟩:∃a:UInt8,b=(a.toNat:Int):=⟨_,(Ar b j.1 Y).y⟩;have f:Hid (v=jy a c ⟨#[]⟩):=by
   rw[hv];unfold gM;rw[aO U,aI d];show jy (ji _) _ _=_
   congr 1;simp
  have t:((a.toNat:Int)==0)=aa:=by simpa using d
  have l:Hid (∀w,bN 196 #[I (a.toNat:Int),I c,ξ ⟨#[]⟩] w<|ξ v):=λw=>by rw[f];exact Xp a c ⟨#[]⟩ w i.1 i.2 aM
  clear hv k d j;generalize (a.toNat:Int)=b at*;go_enter func186,ntmps186;go_wp2_with (go_at_call 196;apply(l _).m;rintro e u ⟨rfl,q⟩);go_ret;exact⟨U,(bq.alloc ay _).t<|q.m bV⟩
 have e:gM g m=answer g.sz g.mx m:=aI h;rw[e];exact O7 _ _ _ _ _ _ _ _ _ m w h0 p hm.nm Y
def VA(m w):
  bN 187 #[nL m] w (ω<|accepted m):=by
 obtain⟨a,c⟩:∃a,a=accepted m:=⟨_,U⟩;rw[<-c]
 let⟨g,k,kd,j,h,of,ln,i,f⟩:=m
 rcases h1:(g==3)with _|_
 ·have b:Hid (a=aa):=by rw[c];simp[accepted];intro e;simp[e]at h1
  go_enter func187,ntmps187;go_wp2;go_ret;exact⟨by rw[b];rfl,bq⟩
 cases d:(f==0)with
 |false=>
  have b:Hid (a=aa):=by rw[c];simp[accepted];intro _ e;simp[e]at d
  go_enter func187,ntmps187;go_wp2;go_ret;exact⟨by rw[b];rfl,bq⟩
 |true=>
  have b:Hid (a=(kd !=5)):=by show a=_;rw[c];simp only[mL]at h1 d;simp[accepted,h1,d,bne,BEq.beq]
  go_enter func187,ntmps187;go_wp2;go_ret;exact⟨by rw[b];rfl,bq⟩
section
end
def Vv:(prog.info? 205).map (λi=>(i.zero,i.size,i.bytes))=Z (Z<|ν #[I 0,ξ ⟨#[]⟩,I 0,I 0,I 0,I 0,I 0,ξ ⟨#[]⟩,I 0,I 0],10,96):=aW
def SF(c rb ch q v g k w)(h:cD w c rb ch q v g k)(z:k.ph≠4):
  Calls prog 118 #[jp c] w λe n=>e=aG (θ #[])/\cD n c rb ch (ζ aj 0 0) (ζ aj 0 0) g k.shut/\aS (λb=>b=c\/b=ch) w n:=by
 have f:=h.chan;rw[lX z]at f;have t:=aJ w c 20 (.chan<|Z ch) h.box;have j:=h.apart.1;have u:=run_close_open (P:=prog) (w:=w) #[159] 0 f;obtain⟨W,d⟩:∃W:aq,W={w with heap:=w.heap.setIfInBounds ch<|.chan 0 #[] M 0 0 aa}:=⟨_,U⟩;rw[<-d]at u
 have a:W.heap[c]? =Z (au (kO g k rb q v ch) 162 (0,0)):=by rw[d];show(w.heap.setIfInBounds ch _)[c]? =_;rw[gn<|dB j];exact h.box
 have l:W.heap[ch]? =Z (.chan 0 #[] M 0 0 aa):=by rw[d];have:=(bf.1 f).1;simp[this]
 have m:aS (λb=>b=c\/b=ch) w W:=by rw[d];exact⟨U,ay,λk _ x=>gn (λe=>x (az e.y))⟩
 have o:Hid (W.heap[c]? =Z (au (kO g k rb q v ch) 162 (0,0))/\W.heap[ch]? =Z (.chan 0 #[] M 0 0 aa)/\aS (λb=>b=c\/b=ch) w W):=⟨a,l,m⟩;have A:=aJ W c 12 (ξ k.aN) a;have B:=aJ W c 13 q a;have C:=aJ W c 16 v a;have f12:=bp a 12;have f13:=bp a 13;have f16:=bp a 16;have i:=aX j;clear d a l m j h;go_enter func118,ntmps118;go_wp2_with (go_at_call 97;apply(AM c ch _ t f).m;rintro e D ⟨rfl,rfl⟩)
 let⟨r,g2,s⟩:=o
 exact fC U U ⟨U,⟨bG (bG (bG r 12 _) 13 _) 16 _,qH _ _ _ _,qH _ _ _ _,Et _,Et _,oT (oT (oT g2 (dB i) _ _) (dB i) _ _) (dB i) _ _⟩,((s.set (p:=F c 12) (aA U) _).set (p:=F c 13) (aA U) _).set (p:=F c 16) (aA U) _⟩
abbrev tE(c b:Nat)(g:Cf)(q v:aB)(m:bh)(W:aq):Prop:=(W.cell? (F c 13)=Z q/\W.cell? (F c 16)=Z v)/\HeS c b g.sz g.cl g.qu g.mx g.qn g.rt g.bu g.wk g.ou m W
def tE.of{c b rb ch g k q v m W}(h:W.heap[c]? =Z (au (kO g k rb q v ch) 162 (0,0)))(hm:uM W b m):tE c b g q v m W:=⟨⟨aD h U,aD h U⟩,⟨aD h U,aD h U,aD h U,aD h U,aD h U,aD h U,aD h U,aD h U,aD h U⟩,⟨aD hm U,aD hm U,aD hm U,aD hm U,aD hm U,aD hm U,aD hm U,aD hm U,aD hm U⟩⟩
def RN{g m}(h:m.nm.size<=65535):(gM g m).size<=65540:=by unfold gM;split;split;exact(by decide:(0:Nat)<=65540);exact(by decide:(4:Nat)<=65540);unfold answer;split;split<;>exact(by decide:(1:Nat)<=65540);split;split;rw[qB,qB];exact(by decide:1+2+2<=65540);split;exact(by decide:(1:Nat)<=65540);rw[qB];show 1+m.nm.size<=65540;omega;exact(by decide:(0:Nat)<=65540)
def Ck.told(k:Ck)(a:ByteArray):Ck:={k with out:=k.u++a}
def cD.tell{W W1 c rb ch q v v' g k a}(h:cD W c rb ch q v g k)(m:W1.ownsRow 0 5 1 v' (k.u.size+a.size) (jX k.u++jX a))(d:W.grownBy W1 v.ownBlock)(u:Ge W W1 v v' (jX a)):
  cD (W1.setCell (F c 16) v') c rb ch q v' g (k.told a)/\aS (λb=>b=c\/Z b=v.ownBlock) W (W1.setCell (F c 16) v')/\W1.heap[c]? =Z (au (kO g k rb q v ch) 162 (0,0)):=by
 let⟨a1,j,a3,x,r,l⟩:=h.apart
 let⟨l1,w,o,C⟩:=h.eE
 have f:=(d.block c l1 a3).t h.box;have off:∀b,b≠c->(W1.setCell (F c 16) v').heap[b]? =W1.heap[b]? :=λb f=>bC f
 have p:∀b,v'.ownBlock=Z b->b≠c:=λb e i=>by rcases m.2 with⟨rfl,_⟩|⟨A,cap,z,rfl,_,B,_⟩;cases e;cases e;grind
 refine⟨⟨bG f 16 v',eF h.row λb e=>(off b λi=>j (by rw[e,i])).t (d.block b (o b e)<|l b e),?_,h.tq.keep λb e=>(off b λi=>j (by rw[e,i])).t (d.block b (o b e)<|l b e),(u.Yz h.tv<|Ug a).keep λb e=>off b (p b e),(off ch<|dB a1).t<|(d.block ch w r).t h.chan⟩,⟨d.os,by simpa using d.size,λb f n=>(off b λe=>n (aA e)).t (d.block b f λe=>n (az e))⟩,f⟩;have t:jX (k.u++a)=jX k.u++jX a:=by simp[jX]
 show uN _ v' (k.u++a);unfold uN;rw[qB ..,t];exact eF m λb e=>off b (p b e)
def Ck.asks(k:Ck)(r:Rq):Ck:={k with q:=k.q++[r]}
def cD.ask{W W1 c rb ch q v q' g k r}(h:cD W c rb ch q v g k)(j:W1.ownsRow 0 205 10 q' (k.q.length+1) (k.q.flatMap (λr=>(aU r).toList)++(aU r).toList))(a:W.grownBy W1 q.ownBlock)(w:Ge W W1 q q' (aU r).toList):
  cD (W1.setCell (F c 13) q') c rb ch q' v g (k.asks r)/\aS (λb=>b=c\/Z b=q.ownBlock) W (W1.setCell (F c 13) q')/\W1.heap[c]? =Z (au (kO g k rb q v ch) 162 (0,0)):=by
 let⟨a1,p,a3,s,z,t⟩:=h.apart
 let⟨l1,x,D,n⟩:=h.eE
 have f:=(a.block c l1 p).t h.box;have off:∀b,b≠c->(W1.setCell (F c 13) q').heap[b]? =W1.heap[b]? :=λb f=>bC f
 have o:∀b,q'.ownBlock=Z b->b≠c:=λb e d=>by rcases j.2 with⟨rfl,_⟩|⟨B,cap,A,rfl,_,C,_⟩;cases e;cases e;grind
 have i:∀b,v.ownBlock=Z b->Z b≠q.ownBlock:=λb e d=>t b d.y e.y;refine⟨⟨bG f 13 q',?_,eF h.u λb e=>(off b λd=>a3 (by rw[e,d])).t (a.block b (n b e)<|i b e),(w.Yz h.tq ?_).keep λb e=>off b (o b e),h.tv.keep λb e=>(off b λd=>a3 (by rw[e,d])).t (a.block b (n b e)<|i b e),(off ch<|dB a1).t<|(a.block ch x s).t h.chan⟩,⟨a.os,by simpa using a.size,λb f m=>(off b λe=>m (aA e)).t (a.block b f λe=>m (az e))⟩,f⟩;show kr _ q' (k.q++[r]);unfold kr;rw[fQ,rL];simp;exact eF j λb e=>off b (o b e);intro u l;simp at l;rcases l with rfl|rfl|rfl|rfl|rfl|rfl|rfl|rfl|rfl|rfl<;>trivial
def Ck.heard(g:Cf)(k:Ck)(m:bh):Ck:=if m.wh=4 then k.shut else if accepted m then(k.told<|gM g m).asks ⟨m,-1⟩else k.told (gM g m)
def acn(c rb ch q v g k m w)(h:cD w c rb ch q v g k)(hp:k.ph≠4)(h0:0<=g.sz/\g.sz<=65535)(h1:0<=g.mx/\g.mx<=65535)(hm:m.Ok)(hw:m.wh=1\/m.wh=2\/m.wh=3\/m.wh=4)(ho:k.u.size<=1048576)(hq:k.q.length<=1048576):
  Calls prog 149 #[jp c,nL m] w λe j=>e=aG (θ #[])/\∃z a,cD j c rb ch z a g (k.heard g m)/\aS (λb=>b=c\/b=ch\/Z b=q.ownBlock\/Z b=v.ownBlock) w j/\
   (z.ownBlock=q.ownBlock\/∀b,z.ownBlock=Z b->w.heap.size<=b)/\(a.ownBlock=v.ownBlock\/∀b,a.ownBlock=Z b->w.heap.size<=b):=by
 let⟨i0,bA,oh,bJ,oZ⟩:=nG infoByte
 let⟨i1,bB,bE,bG,bH⟩:=nG Vv
 have bU:=RN (g:=g) hm.nm
 have D:Hid (w.heap.size≠c/\w.heap.size≠ch/\(∀b,q.ownBlock=Z b->b≠w.heap.size)/\∀b,v.ownBlock=Z b->b≠w.heap.size):=by let⟨l1,l2,l3,l4⟩:=h.eE;exact⟨Y,Y,λb e=>by have:=l3 b e;omega,λb e=>by have:=l4 b e;omega⟩
 have L:aK w (w.alloc<|au (gy m) 129):=bq;have o:Hid (cD (w.alloc<|au (gy m) 129) c rb ch q v g k/\uM (w.alloc<|au (gy m) 129) w.heap.size m/\aK w (w.alloc<|au (gy m) 129)):=⟨h.old L,heap_alloc_new w _,L⟩;have O:Hid (m.Ok/\(m.wh=1\/m.wh=2\/m.wh=3\/m.wh=4)):=⟨hm,hw⟩;clear h hm hw L;go_enter func149,ntmps149
 go_upto_region 1 with fail
 generalize w.alloc (au (gy m) 129)=A0 at*
 go_cut [3] (λp j=>p=aQ w.heap.size/\∃a,cD j c rb ch q a g (k.told<|gM g m)/\uM j w.heap.size m/\aS (λb=>b=c\/Z b=v.ownBlock) w j/\(a.ownBlock=v.ownBlock\/∀b,a.ownBlock=Z b->w.heap.size<=b))
 case first=>refine gY (S:=tE c w.heap.size g q v m) 14 (tE.of o.1.box o.2.1) λhS=>?_;apply tg [0,1,2,3,4,5,6,7];apply tg [8,9];refine gr 10 λK d=>?_;go_simp;go_at_call 186;apply(O2 g m _ h0 h1 O.1 O.2).m;rintro e N ⟨rfl,r⟩;have t:aK A0 N:=⟨r.os,r.tape,r.output,r.size,r.block⟩;have H:=o.u.1.old t;have E:uM N w.heap.size m:=bT t o.u.2.1;refine d.u _ _ (tE.of H.box E)<|λyG=>?_;clear d K;let⟨a,w3,hr,af,W,an⟩:=RS (P:=prog) N 99 9 99 5 i0 underlying99 underlying9 bA oh bJ oZ v k.u.size (jX k.u) H.u (gM g m) Y;obtain⟨va,vc,rfl⟩:=gP af;let⟨P3,T3,A⟩:=H.tell af W an;have Q:uM w3 w.heap.size m:=(W.block _ (bf.1 E).1 λe=>D.u.2.2.2 _ e.y U).t E;refine gr 11 λK d=>?_;apply Xm U U U U hr;refine d.u _ _ (tE.of A Q)<|λMK=>?_;clear d K;apply tg [12,13];have b8:=aJ w3 c 16 v A;have f16:=bp A 16;refine gz λK d=>?_;go_simp;apply d.u _ _;refine gl ?_;go_wp2_with fail;go_meet;case rel=>refine⟨U,_,P3,oT Q D.u.1 16 _,(aS.below<|o.u.2.2.t<|t.m o.u.2.2.size).t<|T3.m λb _ h=>h,an.at_.imp id λh b e=>?_⟩;have:=h b e;have:=t.size;have:=o.u.2.2.size;omega
 case rest=>
  obtain⟨rfl,a,k1,f,k3,k4⟩:=hcut;have i:Hid (cD wc c rb ch q a g (k.told<|gM g m)/\uM wc w.heap.size m/\aS (λb=>b=c\/Z b=v.ownBlock) w wc/\(a.ownBlock=v.ownBlock\/∀b,a.ownBlock=Z b->w.heap.size<=b)):=⟨k1,f,k3,k4⟩;have z0:=aJ wc w.heap.size 0 (I m.wh) f;have z1:=aJ wc w.heap.size 1 (ξ m.nm) f;have z2:=aJ wc w.heap.size 2 (I m.kd) f;have z3:=aJ wc w.heap.size 3 (I m.fl) f;have z4:=aJ wc w.heap.size 4 (I m.ck) f;have z5:=aJ wc w.heap.size 5 (I m.of) f;have z6:=aJ wc w.heap.size 6 (I m.ln) f;have z7:=aJ wc w.heap.size 7 (ξ m.dt) f;have z8:=aJ wc w.heap.size 8 (I m.er) f;clear k1 f k3 k4;cases V:(m.wh==4)with
  |true=>
   have e4:k.heard g m=(k.told<|gM g m).shut:=aO (by simpa using V);have HC:Hid (Calls prog 118 #[jp c] wc λe j=>e=aG (θ #[])/\cD j c rb ch (ζ aj 0 0) (ζ aj 0 0) g (k.heard g m)/\aS (λb=>b=c\/b=ch) wc j):=by rw[e4];exact SF c rb ch q a g _ wc i.u.1 hp
   go_wp2_with (go_at_call 118;apply HC.u.m;rintro e l ⟨rfl,c1,c2⟩);refine fC U U ⟨U,_,_,c1,(i.u.2.2.1.m ?_).t<|c2.m ?_,az<|λb e=>A6,az<|λb e=>A6⟩;rintro b _ (h|h);exact aA h;exact az<|az<|az h;rintro b _ (h|h);exact aA h;exact az<|aA h
  |false=>
   have x:m.wh≠4:=by simpa using V
   rcases ha:accepted m with _|_
   ·have C:Hid (k.heard g m=k.told (gM g m)):=by show k.heard g m=_;rw[Ck.heard,aI x,ha];rfl
    clear x;go_wp2_with (go_at_call 187;apply(aX (ha▸VA m wc)).u.m;rintro e l ⟨rfl,n⟩);refine fC U U ⟨U,q,a,C.u▸i.u.1.old n,(i.u.2.2.1.m ?_).t<|aS.below n,aA U,i.u.2.2.2⟩;rintro b _ (h|h);exact aA h;exact az<|az<|az h
   have C:Hid (k.heard g m=(k.told<|gM g m).asks ⟨m,-1⟩):=by show k.heard g m=_;rw[Ck.heard,aI x,ha];rfl
   clear x;go_upto_region 5 with(go_at_call 187;apply(aX (ha▸VA m wc)).u.m;rintro e l ⟨rfl,n⟩);have T:=i.u.1.old n;have R:uM l w.heap.size m:=bT n i.u.2.1;refine gY (S:=tE c w.heap.size g q a m) 11 (tE.of T.box R) λhS=>?_;apply tg [0,1,2,3,4,5,6];have s:aK l (l.drew.alloc<|au (aU ⟨m,-1⟩) 205):=⟨U,U,U,ay,λk hk=>Below.heap_alloc _ _ _ hk⟩;have J:=T.old s;have G:uM (l.drew.alloc<|au (aU ⟨m,-1⟩) 205) w.heap.size m:=bT s R;refine gr 7 λK d=>?_;go_simp;refine d.u _ _ (tE.of J.box G)<|λbQ=>?_;clear d K;let⟨z,w7,hr,Vg,X,aC⟩:=LH (P:=prog) (l.drew.alloc<|au (aU ⟨m,-1⟩) 205) 160 160 205 i1 _ 10 96 underlying160 bB bE bG bH U Y (by intro u hu;simp only[zR,jh,Fo,or_false]at hu;rcases hu with rfl|rfl|rfl|rfl|rfl|rfl|rfl|rfl|rfl|rfl<;>trivial) q k.q.length _ J.row ⟨l.heap.size,0,aj⟩ 1 1 (aU ⟨m,-1⟩).toList U (wu<|heap_alloc_new l.drew<|au (aU ⟨m,-1⟩) 205) ack Y B5 Y;obtain⟨qa,qc,rfl⟩:=gP Vg;let⟨P7,T7,B⟩:=J.ask Vg X aC;have M7:uM w7 w.heap.size m:=(X.block _ (bf.1 G).1 λe=>D.u.2.2.1 _ e.y U).t G;refine gr 8 λK d=>?_;apply yU U U U U hr;refine d.u _ _ (tE.of B M7)<|λbR=>?_;clear d K;apply tg [9,10];have b7:=aJ w7 c 13 q B;have f13:=bp B 13;refine gz λK d=>?_;go_simp;apply d.u _ _;refine gl ?_;go_wp2;refine fC U U ⟨U,_,a,C.u▸P7,((i.u.2.2.1.m ?_).t<|aS.below<|n.t<|s.m n.size).t<|T7.m ?_,aC.at_.imp id λh b e=>?_,i.u.2.2.2⟩;rintro b _ (h|h);exact aA h;exact az<|az<|az h;rintro b _ (h|h);exact aA h;exact az<|az<|aA h;have:=h b e;have:=s.size;have:=n.size;have:=i.u.2.2.1.size;omega
def YL(sz kd fl of ln):0<=verdict sz kd fl of ln/\verdict sz kd fl of ln<=255:=by
 unfold verdict
 repeat' split
 all_goals omega
def ace(s f i):(cL s f i).1.ck=0/\(cL s f i).1.er=0/\(cL s f i).1.of=0/\(cL s f i).1.ln=0:=by
 induction f generalizing i with
 |zero=>unfold cL;split<;>exact⟨U,U,U,U⟩
 |succ f a=>unfold cL;split;exact⟨U,U,U,U⟩;split;exact a<|i+1;exact⟨U,U,U,U⟩
def Ua(sz mx ph us s):(first sz mx ph us s).1.Ok/\(⟨(first sz mx ph us s).1,-1⟩:Rq).Ok:=by
 have e:=TZ sz mx ph us s;have key:(0<=(first sz mx ph us s).1.er/\(first sz mx ph us s).1.er<=255)/\(0<=(first sz mx ph us s).1.of/\(first sz mx ph us s).1.of<=65535)/\(0<=(first sz mx ph us s).1.ln/\(first sz mx ph us s).1.ln<=65535):=by
  have z:((0:Int)<=0/\(0:Int)<=255)/\((0:Int)<=0/\(0:Int)<=65535)/\((0:Int)<=0/\(0:Int)<=65535):=aM;unfold first
  split;let⟨_,a,b,d⟩:=ace s 5 0;unfold qb;omega;split
  ·unfold opt
   repeat' split
   all_goals exact z
  split
  ·unfold mH
   repeat' split
   all_goals first|exact⟨YL _ _ _ _ _,pF s 5,pF s 7⟩|exact z
  exact z
 exact⟨⟨Y,(TY sz mx ph us s),key.1⟩,⟨key.2.1.1,key.2.1.2,key.2.2.1,key.2.2.2⟩⟩
def aba(sz mx ph us s)(h0:(first sz mx ph us s).2≠0):(first sz mx ph us s).1.wh=1\/(first sz mx ph us s).1.wh=2\/(first sz mx ph us s).1.wh=3\/(first sz mx ph us s).1.wh=4:=by
 revert h0;unfold first
 split;rcases acf s 5 0 with h|h|h;intro h0;exact absurd h.2 h0;exact λ_=>aA h;intro _;have:(qb s).1=.closing:=h;rw[this];exact az<|az<|az U;split
 ·unfold opt
  repeat' split
  all_goals simp[bh.closing]
 split
 ·unfold mH
  repeat' split
  all_goals simp[bh.closing]
 simp
def LD{ph m}(a:ph≠4)(hm:m.wh≠4):after ph m≠4:=by
 unfold after
 repeat' split
 all_goals omega
section
variable {W w:aq} {c rb mb ch:Nat} {q v:aB} {g:Cf} {k k':Ck}
def cD.like(h:cD W c rb ch q v g k)(a:kO g k' rb q v ch=kO g k rb q v ch)(b:k'.q=k.q)(d:k'.u=k.u)(e:k'.ph=4↔k.ph=4):cD W c rb ch q v g k':=⟨a▸h.box,b▸h.row,d▸h.u,h.tq,h.tv,by rw[show decide (k'.ph=4)=decide (k.ph=4) from decide_eq_decide.2 e];exact h.chan⟩
def VZ(h:cD w c rb ch q v g k)(t:∀r∈k.q,r.Ok)(m:k.u.size<=4194304)(o:0<=k.prom/\k.prom<=4194304):
  ∃b:Bool,(b=M↔k.may g)/\bN 148 #[jp c] w (ω b):=by
 by_cases l:k.ph=4
 ·have j:=h.chan;rw[lY l]at j
  exact⟨aa,by simp[Ck.may,l],(by
       go_enter func148,ntmps148;go_wp2;go_quiet ((go_at_call 97;exact Calls.quiet_of_same (DC c ch _ (aD h.box U) j)));go_wp2;go_ret;exact⟨U,jj (Below.refl _ _) _⟩)⟩
 have j:=h.chan;rw[lX l]at j;obtain⟨p,s,rfl⟩:=gP h.u;refine⟨decide ((k.q.length:Int)<g.qu)&&decide ((k.u.size:Int)+k.prom+needs k.q<=g.ou),by simp[Ck.may,l],adC c ch q k.q g.qu (decide<|(k.u.size:Int)+k.prom+needs k.q<=g.ou) w (aD h.box U) j (aD h.box U) h.row (aD h.box U) λn=>?_⟩;have d:=h.drewN n
 have key:bN 185 #[jp c] (w.drewN n) (ω<|decide<|(k.u.size:Int)+k.prom+needs k.q<=g.ou):=by rcases hk:k.q with _|⟨r,rest⟩;obtain⟨a,cap,rfl,_⟩:=h.row.form;refine agw c k.u.size s cap a p k.prom g.ou _ ?_ m o (aD d.box U) (aD d.box U)<|aD d.box U;have:=aD (i:=13) d.box U;rw[this,hk];rfl;have hr:=d.row;rw[hk]at hr;exact agx c k.u.size s p k.prom g.ou q r rest _ (aD d.box U) hr (t r (by rw[hk];simp)) m o (aD d.box U) (aD d.box U) (aD d.box U)
 apply key.m;rintro e u ⟨rfl,f⟩;exact⟨U,f.os,f.tape,f.output,f.size,f.block⟩
structure cg(W:aq)(c rb mb ch:Nat)(q v:aB)(g:Cf)(k:Ck):Prop where
 p:cD W c rb ch q v g k
 rd:∃rp,eB W rb mb g.sz g.mx rp k.us/\(k.ph≠4->rp=k.ph)
structure Ck.CF(g:Cf)(k:Ck):Prop where
 aN:k.aN.size<=1048576
 out:k.u.size<=1048576
 q:∀r∈k.q,r.Ok
 len:k.q.length<=1048576
 prom:0<=k.prom/\k.prom<=1048576
 us:k.us.length<=1048576
 sz:0<=g.sz/\g.sz<=65535
 mx:0<=g.mx/\g.mx<=65535
 qu:g.qu<=65535
 ou:g.ou<=65535
abbrev Ck.CF.u:=@Ck.CF.out
def UA{pre a}(h:qJ g k pre a)(d:∀r∈k.q,r.Ok):∀r∈a.q,r.Ok:=by
 induction h with
 |nil=>exact d
 |@snoc pre a x h i e h0 f b=>intro r hr;have hr':r∈(if accepted x.1 then a.q++[⟨x.1,-1⟩]else a.q):=hr;split at hr';rw[jg]at hr';rcases hr' with hr'|hr';exact b r hr';obtain rfl:=iz.1 hr';rw[<-e];exact(Ua _ _ _ _ _).2;exact b r hr'
def aeb{l}(h:∀r∈l,r.Ok):6<=needs l:=by rcases l with _|⟨r,t⟩;exact fI 6;have:=(h r ay).nh;show 6<=6+sizeOf' r.m;unfold sizeOf';split<;>omega
end
section
attribute [local go_sem] Oper.semAt_some
open Go.RowKit Go.Shelf
def ko(c rb mb ch b B0:Nat)(g:Cf)(k:Ck)(pre:av (bh×Int))(W:aq):Prop:=∃a q v,qJ g k pre a/\a.may g/\cD W c rb ch q v g a/\(∀x,q.ownBlock=Z x->¬Aside rb mb b x)/\(∀x,v.ownBlock=Z x->¬Aside rb mb b x)/\W.heap[B0]? =Z (au #[aQ c] 134 (0,0))
def na(c rb mb ch b:Nat)(g:Cf)(k:Ck)(pre:av (bh×Int))(W:aq):Prop:=∃a q v,(∀f,pre.length<=f->Ck.read g f k=a)/\cD W c rb ch q v g a/\(∀x,q.ownBlock=Z x->¬Aside rb mb b x)/\(∀x,v.ownBlock=Z x->¬Aside rb mb b x)/\(a.ph≠4->a.ph=((⟨k.ph,k.us,0⟩:St).run pre).ph)/\((⟨k.ph,k.us,0⟩:St).run pre).used=a.us
section
variable {c rb mb ch b B0:Nat} {g:Cf} {k:Ck} {q v:aB} {W W':aq}
def LI{row}(hr:∀r,row=Z r->ib rb mb (b+1) r\/r=b+2+1):∀i,¬Aside rb mb b i->row≠Z i:=λi a e=>a (by rcases hr i e with(h|h|h)|h;exact aA h;exact az (aA h);exact az (az<|az<|aA h);exact az (az<|az<|az<|az h))
def cD.grown{row}(h:cD W c rb ch q v g k)(a:W.grownBy W' row)(hr:∀i,¬Aside rb mb b i->row≠Z i)(hc:¬Aside rb mb b c)(j:¬Aside rb mb b ch)(d:∀x,q.ownBlock=Z x->¬Aside rb mb b x)(f:∀x,v.ownBlock=Z x->¬Aside rb mb b x):cD W' c rb ch q v g k:=have l:=h.eE;h.keep (a.block _ l.1 (hr c hc).y) (a.block _ l.2.1 (hr ch j).y) (λx e=>a.block _ (l.2.2.1 x e) (hr x<|d x e).y) λx e=>a.block _ (l.2.2.2 x e) (hr x<|f x e).y
def ko.bears(hc:¬Aside rb mb b c)(m:¬Aside rb mb b ch)(l:¬Aside rb mb b B0):Bears (λr=>ib rb mb (b+1) r\/r=b+2+1) (ko c rb mb ch b B0 g k):=by rintro pre W W' row ⟨n,q,v,f,h,i,a,d,j⟩ e hr;exact⟨n,q,v,f,h,i.grown e (LI hr) hc m a d,a,d,nT j e<|LI hr B0 l⟩
def na.bears(hc:¬Aside rb mb b c)(j:¬Aside rb mb b ch):Bears (λr=>ib rb mb (b+1) r\/r=b+2+1) (na c rb mb ch b g k):=by rintro pre W W' row ⟨l,q,v,e,f,a,d,h⟩ i hr;exact⟨l,q,v,e,f.grown i (LI hr) hc j a d,a,d,h⟩
def cg.off{x}{N:Nat}(h:cg W c rb mb ch q v g k)(C:W.heap[N]? =Z (.deferred x))(w:∀i,i≠N->W'.heap[i]? =W.heap[i]?):cg W' c rb mb ch q v g k:=by
 have key:∀i o,W.heap[i]? =Z o->o≠Obj.deferred x->W'.heap[i]? =W.heap[i]? :=λi o D z=>w i λe=>z j4;have f:∀{T m n:Nat} {u:aB} {j:av aB},W.ownsRow 0 T m u n j->∀b,u.ownBlock=Z b->W'.heap[b]? =W.heap[b]? :=λ{T m n u j} hr b e=>by rcases hr.2 with⟨rfl,_⟩|⟨B,cap,A,rfl,_,a,_⟩;cases e;cases e;exact key _ _ a ay
 let⟨rp,a,t⟩:=h.rd;refine⟨h.p.keep (key _ _ h.p.box ay) (key _ _ h.p.chan ay) (f h.p.row)<|f h.p.u,rp,⟨(key _ _ a.box ay).t a.box,?_⟩,t⟩;let⟨s,l,d,r⟩:=a.uses;exact⟨s,l,(key _ _ d ay).t d,r⟩
end
def Ck.jS(g:Cf)(k:Ck)(x:bh×Int):Ck:=if x.1.wh=4 then k.shut else k.hear g x
def dQ(c rb mb ch q v g k w)(h:cg w c rb mb ch q v g k)(C:k.CF g):
  CallsIn ig 3 prog 103 #[aQ c] w λe w'=>e=aG (θ #[])/\∃d j,cg w' c rb mb ch d j g (Ck.read g (k.aN.size+1) k):=by
 let⟨rp,hR,bW⟩:=h.rd
 have AJ:aK w (w.alloc<|au #[aQ c] 134):=bq
 let⟨dd,bR,dD⟩:=VZ (h.p.old AJ) C.q (by have:=C.u;omega) (by have:=C.prom;omega)
 have HM:=aX dD;have HB:=aX AJ;clear dD AJ;rcases dd with _|_
 ·have HA:Hid (∀W,aK w W->∃d j,cg W c rb mb ch d j g<|Ck.read g (k.aN.size+1) k):=λW hW=>by rw[Xj (λhx=>by simp[hx]at bR)];exact⟨q,v,h.p.old hW,rp,hR.later hW,bW⟩
  clear hR bW h bR;refine QR func103 U trivial ?_ U;simp only[ntmps103,nE,gH,nB,rS,FB,vH,vI,vW,vN,jZ,lT];gi_wp2_with (first|(refine⟨trivial,?_⟩;gi_at_call 148;apply(callsIn_wide.2 HM.u).m;rintro e G ⟨rfl,oY⟩));exact⟨θ #[],X2,U,HA.u _<|HB.u.t<|oY.m ay⟩
 have Vi:k.may g:=bR.1 U;have Vh:k.ph≠4:=Vi.1;obtain rfl:=bW Vh;have HA:Hid (∀W,aK w W->cD W c rb ch q v g k/\eB W rb mb g.sz g.mx k.ph k.us):=λW hW=>⟨h.p.old hW,hR.later hW⟩
 have HX:Hid (∀b,w.heap.size<b->¬Aside rb mb b c/\¬Aside rb mb b ch/\¬Aside rb mb b w.heap.size/\(∀x,q.ownBlock=Z x->¬Aside rb mb b x)/\(∀x,v.ownBlock=Z x->¬Aside rb mb b x)/\rb<w.heap.size/\mb<w.heap.size):=λb hb=>by
  let⟨es,ck,dz,_⟩:=hR.uses;have yI:=hR.box;have l1:=(bf.1 yI).1;have l2:=(bf.1 dz).1;have key:∀i o,w.heap[i]? =Z o->o≠.map es ck->o≠au #[I g.sz,I g.mx,I k.ph,.map<|Z mb] 211 (0,0)->¬Aside rb mb b i:=λi o ho n1 n2=>by have l3:=(bf.1 ho).1;rintro(rfl|rfl|h);exact n2<|ey<|ho.y.t yI;exact n1<|ey<|ho.y.t dz;omega
  have VF:∀{T m n:Nat} {u:aB} {L:av aB},T≠211->w.ownsRow 0 T m u n L->∀x,u.ownBlock=Z x->¬Aside rb mb b x:=λ{T m n u L} hT hr x e=>by rcases hr.2 with⟨rfl,_⟩|⟨g',cap,eH,rfl,_,h3,_⟩;cases e;cases e;exact key _ _ h3 ay (by simp;intro _ e;exact absurd e hT)
  refine⟨key c _ h.p.box ay ay,key ch _ h.p.chan ay ay,?_,VF aM h.p.row,VF aM h.p.u,l1,l2⟩;rintro(h|h|h)<;>omega
 clear hR bW h bR;refine QR func103 U trivial ?_ U;simp only[ntmps103,nE,gH,nB,rS,FB,vH,vI,vW,vN,jZ,lT]
 gi_wp2_with (first|(refine⟨trivial,?_⟩;gi_at_call 148;apply(callsIn_wide.2 HM.u).m;rintro e G ⟨rfl,oY⟩;have dr:=HA.u G<|HB.u.t<|oY.m ay;have fP:=aJ G c 11 (aQ rb) dr.1.box;have fR:=aJ G c 12 (ξ k.aN) dr.1.box;have r0:G.cell? (F w.heap.size 0)=Z (aQ c):=bH oY (by simp[go_sem])))
 apply wpIn_wide.2;refine ga (S:=kp c rb w.heap.size k.aN) ⟨fP,fR,r0⟩ λeP=>?_;apply tl [0,1,2,3,4,5,6,7];refine rH 8 λK hK=>?_;go_simp
 (refine(adG rb k.aN _).m ?_;rintro e w4 ⟨rfl,rfl⟩)
 go_wp2_with fail;refine hK.u _ _ (kp.acX eP)<|λgl=>?_;clear hK K;refine dJ ?_
 (gi_wp2)
 let⟨bD,UO,e4,lD⟩:=afL G rb k.aN
 have eN:aK w G:=HB.u.t (oY.m ay);have yH:w.heap.size<G.heap.size:=by have:=oY.size;simp at this;omega
 have MH:aK w (xz G rb k.aN):=eN.t (lD.m<|oI yH);have AK:(xz G rb k.aN).heap[w.heap.size]? =Z (au #[aQ c] 134 (0,0)):=(lD.block _ yH).t ((oY.block _ ay).t<|heap_alloc_new w _)
 let⟨y1,y3⟩:=HA.u _ MH
 let⟨x1,x2,x3,x4,fX,x5,x6⟩:=HX.u _ yH
 show Code.wpIn ig 3 prog _ _ _ (xz G rb k.aN);generalize xz G rb k.aN=W0 at*;generalize G.heap.size=b at*;have eT:kN W0 rb mb b (b+1) g.sz g.mx k.aN ⟨k.ph,k.us,0⟩:=⟨y3,UO,by rw[show k.aN.extract (⟨k.ph,k.us,0⟩:St).pos k.aN.size=k.aN by simp];exact e4,Y,Y,Y,Y,Y⟩;have gw:=C.aN;have gA:=C.us
 refine Ba (w:=W0) U aM (gf:=168) (lb:=#[aQ b,aQ<|b+1]) U trivial (enters_of func168 aW U) (encs:=Nu) (λ_=>U)
  (R:=ib rb mb<|b+1) (Kp:=eS rb mb b<|b+1) (V:=mR g.sz g.mx k.aN ⟨k.ph,k.us,0⟩)
  (S:=λL W'=>mR g.sz g.mx k.aN ⟨k.ph,k.us,0⟩ L/\(((⟨k.ph,k.us,0⟩:St).run L).next g.sz g.mx k.aN).2=0/\kN W' rb mb b (b+1) g.sz g.mx k.aN ((⟨k.ph,k.us,0⟩:St).run L))
  (Sp:=λpre W'=>mR g.sz g.mx k.aN ⟨k.ph,k.us,0⟩ pre/\kN W' rb mb b (b+1) g.sz g.mx k.aN ((⟨k.ph,k.us,0⟩:St).run pre))
  (λW hW=>acN 2 aM _ _ _ _ g.sz g.mx k.aN ⟨k.ph,k.us,0⟩ W C.sz.1 Y (by show k.us.length<=_;omega) (cO _) (eT.later hW)) ?hR ?hKt ?hKb ?hS ?hSp
  (ko c rb mb ch b w.heap.size g k) (na c rb mb ch b g k) ?hI ?hIx ?h0 (nb c rb b w.heap.size k.aN) ?hAx ?assign ?body ?done ?stop
 case hR=>rintro r (h|h|h)<;>omega
 case hKt=>exact λh k=>⟨k.1.t h.1,k.2.1.t h.2.1,k.2.2.1.t h.2.2.1,k.2.2.2.t h.2.2.2⟩
 case hKb=>exact λW o=>⟨gq Y,gq Y,gq Y,gq Y⟩
 case hS=>exact λL W W' row h hg hr=>⟨h.1,h.2.1,h.2.2.kept ⟨hg.block _ h.2.2.rd.lt.1 (λe=>by have:=hr _ e.y;omega),hg.block _ h.2.2.rd.lt.2 (λe=>by have:=hr _ e.y;omega),hg.block _ (bf.1 h.2.2.cp).1 (λe=>by have:=hr _ e.y;omega),hg.block _ (bf.1 h.2.2.tx).1 (λe=>by have:=hr _ e.y;omega)⟩⟩
 case hSp=>exact λL W W' row h hg hr=>⟨h.1,h.2.kept ⟨hg.block _ h.2.rd.lt.1 (λe=>by have:=hr _ e.y;omega),hg.block _ h.2.rd.lt.2 (λe=>by have:=hr _ e.y;omega),hg.block _ (bf.1 h.2.cp).1 (λe=>by have:=hr _ e.y;omega),hg.block _ (bf.1 h.2.tx).1 (λe=>by have:=hr _ e.y;omega)⟩⟩
 case hI=>rw[bD];exact ko.bears x1 x2 x3
 case hIx=>rw[bD];exact na.bears x1 x2
 case h0=>exact⟨k,_,_,.nil,Vi,y1,x4,fX,AK⟩
 case hAx=>rw[bD];exact λx=>nb.bears Y Y x
 case assign=>rintro l pre ⟨m,nn⟩ W K hi hv jR hK;gi_wp2;exact hK _ (W.alloc<|au (gy m) 129) ⟨Below.heap_alloc _ _ _ Y,Below.heap_alloc _ _ _ Y⟩ ⟨Below.heap_alloc _ _ _ Y,Below.heap_alloc _ _ _ Y,Below.heap_alloc _ _ _ Y,Below.heap_alloc _ _ _ Y⟩ (ko.bears x1 x2 x3 _ _ _ aj hi (pN W (au (gy m) 129) aj) (λr e=>by cases e)) ⟨W.heap.size,Y,heap_alloc_new _ _,U⟩
 case body=>
  rintro l pre ⟨m,nn⟩ a' W ⟨a,D,E,J,g2,X,g4,g5,g7⟩ ⟨B,ed,ef,rfl⟩ hv jR;let⟨i1,i2,i3,i4,i5,i6,i7,i8,i9,e7,e9⟩:=GW J;have xg:=Uz J;have dL:=((XE g.sz g.mx k.aN ⟨k.ph,k.us,0⟩ pre (m,nn)).1 hv).2;rw[xg]at dL;let⟨hf,cT⟩:=dL;have bU:=Mm g.sz g.mx a.ph a.us a.aN;have cR:=Ua g.sz g.mx a.ph a.us a.aN;have cW:=aba g.sz g.mx a.ph a.us a.aN (by rw[hf];exact cT);rw[hf]at bU cR cW;obtain⟨K,rfl⟩:∃K:Nat,nn=(K:Int):=⟨nn.toNat,by have:=bU.1;simp at this;omega⟩;have hK:K<=a.aN.size:=by have:=bU.2;simp at this;omega
  have eE:=aJ W c 12 (ξ a.aN) X.box;have f12:=bp X.box 12;have c0:=aJ W w.heap.size 0 (aQ c) g7;have gu:a.aN.size<=1048576:=by rw[i3];simp[oH];omega
  have gx:(K:Int)<=(a.aN.size:Int):=Y;have HG:Hid (qJ g k pre a/\a.may g/\first g.sz g.mx a.ph a.us a.aN=(m,(K:Int))/\(K:Int)≠0/\m.Ok/\(m.wh=1\/m.wh=2\/m.wh=3\/m.wh=4)):=⟨J,g2,hf,cT,cR.1,cW⟩;have HQ:Hid (cD W c rb ch D E g a/\(∀x,D.ownBlock=Z x->¬Aside rb mb b x)/\(∀x,E.ownBlock=Z x->¬Aside rb mb b x)/\W.heap[w.heap.size]? =Z (au #[aQ c] 134 (0,0))/\W.heap[B]? =Z (au (gy m) 129 (0,0))/\b+4<=B/\W0.heap.size+2<=W.heap.size):=⟨X,g4,g5,g7,ef,ed,jR⟩;have HI:Hid (a.prom=k.prom/\a.ph=((⟨k.ph,k.us,0⟩:St).run pre).ph/\((⟨k.ph,k.us,0⟩:St).run pre).used=a.us):=⟨i9,i1,i2⟩;clear J g2 X g4 g5 g7 ed ef jR i1 i2 i3 i4 i5 i6 i7 i8 i9 e7 e9 hf cT cR cW bU xg hv;unfold zd;gi_wp2;rename_i K0 dn;have eR:=dn;have ew:K0 (yv c rb b w.heap.size k.aN a.aN m K B) (W.setCell (F c 12)<|ξ<|a.aN.extract K a.aN.size).drew:=by
   let⟨p1,A,p3,p4,p5,p6⟩:=HG.u;let⟨bg,q3,c6,q5,q6,q7,q8⟩:=HQ.u;let⟨j1,j2,j3⟩:=HI.u;have n2:w.heap.size≠c:=fO q5 bg.box ay;have n3:B≠c:=fO q6 bg.box ay;have n4:w.heap.size≠ch:=fO q5 bg.chan ay;have n5:Z w.heap.size≠D.ownBlock:=λe=>by rcases bg.row.2 with⟨e',_⟩|⟨g',cap,eH,e',_,h3,_⟩;rw[e']at e;cases e;rw[e']at e;cases e;exact fO q5 h3 ay rfl
   have n6:Z w.heap.size≠E.ownBlock:=aeO bg.u q5 ay;obtain⟨z,bl⟩:∃z,z=(W.setCell (F c 12)<|ξ<|a.aN.extract K a.aN.size).drew:=⟨_,U⟩;have P5:cD z c rb ch D E g {a with aN:=a.aN.extract K a.aN.size}:=by rw[bl];exact(bg.put (k':={a with aN:=a.aN.extract K a.aN.size}) 12 (ξ<|a.aN.extract K a.aN.size) U U U U).drew
   have P:z.heap[B]? =Z (au (gy m) 129 (0,0)):=by rw[bl];exact oT q6 n3 _ _
   have X5:z.heap[w.heap.size]? =Z (au #[aQ c] 134 (0,0)):=by rw[bl];exact oT q5 n2 _ _
   have T5:aS (λi=>i=c) W z:=by rw[bl];exact⟨U,ay,λi _ hi=>Below.heap_setCell _ _ _ _ hi⟩
   rw[<-bl];clear bl dn bg q5 q6 eE f12 c0;refine eR _ _ ?_;have z0:=aJ z B 0 (I m.wh) P;have z1:=aJ z B 1 (ξ m.nm) P;have z2:=aJ z B 2 (I m.kd) P;have z3:=aJ z B 3 (I m.fl) P;have z4:=aJ z B 4 (I m.ck) P;have z5:=aJ z B 5 (I m.of) P;have z6:=aJ z B 6 (I m.ln) P;have z7:=aJ z B 7 (ξ m.dt) P;have z8:=aJ z B 8 (I m.er) P;have y0:=aJ z w.heap.size 0 (aQ c) X5;have dH:=UA p1 C.q;have eV:=aeb dH;have eW:a.u.size<=65535:=by have:=A.2.2;have:=C.ou;have:=C.prom;omega
   have eX:a.q.length<=65535:=by have:=A.2.1;have:=C.qu;omega
   have UW:(a.jS g (m,(K:Int))).ph=4↔m.wh=4:=by unfold Ck.jS;split;rename_i e;exact⟨λ_=>e,λ_=>U⟩;rename_i e;exact⟨λh=>absurd h (LD A.1 e),λh=>absurd h e⟩
   have dK:∀t d j,cD t c rb ch d j g (({a with aN:=a.aN.extract K a.aN.size}:Ck).heard g m)->cD t c rb ch d j g (a.jS g (m,(K:Int))):=λt d j s=>by
    by_cases e:m.wh=4;have e1:(({a with aN:=a.aN.extract K a.aN.size}:Ck).heard g m)=a.shut:=aO e;have e2:a.jS g (m,(K:Int))=a.shut:=aO e;rwa [e2,<-e1];have e2:a.jS g (m,(K:Int))=a.hear g (m,(K:Int)):=aI e;rw[e2];unfold Ck.heard at s;rw[aI e]at s;cases ha:accepted m with
    |true=>rw[ha]at s;refine s.like U ?_ U ⟨λh=>absurd h (LD A.1 e),λh=>absurd h A.1⟩;show(if accepted m then _ else _)=_;rw[ha];rfl
    |false=>rw[ha]at s;refine s.like U ?_ U ⟨λh=>absurd h (LD A.1 e),λh=>absurd h A.1⟩;show(if accepted m then _ else _)=_;rw[ha];rfl
   have Hi:(∀r∈(a.jS g (m,(K:Int))).q,r.Ok)/\(a.jS g (m,(K:Int))).u.size<=4194304/\(a.jS g (m,(K:Int))).prom=k.prom:=by unfold Ck.jS;split;exact⟨λr hr=>(by cases hr),(by decide:(0:Nat)<=4194304),j1⟩;rename_i e;refine⟨UA (qJ.snoc p1 A p3 p4 e) C.q,?_,j1⟩;show(a.u++gM g m).size<=_;rw[qB];have:=RN (g:=g) p5.nm;omega
   have HE:Hid (Calls prog 149 #[aQ c,ν<|gy m] z λe t=>e=aG (θ #[])/\∃d j,cD t c rb ch d j g (a.jS g (m,(K:Int)))/\
     aS (λi=>i=c\/i=ch\/Z i=D.ownBlock\/Z i=E.ownBlock) W t/\t.heap[w.heap.size]? =Z (au #[aQ c] 134 (0,0))/\(∀x,d.ownBlock=Z x->¬Aside rb mb b x)/\(∀x,j.ownBlock=Z x->¬Aside rb mb b x)):=by
    refine(acn c rb ch D E g _ m z P5 A.1 C.sz C.mx p5 p6 (by show a.u.size<=_;omega) (by show a.q.length<=_;omega)).m ?_;rintro e t ⟨rfl,d,j,s,H,a6,b6⟩
    have fresh:∀(u u':aB),(∀x,u.ownBlock=Z x->¬Aside rb mb b x)->(u'.ownBlock=u.ownBlock\/∀x,u'.ownBlock=Z x->z.heap.size<=x)->∀x,u'.ownBlock=Z x->¬Aside rb mb b x:=λu u' hu e6 x hx=>by rcases e6 with e|e;exact hu x (e▸hx);have:=e x hx;have:=T5.size;rintro(h|h|h)<;>omega
    refine⟨U,d,j,dK _ _ _ s,(T5.m λi _ h=>aA h).t H,ze H X5 ?_,fresh D d q3 a6,fresh E j c6 b6⟩;rintro(e|e|e|e);exact n2 e;exact n4 e;exact n5 e;exact n6 e
   have dc:Hid (∀W7,aS (λi=>i=c\/i=ch\/Z i=D.ownBlock\/Z i=E.ownBlock) W W7->Two (b+2) W W7/\eS rb mb b (b+1) W W7):=λW7 hT=>acQ hT (by rintro i (rfl|rfl|e|e);exact x1;exact x2;exact q3 i e.y;exact c6 i e.y) Y Y Y;obtain⟨d2,dx⟩:∃d2:Bool,(d2=M↔(a.jS g (m,(K:Int))).may g):=by by_cases e:(a.jS g (m,(K:Int))).may g;exact⟨M,by simp[e]⟩;exact⟨aa,by simp[e]⟩
   have HR:Hid (∀t d j,cD t c rb ch d j g (a.jS g (m,(K:Int)))->bN 148 #[aQ c] t (ω d2)):=λt d j s=>by
    let⟨d3,gr,gz⟩:=VZ s Hi.1 Hi.2.1 (by rw[Hi.2.2];have:=C.prom;omega);have:d3=d2:=by cases d2<;>cases d3<;>simp_all
    rwa [<-this]
   have HD:Hid ((d2=M↔(a.jS g (m,(K:Int))).may g)/\((a.jS g (m,(K:Int))).ph=4↔m.wh=4)):=⟨dx,UW⟩;clear p1 A p3 p4 p5 p6 q3 c6 q7 q8 j1 j2 j3 dH eV eW eX UW dK Hi dx P5 P X5 T5 n2 n3 n4 n5 n6;unfold yv;cases d2 with
   |true=>have cw:=aX (HD.u.1.1 U);gi_wp2_with (first|(refine⟨trivial,?_⟩;gi_at_call 149;refine(rI l<|callsIn_wide.2 HE.u).m ?_;rintro e t ⟨rfl,d,j,s,H,Q,N,O⟩;have y6:=aJ t w.heap.size 0 (aQ c) Q;have bu:Hid (cD t c rb ch d j g (a.jS g (m,(K:Int)))/\aS (λi=>i=c\/i=ch\/Z i=D.ownBlock\/Z i=E.ownBlock) W t/\t.heap[w.heap.size]? =Z (au #[aQ c] 134 (0,0))/\(∀x,d.ownBlock=Z x->¬Aside rb mb b x)/\(∀x,j.ownBlock=Z x->¬Aside rb mb b x)):=⟨s,H,Q,N,O⟩;clear s H Q N O)|(refine⟨trivial,?_⟩;gi_at_call 148;refine(rI l<|callsIn_wide.2<|HR.u _ _ _ bu.u.1).m ?_;rintro e W7 ⟨rfl,aD⟩));let⟨p1,A,p3,p4,p5,p6⟩:=HG.u;let⟨s,H,Q,N,O⟩:=bu.u;have MW:=cw.u;have Vn:m.wh≠4:=λe=>MW.1 (HD.u.2.2 e);have en:a.jS g (m,(K:Int))=a.hear g (m,(K:Int)):=aI Vn;have G6:=qJ.snoc p1 A p3 p4 Vn;rw[bD];let⟨t1,t2⟩:=dc.u W7 (H.t<|.below aD);rw[en]at s MW;exact⟨t1,t2,_,d,j,G6,MW,s.old aD,N,O,bT aD Q⟩
   |false=>
    have cw:Hid (¬(a.jS g (m,(K:Int))).may g):=λe=>(by have:=HD.u.1.2 e;cases this);gi_wp2_with (first|(refine⟨trivial,?_⟩;gi_at_call 149;refine(rI l<|callsIn_wide.2 HE.u).m ?_;rintro e t ⟨rfl,d,j,s,H,Q,N,O⟩;have y6:=aJ t w.heap.size 0 (aQ c) Q;have bu:Hid (cD t c rb ch d j g (a.jS g (m,(K:Int)))/\aS (λi=>i=c\/i=ch\/Z i=D.ownBlock\/Z i=E.ownBlock) W t/\t.heap[w.heap.size]? =Z (au #[aQ c] 134 (0,0))/\(∀x,d.ownBlock=Z x->¬Aside rb mb b x)/\(∀x,j.ownBlock=Z x->¬Aside rb mb b x)):=⟨s,H,Q,N,O⟩;clear s H Q N O)|(refine⟨trivial,?_⟩;gi_at_call 148;refine(rI l<|callsIn_wide.2<|HR.u _ _ _ bu.u.1).m ?_;rintro e W7 ⟨rfl,aD⟩));let⟨p1,A,p3,p4,p5,p6⟩:=HG.u;let⟨s,H,Q,N,O⟩:=bu.u;have dG:=cw.u;rw[bD];let⟨t1,t2⟩:=dc.u W7 (H.t<|.below aD);by_cases Vn:m.wh=4;have en:a.jS g (m,(K:Int))=a.shut:=aO Vn;let⟨j1,j2,j3⟩:=HI.u;rw[en]at s;refine⟨t1,t2,_,d,j,λf hf=>?_,s.old aD,N,O,λh=>absurd U h,?_⟩;obtain⟨f',rfl⟩:=E5 hf;have e:(pre++[(m,(K:Int))]).length+f'=pre.length+(f'+1):=bV;rw[e,Oh p1,afN A p3 p4 Vn];rw[St.Oz];show(if accepted m then _ else _)=a.us;have:accepted m=aa:=by unfold accepted;simp[Vn]
    rwa [this];have en:a.jS g (m,(K:Int))=a.hear g (m,(K:Int)):=aI Vn;have G6:=qJ.snoc p1 A p3 p4 Vn;let⟨r1,r2,r3⟩:=GW G6;rw[en]at s dG;refine⟨t1,t2,_,d,j,λf hf=>?_,s.old aD,N,O,λ_=>r1,r2⟩;obtain⟨f',rfl⟩:=E5 hf;rw[Oh G6,Xj dG]
  gi_region<;>exact ew
 case done=>
  rintro L W ⟨hr,cN,bB⟩ ⟨a,D,E,J,g2,X,g4,g5,g7⟩ hD;let⟨i1,i2,i3⟩:=GW J;have aH:=OA g.sz g.mx k.aN ⟨k.ph,k.us,0⟩ L (cO _) hr;have hrd:Ck.read g (k.aN.size+1) k=a:=by obtain⟨f,hf⟩:∃f,k.aN.size+1=L.length+f:=⟨k.aN.size+1-L.length,by have:=aH.1;have:=aH.2;simp only at*;omega⟩;rw[hf,Oh J,afM (by rw[Uz J]at cN;exact cN)]
  have HQ:Hid (cg W c rb mb ch D E g<|Ck.read g (k.aN.size+1) k):=by rw[hrd];have bC:=bB.rd;rw[i2]at bC;exact⟨X,_,bC,λ_=>i1.y⟩
  clear hrd aH i1 i2 i3 J g2 X g4 g5 g7 hr cN bB;gi_wp2;refine⟨ay,aA ⟨_,_,U,rU hD,θ #[],X2,U,_,_,HQ.u.off hD λi hi=>gq hi⟩⟩
 case stop=>
  rintro pre W ⟨hr,bB⟩ ⟨k2,D,E,J,X,g4,g5,g7,g8⟩ hD;have aH:=OA g.sz g.mx k.aN ⟨k.ph,k.us,0⟩ pre (cO _) hr;have hrd:Ck.read g (k.aN.size+1) k=k2:=J _ (by have:=aH.1;have:=aH.2;simp only at*;omega);have HQ:Hid (cg W c rb mb ch D E g<|Ck.read g (k.aN.size+1) k):=by rw[hrd];have bC:=bB.rd;rw[g8]at bC;exact⟨X,_,bC,λh=>(g7 h).y⟩
  clear hrd aH J X g4 g5 g7 g8 hr bB;gi_wp2;refine⟨ay,aA ⟨_,_,U,rU hD,θ #[],X2,U,_,_,HQ.u.off hD λi hi=>gq hi⟩⟩
end
def eB.keep{w w' rb mb sz mx ph us}(h:eB w rb mb sz mx ph us)(a:w'.heap[rb]? =w.heap[rb]?)(b:w'.heap[mb]? =w.heap[mb]?):eB w' rb mb sz mx ph us:=⟨a.t h.box,h.uses.block b⟩
section
variable {W W':aq} {c rb mb ch:Nat} {q v:aB} {g:Cf} {k k':Ck}
def cg.eE(h:cg W c rb mb ch q v g k):rb<W.heap.size/\mb<W.heap.size:=by let⟨rp,a,_⟩:=h.rd;exact a.lt
def cg.apart(h:cg W c rb mb ch q v g k):rb≠c/\mb≠c/\rb≠ch/\mb≠ch/\Z rb≠q.ownBlock/\Z mb≠q.ownBlock/\Z rb≠v.ownBlock/\Z mb≠v.ownBlock/\rb≠mb:=by
 let⟨rp,a,_⟩:=h.rd;let⟨s,cl,d,_⟩:=a.uses;have key:∀{T m n:Nat} {u:aB} {i:av aB} {b:Nat} {o:Obj},W.ownsRow 0 T m u n i->W.heap[b]? =Z o->(∀f,o≠au f T (0,0))->Z b≠u.ownBlock:=λ{T m n u i b o} hr l r e=>by rcases hr.2 with⟨rfl,_⟩|⟨t,cap,f,rfl,_,j,_⟩;cases e;cases e;exact r f<|ey<|l.y.t j
 exact⟨fO a.box h.p.box ay,fO d h.p.box ay,fO a.box h.p.chan ay,fO d h.p.chan ay,key h.p.row a.box ay,key h.p.row d ay,key h.p.u a.box ay,key h.p.u d ay,fO a.box d ay⟩
def cg.of{q' v'}(h:cg W c rb mb ch q v g k)(f:cD W' c rb ch q' v' g k')(a:W'.heap[rb]? =W.heap[rb]?)(b:W'.heap[mb]? =W.heap[mb]?)(i:k'.us=k.us)(hf:k'.ph≠4->k'.ph=k.ph):cg W' c rb mb ch q' v' g k':=by let⟨rp,d,j⟩:=h.rd;refine⟨f,rp,i▸d.keep a b,λe=>?_⟩;grind
def cg.put(h:cg W c rb mb ch q v g k)(i u)(b:(kO g k rb q v ch).setIfInBounds i u=kO g k' rb q v ch)(e:k'.q=k.q)(d:k'.u=k.u)(a:k'.ph=k.ph)(f:k'.us=k.us):cg (W.setCell (F c i) u) c rb mb ch q v g k':=h.of (h.p.put i u b e d a) (bC h.apart.1) (bC h.apart.2.1) f λ_=>a
def cg.drew(h:cg W c rb mb ch q v g k):cg W.drew c rb mb ch q v g k:=⟨h.p.drew,h.rd.choose,⟨h.rd.choose_spec.1.box,h.rd.choose_spec.1.uses⟩,h.rd.choose_spec.2⟩
def cg.drewN(h:cg W c rb mb ch q v g k)(n):cg (W.drewN n) c rb mb ch q v g k:=⟨h.p.drewN n,h.rd.choose,⟨h.rd.choose_spec.1.box,h.rd.choose_spec.1.uses⟩,h.rd.choose_spec.2⟩
def cg.old(h:cg W c rb mb ch q v g k)(a:aK W W'):cg W' c rb mb ch q v g k:=h.of (h.p.old a) (a.block _ h.eE.1) (a.block _ h.eE.2) U λ_=>U
def cg.keep(h:cg W c rb mb ch q v g k){O:Nat->Prop}(a:O c/\O rb/\O mb/\O ch/\(∀b,q.ownBlock=Z b->O b)/\∀b,v.ownBlock=Z b->O b)(d:∀b,O b->b<W.heap.size->W'.heap[b]? =W.heap[b]?):cg W' c rb mb ch q v g k:=have l:=h.p.eE;have f:=h.eE;h.of (h.p.keep (d _ a.1 l.1) (d _ a.2.2.2.1 l.2.1) (λb e=>d b (a.2.2.2.2.1 b e) (l.2.2.1 b e)) λb e=>d b (a.2.2.2.2.2 b e) (l.2.2.2 b e)) (d _ a.2.1 f.1) (d _ a.2.2.1 f.2) U λ_=>U
end
def Ck.gone(k:Ck):Bool:=!decide (k.ph<3)&&(((k.q.length:Int)==0)&&(k.bw==0)&&((k.u.size:Int)==0))
def acL(c rb mb ch q v g k w)(h:cg w c rb mb ch q v g k):
  eZ 113 #[jp c] w (ω k.gone):=by
 obtain⟨t,u,rfl,_⟩:=h.p.row.form;obtain⟨r,s,rfl⟩:=gP h.p.u;have A:=aJ w c 13 (ζ t k.q.length u) h.p.box;have B:=aJ w c 14 (I k.bw) h.p.box;have C:=aJ w c 16 (ζ r k.u.size s) h.p.box
 have d:Hid (eZ 166 #[jp c] w<|I k.ph):=(by
    let⟨rp,f,i⟩:=h.rd;have b:=h.p.chan;have l:=aJ w c 20 (.chan<|Z ch) h.p.box;have z:=aJ w c 11 (aQ rb) h.p.box;have x:=aJ w rb 2 (I rp) f.box;by_cases a:k.ph=4;·rw[lY a]at b;have d:=aX a;clear a f i h;go_enter func166,ntmps166;go_wp2_with (go_at_call 97;apply(DC c ch _ l b).m;rintro e j ⟨rfl,rfl⟩);go_ret;exact⟨by rw[d];rfl,U⟩
    rw[lX a]at b;obtain rfl:=i a;clear a f i h;go_enter func166,ntmps166;go_wp2_with (first|(go_at_call 97;apply(AM c ch _ l b).m;rintro e j ⟨rfl,rfl⟩)|(go_at_call 207;apply(agy rb k.ph _ x).m;rintro e j ⟨rfl,rfl⟩));go_ret;exact⟨U,U⟩)
 have m:Hid (k.gone=(!decide (k.ph<3)&&(((k.q.length:Int)==0)&&(k.bw==0)&&((k.u.size:Int)==0)))):=U;generalize k.gone=G at*;clear h;cases a:decide (k.ph<3)<;>cases n:((k.q.length:Int)==0)<;>cases o:(k.bw==0)
 all_goals
  go_enter func113,ntmps113;go_wp2_with (go_at_call 166;refine d.u.m ?_;rintro e j ⟨rfl,rfl⟩);go_ret;exact⟨by rw[m.u,a,n,o];rfl,U⟩
def Ck.lose(k:Ck):Ck:={k with de:=0}
def Ck.dh(g:Cf)(k:Ck):Ck:={k with tok:=min (k.tok+g.rt) g.bu}
def aar(c rb mb ch q v g k w)(h:cg w c rb mb ch q v g k)(hr:0<=g.rt/\g.rt<=65535)(m:0<=k.tok/\k.tok<=65535):
  Calls prog 61 #[jp c] w λe a=>e=aG (θ #[])/\cg a c rb mb ch q v g (k.dh g)/\aS (λi=>i=c) w a:=by
 have b:Hid (cg (w.drew.setCell (F c 17)<|I<|min (cJ.wrap<|k.tok+g.rt) g.bu) c rb mb ch q v g<|k.dh g):=by rw[dI Y Y];exact h.drew.put 17 _ U U U U U
 have f:=aJ w c 7 (I g.rt) h.p.box;have j:=aJ w c 8 (I g.bu) h.p.box;have d:=aJ w c 17 (I k.tok) h.p.box;have f17:=bp h.p.box 17;clear h;go_enter func61,ntmps61
 go_upto_region 0 with fail
 refine gY (S:=λW=>W.cell? (F c 7)=Z (I g.rt)/\W.cell? (F c 8)=Z (I g.bu)/\W.cell? (F c 17)=Z (I k.tok)) 19 ⟨f,j,d⟩ λhS=>?_;apply tg [0,1,2,3,4,5,6,7];apply tg [8,9,10,11,12,13,14,15];apply tg [16,17,18];refine gz λK l=>?_;go_simp;apply l _ _;refine gl ?_;go_wp2;exact fC U U ⟨U,b,(aS.refl (λi=>i=c) w).drew'.set (p:=F c 17) U _⟩
def Ck.open(g:Cf)(k:Ck):Ck:={k with de:=k.de+k.wt*g.qn}
def bL(n:Int):av Rq->av Rq×Int
 |[]=>([],n)|r::t=>if r.no= -1 then(⟨r.m,n⟩::(bL (n+1) t).1,(bL (n+1) t).2)else(r::(bL n t).1,(bL n t).2)
def yP(l):∀n,(bL n l).1.length=l.length:=by
 induction l with
 |nil=>intro n;rfl
 |cons r t a=>intro n;unfold bL;split<;>simp[a]
def DT(l):∀n,n<=(bL n l).2/\(bL n l).2<=n+l.length:=by
 induction l with
 |nil=>intro n;simp[bL]
 |cons r t a=>intro n;unfold bL;grind
def Ny(a b):∀n,bL n (a++b)=((bL n a).1++(bL (bL n a).2 b).1,(bL (bL n a).2 b).2):=by
 induction a with
 |nil=>intro n;simp[bL]
 |cons r t c=>intro n;simp only[lT,bL];split<;>simp[c]
def aew{l:av Rq}{i r}(h:l[i]? =Z r)(n):bL n (l.take<|i+1)=if r.no= -1 then((bL n<|l.take i).1++[⟨r.m,(bL n<|l.take i).2⟩],(bL n<|l.take i).2+1)else((bL n<|l.take i).1++[r],(bL n<|l.take i).2):=by rw[rQ,h,Ny];by_cases e:r.no= -1;simp[bL,e];simp[bL,e]
def Uf{d:Type}(b:d->av aB)(K)(hF:∀x,(b x).length=K):∀(l:av d) (i j:Nat) (x c:d) (u:aB),l[i]? =Z x->j<K->b c=(b x).set j u->(l.set i c).flatMap b=(l.flatMap b).set (i*K+j) u:=by
 intro l;induction l with
 |nil=>intro i j x c u h;simp at h
 |cons a t g=>
  intro i j x c u h e f;cases i with
  |zero=>grind
  |succ i=>grind
def cD.afW{W c rb ch gb n cap i v g k r}(h:cD W c rb ch (ζ (Z<|F gb 0) n cap) v g k)(o:k.q[i]? =Z r)(no):
  cD (W.setCell (F gb<|i*10+9)<|I no) c rb ch (ζ (Z<|F gb 0) n cap) v g {k with q:=k.q.set i ⟨r.m,no⟩}:=by
 let⟨a1,s,a3,t,E,p⟩:=h.apart
 have off:∀b,b≠gb->(W.setCell (F gb<|i*10+9)<|I no).heap[b]? =W.heap[b]? :=λb l=>bC l;have K:=(bY.1 o).1;refine⟨(off c λe=>s C1).t h.box,?_,eF h.u λb e=>off b λf=>p gb U (by rw[e,f]),?_,h.tv.keep λb e=>off b λf=>p gb U (by rw[e,f]),(off ch λe=>t C1).t h.chan⟩;have a:(k.q.set i ⟨r.m,no⟩).length=k.q.length:=ay;refine⟨?_,?_⟩;rw[Uf (λr=>(aU r).toList) 10 (λ_=>U) k.q i 9 r ⟨r.m,no⟩ (I no) o Y U,jB,a];exact h.row.1;rcases h.row.2 with⟨e,_⟩|⟨J,G,H,e,j,z,A,B,C,D⟩;cases e;cases e;refine az ⟨gb,cap,_,by rw[a],j,bG z (i*10+9) _,by rw[a];exact A,B,by simpa using C,?_⟩;rw[Uf (λr=>(aU r).toList) 10 (λ_=>U) k.q i 9 r ⟨r.m,no⟩ (I no) o Y U,<-D,a,JH,List.take_set]
 let⟨x,T,w,j⟩:=h.tq gb U
 intro b l;cases l;refine⟨_,T,bG w (i*10+9) _,λu d=>?_⟩;rw[JH]at d;rcases Ks d with d|rfl;exact j u d;trivial
def aev(c rb mb ch q v g k n w)(h:cg w c rb mb ch q v g k)(hn:0<=n/\n<=281474976710656)(hl:k.q.length<=1048576):
  Calls prog 105 #[jp c,I n] w λe J=>e=aG (I (bL n k.q).2)/\cg J c rb mb ch q v g {k with q:=(bL n k.q).1}/\aS (λb=>Z b=q.ownBlock) w J:=by
 obtain⟨s,a,rfl,_⟩:=h.p.row.form;have S:=aJ w c 13 (ζ s k.q.length a) h.p.box;have t:=aX h;clear h;go_enter func105,ntmps105;go_wp2
 go_loopw [1,5,11] (λnv _ D wr=>∃i:Nat,i<=k.q.length/\D=I (i:Int)/\nv=I (bL n<|k.q.take i).2/\Hid (cD wr c rb ch (ζ s k.q.length a) v g {k with q:=(bL n<|k.q.take i).1++k.q.drop i}/\aS (λb=>Z b=(fM s k.q.length a).ownBlock) w wr)) (λ_ _ D _=>k.q.length-(dw D).toNat)
 case atStart=>exact⟨0,cO _,U,U,t.p,aS.refl _ _⟩
 case round=>
  obtain⟨i,hi,rfl,rfl,hR⟩:=hrel;by_cases x:i<k.q.length
  ·have O:(i:Int)<(k.q.length:Int):=Y;obtain⟨r,hr⟩:∃r,k.q[i]? =Z r:=⟨k.q[i],dj x⟩;have j:=aew hr n;have z:((bL n<|k.q.take i).1++k.q.drop i)[i]? =Z r:=by rw[vO (by rw[yP];simp;omega),yP,List.getElem?_drop,vS,uE Y];simpa using hr
   have ak:=DT (k.q.take i) n;have aD:(k.q.take i).length<=1048576:=bV;have W:=aJ wr c 13 (ζ s k.q.length a) hR.1.box;have an:((bL n<|k.q.take i).1++k.q.drop i).length=k.q.length:=by rw[fQ,yP];simp;omega
   have A:=hR.1.row;obtain⟨f,rfl,k0,k1,k2,k3,k4,k5,k6,k7,k8,k9⟩:=A.at z;have C:((bL n<|k.q.take i).1++k.q.drop i).set i ⟨r.m,(bL n<|k.q.take i).2⟩=(bL n<|k.q.take i).1++[⟨r.m,(bL n<|k.q.take i).2⟩]++k.q.drop (i+1):=by
    have P:(bL n<|k.q.take i).1.length=i:=by rw[yP];simp;omega
    rw[List.set_append,aI Y,P,Nat.sub_self,lS]
    congr 1;rw[BQ x];rfl
   have B:k.q.drop i=r::k.q.drop (i+1):=by
    rw[BQ x]
    congr 1;rw[dj x]at hr;exact ey hr
   have f9:wr.frozen? (F f<|i*10+9)=aa:=by rcases A.2 with⟨e,_⟩|⟨X,T,V,e,h2,N,_⟩;cases e;injection e with d;injection d with d;injection d with d;subst d;exact bp N _
   have E:=hR.1.afW z (bL n<|k.q.take i).2;cases G:(r.no==-1)with
   |true=>
    have d:r.no= -1:=by simpa using G
    rw[aO d]at j;have l:Hid (cD (wr.setCell (F f<|i*10+9)<|I (bL n<|k.q.take i).2) c rb ch (ζ (Z<|F f 0) k.q.length a) v g {k with q:=(bL n<|k.q.take<|i+1).1++k.q.drop (i+1)}/\aS (λb=>Z b=(fM (Z<|F f 0) k.q.length a).ownBlock) w (wr.setCell (F f<|i*10+9)<|I (bL n<|k.q.take i).2)):=by refine⟨?_,hR.2.set (p:=F f<|i*10+9) U _⟩;rw[j];show cD _ _ _ _ _ _ _ {k with q:=(bL n<|k.q.take i).1++[⟨r.m,(bL n<|k.q.take i).2⟩]++k.q.drop (i+1)};rwa [<-C]
    have u:Hid ((bL n<|k.q.take<|i+1).2=(bL n<|k.q.take i).2+1):=by show _=_;rw[j]
    clear E j C B A z;generalize (bL n<|k.q.take i).2=H at*;go_wp2;refine⟨⟨i+1,Y,by go_num,?_,l⟩,?_⟩;rw[u];simp[dw];omega
   |false=>
    have d:¬r.no= -1:=by simpa using G
    rw[aI d]at j;have l:Hid (cD wr c rb ch (ζ (Z<|F f 0) k.q.length a) v g {k with q:=(bL n<|k.q.take<|i+1).1++k.q.drop (i+1)}/\aS (λb=>Z b=(fM (Z<|F f 0) k.q.length a).ownBlock) w wr):=by refine⟨?_,hR.2⟩;rw[j];show cD _ _ _ _ _ _ _ {k with q:=(bL n<|k.q.take i).1++[r]++k.q.drop (i+1)};rw[lS];show cD _ _ _ _ _ _ _ {k with q:=(bL n<|k.q.take i).1++(r::k.q.drop (i+1))};rw[<-B];exact hR.1
    have u:Hid ((bL n<|k.q.take<|i+1).2=(bL n<|k.q.take i).2):=by show _=_;rw[j]
    clear E j C B A z;generalize (bL n<|k.q.take i).2=H at*;go_wp2;refine⟨⟨i+1,Y,by go_num,?_,l⟩,?_⟩;rw[u];simp[dw];omega
  have O:¬(i:Int)<(k.q.length:Int):=Y;have e:i=k.q.length:=Y;subst e;have o:=hR;rw[pM,List.drop_length,lf]at o;have l:Hid (cg wr c rb mb ch (ζ s k.q.length a) v g {k with q:=(bL n k.q).1}/\aS (λb=>Z b=(fM s k.q.length a).ownBlock) w wr):=by let⟨a1,Q,a3,R,K,L,_⟩:=t.apart;exact⟨t.of o.1 (o.2.block _ t.eE.1 K) (o.2.block _ t.eE.2 L) U λ_=>U,o.2⟩
  have u:Hid ((bL n<|k.q.take k.q.length).2=(bL n k.q).2):=by show _=_;rw[pM]
  clear hR o;generalize (bL n<|k.q.take k.q.length).2=H at*;go_wp2;go_ret;exact⟨by rw[<-u];rfl,l.1,l.2⟩
section
open Go.ChangeMaps Go.Conc Go.Maps Go.RowKit Go.WideElems
def ahe{H:Type}{Kd}(O:OneKind Kd)(u:DataW H):∀acc:av Lit,(∀x∈acc,Kd x)->(∀x∈acc,QL x)->acc.Nodup->Cc u acc.reverse=.map ((acc.map λx=>(x,u)).foldr ZG []):=by
 intro acc;induction acc with
 |nil=>intros;rfl
 |cons x t l=>
  intro c d k;have f:=vV.1 k;rw[List.reverse_cons,E0,l (λb a=>c b D2) (λb a=>d b D2) f.2];have h:Keys Kd (t.map λx=>(x,u)):=λp g=>by grind
  have i:(t.map λx=>(x,u)).Pairwise (λp q=>p.1≠q.1):=j4;have j:(t.map λx=>(x,u)).filter (notKey x)=t.map λx=>(x,u):=by rw[Fg];intro p g;obtain⟨b,a,rfl⟩:=jY.1 g;rw[notKey_iff<|d x ay];exact λe=>f.1 (by rw[<-e];exact a)
  have:=Maps.sorted_put (E':=(x,u)::t.map λx=>(x,u)) O (c x ay) h i (by rw[j]);show DataW.map (putKey x u _)=_;rw[<-this];rfl
def aep{a:Type}{l:av a}(h:l.Nodup):l.reverse.Nodup:=by grind
def ahd{H:Type}{Kd}(O:OneKind Kd)(u:DataW H)(acc)(k:Lit)(p:Lit->Bool)(c:∀x∈acc,(p x=M↔x≠k))(j:∀x∈acc,Kd x)(hl:∀x∈acc,QL x)(m:QL k)(b:acc.Nodup):
  (Cc u acc).del k=Cc u (acc.filter p)/\Maps.size (Cc u<|acc.filter p)=(acc.filter p).length:=by
 have hr:∀l:av Lit,(∀x∈l,x∈acc)->l.Nodup->Cc u l=.map ((l.reverse.map λx=>(x,u)).foldr ZG []):=λl hm n=>by have:=ahe O u l.reverse (λx a=>j x (hm x akK)) (λx a=>hl x (hm x akK)) (aep n);rwa [List.reverse_reverse]at this
 have o:∀x∈acc.filter p,x∈acc:=λx a=>(rO.1 a).1;have e:=hr _ o (b.filter _);rw[e,hr acc (λ_ h=>h) b]
 have f:Keys Kd (acc.reverse.map λx=>(x,u)):=λp c=>by grind
 have g:(acc.reverse.map λx=>(x,u)).Pairwise (λp q=>p.1≠q.1):=j4
 have i:((acc.filter p).reverse.map λx=>(x,u))=(acc.reverse.map λx=>(x,u)).filter (notKey k):=by
  rw[<-List.filter_reverse,A7]
  congr 1;apply List.filter_congr;intro x a;have d:notKey k (x,u)=M↔x≠k:=notKey_iff m;exact sR.2<|(c x akK).t d.y
 refine⟨?_,?_⟩;show DataW.map (delKey k _)=_;rw[Maps.sorted_del (E':=(acc.filter p).reverse.map λx=>(x,u)) O f g (by rw[i])];rw[Maps.size_eq,length_sorted];simp
def aeS{H:Type}{w:aq}{P}{k:aY}{R}{b n:Nat}{D:DataW H}(h:w.ownsMap P k R b n D):w.ownsMap P k R b (Maps.size D) D:=by let⟨d,c,e,f,g,a⟩:=h;refine⟨d,c,e,f,?_,a⟩;rw[a,Maps.size_eq,length_read];exact aR _
end
def Aa(W:aq)(g:Nat):Prop:=∃x T,W.heap[g]? =Z (au x T (0,0))/\∀u∈x.toList,mN u
def Aa.sets{g}:∀(vs:av aB) (o:Nat) (W:aq),Aa W g->(∀u∈vs,mN u)->Aa (W.setCells g o vs) g
 |[],_,_,h,_=>h|u::vs,o,W,⟨x,T,d,e⟩,hv=>by refine Aa.sets vs (o+1) (W.setCell (F g o) u) ⟨_,T,bG d o u,λb a=>?_⟩ λb a=>hv b D2;rw[JH]at a;rcases Ks a with a|rfl;exact e b a;exact hv b ay
def Mo(r):∀u∈(aU r).toList,mN u:=λu a=>by simp at a;rcases a with rfl|rfl|rfl|rfl|rfl|rfl|rfl|rfl|rfl|rfl<;>trivial
def abh(l:av Rq):∀u∈l.flatMap (λr=>(aU r).toList),mN u:=λu a=>by let⟨r,_,hr⟩:=BY.1 a;exact Mo r u hr
def aeI(l:av Rq):∀u∈l.flatMap (λr=>(aU r).toList),u.oneCell'=M:=λu a=>by let⟨r,_,hr⟩:=BY.1 a;simp at hr;rcases hr with rfl|rfl|rfl|rfl|rfl|rfl|rfl|rfl|rfl|rfl<;>rfl
def Z8{v r l}(w)(h:kr w v (r::l))(u:nP w v):
  Calls prog 254 #[v,I 0,I 1] w λe f=>∃d,e=aG d/\kr f d l/\aS (λb=>Z b=v.ownBlock) w f/\d.ownBlock=v.ownBlock/\nP f d:=by
 have n:(l.flatMap<|λr=>(aU r).toList).length=l.length*10:=by have:=h.1;rw[pH,fQ]at this;have e:(aU r).toList.length=10:=U;grind
 rcases h.2 with⟨_,h0⟩|⟨g,cap,p,rfl,B,m,o,i,j,x⟩;simp at h0;apply(Z9 g (l.length+1) cap (l.flatMap λr=>(aU r).toList) p w Y o i n (aeI l) m j<|take_at x U).m;rintro e f ⟨rfl,rfl⟩
 let⟨a,b⟩:=Tc (zs:=nz) m j o i n U
 refine⟨_,U,a,⟨b.os,b.size,λk t z=>b.block k t λe=>z C1⟩,U,λA s=>?_⟩;cases s;have h0:Aa w.drew g:=u g U;exact(h0.sets _ 0 _<|abh l).sets nz _ _<|Mo ⟨⟨0,⟨#[]⟩,0,0,0,0,0,⟨#[]⟩,0⟩,0⟩
def Ck.bO(k:Ck)(r:Rq)(l:av Rq):Ck:={k with q:=l,tok:=k.tok-1,de:=k.de-cw r.m,sv:=k.sv+cw r.m,bw:=k.bw+1,prom:=k.prom+sizeOf' r.m}
structure kL(w W:aq)(c rb ch:Nat)(q0 q v:aB)(g:Cf)(k:Ck)(r:Rq)(b0 b1:Nat):Prop where
 p:cD W c rb ch q v g k
 z:rZ W b0
 b:W.heap[b1]? =Z (au (aU r) 205 (0,0))
 t:aS (λb=>b=c\/Z b=q0.ownBlock) w W
section
variable {w W W':aq} {c rb ch b0 b1:Nat} {q0 q v:aB} {g:Cf} {k k':Ck} {r:Rq}
def kL.drew(h:kL w W c rb ch q0 q v g k r b0 b1):kL w W.drew c rb ch q0 q v g k r b0 b1:=⟨h.p.drew,h.z,h.b,h.t.drew⟩
def kL.old(h:kL w W c rb ch q0 q v g k r b0 b1)(a:aK W W'):kL w W' c rb ch q0 q v g k r b0 b1:=⟨h.p.old a,bT a h.z,bT a h.b,h.t.t<|aS.below a⟩
def kL.put(h:kL w W c rb ch q0 q v g k r b0 b1)(i u)(a:(kO g k rb q v ch).setIfInBounds i u=kO g k' rb q v ch)(f:k'.q=k.q)(d:k'.u=k.u)(e:k'.ph=k.ph):kL w (W.setCell (F c i) u) c rb ch q0 q v g k' r b0 b1:=⟨h.p.put i u a f d e,oT h.z (fO h.z h.p.box ay) _ _,oT h.b (fO h.b h.p.box ay) _ _,h.t.set (aA U) _⟩
abbrev nf(c b1:Nat)(k:Ck)(r:Rq)(W:aq):Prop:=(W.cell? (F c 18)=Z (I k.de)/\W.cell? (F c 19)=Z (I k.sv)/\W.cell? (F c 15)=Z (I k.prom))/\dD W b1 r
def kL.s(h:kL w W c rb ch q0 q v g k r b0 b1):nf c b1 k r W:=⟨⟨aD h.p.box U,aD h.p.box U,aD h.p.box U⟩,dD.of h.b⟩
def Ww(W B u0 u1 u2 u3 u4 u5 u6 u7 u8 u9):aS (λb=>b=B) W ((((((((((W.setCell (F B 0) u0).setCell (F B 1) u1).setCell (F B 2) u2).setCell (F B 3) u3).setCell (F B 4) u4).setCell (F B 5) u5).setCell (F B 6) u6).setCell (F B 7) u7).setCell (F B 8) u8).setCell (F B 9) u9):=(((((((((((aS.refl (λb=>b=B) W).set (p:=F B 0) U u0).set (p:=F B 1) U u1).set (p:=F B 2) U u2).set (p:=F B 3) U u3).set (p:=F B 4) U u4).set (p:=F B 5) U u5).set (p:=F B 6) U u6).set (p:=F B 7) U u7).set (p:=F B 8) U u8).set (p:=F B 9) U u9)
def kL.fin{mb gb L qc a}(h:kL w W c rb ch (ζ (Z<|F gb 0) L qc) a v g k r w.heap.size b1){k0}(h0:cg w c rb mb ch (ζ (Z<|F gb 0) L qc) v g k0)(n:k.us=k0.us)(l:k.ph=k0.ph)(m:a.ownBlock=Z gb)(f:aS (λb=>b=w.heap.size) W W'):
  ∃a,cg W' c rb mb ch a v g k/\aS (λb=>b=c\/Z b=(fM (Z<|F gb 0) L qc).ownBlock) w W'/\a.ownBlock=(fM (Z<|F gb 0) L qc).ownBlock:=by
 have d:=h.t
 let⟨a1,A,a3,B,C,D,E,G,H⟩:=h0.apart
 let⟨l1,j⟩:=h0.eE
 let⟨s,u,x,z⟩:=h0.p.eE
 have J:=x gb U;have sz:=d.size;have off:∀b,b<w.heap.size->W'.heap[b]? =W.heap[b]? :=λb i=>f.block b Y Y;exact⟨a,h0.of (h.p.keep (off c s) (off ch u) (λb e=>off b j4) λb e=>off b (z b e)) ((off rb l1).t<|d.block rb l1 j4) ((off mb j).t<|d.block mb j j4) n λ_=>l,⟨f.os.t d.os,cM sz f.size,λb i o=>(off b i).t (d.block b i o)⟩,m⟩
end
def Ti(c rb mb ch q v g k r l w)(h:cg w c rb mb ch q v g k)(hq:k.q=r::l)(hr:r.Ok)(ht:0<=k.tok/\k.tok<=65535)(hd:0<=k.de/\k.de<=1048576)(hs:0<=k.sv/\k.sv<=281474976710656)(hf:0<=k.bw/\k.bw<=1048576)(hp:0<=k.prom/\k.prom<=4194304):
  Calls prog 239 #[jp c] w λe A=>e=aG (ν<|aU r)/\∃G,cg A c rb mb ch G v g (k.bO r l)/\aS (λb=>b=c\/Z b=q.ownBlock) w A/\G.ownBlock=q.ownBlock:=by
 have J:=h.p.row;rw[hq]at J;obtain⟨qa,t,rfl,_⟩:=J.form;have cW:=aJ w c 13 (ζ qa (r::l).length t) h.p.box;obtain⟨d,rfl,k0,k1,k2,k3,k4,k5,k6,k7,k8,k9⟩:=J.at (i:=0) U;simp at k0 k1 k2 k3 k4 k5 k6 k7 k8 k9;have hc:c<w.heap.size:=h.p.eE.1;have hg:d<w.heap.size:=jo k0;have c8:(0:Int)<((r::l).length:Int):=j4
 have e0:cw r.m=r.m.ln\/cw r.m=4:=by unfold cw;split;exact az U;exact aA U
 have e1:sizeOf' r.m=4+r.m.ln\/sizeOf' r.m=4:=by unfold sizeOf';split;exact aA U;exact az U
 have c6:0<=cw r.m/\cw r.m<=65535:=by have:=hr.nh;have:=hr.qU;omega
 have dg:0<=sizeOf' r.m/\sizeOf' r.m<=65539:=by have:=hr.nh;have:=hr.qU;omega
 have bA:aK w ((w.alloc<|au qp 205).alloc<|au (aU r) 205):=bq.alloc ay _;have aT:((w.alloc<|au qp 205).alloc<|au (aU r) 205).heap[w.heap.size]? =Z (au qp 205 (0,0)):=(Below.heap_alloc _ _ _ ay).t (heap_alloc_new w _)
 have aW:((w.alloc<|au qp 205).alloc<|au (aU r) 205).heap[w.heap.size+1]? =Z (au (aU r) 205 (0,0)):=by have:=heap_alloc_new (w.alloc<|au qp 205) (au (aU r) 205);rwa [zT]at this
 have HD:Hid (Calls prog 254 #[ζ (Z<|F d 0) (r::l).length t,I 0,I 1] ((w.alloc<|au qp 205).alloc<|au (aU r) 205) λe A=>∃f x j,e=aG (ζ f x j)/\kL w (A.setCell (F c 13)<|ζ f x j) c rb ch (ζ (Z<|F d 0) (r::l).length t) (ζ f x j) v g {k with q:=l} r w.heap.size (w.heap.size+1)/\(fM f x j).ownBlock=Z d/\A.heap[c]? =Z (au (kO g k rb (ζ (Z<|F d 0) (r::l).length t) v ch) 162 (0,0))):=by have P:=h.p.old bA;have bJ:kr _ _ (r::l):=hq▸P.row;let⟨a1,a2,a3,a4,a5,a6⟩:=P.apart;apply(Z8 _ bJ P.tq).m;rintro e A ⟨v',rfl,d1,d2,d3,d4⟩;obtain⟨f,j,rfl,_⟩:=d1.form;have N:=P.eE;have off:∀b,b≠c->(A.setCell (F c 13)<|ζ f l.length j).heap[b]? =A.heap[b]? :=λb hb=>bC hb;have AK:=(d2.block c N.1 a2).t P.box;have nq:∀b,(fM f l.length j).ownBlock=Z b->b≠c:=λb e B=>a2 (by rw[<-B,<-d3,e]);have nv:∀b,v.ownBlock=Z b->Z b≠(fM (Z<|F d 0) (r::l).length t).ownBlock:=λb e B=>a6 b B.y e.y;have O:w.heap.size≠d/\w.heap.size+1≠d/\w.heap.size≠c/\w.heap.size+1≠c:=Y;refine⟨_,_,_,U,⟨⟨bG AK 13 _,eF d1 λb e=>off b (nq b e),eF P.u λb e=>(off b λB=>a3 (by rw[e,B])).t (d2.block b (N.2.2.2 b e)<|nv b e),d4.keep λb e=>off b (nq b e),P.tv.keep λb e=>(off b λB=>a3 (by rw[e,B])).t (d2.block b (N.2.2.2 b e)<|nv b e),(off ch<|dB a1).t<|(d2.block ch N.2.1 a4).t P.chan⟩,?_,(off _ O.2.2.2).t<|(d2.block _ ay<|λe=>O.2.1 acr).t aW,((aS.below bA).t<|d2.m λb _ h=>.inr h).set (p:=F c 13) (.inl U) _⟩,d3,AK⟩;exact(off _ O.2.2.1).t<|(d2.block _ bV<|λe=>O.1 acr).t aT
 have H0:=aX h;have X:Hid (∀W,bN 200 #[ν<|aU r] W<|I<|cw r.m):=λW=>Xi r W;have HZ:Hid (∀W,bN 195 #[ν<|kE r.m.wh r.m.nm r.m.kd r.m.fl r.m.ck r.m.of r.m.ln r.m.dt r.m.er] W<|I<|sizeOf' r.m):=λW=>IF r.m W hr.nh hr.qU;have HE:Hid (k.bO r l={k with q:=l,tok:=k.tok-1,de:=k.de-cw r.m,sv:=k.sv+cw r.m,bw:=k.bw+1,prom:=k.prom+sizeOf' r.m}):=U;clear h J bA aT aW e0 e1;generalize k.bO r l=kd at*;generalize cw r.m=o at*;generalize sizeOf' r.m=si at*;generalize (r::l).length=L at*;go_enter func239,ntmps239
 go_upto_region 4 with(go_at_call 254;apply HD.u.m;rintro e Q ⟨f,x,j,rfl,d1,d2,d3⟩;have H1:=aX d1;have b9:=aJ Q c 13 (ζ (Z<|F d 0) L t) d3;have f13:=bp d3 13;have cq:=aJ Q c 17 (I k.tok) d3;have f17:=bp d3 17;clear d1 d3)
 have R:Hid (kL w ((Q.setCell (F c 13)<|ζ f x j).setCell (F c 17)<|I<|k.tok-1) c rb ch (ζ (Z<|F d 0) L t) (ζ f x j) v g {k with q:=l,tok:=k.tok-1} r w.heap.size<|w.heap.size+1):=H1.u.put 17 _ U U U U;clear b9 f13 cq f17 H1;generalize (Q.setCell (F c 13)<|ζ f x j).setCell (F c 17) (I<|k.tok-1)=W2 at*;refine gY (S:=nf c (w.heap.size+1) {k with q:=l,tok:=k.tok-1} r) 9 R.u.drew.s λhS=>?_;apply tg [0,1,2,3,4];refine gr 5 λK a=>?_;go_simp;go_at_call 200;apply(X.u _).m;rintro e w3 ⟨rfl,UL⟩;have C:=R.u.drew.old UL;refine a.u _ _ C.s<|λMK=>?_;clear a K;apply tg [6,7,8];have cr:=aJ w3 c 18 (I k.de) C.p.box;have f18:=bp C.p.box 18;refine gz λK a=>?_;go_simp;apply a.u _ _
 have T:Hid (kL w (w3.setCell (F c 18)<|I<|cJ.wrap<|k.de-o) c rb ch (ζ (Z<|F d 0) L t) (ζ f x j) v g {k with q:=l,tok:=k.tok-1,de:=k.de-o} r w.heap.size<|w.heap.size+1):=by rw[dI Y Y];exact C.put 18 _ U U U U
 clear hS MK C cr f18 a K UL R;generalize w3.setCell (F c 18) (I<|cJ.wrap<|k.de-o)=W4 at*;refine gl ?_
 go_upto_region 5 with fail
 refine gY (S:=nf c (w.heap.size+1) {k with q:=l,tok:=k.tok-1,de:=k.de-o} r) 9 T.u.drew.s λhS=>?_;apply tg [0,1,2,3,4];refine gr 5 λK a=>?_;go_simp;go_at_call 200;apply(X.u _).m;rintro e w5 ⟨rfl,UM⟩;have D:=T.u.drew.old UM;refine a.u _ _ D.s<|λbB=>?_;clear a K;apply tg [6,7,8];have cu:=aJ w5 c 19 (I k.sv) D.p.box;have f19:=bp D.p.box 19;refine gz λK a=>?_;go_simp;apply a.u _ _
 have H:Hid (kL w (w5.setCell (F c 19)<|I<|cJ.wrap<|k.sv+o) c rb ch (ζ (Z<|F d 0) L t) (ζ f x j) v g {k with q:=l,tok:=k.tok-1,de:=k.de-o,sv:=k.sv+o} r w.heap.size<|w.heap.size+1):=by rw[dI Y Y];exact D.put 19 _ U U U U
 clear hS bB D cu f19 a K UM T;generalize w5.setCell (F c 19) (I<|cJ.wrap<|k.sv+o)=W6 at*;refine gl ?_;have cj:=aJ W6 c 14 (I k.bw) H.u.p.box;have f14:=bp H.u.p.box 14
 go_upto_region 7 with fail
 have V:Hid (kL w (W6.setCell (F c 14)<|I<|k.bw+1) c rb ch (ζ (Z<|F d 0) L t) (ζ f x j) v g {k with q:=l,tok:=k.tok-1,de:=k.de-o,sv:=k.sv+o,bw:=k.bw+1} r w.heap.size<|w.heap.size+1):=H.u.put 14 _ U U U U;clear cj f14 H;generalize W6.setCell (F c 14) (I<|k.bw+1)=W7 at*;refine gY (S:=nf c (w.heap.size+1) {k with q:=l,tok:=k.tok-1,de:=k.de-o,sv:=k.sv+o,bw:=k.bw+1} r) 10 V.u.drew.s λhS=>?_;apply tg [0,1,2,3,4,5];refine gr 6 λK a=>?_;go_simp;go_at_call 195;apply(HZ.u _).m;rintro e w8 ⟨rfl,bg⟩;have E:=V.u.drew.old bg;refine a.u _ _ E.s<|λbD=>?_;clear a K;apply tg [7,8,9];have cm:=aJ w8 c 15 (I k.prom) E.p.box;have f15:=bp E.p.box 15;refine gz λK a=>?_;go_simp;apply a.u _ _
 have n:Hid (kL w (w8.setCell (F c 15)<|I<|cJ.wrap<|k.prom+si) c rb ch (ζ (Z<|F d 0) L t) (ζ f x j) v g {k with q:=l,tok:=k.tok-1,de:=k.de-o,sv:=k.sv+o,bw:=k.bw+1,prom:=k.prom+si} r w.heap.size<|w.heap.size+1):=by rw[dI Y Y];exact E.put 15 _ U U U U
 clear hS bD E cm f15 a K bg V;generalize w8.setCell (F c 15) (I<|cJ.wrap<|k.prom+si)=u at*;refine gl ?_
 let⟨m0,m1,m2,m3,m4,m5,m6,m7,m8,m9⟩:=dD.of n.u.b
 have z0:=aJ u w.heap.size 0 (I 0) n.u.z;have z1:=aJ u w.heap.size 1 (ξ ⟨#[]⟩) n.u.z;have z2:=aJ u w.heap.size 2 (I 0) n.u.z;have z3:=aJ u w.heap.size 3 (I 0) n.u.z;have z4:=aJ u w.heap.size 4 (I 0) n.u.z;have z5:=aJ u w.heap.size 5 (I 0) n.u.z;have z6:=aJ u w.heap.size 6 (I 0) n.u.z;have z7:=aJ u w.heap.size 7 (ξ ⟨#[]⟩) n.u.z;have z8:=aJ u w.heap.size 8 (I 0) n.u.z;have z9:=aJ u w.heap.size 9 (I 0) n.u.z;have fz:∀i,u.frozen? (F w.heap.size i)=aa:=λi=>bp n.u.z i
 have J4:Hid (∀W',aS (λb=>b=w.heap.size) u W'->∃G,cg W' c rb mb ch G v g kd/\aS (λb=>b=c\/Z b=(fM (Z<|F d 0) L t).ownBlock) w W'/\G.ownBlock=(fM (Z<|F d 0) L t).ownBlock):=λW' hT=>by rw[HE.u];exact n.u.fin H0.u U U d2 hT
 clear n H0 HE X HZ;go_wp2;refine iB (v:=ν<|aU r) (by simp[results,results239,go_sem,z0,z1,z2,z3,z4,z5,z6,z7,z8,z9]) U ⟨U,?_⟩;exact J4.u _<|Ww _ _ _ _ _ _ _ _ _ _ _ _
abbrev freed(us:av Int)(ck:Int):av Int:=us.filter λx=>decide (x≠ck)
def wR(us:av Int):Prop:=us.Nodup/\∀x∈us,0<=x/\x<=65535
def abq(rb mb sz mx ph us ck w)(h:eB w rb mb sz mx ph us)(s:wR us)(A:0<=ck/\ck<=65535):
  Calls prog 197 #[jp rb,I ck] w λe t=>e=aG (.tuple #[])/\eB t rb mb sz mx ph (freed us ck)/\aS (λb=>b=mb) w t:=by
 have G:=aJ w rb 3 (.map<|Z mb) h.box;have j:=QC (P:=prog) underlying3 (a:=ck) A1;have i:Hid (eB w rb mb sz mx ph us/\wR us):=⟨h,s⟩;have l:=aX h.uses;clear h s;go_enter func197,ntmps197;go_wp2_with (at_delete;refine wpList_delete_own _ U _ _ 209 3 U 164 (Fz underlying3) underlying209 _ mb us.length (Cc (.agg [])<|us.map<|Fw .i64) U l _ _ U j ?_;intro J p E);have m:=E.grown
 have D:rb≠mb:=by let⟨H,cl,o,_⟩:=l;exact fO i.1.box o ay
 refine fC U U ⟨U,⟨(m.block rb (bf.1 i.1.box).1 (λe=>D acr)).trans i.1.box,(by
    have j:∀x:Int,0<=x/\x<=65535->keyOf prog 3 (.int .i64 x)=Z (.int .i64 x):=λx f=>QC underlying3 A1;have C:(us.map<|Fw .i64).Nodup:=by rw[List.nodup_iff_pairwise_ne,Fp];exact i.2.1.imp λl e=>l acr
    obtain⟨o,u⟩:=ahd (Fz underlying3).one (.agg []) (us.map<|Fw .i64) (.int .i64 ck) (λx=>match x with|.int _ d=>decide (d≠ck)|_=>M) (λx f=>by
     obtain⟨d,n,rfl⟩:=jY.1 f;simp) (λx f=>by
     obtain⟨d,n,rfl⟩:=jY.1 f;exact⟨_,j d<|i.2.2 d n⟩) (λx f=>by
     obtain⟨d,n,rfl⟩:=jY.1 f;exact(Fz underlying3).key (j d<|i.2.2 d n)) ((Fz underlying3).key<|j ck A) C
    have B:(us.map<|Fw .i64).filter (λx=>match x with|.int _ d=>decide (d≠ck)|_=>M)=(us.filter λx=>decide (x≠ck)).map (Fw .i64):=by rw[A7];rfl
    rw[o]at p;have:=aeS p;rw[u,B,pI]at this;unfold Uses;exact this)⟩,⟨m.os,m.size,λb z f=>m.block b z λe=>f acr⟩⟩
def Ck.nQ(k:Ck)(r:Rq)(er:UInt8)(d:ByteArray):Ck:=
 if k.ph=4 then{k with bw:=k.bw-1,prom:=k.prom-sizeOf' r.m}
 else{k with bw:=k.bw-1,prom:=k.prom-sizeOf' r.m,out:=k.u++jy er r.m.ck d,us:=freed k.us r.m.ck}
structure nI(w W:aq)(c rb ch:Nat)(v0 q v:aB)(g:Cf)(k:Ck)(r:Rq)(b1:Nat):Prop where
 p:cD W c rb ch q v g k
 b:W.heap[b1]? =Z (au (aU r) 205 (0,0))
 t:aS (λb=>b=c\/Z b=v0.ownBlock) w W
section
variable {w W W':aq} {c rb ch b1:Nat} {v0 q v:aB} {g:Cf} {k k':Ck} {r:Rq}
def nI.drew(h:nI w W c rb ch v0 q v g k r b1):nI w W.drew c rb ch v0 q v g k r b1:=⟨h.p.drew,h.b,h.t.drew⟩
def nI.old(h:nI w W c rb ch v0 q v g k r b1)(a:aK W W'):nI w W' c rb ch v0 q v g k r b1:=⟨h.p.old a,bT a h.b,h.t.t<|aS.below a⟩
def nI.put(h:nI w W c rb ch v0 q v g k r b1)(i u)(a:(kO g k rb q v ch).setIfInBounds i u=kO g k' rb q v ch)(f:k'.q=k.q)(d:k'.u=k.u)(e:k'.ph=k.ph):nI w (W.setCell (F c i) u) c rb ch v0 q v g k' r b1:=⟨h.p.put i u a f d e,oT h.b (fO h.b h.p.box ay) _ _,h.t.set (aA U) _⟩
abbrev CG(c b1 rb:Nat)(v:aB)(k:Ck)(r:Rq)(W:aq):Prop:=(W.cell? (F c 11)=Z (aQ rb)/\W.cell? (F c 15)=Z (I k.prom)/\W.cell? (F c 16)=Z v)/\dD W b1 r
def nI.s(h:nI w W c rb ch v0 q v g k r b1):CG c b1 rb v k r W:=⟨⟨aD h.p.box U,aD h.p.box U,aD h.p.box U⟩,dD.of h.b⟩
end
def N9(c rb mb ch q v g k r)(er:UInt8)(d w)(h:cg w c rb mb ch q v g k)(hr:r.Ok)(uW:0<=r.m.ck/\r.m.ck<=65535)(hd:d.size<=65535)(hu:wR k.us)(hf:0<=k.bw/\k.bw<=1048576)(hp:0<=k.prom/\k.prom<=4194304)(ho:k.u.size<=1048576):
  Calls prog 159 #[jp c,ν<|aU r,I (er.toNat:Int),ξ d] w λe n=>e=aG (θ #[])/\∃u,cg n c rb mb ch q u g (k.nQ r er d)/\aS (λb=>b=c\/b=mb\/Z b=v.ownBlock) w n/\(u.ownBlock=v.ownBlock\/∀b,u.ownBlock=Z b->w.heap.size<=b):=by
 let⟨i0,bO,oh,bR,oZ⟩:=nG infoByte
 have e1:sizeOf' r.m=4+r.m.ln\/sizeOf' r.m=4:=by unfold sizeOf';split;exact aA U;exact az U
 have cA:0<=sizeOf' r.m/\sizeOf' r.m<=65539:=by have:=hr.nh;have:=hr.qU;omega
 have cz:(jy er r.m.ck d).size<=131072:=by unfold jy;rw[qB,qB,qB];have:(⟨#[82]⟩:ByteArray).size+(⟨#[er]⟩:ByteArray).size+(⟨(cu r.m.ck).toArray⟩:ByteArray).size=4:=U;omega
 have bA:aK w (w.alloc<|au (aU r) 205):=bq;have G:nI w (w.alloc<|au (aU r) 205) c rb ch v q v g k r w.heap.size:=⟨h.p.old bA,heap_alloc_new w _,aS.below bA⟩;have f:=aX h;have aN:=aX G;have HZ:Hid (∀W,bN 195 #[ν<|kE r.m.wh r.m.nm r.m.kd r.m.fl r.m.ck r.m.of r.m.ln r.m.dt r.m.er] W<|I<|sizeOf' r.m):=λW=>IF r.m W hr.nh hr.qU;have HR:Hid (∀W,bN 196 #[I (er.toNat:Int),I r.m.ck,ξ d] W<|ξ<|jy er r.m.ck d):=λW=>Xp er r.m.ck d W uW.1 uW.2 hd;have H:Hid (k.nQ r er d=if k.ph=4 then{k with bw:=k.bw-1,prom:=k.prom-sizeOf' r.m}else{k with bw:=k.bw-1,prom:=k.prom-sizeOf' r.m,out:=k.u++jy er r.m.ck d,us:=freed k.us r.m.ck}):=U;have bW:=aJ (w.alloc<|au (aU r) 205) c 14 (I k.bw) G.p.box;have f14:=bp G.p.box 14;clear h G bA e1;generalize k.nQ r er d=kd at*;generalize sizeOf' r.m=i at*;generalize jy er r.m.ck d=rp at*;generalize (er.toNat:Int)=en at*;go_enter func159,ntmps159
 go_upto_region 2 with fail
 have R:Hid (nI w ((w.alloc<|au (aU r) 205).setCell (F c 14)<|I<|k.bw-1) c rb ch v q v g {k with bw:=k.bw-1} r w.heap.size):=aN.u.put 14 _ U U U U;clear bW f14 aN;generalize (w.alloc<|au (aU r) 205).setCell (F c 14) (I<|k.bw-1)=W1 at*;refine gY (S:=CG c w.heap.size rb v {k with bw:=k.bw-1} r) 10 R.u.drew.s λhS=>?_;apply tg [0,1,2,3,4,5];refine gr 6 λK a=>?_;go_simp;go_at_call 195;apply(HZ.u _).m;rintro e w2 ⟨rfl,lD⟩;have D:=R.u.drew.old lD;refine a.u _ _ D.s<|λyG=>?_;clear a K;apply tg [7,8,9];have bX:=aJ w2 c 15 (I k.prom) D.p.box;have f15:=bp D.p.box 15;refine gz λK a=>?_;go_simp;apply a.u _ _
 have z:Hid (nI w (w2.setCell (F c 15)<|I<|cJ.wrap<|k.prom-i) c rb ch v q v g {k with bw:=k.bw-1,prom:=k.prom-i} r w.heap.size):=by rw[dI Y Y];exact D.put 15 _ U U U U
 clear hS yG D bX f15 a K lD R;generalize w2.setCell (F c 15) (I<|cJ.wrap<|k.prom-i)=V at*;refine gl ?_;have aL:=aJ V c 20 (.chan<|Z ch) z.u.p.box;have C:=z.u.p.chan
 by_cases A:k.ph=4
 ·have Q:V.heap[ch]? =Z (.chan 0 #[] M 0 0 aa):=by rw[lY<|show(_:Int)=4 from A]at C;exact C
  have E:Hid (kd={k with bw:=k.bw-1,prom:=k.prom-i}):=by show _=_;rw[H.u,aO A]
  clear C A H;go_wp2_with (go_at_call 97;apply(DC c ch _ aL Q).m;rintro e w3 ⟨rfl,rfl⟩);let⟨a1,N,a3,a4,a5,a6,X,O,a9⟩:=f.u.apart;have T:=z.u.t;refine YP U U ⟨U,v,?_,T.m<|λb _ h=>h.imp id az,aA U⟩;rw[E.u];exact f.u.of z.u.p (T.block rb f.u.eE.1 (by rintro(e|e);exact a1 e;exact X e)) (T.block mb f.u.eE.2 (by rintro(e|e);exact N e;exact O e)) U λ_=>U
 have Q:V.heap[ch]? =Z (.chan 0 #[] aa 0 0 aa):=by rw[lX<|show ¬(_:Int)=4 from A]at C;exact C
 have E:Hid (kd={k with bw:=k.bw-1,prom:=k.prom-i,out:=k.u++rp,us:=freed k.us r.m.ck}/\k.ph≠4):=⟨by rw[H.u,aI A],A⟩;clear C A H
 go_upto_region 4 with(go_at_call 97;apply(AM c ch _ aL Q).m;rintro e w3 ⟨rfl,rfl⟩)
 refine gY (S:=CG c w.heap.size rb v {k with bw:=k.bw-1,prom:=k.prom-i} r) 14 z.u.drew.s λhS=>?_;apply tg [0,1,2,3,4,5,6,7];apply tg [8,9];refine gr 10 λK a=>?_;go_simp;go_at_call 196;apply(HR.u _).m;rintro e w4 ⟨rfl,bl⟩;have o:=z.u.drew.old bl;refine a.u _ _ o.s<|λbH=>?_;clear a K
 let⟨u,w5,Hj,Vf,ak,an⟩:=RS (P:=prog) w4 99 9 99 5 i0 underlying99 underlying9 bO oh bR oZ v k.u.size (jX k.u) o.p.u rp Y
 obtain⟨j,l,rfl⟩:=gP Vf
 let⟨P5,T5,x⟩:=o.p.tell Vf ak an
 have bL:Z w.heap.size≠v.ownBlock:=λe=>by have:=f.u.p.eE.2.2.2 _ e.y;omega
 have J:=(ak.block _ (bf.1 o.b).1 bL).t o.b;refine gr 11 λK a=>?_;apply Xm U U U U Hj;refine a.u _ _ ⟨⟨aD x U,aD x U,aD x U⟩,dD.of J⟩<|λbJ=>?_;clear a K;apply tg [12,13];have b7:=aJ w5 c 16 v x;have f16:=bp x 16;refine gz λK a=>?_;go_simp;apply a.u _ _
 have B:Hid (nI w (w5.setCell (F c 16)<|ζ j (k.u.size+rp.size) l) c rb ch v q (ζ j (k.u.size+rp.size) l) g {k with bw:=k.bw-1,prom:=k.prom-i,out:=k.u++rp} r w.heap.size/\((fM j (k.u.size+rp.size) l).ownBlock=v.ownBlock\/∀b,(fM j (k.u.size+rp.size) l).ownBlock=Z b->w.heap.size<=b)):=by refine⟨⟨P5,oT J (fO J x ay) _ _,o.t.t<|T5.m λb _ h=>h⟩,an.at_.imp id λh b e=>?_⟩;have:=h b e;have:=o.t.size;omega
 clear hS bH bJ o b7 f16 a K bl z P5 T5 x J an ak Vf aL Q Hj;generalize w5.setCell (F c 16) (ζ j (k.u.size+rp.size) l)=W6 at*;refine gl ?_
 have HF:Hid (Calls prog 197 #[jp rb,I r.m.ck] W6.drew λe n=>e=aG (θ #[])/\(∃u,cg n c rb mb ch q u g kd/\aS (λb=>b=c\/b=mb\/Z b=v.ownBlock) w n/\(u.ownBlock=v.ownBlock\/∀b,u.ownBlock=Z b->w.heap.size<=b))/\CG c w.heap.size rb (ζ j (k.u.size+rp.size) l) {k with bw:=k.bw-1,prom:=k.prom-i,out:=k.u++rp} r n):=by
  let⟨a1,N,a3,a4,a5,a6,X,O,a9⟩:=f.u.apart;let⟨aC,h3,h4⟩:=f.u.rd;have T:=B.u.1.t;have hrd:eB W6.drew rb mb g.sz g.mx aC k.us:=h3.keep (T.block rb f.u.eE.1 (by rintro(e|e);exact a1 e;exact X e)) (T.block mb f.u.eE.2 (by rintro(e|e);exact N e;exact O e));apply(abq rb mb g.sz g.mx aC k.us r.m.ck _ hrd hu uW).m;rintro e n ⟨rfl,f1,f2⟩;have P6:=B.u.1.p;let⟨b1,b2,b3,b4⟩:=P6.eE;have bP:∀b,(fM j (k.u.size+rp.size) l).ownBlock=Z b->b≠mb:=λb e e'=>by rcases B.u.2 with h|h;exact O (by rw[<-h,e,e']);have:=h b e;have:=f.u.eE.2;omega
  have L:cD n c rb ch q (ζ j (k.u.size+rp.size) l) g {k with bw:=k.bw-1,prom:=k.prom-i,out:=k.u++rp}:=P6.drew.cy f2 (dB N) (dB a4) (λb e e'=>a6 (by rw[e,e'])) bP;have B7:n.heap[w.heap.size]? =Z (au (aU r) 205 (0,0)):=ze f2 B.u.1.drew.b (by have:=f.u.eE.2;omega);refine⟨U,⟨_,⟨?_,aC,?_,?_⟩,(T.drew.m λb _ h=>h.imp id az).t<|f2.m λb _ h=>az (aA h),B.u.2⟩,⟨aD L.box U,aD L.box U,aD L.box U⟩,dD.of B7⟩;rw[E.u.1];exact L.like U U U sS;rw[E.u.1];exact f1;rw[E.u.1];exact h4
 go_upto_region 5 with fail
 refine ga (S:=CG c w.heap.size rb (ζ j (k.u.size+rp.size) l) {k with bw:=k.bw-1,prom:=k.prom-i,out:=k.u++rp} r) B.u.1.drew.s λcv=>?_;apply tl [0,1,2,3,4,5,6];refine rH 7 λK a=>?_;go_simp;go_at_call 197;apply HF.u.m;rintro e w7 ⟨rfl,f1,f2⟩;refine a.u _ _ f2<|λhH=>?_;clear a K;refine dJ ?_;go_wp2;exact fC U U ⟨U,f1⟩
def ahc(c rb mb ch q v g k s w)(h:cg w c rb mb ch q v g k)(d:k.ph=4):
  eZ 59 #[jp c,ξ s] w (I 2):=by
 have a:=h.p.chan;rw[lY d]at a;go_enter func59,ntmps59;go_wp2_with (go_at_call 97;apply(DC c ch _ (aJ w c 20 (.chan<|Z ch) h.p.box) a).m;rintro e f ⟨rfl,rfl⟩);go_ret;exact⟨U,U⟩
def ahb(c rb mb ch q v g k s w)(h:cg w c rb mb ch q v g k)(b:k.ph≠4)(j:k.aN.size<=1024)(hl:1024<k.aN.size+s.size):
  eZ 59 #[jp c,ξ s] w (I 6):=by
 have a:=h.p.chan;rw[lX b]at a;have d:=aJ w c 20 (.chan<|Z ch) h.p.box;have f:=aJ w c 12 (ξ k.aN) h.p.box;have i:decide ((1024:Int)-(k.aN.size:Int)<(s.size:Int))=M:=bV;clear h b;go_enter func59,ntmps59;go_wp2_with (go_at_call 97;apply(AM c ch _ d a).m;rintro e l ⟨rfl,rfl⟩);go_ret;exact⟨U,U⟩
def Ck.send(s:ByteArray)(k:Ck):Ck:={k with aN:=k.aN++s}
def aha(c rb mb ch q v g k s w)(h:cg w c rb mb ch q v g k)(j:k.ph≠4)(hl:k.aN.size+s.size<=1024):
  Calls prog 59 #[jp c,ξ s] w λe l=>e=aG (I 0)/\cg l c rb mb ch q v g (k.send s)/\aS (λi=>i=c) w l:=by
 have f:=h.p.chan;rw[lX j]at f;have r:=aJ w c 20 (.chan<|Z ch) h.p.box;have o:=aJ w c 12 (ξ k.aN) h.p.box;have A:decide ((1024:Int)-(k.aN.size:Int)<(s.size:Int))=aa:=bV;have z:¬9223372036854775807<k.aN.size+s.size:=Y;have n:=aX h;clear h j;go_enter func59,ntmps59
 go_upto_region 5 with(go_at_call 97;apply(AM c ch _ r f).m;rintro e t ⟨rfl,rfl⟩)
 refine gY (S:=λW=>W.cell? (F c 12)=Z (ξ k.aN)) 9 o λhS=>?_;apply tg [0,1,2,3,4];refine gr 5 λK b=>?_;go_simp;go_at_call 98;apply(SE s _ Y).m;rintro e m ⟨rfl,a⟩;have d:=n.drew.old a;have u:=aJ m c 12 (ξ k.aN) d.p.box;have f12:=bp d.p.box 12;refine b _ _ u<|λx=>?_;clear b K;apply tg [6,7,8];refine gz λK b=>?_;go_simp;apply b _ _;refine gl ?_;go_wp2;go_ret;exact⟨U,d.put 12 _ U U U U U,(aS.below (X:=λi=>i=c) (⟨a.os,a.tape,a.output,a.size,a.block⟩:aK t m)).set (p:=F c 12) U _⟩
def WO{w v o}(h:uN w v o):∃f a,v=ζ f o.size a/\o.size<=a/\a<=cP:=by rcases h.2 with⟨e,b⟩|⟨g,i,j,e,_,_,c,d,_⟩;exact⟨aj,0,by rw[e,b],Y,by unfold cP;omega⟩;exact⟨_,_,e,c,d⟩
def aeN{w oa cap m o}(h:uN w (ζ oa o.size cap) o)(hm:m<=o.size):(convert 99 9<|ζ oa m cap).run prog w=.ok (ξ<|o.extract 0 m) w:=by
 have b:(o.data.toList.take m).length=m:=by rw[vS];exact uE (by simpa using hm)
 have c:(⟨(o.data.toList.take m).toArray⟩:ByteArray)=o.extract 0 m:=by apply rG;apply Bx;simp[rE]
 rcases h.2 with⟨e,h0⟩|⟨g,n,a,e,_,l,_,_,_,r⟩;have k:m=0:=Y;subst k;rw[X3];grind;cases e;have f:∀(j:Nat) u,(jX o)[j]? =Z u->a[j]? =Z u:=λj u s=>by grind
 have d:=yd w 99 9 5 ⟨g,0,aj⟩ cap (o.data.toList.take m) underlying99 underlying5 underlying9 (λj i=>by
  rw[Bw,jM];refine aD l (f j _ ?_);have p:o.data.size=o.size:=U;rw[vS]at i;have q:j<o.data.size:=Y;have e:(jX o)[j]? =Z (ι .u8 (o.data[j].toNat:Int)):=by unfold jX;grind
  rw[e];simp)
 rwa [b,c]at d
def Z4{v o}(w)(h:uN w v o)(x:nP w v)(m)(hm:m<=o.size)(hs:o.size<=cP):
  Calls prog 167 #[v,I 0,I m] w λe d=>∃k,e=aG k/\uN d k (o.extract m o.size)/\aS (λb=>Z b=v.ownBlock) w d/\k.ownBlock=v.ownBlock/\nP d k:=by
 by_cases h0:m=0
 subst h0;obtain⟨W,X,rfl,r⟩:=WO h;apply(aab _ W o.size X U r.1 r.2 w).m;rintro e d ⟨rfl,rfl⟩;have l:o.extract 0 o.size=o:=ay;exact⟨_,U,by rw[l];exact h,aS.refl _ _,U,x⟩;rcases h.2 with⟨_,e⟩|⟨g,cap,f,rfl,_,t,O,s,p,V⟩;omega;rw[Nat.mul_one]at p V;have an:=y8 o;have Q:∀(j:Nat) u,(jX o)[j]? =Z u->f[j]? =Z u:=λj u a=>by grind
 obtain⟨news,n⟩:∃news,news=(jX o).drop m:=⟨_,U⟩;have S:news.length=o.size-m:=j4
 have T:∀u∈news,u.oneCell'=M:=λu a=>Lib.strCells_oneCell o u (BZ (n▸a));have R:∀(j:Nat) u,news[j]? =Z u->f[m+j]? =Z u:=λj u a=>Q (m+j) u j4
 let⟨L,a1,z,a3,A,B,C,D⟩:=sO news 0 w.drew f t
 let⟨N,b1,E,G,b4,H,J,K⟩:=sO (rP m<|ι .u8 0) (o.size-m) (w.drew.setCells g 0 news) L a1
 apply(aac g o.size cap m news f w Y hm O s S T t p R).m;rintro e d ⟨rfl,rfl⟩;have q:(o.extract m o.size).size=o.size-m:=by simp[oH]
 refine⟨_,U,?_,⟨K.t D,by rw[J,C];exact aR _,λi _ c=>(H i λe=>c C1).t (B i λe=>c C1)⟩,U,λg' P=>?_⟩;show World.ownsRow _ 0 5 1 _ (o.extract m o.size).size _;rw[q];refine⟨by rw[y8,q];omega,az ⟨g,cap,N,U,cO _,b1,Y,s,by rw[E,z,p];omega,?_⟩⟩;rw[Nat.mul_one]
 have l:jX (o.extract m o.size)=news:=by rw[n];unfold jX;rw[rE,zz,Kh,qE ay,List.map_drop]
 rw[l];apply ux;intro i;rw[vP];split;rename_i c;rw[zw,G i<|aA c];have:=A i news[i] (dj Y) Y;rw[jM]at this;rw[this,dj];rename_i c;rw[Kl Y];cases P;have h0:Aa w.drew g:=x g U;refine(h0.sets _ 0 _ λu a=>Ug o u (BZ (n▸a))).sets _ _ _ λu a=>?_;rw[List.eq_of_mem_replicate a];trivial
def Ck.take(m:Nat)(k:Ck):Ck:={k with out:=k.u.extract m k.u.size}
def WE(c rb mb ch q v g k)(n:Int)(m:Nat)(w:aq)(h:cg w c rb mb ch q v g k)(hm:(m:Int)=min n k.u.size)(ho:k.u.size<=1048576):
  Calls prog 116 #[jp c,I n] w λe f=>e=aG (θ #[ξ<|k.u.extract 0 m,I 0])/\∃s,cg f c rb mb ch q s g (k.take m)/\aS (λb=>b=c\/Z b=v.ownBlock) w f/\s.ownBlock=v.ownBlock:=by
 have x:m<=k.u.size:=Y;have X:decide (n<0)=aa:=bV;have W:=hm.y;obtain⟨j,i,rfl,E⟩:=WO h.p.u;have R:=aeN h.p.u x;have P:=aJ w c 16 (ζ j k.u.size i) h.p.box
 have B:Hid (Calls prog 167 #[ζ j k.u.size i,I 0,I m] w λe f=>∃a l d,e=aG (ζ a l d)/\(cg (f.setCell (F c 16)<|ζ a l d) c rb mb ch q (ζ a l d) g (k.take m)/\aS (λb=>b=c\/Z b=(fM j k.u.size i).ownBlock) w (f.setCell (F c 16)<|ζ a l d)/\(fM a l d).ownBlock=(fM j k.u.size i).ownBlock)/\f.cell? (F c 16)=Z (ζ j k.u.size i)/\f.frozen? (F c 16)=aa):=by refine(Z4 w h.p.u h.p.tv m x B5).m ?_;rintro e f ⟨s,rfl,d1,d2,d3,d4⟩;obtain⟨a,d,rfl⟩:=gP d1;let⟨a1,t,a3,O,C,u⟩:=h.p.apart;let⟨l1,H,z,l4⟩:=h.p.eE;let⟨J,K,r3,r4,r5,r6,L,N,r9⟩:=h.apart;have r:=(d2.block c l1 a3).t h.p.box;have off:∀b,b≠c->(f.setCell (F c 16)<|ζ a (k.u.extract m k.u.size).size d).heap[b]? =f.heap[b]? :=λb D=>bC D;have nv:∀b,(fM a (k.u.extract m k.u.size).size d).ownBlock=Z b->b≠c:=λb e o=>a3 (by rw[<-o,<-d3,e]);exact⟨a,_,d,U,⟨h.of ⟨bG r 16 _,eF h.p.row λb e=>(off b λo=>t (by rw[e,o])).t (d2.block b (z b e)<|u b e),eF d1 λb e=>off b (nv b e),h.p.tq.keep λb e=>(off b λo=>t (by rw[e,o])).t (d2.block b (z b e)<|u b e),d4.keep λb e=>off b (nv b e),(off ch<|dB a1).t<|(d2.block ch H C).t h.p.chan⟩ ((off rb J).t<|d2.block rb h.eE.1 L) ((off mb K).t<|d2.block mb h.eE.2 N) U λ_=>U,((d2.m λb _ h=>(az h:b=c\/Z b=(fM j k.u.size i).ownBlock)).set (p:=F c 16) (aA U)<|ζ a (k.u.extract m k.u.size).size d),d3⟩,aD r U,bp r 16⟩
 have S:(m:Int)<=(k.u.size:Int):=Y;have V:(m:Int)<=(i:Int):=Y;have T:m<=i:=Y
 let⟨Q,G⟩:=E
 unfold cP at G;clear h hm;go_enter func116,ntmps116;go_wp2_with (go_at_call 167;apply B.u.m;rintro e w2 ⟨a,l,d,rfl,d1,d2,d3⟩;have A:=aX d1;clear d1)
 go_ret2
 exact⟨U,_,A.u⟩
def Ck.fresh(no wt a:Int):Ck:=⟨no,wt,0,⟨#[]⟩,[],0,0,⟨#[]⟩,a,0,0,[]⟩
def aed(g no wt w):Calls prog 57 #[ov g,I no,I wt] w λe f=>
  ∃c d b a,e=aG (jp c)/\cg f c d b a (ζ aj 0 0) (ζ aj 0 0) g (Ck.fresh no wt g.bu)/\aK w f/\w.heap.size<=c/\w.heap.size<=d/\w.heap.size<=b/\w.heap.size<=a:=by
 apply(U9 g.sz g.cl g.qu g.mx g.qn g.rt g.bu g.wk g.ou no wt w).m;rintro e f ⟨c,d,b,a,rfl,h,i,j⟩;exact⟨c,d,b,a,U,⟨⟨i,qH _ _ _ _,qH _ _ _ _,Et _,Et _,h.chan⟩,h.rd⟩,j⟩
end Go.Proofs.YtpobhljcainmdabGreat
