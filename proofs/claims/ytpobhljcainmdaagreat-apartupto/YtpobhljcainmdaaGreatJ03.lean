/- Parts of the proof. -/
import Derived.Lib.LazyBuf
import Derived.LoopIn
import Derived.LoopNIn
import Derived.RangeFuncBound
import Derived.Shelf.RegionOpen
import Derived.Test.YtpobhljcainmdaaGreatJ02
set_option maxRecDepth 100000
set_option maxHeartbeats 8000000
set_option linter.all false
namespace Go.Proofs.YtpobhljcainmdaaGreat
open Go renaming World->aq,Value->aB,maxLen->cP,bodyPost_ret->iB,below_drewN->jj,run_append_room_cells->KZ,run_underlying->Cx,FuncId->aZ,run_convert_bytes_back->yd,run_takeDeferred->rU,info_parts->nG,callsIn_of_wp_marks->QR,TypeId->aY,step_append_lies->Rb,Oper->ep,run_append_nil_string->I6,run_storeCells_cells->I7,growslice_fits->QU,Operand->lU,wpS_region->Le,bodyPost->FJ,results_none->zX,Addr->iL,sizeOf->JV,leaves_cons->QV,grownBy_putObj'->FM,Program->bM,heap_alloc_new->ao,callsIn_wide->da,results->bo,yielded->co,execOp->a7,Calls->ax,Act->eQ
open Go.World renaming cell?_of_block->iO,grownBy_alloc->pN,putObj_heap_other->gq,cell?->gp,cell?_setCell_same'->KM,ownsRow_nil->qH,setCell->iQ,news_of_block->wu,size_alloc->zT,frozen?->qG,cell?_setCell_other->I1,cell?_setCells_out->I2,cell?_setCell_far->I0,frozen?_setCell->I4,drewN_drewN->I3,setCell->kB,cell?->kD,alloc->lL,ownsRow->mT,setCells->nb,frozen?->nc,grownBy->nz
open Go.Value renaming slice->fM,ownBlock->lW,cells->zR,oneCell'->zS,int->BX,slice->ζ,string->ξ,pointer->π,bool->ω,tuple->θ,agg->ν,int->ι,ownBlock->rW
open Go.Lib renaming strCells->jX,run_append_room_string->x8,run_append_grow_string->x7,run_firstCells_string->y7,strCells_length->y8
open Go.IntKind renaming i64->cJ,wrap_i64->vL,signed->Qq,bits->Qp,wrap->nt
open Go.Region renaming ready->fS,wanted->cY,binds->zN
open Go.Builtin renaming zeroCells->qA,append_->rD,clear_->um,copy_->uq,lenOf->EK
open _root_.List renaming range->dA,filter_map->A7,replicate->rP,take_succ->C9,length->pA
open Go.RowKit renaming intOf->dw,Below->ca,Hid->bc
open Go.CallsIn renaming inRound->rI
open Go.Result renaming andThen_ok->FG
open _root_.Array renaming getD->rB,replicate->oG,mem_filter->Zq,setIfInBounds->mP,size->pB
open Go.Maps renaming int_keyed->Fz,setOf->Cc,keyOf_int_mk->QC,setOf_snoc->E0
open Go.Sem renaming run_bind->Cn,run_pure->KH
open Go.Addr renaming add_lit->Bw
open Go.Fence renaming wide->ig
open _root_.Nat renaming reduceAdd->rS,reduceSub->FB,exists_eq_add_of_le->E5,beq->vY,mod_lt->QF
open Go.WideAt renaming IsKeyLit->QL
open Go.Instr renaming makeFunc->Qn,typeAssert->Ka,sureAddr->EW,loadAt->JX
open Go.Lit renaming int->Fw
open Go.Exit renaming thenS->JO,normal->Qe,ret->Qf
open Go.Oper renaming wp->tr
open Go.DataW renaming insert->ZG
open _root_.UInt8 renaming ofNat->ji
open Go renaming undef->y
open Go.Ending renaming returned->aG
open Go.Obj renaming cells->au
open _root_.Bool renaming false->aa,true->M
open _root_.Option renaming none->aj,some->Z,isSome->qL
open _root_.Or renaming inl->aA,inr->az
open Go.Region.linearise renaming go->ic
open Go.RowKit.Below renaming heap_setCell->dE,heap_alloc->bj,setCell->fg,refl->bv
open Go.Proofs.Tryz renaming underlying158->dp,underlying3->fh,underlying9->gc,underlying5->kc,prog->ai
open Go.Frame renaming enter->ba
open bh renaming closing->ib,zero->ka
open Go.Act renaming eval->cn
open an renaming known->il
attribute [local go_sem ↓] Go.wp_at_zero Go.wp_at_succ
attribute [local go_sem] cz cE
open Go.Proofs.Tryz
open Go.RowKit
open _root_.ByteArray renaming extract->mS,size->pC
open Go.Program renaming underlying->nf
open _root_.Int renaming toNat->pD
abbrev _root_.Go.World.grownBy.E:=@Go.World.grownBy.trans
abbrev _root_.Go.Aside.H:=@Go.Aside.out
abbrev _root_.Go.World.ownsMap.V:=@Go.World.ownsMap.mono
abbrev _root_.Go.World.Since.E:=@Go.World.Since.trans
abbrev _root_.List.Perm.y:=@List.Perm.symm
abbrev _root_.List.Perm.E:=@List.Perm.trans
abbrev _root_.List.Sublist.E:=@List.Sublist.trans
abbrev _root_.List.IsPrefix.E:=@List.IsPrefix.trans
abbrev _root_.Go.KeepsOthers.E:=@Go.KeepsOthers.trans
abbrev _root_.Go.World.mapTurned.E:=@Go.World.mapTurned.trans
abbrev _root_.Go.Shut.H:=@Go.Shut.out
abbrev _root_.Go.CallsD.V:=@Go.CallsD.mono
abbrev _root_.Go.CallsDIn.V:=@Go.CallsDIn.mono
abbrev _root_.Go.YieldAt.V:=@Go.YieldAt.mono
abbrev _root_.Go.StepsIn.V:=@Go.StepsIn.mono
abbrev _root_.Go.StepsIn.E:=@Go.StepsIn.trans
abbrev _root_.Go.Rows.V:=@Go.Rows.mono
def ajG(us:av Int)(ck):Maps.has (Cc (H:=Unit) (.agg [])<|us.map<|Fw .i64) (.int .i64 ck)=decide (ck∈us):=by rw[Maps.has_setOf _ _ _ (by intro x b;simp at b;obtain⟨a,_,rfl⟩:=b;trivial)];rw[sR];simp[Lit.sameKey,uw]
abbrev yo(w:aq)(mb:Nat)(us:av Int):Prop:=w.ownsMap ai 3 (unitElem (H:=Unit)) mb us.length (Cc (.agg []) (us.map (Fw .i64)))
structure eB(w:aq)(rb mb:Nat)(sz mx ph:Int)(us:av Int):Prop where
 box:w.1[rb]? =Z (au #[I sz,I mx,I ph,.map (Z mb)] 228 (0,0))
 uses:yo w mb us
variable{w w' W W' w1:aq}{rb mb b B k n j cb sb T i ch hb ho kh bb db en:Nat}{mx ph qu qn bu wk ou due order:Int}{us:av Int}{row:Option Nat}{o:Obj}{v v' cv q0 v0:aB}{m:bh}{f:aZ}{a:eQ}{st:St}{X:Nat->Prop}{P:bM}{fn:Func}{sl:lU}{t u:aY}{cur:Array aB}{D:aF UInt8}{C:av (Nat×av UInt8)}{ko:av (bh×Int)}
def eB.lt{sz}(h:eB w rb mb sz mx ph us):rb<pB w.1/\mb<pB w.1:=⟨(bf.1 h.1).1,h.2.lt⟩
def eB.cell{sz}(h:eB w rb mb sz mx ph us):
  kD w (F rb 0)=Z (I sz)/\kD w (F rb 1)=Z (I mx)/\kD w (F rb 2)=Z (I ph)/\kD w (F rb 3)=Z (.map<|Z mb):=by
 simp[gp,h.1]
def eB.kept{sz}(h:eB w rb mb sz mx ph us)(a:nz w w' row)(b:Z rb≠row)(c:Z mb≠row):eB w' rb mb sz mx ph us:=⟨(a.5 _ h.lt.1 b).E h.1,h.2.kept a c⟩
def MG(h:aK w w'):nz w w' aj:=⟨h.1,h.2,h.3,h.4,λk a _=>h.5 k a⟩
def eB.rk{sz}(h:eB w rb mb sz mx ph us)(a:aK w w'):eB w' rb mb sz mx ph us:=h.kept (MG a) ay ay
def ajy(s i)(h:i+1<pC s):two (mS s i s.size) 0=two s i:=by
 let e:∀j,i+j<pC s->bt (mS s i s.size) j=bt s (i+j):=λj a=>by
  rw[bt]
  congr 1;simp[rE,rB,a];grind
 unfold two;grind
def vA(s i s' w)(d:pC s<=cP)(a:i+1<pC s)(b:s'=mS s i s.size):
  ax ai 273 #[ξ s'] w λe c=>e=aG (I<|two s i)/\∃n,c=w.drewN n:=by
 subst b;let f:pC (mS s i s.size)=pC s-i:=by simp[oH]
 have:=ajx (mS s i s.size) w Y Y
 rwa [ajy s i a]at this
abbrev uL(rb mb b:Nat)(ck:Int)(us:av Int)(W:aq):Prop:=kD W (F rb 3)=Z (.map (Z mb))/\kD W (F b 4)=Z (I ck)/\(Instr.lookup 226 (.map (Z mb)) (I ck) M).run ai W=.ok (θ #[ν #[],ω (decide (ck∈us))]) W/\yo W mb us/\(0<=ck/\ck<=65535)
def uL.mk'{ck}(d:kD W (F rb 3)=Z (.map<|Z mb))(e:kD W (F b 4)=Z (I ck))(a:yo W mb us)(f:0<=ck/\ck<=65535):uL rb mb b ck us W:=
 ⟨d,e,(by
    let⟨v,g,c,hv⟩:=a.look_ok (Fz fh) underlying226 (zeroValue169 W) unitElem_mk (kl:=.int .i64 ck) (QC fh A1);obtain⟨rfl,_⟩:=unitElem_inv hv;rw[ajG]at c;exact c),a,f⟩
def uL.ri{ck}(h:uL rb mb b ck us W):uL rb mb b ck us (W.alloc o):=let a:=(bv W.1.size W).alloc (aR _) o;.mk' ((a.cell<|qQ h.1).E h.1) ((a.cell<|qQ h.2.1).E h.2.1) (h.2.2.2.1.alloc o) h.2.2.2.2
abbrev UP(s:ByteArray):bh:=⟨3,⟨#[]⟩,bt s 1,bt s 2,two s 3,two s 5,two s 7,⟨#[]⟩,0⟩
def MN(rb mb sz mx ph us s w)(c:pC s<=cP)(L:9<=pC s)(hR:eB w rb mb sz mx ph us):
  ax ai 260 #[aQ rb,ξ s] w λe b=>(if bt s 0≠81\/mx<two s 7\/two s 3∈us then e=.panicked [{v:=sA 9,recovered:=aa}]else e=aG (UP s).val)/\aK w b:=by
 rw[cP]at c;let n0:0<pC s:=Y;let n1:1<pC s:=Y;let n2:2<pC s:=Y;let i0:(0:Int)<pC s:=Y;let i1:(1:Int)<pC s:=Y;let i2:(2:Int)<pC s:=Y;let i3:(3:Int)<=pC s:=Y;let i5:(5:Int)<=pC s:=Y;let i7:(7:Int)<=pC s:=Y;let G:=pV s 0 Y;let H:=pV s 1 Y;let J:=pV s 2 Y;let r0:=nU s 0;let r1:=nU s 1;let r2:=nU s 2;let k1:nt cJ (bt s 1)=bt s 1:=by rw[vL];omega
 let k2:nt cJ (bt s 2)=bt s 2:=by rw[vL];omega
 let r5:=pF s 5;let r7:=pF s 7
 let⟨g0,z,g2,A⟩:=hR.cell
 have o:=hR.lt;have r:=o.1;have x:=aX hR;clear hR o;go_enter func260,ntmps260
 go_upto_region 1 with fail
 go_cut [5] (λp b=>∃d,p=aQ (pB w.1+1)/\b=(lL (lL w<|au (mF) 132)<|au (xu s) 132).drewN d)
 case first=>
  refine ga (S:=λ_=>True) trivial λm=>?_;apply tl [0,1,2,3,4,5,6,7];apply tl [9,10,12,13];refine aH [8,16]<|.cons U (λK a=>?_) ?_
  ·go_simp;(refine(vA s 3 _ _ c Y U).V ?_;rintro e b ⟨rfl,d,rfl⟩);go_wp2_with fail;refine a _ _ (trivial)<|λV=>?_;clear a K;refine aH [11,16]<|.cons U (λK a=>?_) ?_
   ·go_simp;(refine(vA s 5 _ _ c Y U).V ?_;rintro e b ⟨rfl,d,rfl⟩);go_wp2_with fail;refine a _ _ (trivial)<|λW=>?_;clear a K;refine aH [14,16]<|.cons U (λK a=>?_) ?_;·go_simp;(refine(vA s 7 _ _ c Y U).V ?_;rintro e b ⟨rfl,d,rfl⟩);go_wp2_with fail;refine a _ _ (trivial)<|λX=>?_;clear a K;apply tl [15];refine rH 16 λK a=>?_;go_simp;refine a _ _ (trivial)<|λaf=>?_;clear a K;refine rH 17 λK a=>?_;go_simp;refine a _ _ (trivial)<|λah=>?_;clear a K;refine dJ ?_;(go_wp2_with fail;go_meet;case rel=>exact⟨_,U,U⟩)
    refine .cons U (λK a=>?_) .nil;go_simp;refine a _ _ (trivial)<|λak=>?_;clear a K;refine rH 14 λK a=>?_;go_simp;(refine(vA s 7 _ _ c Y U).V ?_;rintro e b ⟨rfl,d,rfl⟩);go_wp2_with fail;refine a _ _ (trivial)<|λan=>?_;clear a K;apply tl [15];refine rH 17 λK a=>?_;go_simp;refine a _ _ (trivial)<|λaC=>?_;clear a K;refine dJ ?_;(go_wp2_with fail;go_meet;case rel=>exact⟨_,U,U⟩)
   refine .cons U (λK a=>?_) .nil;go_simp;refine a _ _ (trivial)<|λaD=>?_;clear a K;refine rH 11 λK a=>?_;go_simp;(refine(vA s 5 _ _ c Y U).V ?_;rintro e b ⟨rfl,d,rfl⟩);go_wp2_with fail;refine a _ _ (trivial)<|λaE=>?_;clear a K;refine rH 14 λK a=>?_;go_simp;(refine(vA s 7 _ _ c Y U).V ?_;rintro e b ⟨rfl,d,rfl⟩);go_wp2_with fail;refine a _ _ (trivial)<|λaJ=>?_;clear a K;apply tl [15];refine rH 17 λK a=>?_;go_simp;refine a _ _ (trivial)<|λaL=>?_;clear a K;refine dJ ?_;(go_wp2_with fail;go_meet;case rel=>exact⟨_,U,U⟩)
  refine .cons U (λK a=>?_) .nil;go_simp;refine a _ _ (trivial)<|λO=>?_;clear a K;refine rH 8 λK a=>?_;go_simp;(refine(vA s 3 _ _ c Y U).V ?_;rintro e b ⟨rfl,d,rfl⟩);go_wp2_with fail;refine a _ _ (trivial)<|λP=>?_;clear a K;refine rH 11 λK a=>?_;go_simp;(refine(vA s 5 _ _ c Y U).V ?_;rintro e b ⟨rfl,d,rfl⟩);go_wp2_with fail;refine a _ _ (trivial)<|λQ=>?_;clear a K;refine rH 14 λK a=>?_;go_simp;(refine(vA s 7 _ _ c Y U).V ?_;rintro e b ⟨rfl,d,rfl⟩);go_wp2_with fail;refine a _ _ (trivial)<|λR=>?_;clear a K;apply tl [15];refine rH 17 λK a=>?_;go_simp;refine a _ _ (trivial)<|λT=>?_;clear a K;refine dJ ?_;(go_wp2_with fail;go_meet;case rel=>exact⟨_,U,U⟩)
 case rest=>
  obtain⟨d,rfl,rfl⟩:=hcut;have l:aK w (lL (lL w<|au (mF) 132)<|au (xu s) 132):=bq.alloc ay _;have n:uL rb mb (pB w.1+1) (two s 3) us ((lL (lL w<|au (mF) 132)<|au (xu s) 132).drewN d).drew:=uL.mk' (by simp[World.drew_drewN,World.cell?_drewN];exact(l.cell (p:=F rb 3) r).E A) (by simp[go_sem]) (x.rk l).2 (pF s 3);go_upto_region 2 with fail;go_cut [7] (λq b=>∃d,q=ω (decide<|two s 3∈us)/\b=(lL (lL (lL w<|au (mF) 132)<|au (xu s) 132)<|au #[] 169).drewN d);case first=>refine ga (S:=λb=>uL rb mb (pB w.1+1) (two s 3) us b) n λm=>?_;apply tl [0,1,2,3,4,5,6,7];apply tl [8,9];refine rH 10 λK a=>?_;go_simp;refine a _ _ (uL.ri m)<|λB=>?_;clear a K;refine rH 11 λK a=>?_;go_simp;refine a _ _ (B)<|λN=>?_;clear a K;apply tl [12];refine dJ ?_;(go_wp2_with fail;go_meet;case rel=>exact⟨_,U,U⟩)
  case rest=>
   clear n;obtain⟨d2,rfl,rfl⟩:=hcut;have q0:¬rb=pB w.1:=Y;have q1:¬rb=pB w.1+1:=Y;have q2:¬rb=pB w.1+1+1:=Y;have k:aK w (lL (lL (lL w<|au (mF) 132)<|au (xu s) 132)<|au #[] 169):=l.E ((bv _ _).alloc bV _);have m1:kD (lL (lL (lL w<|au (mF) 132)<|au (xu s) 132)<|au #[] 169) (F rb 1)=Z (I mx):=(k.cell (p:=F rb 1) r).E z;by_cases g:bt s 0=81
   ·have C:(bt s 0 !=81)=aa:=by simpa using g
    have t:=aX g;clear g;by_cases i:mx<two s 7
    ·have f:bc (bt s 0≠81\/mx<two s 7\/two s 3∈us):=az (aA i);have D:decide (mx<two s 7)=M:=by simpa using i
     clear i;go_wp2;go_quiet (fail);go_wp2;exact⟨U,by first|rfl|(rw[aO f]),jj k _⟩
    have D:decide (mx<two s 7)=aa:=by simpa using i
    have u:=aX i;clear i;by_cases j:two s 3∈us
    ·have f:bc (bt s 0≠81\/mx<two s 7\/two s 3∈us):=az (az j);have E:decide (two s 3∈us)=M:=by simpa using j
     clear j;go_wp2;go_quiet (fail);go_wp2;exact⟨U,by first|rfl|(rw[aO f]),jj k _⟩
    have f:bc (¬(bt s 0≠81\/mx<two s 7\/two s 3∈us)):=by rintro(h|h|h);exact h t;exact u h;exact j h
    have E:decide (two s 3∈us)=aa:=by simpa using j
    clear j;go_wp2;go_quiet (fail);go_wp2;exact iB (v:=(UP s).val) (by simp[bo,results260,go_sem]) U ⟨by first|rfl|(rw[aI f]),(jj ((bq.alloc ay _).alloc bV _)<|d2+nq)⟩
   have f:bc (bt s 0≠81\/mx<two s 7\/two s 3∈us):=aA g;have C:(bt s 0 !=81)=M:=by simpa using g
   clear g;go_wp2;go_quiet (fail);go_wp2;exact⟨U,by first|rfl|(rw[aO f]),jj k _⟩
def yX{e:aY}{xs}(h:mT w B e k v n xs)(a:aK w w'):mT w' B e k v n xs:=h.kept (row:=aj) ⟨a.1,a.2,a.3,a.4,λj b _=>a.5 j b⟩ j4
abbrev jk(w:aq)(b:Nat)(m:bh):Prop:=kD w (F b 0)=Z (I m.1)/\kD w (F b 1)=Z (ξ m.nm)/\kD w (F b 2)=Z (I m.kd)/\kD w (F b 3)=Z (I m.fl)/\kD w (F b 4)=Z (I m.ck)/\kD w (F b 5)=Z (I m.of)/\kD w (F b 6)=Z (I m.ln)/\kD w (F b 7)=Z (ξ m.dt)/\kD w (F b 8)=Z (I m.er)
def jk.cm(h:jk w b m)(a:nz w w' row)(c:b<pB w.1)(d:Z b≠row):jk w' b m:=by let⟨h0,e,f,g,i,j,k,l,n⟩:=h;exact⟨(a.cell_far _ c d).E h0,(a.cell_far _ c d).E e,(a.cell_far _ c d).E f,(a.cell_far _ c d).E g,(a.cell_far _ c d).E i,(a.cell_far _ c d).E j,(a.cell_far _ c d).E k,(a.cell_far _ c d).E l,(a.cell_far _ c d).E n⟩
def jk.rk(h:jk w b m)(a:aK w w')(d:b<pB w.1):jk w' b m:=h.cm (row:=aj) ⟨a.1,a.2,a.3,a.4,λj c _=>a.5 j c⟩ d ay
abbrev qN(rb b:Nat)(sz:Int)(m:bh)(W:aq):Prop:=kD W (F rb 0)=Z (I sz)/\jk W b m/\nc W (F b 8)=aa
def qN.rk{sz}(h:qN rb b sz m W)(a:aK W W'):qN rb b sz m W':=by let c:=qQ h.2.1.1;exact⟨(a.cell<|qQ h.1).E h.1,h.2.1.rk a c,(a.frozen c).E h.2.2⟩
def Iu(m)(h:∀j,j<9->qL (kD W<|F b j)=M):jk (nb W b 0 m.cells) b m:=by let mi:=World.cell?_setCells_in b m.cells 0 W (λj a=>by simpa using h j a);exact⟨mi 0 D3,mi 1 D3,mi 2 D3,mi 3 D3,mi 4 D3,mi 5 D3,mi 6 D3,mi 7 D3,mi 8 D3⟩
def Xt(h:jk W b m)(tmps v)(a:tmps.getD 4 y=aQ b)(c:tmps.getD 5 y=v):
  (bo f230 tmps).run ai W=.ok (θ #[m.val,v]) W:=by
 let⟨h0,d,e,f,g,i,j,k,l⟩:=h
 simp at a c;simp[bo,results230,go_sem,a,c,h0,d,e,f,g,i,j,k,l]
def ahv(a:aK (lL w o) w1)(c:o=au (gy m) 132):∀j,j<9->qL (kD w1<|F w.1.size j)=M:=λj b=>by
 subst c;rw[a.cell ay];match j,b with
 |0,_|1,_|2,_|3,_|4,_|5,_|6,_|7,_|8,_=>simp[go_sem]
def Gr(h:ca B w W)(a:B<=b)(m:bh):ca B w (nb W b 0 m.cells):=Gs h a _ _ _ _ _ _ _ _ _
def agd(rb s w)(a:pC s<9):
  bN 230 #[aQ rb,ξ s] w (θ #[ka.val,I 0]):=by
 go_enter func230,ntmps230;go_wp2;exact iB (by simp[bo,results230,go_sem,ka]) U ⟨U,bq⟩
def agf(rb mb sz mx ph us s w)(b:pC s<=cP)(c:9<=pC s)(hR:eB w rb mb sz mx ph us)(hc:bt s 0≠81\/mx<two s 7\/two s 3∈us):
  ax ai 230 #[aQ rb,ξ s] w λe a=>e=.panicked [{v:=sA 9,recovered:=aa}]/\aK w a:=by
 let g:bc (∀W,aK w W->ax ai 260 #[aQ rb,ξ s] W λe a=>e=.panicked [{v:=sA 9,recovered:=aa}]/\aK W a):=λW d=>by exact(MN rb mb sz mx ph us s W b c<|hR.rk d).V (λe a h=>by rw[aO hc]at h;exact h)
 rw[cP]at b;go_enter func230,ntmps230;go_wp2_with (go_at_call 260;apply(g _<|bq).V;rintro e i ⟨rfl,f⟩);exact⟨U,U,bq.E<|f.V ay⟩
def age(rb mb sz mx ph us s w)(i:pC s<=cP)(k:9<=pC s)(hR:eB w rb mb sz mx ph us)(hc:¬(bt s 0≠81\/mx<two s 7\/two s 3∈us))(p:bt s 1=1)(hl:(pC s:Int)<9+two s 7):
  bN 230 #[aQ rb,ξ s] w (θ #[ka.val,I 0]):=by
 let n:bc (∀W,aK w W->bN 260 #[aQ rb,ξ s] W (ν<|xu s)):=λW l=>by exact(MN rb mb sz mx ph us s W i k<|hR.rk l).V (λe A h=>by rw[aI hc]at h;exact h)
 let z:=pF s 7;let x:(bt s 1==1)=M:=by simpa using p
 rw[cP]at i;go_enter func230,ntmps230;go_wp2_with (go_at_call 260;apply(n _<|bq).V;rintro e a ⟨rfl,d⟩;let⟨q,r⟩:=sw d;let j:pB w.1<pB a.1:=(by have:=d.4;simp at this;omega);let t:∀(c:Obj) (o:Nat),kD (a.alloc c) (F w.1.size o)=kD a (F w.1.size o):=(λc o=>iO (bj a c _ j));let u:∀(c:Obj) (o:Nat),nc (a.alloc c) (F w.1.size o)=nc a (F w.1.size o):=(λc o=>World.frozen?_of_block (bj a c _ j)));let f:=Iu ka (ahv (m:=ka) d U);let g:=qQ f.1
 exact iB (v:=θ #[ka.val,I 0]) (Xt (b:=pB w.1) (m:=ka) (jk.rk (w:=nb a w.1.size 0 ka.cells) f (bq) g) _ _ U U) U
  ⟨U,(Gr (bq.E<|d.V ay) (aR _) ka).alloc (oI g) _⟩
def aga{sz}{d:ByteArray}(h:kD W (F rb 0)=Z (I sz))(i:rb≠b)(a:W.1[b]? =Z (au (kE m.1 m.2 m.3 m.4 m.5 m.6 m.7 ⟨#[]⟩ m.9) 132 (0,0))):
  qN rb b sz {m with dt:=d} (kB W (F b 7)<|ξ d).drew:=by
 refine⟨(I0 W ⟨b,7,aj⟩ ⟨rb,0,aj⟩ _<|dB i).E h,?_,?_⟩;let f:∀j,j≠7->kD ((kB W (F b 7)<|ξ d).drew) (F b j)=kD W (F b j):=λj g=>I1 W ⟨b,7,aj⟩ ⟨b,j,aj⟩ _ (λe=>g P2);refine⟨?_,?_,?_,?_,?_,?_,?_,KM W ⟨b,7,aj⟩ _ (by simp[gp,a]),?_⟩<;>(rw[f _ aM];simp[gp,a]);show(kB W (F b 7)<|ξ d).frozen? (F b 8)=aa;rw[I4];simp[qG,a]
def qN.err{sz}(h:qN rb b sz m W)(e):jk (kB W (F b 8)<|I e) b {m with er:=e}:=by let⟨_,⟨h0,c,d,f,g,i,k,l,n⟩,_⟩:=h;let a:∀j,j≠8->kD (kB W (F b 8)<|I e) (F b j)=kD W (F b j):=λj o=>I1 W ⟨b,8,aj⟩ ⟨b,j,aj⟩ _ (λe=>o P2);exact⟨(a 0 aM).E h0,(a 1 aM).E c,(a 2 aM).E d,(a 3 aM).E f,(a 4 aM).E g,(a 5 aM).E i,(a 6 aM).E k,(a 7 aM).E l,KM W ⟨b,8,aj⟩ _ (by rw[n];rfl)⟩
def So{b'}(h:W.1[b]? =Z o)(a:b≠b'):(kB W (F b' j) v).1[b]? =Z o:=(dE W ⟨b',j,aj⟩ v b a).E h
def Sn(h:W.1[b]? =Z (au (mF) 132 (0,0))):jk W b bh.zero:=by refine⟨?_,?_,?_,?_,?_,?_,?_,?_,?_⟩<;>simp[gp,h,ka]
def LL(h:W.1[b]? =Z (au (mF) 132 (0,0))):∀j,j<9->qL (kD W<|F b j)=M:=λj a=>by
 match j,a with
 |0,_|1,_|2,_|3,_|4,_|5,_|6,_|7,_|8,_=>simp[gp,h]
def agb(m:bh)(tmps v)(a:tmps.getD 4 y=aQ w.1.size)(b:tmps.getD 5 y=v)(d:∀j,j<9->qL (kD W<|F w.1.size j)=M)(c:aK w W):
  FJ ai f230 (λe f=>e=aG (θ #[m.val,v])/\aK w f) Qf {tmps:=tmps,defers:=[]}
   (kB (kB (kB (kB (kB (kB (kB (kB (kB W (F w.1.size 0)<|I m.1) (F w.1.size 1)<|ξ m.2) (F w.1.size 2)<|I m.3) (F w.1.size 3)<|I m.4) (F w.1.size 4)<|I m.5) (F w.1.size 5)<|I m.6) (F w.1.size 6)<|I m.7) (F w.1.size 7)<|ξ m.8) (F w.1.size 8)<|I m.9):=
 iB (Xt (Iu m d) tmps v a b) U ⟨U,Gr c (aR _) m⟩
def LK(h:W.1[b]? =Z o)(a:aK W W'):W'.1[b]? =Z o:=(a.5 b (bf.1 h).1).E h
def Dv{p:Prop}(h:p):bc p:=h
def Xr(rb mb sz mx ph us s w)(P:pC s<=cP)(h9:9<=pC s)(hR:eB w rb mb sz mx ph us)(hc:¬(bt s 0≠81\/mx<two s 7\/two s 3∈us))(bC:pC s<=281474976710656)(kx d N)(kb:(bt s 1==1)=kx)(hv:kx=M/\mS s 9 (pD (9+two s 7))=d/\9+two s 7=N/\¬(pC s:Int)<9+two s 7\/kx=aa/\ByteArray.empty=d/\9=N):
  bN 230 #[aQ rb,ξ s] w (θ #[bh.val ⟨3,⟨#[]⟩,bt s 1,bt s 2,two s 3,two s 5,two s 7,d,uT (xB s d 0) sz⟩,I N]):=by
 have L:bc (∀W,aK w W->bN 260 #[aQ rb,ξ s] W (ν<|xu s)):=λW hW=>by exact(MN rb mb sz mx ph us s W P h9<|hR.rk hW).V (λe i h=>by rw[aI hc]at h;exact h)
 have R:=pF s 5;have T:=pF s 7;have i9:(9:Int)<=pC s:=Y;have J:=hR.cell;have bu:=hR.lt.1;have z:=aX J.1;rw[cP]at P;clear hR hc J;rcases hv with⟨rfl,x,v,hl⟩|⟨rfl,x,v⟩<;>(have HD:=Dv x;have HN:=Dv v;clear x v)
 all_goals
  go_enter func230,ntmps230
  go_upto_region 10 with(first|(go_at_call 260;refine(L.H _<|bq).V ?_;rintro e a ⟨rfl,n⟩;obtain⟨MM,aH⟩:=sw n;have o:pB w.1<pB a.1:=(by have:=n.4;simp at this;omega))|(go_at_call 117;refine(SE _ _ (by simp<;>omega)).V ?_;rintro e r ⟨rfl,l⟩;obtain⟨aE,aJ⟩:=sw l))
  rw[HD.H];have B:=bq.E (n.V ay);have u:=(B.alloc (oI o) _).E (l.V (by simp;exact oI (Kx o)));have oZ:pB a.1<pB r.1:=by have:=l.4;simp at this;omega
  have O:=(l.5 _ ay).E (ao a _);have f:=(l.5 _ bV).E ((bj _ _ _ o).E<|(n.5 _ ay).E<|ao w _);have H:=aga (W:=r) (rb:=rb) (b:=pB a.1) (m:=⟨3,⟨#[]⟩,bt s 1,bt s 2,two s 3,two s 5,two s 7,⟨#[]⟩,0⟩) (d:=d) (((u.cell (p:=F rb 0) bu).E z.H)) Y O;have A:bc ((kB r (F a.1.size 7)<|ξ d).1[pB w.1]? =Z (au (mF) 132 (0,0))):=So f Y;have t:bc (aK w<|kB r (F a.1.size 7)<|ξ d):=u.setCell (p:=F a.1.size 7) (oI o) _;clear MM aH aE aJ n l B u O f;have k:bc (qN rb a.1.size sz (xB s d 0) (kB r (F a.1.size 7)<|ξ d).drew):=H;obtain⟨E,⟨aN,aS,aT,aW,bg,bk,bl,bn,bp⟩,G⟩:=H
  go_cut [7] (λq i=>q=I N/\jk i a.1.size ⟨3,⟨#[]⟩,bt s 1,bt s 2,two s 3,two s 5,two s 7,d,uT (xB s d 0) sz⟩/\aK w i/\i.1[pB w.1]? =Z (au (mF) 132 (0,0)))
  case first=>refine ga (S:=λi=>kD i (F rb 0)=Z (I sz)/\nc i (F a.1.size 8)=aa) ⟨E,G⟩ λaC=>?_;apply tl [1,2,3,4];refine rH 0 λK c=>?_;go_simp;refine c.H _ _ (aC)<|λbz=>?_;clear c K;refine rH 5 λK c=>?_;go_simp;(refine(aaO (xB s d 0) sz _ R.1 R.2 T.1 T.2).V ?_;rintro e V ⟨rfl,g⟩;have bD:kD V (F a.1.size 8)=Z (I 0):=(qN.rk k.H g).2.1.2.2.2.2.2.2.2.2;have bE:nc V (F a.1.size 8)=aa:=(qN.rk k.H g).2.2);go_wp2_with fail;refine c.H _ _ (⟨(qN.rk k.H g).1,(qN.rk k.H g).2.2⟩)<|λD=>?_;clear c K;apply tl [6];refine rH 7 λK c=>?_;go_simp;refine c.H _ _ (⟨(I0 _ ⟨pB a.1,8,aj⟩ ⟨rb,0,aj⟩ _ (by show pB a.1≠rb;omega)).E D.1,(I4 _ _ _ _).E D.2⟩) (λbA=>?_);clear c K;refine dJ ?_;(go_wp2_with fail;go_meet;case rel=>exact⟨by rw[<-HN.H],(qN.rk k.H g).err _,((t.H.drew).E (g.V (by exact t.H.4))).setCell (p:=F a.1.size 8) (oI o) _,So (LK (by exact A.H) g) Y⟩)
  case rest=>
   clear aN aS aT aW bg bk bl bn bp E G k A t z L;obtain⟨rfl,⟨z0,z1,z2,z3,z4,z5,z6,z7,z8⟩,C,f⟩:=hcut;have Q:∀j,j<9->qL (kD wc<|F w.1.size j)=M:=λj hj=>LL f j hj;have P9:bc (∀j,j<9->qL (kD wc<|F w.1.size j)=M):=Q;obtain⟨p0,p1,p2,p3,p4,p5,p6,p7,p8⟩:=Sn f;have pf:∀j,nc wc (F w.1.size j)=aa:=λj=>by simp[qG,f]
   have bw:bc (wc.1[pB w.1]? =Z (au (mF) 132 (0,0))):=f;have X:bc (aK w wc):=C;clear f Q C;go_wp2;exact agb (W:=wc) ⟨3,⟨#[]⟩,bt s 1,bt s 2,two s 3,two s 5,two s 7,d,uT (xB s d 0) sz⟩ _ _ U U P9.H X.H
def YO(s sz d)(a:0<=sz):uT (xB s d 0) sz=tt sz (bt s 1) (bt s 2) (two s 5) (two s 7):=aaN _ sz (nU s 1).1 (nU s 2).1 a
def agc(rb mb sz mx ph us s w)(k:0<=sz)(j:pC s<=281474976710656)(hR:eB w rb mb sz mx ph us):
  ax ai 230 #[aQ rb,ξ s] w λe c=>Fk (mH sz mx us s) e/\aK w c:=by
 let i:pC s<=cP:=by rw[cP];omega
 by_cases d:pC s<9
 refine(agd rb s w d).V λe c h=>⟨az ?_,h.2⟩;rw[mH];rw[aO d];exact⟨aM,h.1⟩;let f:9<=pC s:=Y
 by_cases a:bt s 0≠81\/mx<two s 7\/two s 3∈us
 refine(agf rb mb sz mx ph us s w i f hR a).V λe c h=>⟨aA ?_,h.2⟩;rw[mH]
 grind
 by_cases b:bt s 1=1
 by_cases g:(pC s:Int)<9+two s 7
 refine(age rb mb sz mx ph us s w i f hR a b g).V λe c h=>⟨az ?_,h.2⟩;rw[mH];rw[aI d,aI a,aO b,aO g];exact⟨aM,h.1⟩;refine(Xr rb mb sz mx ph us s w i f hR a j _ _ _ (by simpa using b)<|aA ⟨U,U,U,g⟩).V λe c h=>⟨az ?_,h.2⟩;rw[mH];rw[aI d,aI a,aO b,aI g];refine⟨show(3:Int)≠4 by decide,?_⟩;rw[h.1,YO s sz _ k];refine(Xr rb mb sz mx ph us s w i f hR a j _ _ _ (by simpa using b)<|az ⟨U,U,U⟩).V λe c h=>⟨az ?_,h.2⟩;rw[mH];rw[aI d,aI a,aI b];refine⟨show(3:Int)≠4 by decide,?_⟩;rw[h.1,YO s sz _ k];rfl
def agC(n w):(Ka (sA n) 20 294 M).run ai w=.ok (θ #[ν #[I n],ω M]) w:=by simp[Ka,Cx underlying294,go_sem,Result.andThen]
def V2(n w):
  bN 227 #[sA n] w (θ #[ib.val,I n]):=by
 let a:=agC n;go_enter func227,ntmps227;go_wp2
 go_region
 all_goals (go_wp2)
 exact iB (by simp[bo,results227,go_sem,ib]) U ⟨U,(bq.alloc ay _).drew⟩
def Dq(W:aq)(b j v):nz W (kB W (F b j) v) (Z b):=⟨U,U,U,T9,λk _ a=>dE W ⟨b,j,aj⟩ v k (λe=>a (by rw[e]))⟩
def Tq(p q w):
  CallsD ai 226 #[π<|Z p,π<|Z q] .returning w λe c d=>e=aG (θ #[])/\c=.returning/\d=w:=by
 refine callsD_of_wpS func226 U λa cs b=>?_;apply wpS_seq;apply Le;simp[wpOpsS,go_sem,recoverD,b,ntmps226,JO];apply wpS_seq;apply Le;simp[wpOpsS,go_sem,JO];apply wpS_cond (t:=aa) (by simp[cn,oG]);simp;refine wpS_of_wp<|wp_skip ?_;cases a
 simp_all[bodyPostS,bo,results226]
def aai(bm bn n older w)(l:bm≠bn)(hm:w.1[bm]? =Z (au (mF) 132 (0,0)))(k:w.1[bn]? =Z (au #[I 0] 3 (0,0))):
  CallsD ai 226 #[aQ bm,aQ bn] (.panicking ({v:=sA n,recovered:=aa}::older)) w λe z g=>e=aG (θ #[])/\z=.panicking ({v:=sA n,recovered:=M}::older)/\jk g bm ib/\kD g (F bn 0)=Z (I n)/\∀B,B<=bm->B<=bn->B<=pB w.1->ca B w g:=by
 refine callsD_of_wpS func226 U λC cs m=>?_;apply wpS_seq;apply Le;simp[wpOpsS,go_sem,recoverD,m,ntmps226,JO];apply wpS_seq;apply Le;simp[wpOpsS,go_sem,JO];apply wpS_cond (t:=M) (by simp[cn,oG]);simp[dN];apply wpS_of_wp;simp[vH,vI,vW,jZ,lT,vN,Fq,Fv,Fu];have HM:=aX hm;have q:=aX k;clear hm k m;go_wp2_with (go_at_call 227;apply(V2 n _).V;rintro e a ⟨rfl,f⟩;have c:=LK HM f;have d:=LK q f;let⟨D,p1,E,G,H,J,K,L,N⟩:=Sn c;have O:∀j,nc a (F bm j)=aa:=(λj=>by simp[qG,c]);have x:kD a (F bn 0)=Z (I 0):=(by simp[gp,d]);have P:nc a (F bn 0)=aa:=(by simp[qG,d]);have o:=aX c;have A:=aX d;clear c d);have i:=Iu (W:=a) (b:=bm) ib (LL o);refine⟨U,_,U,θ #[],by simp[bo,results226],U,U,?_,?_,?_⟩;exact jk.cm (w:=nb a bm 0 ib.cells) (row:=Z bn) i (Dq _ _ _ _) (qQ i.1) (by simp;exact l);refine KM (nb a bm 0 ib.cells) ⟨bn,0,aj⟩ _ ?_;have e:=I2 bm ib.cells 0 a ⟨bn,0,aj⟩ (λh=>absurd h (dB l));rw[e,x];rfl;intro B r s u;exact(Gr (f.V u) r ib).setCell (p:=F bn 0) s _
def yD(m:bh)(n:Int):Ending:=if m.1=4 then .panicked [{v:=sA n,recovered:=aa}]else aG (θ #[ν<|gy m,I n])
def aaw(m n):(yD m n=.panicked [{v:=sA n,recovered:=aa}]/\m.1=4)\/yD m n=aG (θ #[ν<|gy m,I n]):=by rw[yD];split<;>simp_all
def Mh{args x lm}(h:ax ai f args w λe b=>Fk x e/\aK w b)(e:lm=x):
  ax ai f args w λe b=>e=yD lm.1 lm.2/\(lm.1.1=4->lm.1=.closing)/\aK w b:=by
 subst e;refine h.V ?_;rintro e b ⟨⟨a,c⟩|⟨a,c⟩,d⟩;exact⟨c.E (aO (by rw[a];rfl)).y,λ_=>a,d⟩;exact⟨c.E (aI a).y,λh=>absurd h a,d⟩
def Ol{bn n}(h:jk W b m)(o:kD W (F bn 0)=Z (I n))(tmps)(a:tmps.getD 4 y=aQ b)(c:tmps.getD 5 y=aQ bn):
  (bo f190 tmps).run ai W=.ok (θ #[m.val,I n]) W:=by
 let⟨h0,d,e,f,g,i,j,k,l⟩:=h
 simp at a c;simp[bo,results190,go_sem,a,c,h0,d,e,f,g,i,j,k,l,o]
abbrev Nx(w:aq):aq:=lL (lL w (au (mF) 132)) (au #[I 0] 3)
def Wt(a:aK (Nx w) w1):w1.1[pB w.1]? =Z (au (mF) 132 (0,0))/\w1.1[pB w.1+1]? =Z (au #[I 0] 3 (0,0))/\aK w w1:=by refine⟨?_,?_,?_⟩;rw[a.5 _ bV,bj _ _ _ ay];exact ao w _;rw[a.5 _ ay];have:=ao (lL w<|au (mF) 132) (au #[I 0] 3);rwa [zT]at this;exact(bq.alloc ay _).E<|a.V bV
def aek{n}(tmps)(c:tmps.getD 4 y=aQ w.1.size)(d:tmps.getD 5 y=aQ (pB w.1+1))(j:aK (Nx w) w1):
  bodyPostD ai f190 (λe o=>e=aG (θ #[m.val,I n])/\aK w o) Qf
   {tmps:=tmps,defers:=[{target:=.fn (.func 226) #[aQ w.1.size,aQ<|pB w.1+1],args:=#[]}]}
   (kB (kB (kB (kB (kB (kB (kB (kB (kB (kB w1 (F w.1.size 0)<|I m.1) (F w.1.size 1)<|ξ m.2) (F w.1.size 2)<|I m.3) (F w.1.size 3)<|I m.4) (F w.1.size 4)<|I m.5) (F w.1.size 5)<|I m.6) (F w.1.size 6)<|I m.7) (F w.1.size 7)<|ξ m.8) (F w.1.size 8)<|I m.9) (F (pB w.1+1) 0)<|I n):=by
 let⟨hm,k,i⟩:=Wt j
 let a:=Iu m (LL hm)
 let l:kD (kB (nb w1 w.1.size 0 m.cells) (F (pB w.1+1) 0)<|I n) (F (pB w.1+1) 0)=Z (I n):=by refine KM (nb w1 w.1.size 0 m.cells) ⟨pB w.1+1,0,aj⟩ _ ?_;let e:=I2 w.1.size m.cells 0 w1 ⟨pB w.1+1,0,aj⟩ (λh=>absurd h ay);rw[e];simp[gp,k]
 refine QV (f:=226) (args:=#[aQ w.1.size,aQ<|pB w.1+1]) ay (by simp[go_sem]) ?_;apply(Tq _ _ _).V;rintro e q r ⟨rfl,rfl,rfl⟩;exact⟨_,Ol (b:=pB w.1) (bn:=pB w.1+1) (m:=m) (n:=n) (jk.cm (row:=Z<|pB w.1+1) a (Dq _ _ _ _) (qQ a.1) ay) l _ c d,U,(Gr i (aR _) m).setCell (p:=F (pB w.1+1) 0) (kJ _) _⟩
def aej{n}(k:m=.closing)(tmps)(c:tmps.getD 4 y=aQ w.1.size)(d:tmps.getD 5 y=aQ (pB w.1+1))(i:aK (Nx w) w1):
  bodyPostD ai f190 (λe o=>e=aG (θ #[m.val,I n])/\aK w o) (Exit.panic [{v:=sA n,recovered:=aa}])
   {tmps:=tmps,defers:=[{target:=.fn (.func 226) #[aQ w.1.size,aQ<|pB w.1+1],args:=#[]}]} w1:=by
 subst k
 let⟨hm,l,a⟩:=Wt i
 refine QV (f:=226) (args:=#[aQ w.1.size,aQ<|pB w.1+1]) ay (by simp[go_sem]) ?_;apply(aai w.1.size (pB w.1+1) n [] w1 Y hm l).V;rintro e p q ⟨rfl,rfl,g,j,h⟩;exact⟨_,Ol (b:=pB w.1) (bn:=pB w.1+1) (m:=ib) (n:=n) g j _ c d,U,a.E<|h _ (aR _) (kJ _) a.4⟩
def aei(rb mb sz a ph us s w)(x:0<=sz)(v:pC s<=281474976710656)(hR:eB w rb mb sz a ph us):
  bN 190 #[aQ rb,ξ s] w (θ #[(first sz a ph us s).1.val,I (first sz a ph us s).2]):=by
 have o:pC s<=cP:=by rw[cP];omega
 have D:=hR.cell.2.2.1;have J:∀(q:Fn) (first kh:aF aB) (w:aq),(Qn q first kh).run ai w=.ok (.func q first kh) w:=λ_ _ _ _=>U;have h:bc (∀W,aK w W->ph=0->ax ai 228 #[ξ s] W λe d=>e=yD (first sz a ph us s).1 (first sz a ph us s).2/\((first sz a ph us s).1.1=4->(first sz a ph us s).1=.closing)/\aK W d):=λW k e=>Mh (ach s W o) Us;have i:bc (∀W,aK w W->ph=1->ax ai 229 #[ξ s] W λe d=>e=yD (first sz a ph us s).1 (first sz a ph us s).2/\((first sz a ph us s).1.1=4->(first sz a ph us s).1=.closing)/\aK W d):=λW k e=>Mh (aeL s W o) Us;have j:bc (∀W,aK w W->ph=2->ax ai 230 #[aQ rb,ξ s] W λe d=>e=yD (first sz a ph us s).1 (first sz a ph us s).2/\((first sz a ph us s).1.1=4->(first sz a ph us s).1=.closing)/\aK W d):=λW k e=>Mh (agc rb mb sz a ph us s W x v<|hR.rk k) Us;have p:ph≠0->ph≠1->ph≠2->first sz a ph us s=(.zero,0):=λh0 B C=>by rw[first];simp[h0,B,C]
 have K:=qQ D;have L:¬rb=pB w.1:=Y;have N:¬rb=pB w.1+1:=Y;have g:bc (aK w<|lL (lL w<|au (mF) 132)<|au #[I 0] 3):=bq.alloc ay _;generalize first sz a ph us s=A at*
 obtain⟨m,n⟩:=A;dsimp only at*;clear hR x v o
 by_cases r:ph=0\/ph=1\/ph=2
 ·clear p;obtain⟨hE,E⟩|hE:=aaw m n<;>rw[hE]at h i j<;>clear hE;all_goals
   obtain rfl|rfl|rfl:=r
   all_goals
    go_enter_defers func190,ntmps190
    go_wp2_with (first
     |(go_at_call 228;refine(h.H _ g.H ay).V ?_;rintro e z ⟨rfl,l,c⟩;obtain⟨t,u⟩:=sw c)|(go_at_call 229;refine(i.H _ g.H ay).V ?_;rintro e z ⟨rfl,l,c⟩;obtain⟨t,u⟩:=sw c)|(go_at_call 230;refine(j.H _ g.H ay).V ?_;rintro e z ⟨rfl,l,c⟩;obtain⟨t,u⟩:=sw c))
    first
    |exact aek _ rfl rfl c
    |exact aej (l E) _ rfl rfl c
 have G:(ph==0)=aa:=bV;have b1:(ph==1)=aa:=bV;have H:(ph==2)=aa:=bV;cases p Y Y Y;clear r h i j
 go_enter_defers func190,ntmps190
 go_wp2;refine QV (f:=226) (args:=#[aQ w.1.size,aQ<|pB w.1+1]) ay (by simp[go_sem]) ?_;refine(Tq _ _ _).V ?_;rintro e O P ⟨rfl,rfl,rfl⟩;exact⟨_,Ol (b:=pB w.1) (bn:=pB w.1+1) (m:=ka) (n:=0) (by simp[jk,go_sem,ka]) (by simp[go_sem]) _ U U,U,g.H⟩
def yu(w w':aq)(rb mb:Nat):Prop:=∃row,nz w w' row/\∀r,row=Z r->r=rb\/r=mb
def ajI(h:yo w mb us)(ck)(d:0<=ck/\ck<=65535)(hl:pA us<cP):
  ∃a,(Instr.mapUpdate 226 (.map<|Z mb) (I ck)<|.agg #[]).run ai w=.ok () a/\yo a mb (us++[ck])/\nz w a (Z mb):=by
 let⟨a,c,e,b⟩:=h.update (Fz fh) underlying226 hl (kl:=.int .i64 ck) (QC fh A1) unitElem_mk
 refine⟨a,c,?_,b⟩;rw[yo]
 rwa [sV,fQ,nC,xR,E0]
def eB.phase{sz}(h:eB w rb mb sz mx ph us)(p):eB (kB w (F rb 2)<|I p) rb mb sz mx p us:=by
 let b:mb≠rb:=λe=>by let⟨d,c,a,_⟩:=h.2;rw[e,h.1]at a;cases a
 refine⟨?_,h.2.setCell b _⟩;let f:=h.lt.1;have a:=(bf.1 h.1).2;simp[iQ,Bz];simp[h.1]
def eB.frozen{sz}(h:eB w rb mb sz mx ph us):nc w (F rb 2)=aa:=by simp[qG,h.1]
def eB.drew{sz}(h:eB w rb mb sz mx ph us):eB w.drew rb mb sz mx ph us:=⟨h.1,h.2⟩
def Mu{R}(hd:a.2=[])(h:R (aG<|θ #[]) w):FJ ai f231 R Qe a w:=⟨hd,θ #[],by simp[bo,results231],h⟩
def abm(rb mb sz mx ph us)(m:bh)(w)(hR:eB w rb mb sz mx ph us)(v:0<=m.5/\m.5<=65535)(hl:pA us<cP):
  ax ai 231 #[aQ rb,m.val] w λe g=>e=aG (θ #[])/\eB g rb mb sz mx (if m.9=0/\m.3=5 then 3 else ph) (if m.9=0/\m.3≠5 then us++[m.5]else us)/\yu w g rb mb:=by
 let⟨D,C,kd,s,a,of,ln,q,j⟩:=m
 dsimp only at v⊢
 let⟨g0,T,g2,V⟩:=hR.cell
 have af:=hR.lt.1;have q0:¬rb=pB w.1:=Y;have f2:=hR.frozen;have i:=aX hR;clear hR;generalize d:(if j=0/\kd=5 then 3 else ph)=P;generalize l:(if j=0/\kd≠5 then us++[a]else us)=p
 by_cases f:j=0
 ·subst f;by_cases o:kd=5
  ·subst o;obtain rfl:3=P:=Y;obtain rfl:us=p:=by grind
   clear d l;go_enter func231,ntmps231;go_wp2;refine Mu U ⟨U,?_,Z rb,(Dq w rb 2 _).E<|pN _ _<|Z rb,λr e=>aA P2⟩;exact(i.phase 3).kept (pN _ _ aj) ay ay
  obtain rfl:ph=P:=by simpa[o]using d
  obtain rfl:us++[a]=p:=j4;clear d l;have kb:(kd==5)=aa:=j4;have c:eB ((lL w<|au (kE D C kd s a of ln q 0) 132).drew) rb mb sz mx ph us:=(i.kept (pN _ _ aj) ay ay).drew;let⟨h,ah,B,n⟩:=ajI c.2 a v hl;have A:Z rb≠Z mb:=λe=>by let⟨R,O,u,_⟩:=c.2;cases e;rw[c.1]at u;cases u
  have x:eB h rb mb sz mx ph (us++[a]):=⟨(n.5 _ c.lt.1 A).E c.1,B⟩;have L:yu w h rb mb:=⟨Z mb,World.grownBy.E (b:=(lL w<|au (kE D C kd s a of ln q 0) 132).drew) ⟨U,U,U,ay,λk H _=>bj _ _ _ H⟩ n,λr e=>az P2⟩;have G:=c.cell.2.2.2;have J:=i.lt.2;have z:kD h (F w.1.size 4)=Z (I a):=(iO (n.5 _ ay (λe=>absurd J (by cases e;exact uD _)))).E (by simp[go_sem]);have E:bc (kD h (F rb 3)=Z (.map<|Z mb)/\kD h (F w.1.size 4)=Z (I a)):=⟨x.cell.2.2.2,z⟩;clear z;have N:=aX o;clear o c B n A;go_enter func231,ntmps231;go_upto_region 1 with fail;refine ga (S:=λg=>kD g (F rb 3)=Z (.map<|Z mb)/\kD g (F w.1.size 4)=Z (I a)) ⟨G,by simp[go_sem]⟩ λX=>?_;apply tl [0,1,2,3,4,5,6];refine rH 7 λK t=>?_;go_simp;refine t _ _ (E)<|λW=>?_;clear t K;refine dJ ?_;(go_wp2_with fail;exact Mu U ⟨U,x,L⟩)
 obtain rfl:ph=P:=by simpa[f]using d
 obtain rfl:us=p:=by simpa[f]using l
 have Q:(j !=0)=M:=by simpa using f
 clear f d l;go_enter func231,ntmps231;go_wp2;refine Mu U ⟨U,?_,aj,pN _ _ aj,λr e=>by cases e⟩;exact i.kept (pN _ _ aj) ay ay
def Mn{R}(hd:a.2=[])(h:R (aG<|θ #[]) w):FJ ai f191 R Qe a w:=⟨hd,θ #[],by simp[bo,results191],h⟩
abbrev EB(us:av Int)(m:bh):av Int:=if ta m then us++[m.ck]else us
def abn(rb mb sz mx ph us m w)(hR:eB w rb mb sz mx ph us)(x:0<=m.5/\m.5<=65535)(hl:pA us<cP):
  ax ai 191 #[aQ rb,m.val] w λe i=>e=aG (θ #[])/\eB i rb mb sz mx (ua ph m) (EB us m)/\yu w i rb mb:=by
 obtain⟨a,b,kd,g,d,of,ln,f,c⟩:=m;dsimp only at x;obtain⟨g0,K,g2,L⟩:=hR.cell;let N:=hR.lt.1;let O:¬rb=pB w.1:=Y;let f2:=hR.frozen;let s:=aX hR;generalize n:ua ph ⟨a,b,kd,g,d,of,ln,f,c⟩=P;generalize o:EB us ⟨a,b,kd,g,d,of,ln,f,c⟩=h;have q:=aX n;have t:=aX o
 let stay:bc (P=ph->h=us->eB (lL w<|au (kE a b kd g d of ln f c) 132) rb mb sz mx P h/\yu w (lL w<|au (kE a b kd g d of ln f c) 132) rb mb):=λj k=>by rw[j,k];exact⟨s.H.kept (pN _ _ aj) ay ay,aj,pN _ _ aj,λr e=>by cases e⟩
 have move:bc (∀p,P=p->h=us->eB (lL (kB w (F rb 2)<|I p)<|au (kE a b kd g d of ln f c) 132) rb mb sz mx P h/\yu w (lL (kB w (F rb 2)<|I p)<|au (kE a b kd g d of ln f c) 132) rb mb):=λp j k=>by rw[j,k];exact⟨(s.H.phase p).kept (pN _ _ aj) ay ay,Z rb,(Dq w rb 2 _).E<|pN _ _<|Z rb,λr e=>aA P2⟩
 by_cases l:a=3
 ·subst l;have B:bc (ax ai 231 #[aQ rb,ν<|kE 3 b kd g d of ln f c] (lL w<|au (kE 3 b kd g d of ln f c) 132) λe i=>e=aG (θ #[])/\eB i rb mb sz mx P h/\yu w i rb mb):=by
   refine(abm rb mb sz mx ph us ⟨3,b,kd,g,d,of,ln,f,c⟩ _ (s.H.kept (pN _ _ aj) ay ay) x hl).V ?_;rintro e i ⟨z,hr,row,A,D⟩;have j:(if c=0/\kd=5 then 3 else ph)=P:=by rw[<-q.H];simp[ua,and_comm]
   have k:(if c=0/\kd≠5 then us++[d]else us)=h:=by rw[<-t.H];simp[EB,ta]
   dsimp only at hr;rw[j,k]at hr;exact⟨z,hr,row,(pN _ _ row).E A,D⟩
  go_enter func191,ntmps191;go_wp2_with (go_at_call 231;refine B.H.V ?_;rintro e Q ⟨rfl,C,E⟩);exact Mn U ⟨U,C,E⟩
 have J:(a==3)=aa:=by simpa using l
 have o:bc (h=us):=by show h=us;rw[<-t.H];simp[EB,ta,l]
 have n:bc (P=bif a==1&&b.toList==[97]then 1 else bif a==2&&b.toList==[103]then 2 else bif a==4 then 4 else ph):=by show P=_;rw[<-q.H];simp[ua,l,cond_eq_ite]
 clear l q t;cases b1:(a==1)<;>cases G:b.toList==[97]<;>cases u:(a==2)<;>cases H:b.toList==[103]<;>cases v:(a==4)
 all_goals first
  |(exfalso;simp at b1 u v;omega)
  |(rw[b1,G,u,H,v]at n
    go_enter func191,ntmps191;go_wp2_with fail
    first
    |exact Mn rfl ⟨rfl,stay.H n.H o.H⟩
    |exact Mn rfl ⟨rfl,move.H _ n.H o.H⟩)
def Ws(sz cl qu mx qn rt bu wk ou ph w):
  ax ai 115 #[ν<|iV sz cl qu mx qn rt bu wk ou,I ph] w λe a=>e=aG (aQ<|pB w.1+2)/\
   a=lL (lL (lL w<|au (iV sz cl qu mx qn rt bu wk ou) 35)<|.map #[] 0) (au #[I sz,I mx,I ph,.map<|Z<|pB w.1+1] 228):=by
 let b:=@run_makeMap ai;go_enter func115,ntmps115;go_wp2;go_ret;exact⟨U,U⟩
def adG(rb s w):
  ax ai 152 #[aQ rb,ξ s] w λe b=>e=aG (.func (.func 189) #[] #[aQ w.1.size,aQ<|pB w.1+1])/\
   b=lL (lL w<|au #[aQ rb] 164) (au #[ξ s] 9):=by
 let c:∀(a:Fn) (first kh:aF aB) (w:aq),(Qn a first kh).run ai w=.ok (.func a first kh) w:=λ_ _ _ _=>U;go_enter func152,ntmps152;go_wp2;go_ret;exact⟨U,U⟩
structure kN(W:aq)(rb mb a sb:Nat)(sz mx:Int)(s:ByteArray)(st:St):Prop where
 rd:eB W rb mb sz mx st.ph st.2
 cp:W.1[a]? =Z (au #[aQ rb] 164 (0,0))
 tx:W.1[sb]? =Z (au #[ξ (mS s st.pos s.size)] 9 (0,0))
 sc:rb≠sb/\mb≠sb/\a≠sb/\a≠rb/\a≠mb
abbrev Lv(rb mb a:Nat)(r:Nat):Prop:=r=rb\/r=mb\/r=a
def Ic(rb mb a b:Nat)(A B:aq):Prop:=B.1[rb]? =A.1[rb]? /\B.1[mb]? =A.1[mb]? /\B.1[a]? =A.1[a]? /\B.1[b]? =A.1[b]?
def yo.block(h:yo w mb us)(c:w'.1[mb]? =w.1[mb]?):yo w' mb us:=by let⟨b,a,d,r⟩:=h;exact⟨b,a,c.E d,r⟩
def kN.kept{A B sz s}(h:kN A rb mb cb sb sz mx s st)(k:Ic rb mb cb sb A B):kN B rb mb cb sb sz mx s st:=⟨⟨k.1.E h.1.1,h.1.2.block k.2.1⟩,k.2.2.1.E h.2,k.2.2.2.E h.3,h.4⟩
def kN.rk{A B sz s}(h:kN A rb mb cb sb sz mx s st)(a:nz A B aj):kN B rb mb cb sb sz mx s st:=h.kept ⟨a.5 _ h.1.lt.1 ay,a.5 _ h.1.lt.2 ay,a.5 _ (bf.1 h.2).1 ay,a.5 _ (bf.1 h.3).1 ay⟩
def kN.step{A B sz s n}(h:kN A rb mb cb sb sz mx s st)(hr:eB B rb mb sz mx (ua st.1 m) (EB st.2 m))(i:yu A B rb mb):
  kN (kB B (F sb 0)<|ξ<|mS s (st.3+pD n) s.size) rb mb cb sb sz mx s (st.step (m,n)):=by
 let⟨row,b,c⟩:=i
 let⟨a1,a,a3,d,f⟩:=h.4
 refine⟨⟨?_,yo.block hr.2 (dE _ _ _ _ (by exact a))⟩,?_,?_,h.4⟩;rw[dE _ _ _ _ (by exact a1)];exact hr.1;rw[dE _ _ _ _ (by exact a3)];exact (b.5 cb (bf.1 h.2).1 (λe=>(c _ e.y).e d f)).E h.2;simp[iQ,Bz,(b.5 sb (bf.1 h.3).1 (λe=>(c _ e.y).e (λe=>a1 e.y) (λe=>a e.y))).E h.3];simp[St.step]
def TY(sz mx ph us s):0<=(first sz mx ph us s).1.5/\(first sz mx ph us s).1.5<=65535:=by
 let g:∀f i,(cL s f i).1.5=0:=λf=>by
  induction f with
  |zero=>intro i;rw[cL];split<;>rfl
  |succ f a=>intro i;rw[cL];split;rfl;split;exact a _;rfl
 rw[first]
 split;rw[qb,g];simp;split
 ·rw[CK];repeat' split
  all_goals simp[ka,ib]
 split
 ·rw[mH];repeat' split
  all_goals (first|exact(pF s 3)|simp[ka,ib])
 simp[ka]
def agE(st:St)(xs:av (bh×Int)):pA (st.run xs).2<=pA st.2+pA xs:=by
 induction xs generalizing st with
 |nil=>simp[St.run]
 |cons x xs a=>
  have:=a (st.step x);let e:pA (st.step x).2<=pA st.2+1:=by simp[St.step];split<;>simp
  simp[St.run,uy,gH]at this⊢;omega
section
attribute [local go_sem] Oper.semAt_some
open Go.Shelf
abbrev Nu(x:bh×Int):aF aB:=#[ν (kE x.1.1 x.1.nm x.1.kd x.1.fl x.1.ck x.1.of x.1.ln x.1.dt x.1.er),I x.2]
def Hu(W:aq)(a:Nat):Nat:=match kD W (F a 0)with|some (ξ t)=>pC t|_=>0
def VK{sz s}(h:kN W rb mb cb sb sz mx s st):Hu W sb=pC s-st.3:=by simp[Hu,gp,h.3,oH]
def acN(n)(hn:1<=n)(rb mb cb sb sz c s)(st:St)(W)(hz:0<=sz)(bW:pC s<=281474976710656)(hu:pA st.2<=281474976710656)(hp:st.3<=pC s)(h0:kN W rb mb cb sb sz c s st):
  Fd ig n ai 189 #[aQ cb,aQ sb] Nu (Lv rb mb sb) (Ic rb mb cb sb) (mR sz c s st)
   (λk i=>mR sz c s st k/\((st.run k).next sz c s).2=0/\kN i rb mb cb sb sz c s (st.run k))
   (λko i=>mR sz c s st ko/\kN i rb mb cb sb sz c s (st.run ko)) W:=by
 intro l J Jx L bQ hY bw;refine callsIn_of_wp func189 U trivial ?_ U;simp[ntmps189,nE,gH,nB,rS,FB,vH,vI,vW,vN,jZ,lT]
 gi_wp2
 gi_loopw [5] (λ_ wr=>∃ko,bc<|mR sz c s st ko/\kN wr rb mb cb sb sz c s (st.run ko)/\J ko wr) (λ_ wr=>Hu wr sb)
 case atStart=>exact⟨[],trivial,h0,bw⟩
 case round=>
  let⟨ko,hH⟩:=hrel;let⟨H,f,O⟩:=hH;clear hH;have V:=OA sz c s st ko hp H;have ah:=agE st ko;generalize v:st.run ko=d at f V ah;obtain⟨⟨m,a⟩,u⟩:∃x,d.next sz c s=x:=⟨_,U⟩;have C:=Wu sz c s d;rw[u]at C;have N:=TY sz c d.1 d.2 (mS s d.3 s.size);have P:first sz c d.1 d.2 (mS s d.3 s.size)=(m,a):=u
  rw[P]at N;obtain⟨t,j⟩:∃t,t=mS s d.3 s.size:=⟨_,U⟩;have af:pC t=pC s-d.3:=by rw[j];simp[oH]
  have c1:kD wr (F cb 0)=Z (aQ rb):=by simp[gp,f.2]
  have c2:kD wr (F sb 0)=Z (ξ t):=by simp[gp,f.3,j]
  have hN:bc (bN 190 #[aQ rb,ξ t] wr<|θ #[ν<|gy m,I a]):=by have:=aei rb mb sz c d.1 d.2 t wr hz Y f.1;rw[j,P]at this;rwa [j]
  by_cases T:a=0
  ·subst T;have HD:bc (∀b,aK wr b->(∃k,(mR sz c s st k/\((st.run k).next sz c s).2=0/\kN (lL b<|au (gy m) 132) rb mb cb sb sz c s (st.run k))/\J k (lL b<|au (gy m) 132))):=λb z=>by have B:nz wr (lL b<|au (gy m) 132) aj:=(MG z).E (pN _ _ aj);exact⟨ko,⟨H,by rw[v,u],by rw[v];exact f.rk B⟩,L _ _ _ aj O B (λr e=>by cases e)⟩
   clear H f O u P N C V ah v af j;gi_wp2_with (first|(refine⟨trivial,?_⟩;gi_at_call 190;apply(da.2 hN).V;rintro e b ⟨rfl,A⟩));apply iB (zX U _ _ _) U;exact⟨⟨_,U⟩,aA<|HD b A⟩
  have bR:(a==0)=aa:=by simpa using T
  have hv:mR sz c s st (ko++[(m,a)]):=(XE sz c s st ko (m,a)).2 ⟨H,by rw[v,u],T⟩;have bV:a<=(pC t:Int):=by rw[af];exact C.2
  have bT:0<=a:=C.1;have bk:pA d.2<cP:=by rw[cP];omega
  have aW:st.run (ko++[(m,a)])=d.step (m,a):=by rw[St.Oz,v]
  have HF:bc (∀b,aK wr b->ax ai 191 #[aQ rb,ν<|gy m] (lL b<|au (gy m) 132) λe g=>e=aG (θ #[])/\(kD g (F sb 0)=Z (ξ t)/\nc g (F sb 0)=aa/\jk g b.1.size m/\sb<pB b.1/\
    kN (kB g (F sb 0)<|ξ<|mS t (pD a) t.size) rb mb cb sb sz c s (d.step (m,a))/\J ko (kB g (F sb 0)<|ξ<|mS t (pD a) t.size))):=λb z=>by
   have B:nz wr (lL b<|au (gy m) 132) aj:=(MG z).E (pN _ _ aj);have D:=f.rk B;have bG:sb<pB wr.1:=(bf.1 f.3).1;have aT:sb<pB b.1:=cS bG z.4;apply(abn rb mb sz c d.1 d.2 m (lL b<|au (gy m) 132) D.1 N bk).V;rintro e g ⟨he,bE,bg⟩
   let⟨row,S,X⟩:=bg
   have aL:=f.4;have bh:g.1[sb]? =_:=(S.5 sb (bf.1 D.3).1 (λe=>(X _ e.y).e (λe=>aL.1 e.y) (λe=>aL.2.1 e.y))).E D.3
   have hcut:mS t (pD a) t.size=mS s (d.3+pD a) s.size:=by rw[j];exact(by
      apply rG;simp[rE,oH]
      congr 1;omega)
   rw[hcut]
   have bC:jk g b.1.size m:=jk.cm (w:=lL b<|au (gy m) 132) (row:=row) (by simp[jk,go_sem]) S ay (λe=>by have:=D.1.lt;have h1:=f.1.lt;have:=z.4;rcases X _ e.y with e|e<;>omega)
   exact⟨he,by simp[gp,bh,j],by simp[qG,bh],bC,aT,(D.step (n:=a) bE bg),
    L _ _ _ (Z sb) (L _ _ _ row (L _ _ _ aj O B (λr e=>by cases e)) S<|λr e=>(X r e).e aA (λh=>az (aA h))) (Dq _ _ _ _)<|λr e=>az (az P2)⟩
  have HY:bc (∀q,J ko q->YieldAt ig (n-1) ai l (Nu (m,a)) q λe i=>(e=aG (ω M)/\J (ko++[(m,a)]) i/\Ic rb mb cb sb q i)\/(e=aG (ω aa)/\Jx (ko++[(m,a)]) i/\Ic rb mb cb sb q i)):=λq bB=>hY ko (m,a) q bB hv;have p:bc (mR sz c s st (ko++[(m,a)])/\st.run (ko++[(m,a)])=d.step (m,a)/\Hu wr sb=pC s-d.3/\d.3+pD a<=pC s):=⟨hv,aW,VK f,Y⟩;clear H f O u P N V ah v j hv aW bk C af;gi_wp2_with (first|(refine⟨trivial,?_⟩;gi_at_call 190;apply(da.2 hN).V;rintro e b ⟨rfl,A⟩;have an:=aX A;let⟨MM,bS⟩:=sw A;clear A;have bu:kD b (F cb 0)=Z (aQ rb):=(an.cell<|qQ c1).E c1;have hx:∀(ob:Obj) (o:Nat),kD (b.alloc ob) (F cb o)=kD b (F cb o):=(λob o=>iO (bj b ob _<|qQ bu)))|(refine⟨trivial,?_⟩;gi_at_call 191;apply(da.2<|HF b an).V;rintro e g ⟨rfl,d2,df,⟨m0,m1,m2,m3,m4,m5,m6,m7,m8⟩,aT,aN,aS⟩;have cv:¬sb=pB b.1:=Y;let⟨fn,cw,assign,body,hy,R⟩:=HY _ aS;have aC:=aX aN;clear aN aS));apply R.V;rintro e W3 (⟨rfl,UG,G⟩|⟨rfl,UH,G⟩)
  ·have E:=aC.kept G;have K:=aX E;have Q:=aX UG;clear E UG G R hy;gi_wp2;go_roundw;case rel=>exact⟨ko++[(m,a)],p.1,by rw[p.2.1];exact K,Q⟩
   case measure=>rw[p.2.2.1,VK K];have:=p.2.2.2;have h1:(d.step (m,a)).3=d.3+pD a:=U;rw[h1];omega
  have E:=aC.kept G;have K:=aX E;have Q:=aX UH;clear E UH G R hy;gi_wp2;apply iB (zX U _ _ _) U;exact⟨⟨_,U⟩,az ⟨ko++[(m,a)],⟨p.1,by rw[p.2.1];exact K⟩,Q⟩⟩
end
open Go.Conc
structure aS(X:Nat->Prop)(w w':aq):Prop where
 os:w'.os=w.os
 size:w.1.size<=w'.1.size
 block:∀k,k<w.1.size->¬X k->w'.1[k]? =w.1[k]?
def aS.refl(X w):aS X w w:=⟨U,aR _,λ_ _ _=>U⟩
open aS renaming refl->ja
def aS.E{a b c}(h:aS X a b)(k:aS X b c):aS X a c:=⟨k.1.E h.1,cM h.2 k.2,λi d e=>(k.3 i (cS d h.2) e).E (h.3 i d e)⟩
def aS.V{aqg a b}(h:aS X a b)(e:∀k,k<pB a.1->X k->aqg k):aS aqg a b:=⟨h.1,h.2,λi c f=>h.3 i c λd=>f (e i c d)⟩
def aS.below(h:aK w w'):aS X w w':=⟨h.1,h.4,λk a _=>h.5 k a⟩
open aS renaming below->ip
def aS.set{a}(h:aS X a w){p}(d:X p.1)(v):aS X a (kB w p v):=⟨h.1,by simpa using h.2,λk c b=>(dE w p v k<|λe=>b (e▸d)).E (h.3 k c b)⟩
abbrev Lm(w:aq)(c:Nat)(no wt sz cl f b e rt a g d:Int)(rb:Nat)(s:ByteArray)(out:aB)(tok de:Int)(ch:Nat):Prop:=w.1[c]? =Z (au (clL no wt sz cl f b e rt a g d rb s out tok de ch) 168 (0,0))
variable{x:aF aB}{xs:av aB}
def aD(h:w.1[b]? =Z (au x T (0,0)))(hv:x[i]? =Z v):kD w (F b i)=Z v:=by simp[gp,h,hv]
def bp(h:w.1[b]? =Z (au x T (0,0)))(i):nc w (F b i)=aa:=by simp[qG,h]
def bG(h:w.1[b]? =Z (au x T (0,0)))(i v):(kB w (F b i) v).1[b]? =Z (au (mP x i v) T (0,0)):=by simp[iQ,Bz,h]
def oT{o}(h:w.1[k]? =o)(a:k≠b)(i v):(kB w (F b i) v).1[k]? =o:=(dE w ⟨b,i,aj⟩ v k a).E h
def fC{R}(hr:fn.8=#[])(hd:a.2=[])(h:R (aG<|θ #[]) w):FJ P fn R Qe a w:=⟨hd,θ #[],L4,h⟩
def aJ(w:aq)(b i:Nat)(v:aB)(h:w.1[b]? =Z (au x T (0,0)))(hv:x[i]? =Z v:=by rfl):kD w ⟨b,i,aj⟩=Z v:=aD h hv
def Xm{o K Q lm x}{s}(d:cY o lm=M)(b:o.2=.call {callee:=.builtin .append,args:=#[sl,x],argTypes:=#[t,u]}) (c:a.eval sl=v) (e:a.eval x=ξ s) (hr:(rD #[t,u] o.3 #[v,ξ s]).run P w=.ok v' w') (h:K (a.put o.1 v') w'):
  if cY o lm=M then tr P o a w K Q else K (a.put o.1 y) w:=by
 rw[aO d];unfold tr a7;simp[b,resolve,invoke,builtin,Cn,KH,FG,sW,nC,xR,c,e,hr];exact h
def gP{e:Nat}(h:mT w B e k v n xs):∃c kh,v=ζ c n kh:=by obtain⟨a,b⟩|⟨g,kh,d,a,_⟩:=h.2;exact⟨aj,0,by rw[a,b]⟩;exact⟨_,kh,a⟩
abbrev uM(w:aq)(b:Nat)(m:bh):Prop:=w.1[b]? =Z (au (gy m) 132 (0,0))
abbrev uN(w:aq)(out:aB)(o:ByteArray):Prop:=mT w 0 5 1 out o.size (jX o)
abbrev HeS(c b:Nat)(sz cl g d f rt a h e:Int)(m:bh)(W:aq):Prop:=
 (kD W (F c 2)=Z (I sz)/\kD W (F c 3)=Z (I cl)/\kD W (F c 4)=Z (I g)/\kD W (F c 5)=Z (I d)/\kD W (F c 6)=Z (I f)/\kD W (F c 7)=Z (I rt)/\kD W (F c 8)=Z (I a)/\kD W (F c 9)=Z (I h)/\kD W (F c 10)=Z (I e))/\
 (kD W (F b 0)=Z (I m.1)/\kD W (F b 1)=Z (ξ m.nm)/\kD W (F b 2)=Z (I m.kd)/\kD W (F b 3)=Z (I m.fl)/\kD W (F b 4)=Z (I m.ck)/\kD W (F b 5)=Z (I m.of)/\kD W (F b 6)=Z (I m.ln)/\kD W (F b 7)=Z (ξ m.dt)/\kD W (F b 8)=Z (I m.er))
variable{x:Obj}{K:Nat->Key}
def bT(a:aK W W')(h:W.1[k]? =Z x):W'.1[k]? =Z x:=(a.5 k (bf.1 h).1).E h
section
attribute [local go_sem] Oper.semAt_some
open Go.Shelf
structure J1(W:aq)(c rb mb ch:Nat)(sz cl qu mx qn rt bu wk ou de:Int)(k:Cl):Prop where
 box:∃v,Lm W c k.no k.wt sz cl qu mx qn rt bu wk ou rb k.aN v k.tok de ch/\uN W v k.H
 rd:∃rp,eB W rb mb sz mx rp []/\(k.ph≠4->rp=k.ph)
 chan:W.1[ch]? =Z (.chan 0 #[] (decide (k.ph=4)) 0 0 aa)
abbrev Aside(rb mb b:Nat)(x:Nat):Prop:=x=rb\/x=mb\/x=b\/x=b+1\/x=b+2\/x=b+3
section
def nT{a:aq}(h:W.1[i]? =Z o)(b:nz W a row)(hr:row≠Z i):a.1[i]? =Z o:=(b.5 i (bf.1 h).1 (λe=>hr e.y)).E h
end
abbrev Pl(c rb a:Nat)(s:ByteArray)(W:aq):Prop:=kD W (F c 11)=Z (aQ rb)/\kD W (F c 12)=Z (ξ s)/\kD W (F a 0)=Z (aQ c)
def Pl.acX{c B0 s lm}(h:Pl c rb B0 s W):Pl c rb B0 s ((W.alloc x).alloc lm):=by let a:aK W ((W.alloc x).alloc lm):=((bv _ W).alloc (aR _) _).alloc ay _;exact⟨bH a h.1,bH a h.2.1,bH a h.2.2⟩
def ReA(c rb b a:Nat)(s:ByteArray)(x:bh×Int)(d:Nat):Act:=
 {tmps:=#[aQ c,aQ a,aQ d,I x.2,aQ c,ω M,ω aa,aQ c,aQ c,π<|Z<|F c 11,aQ rb,
   aQ c,aQ c,π<|Z<|F c 12,ξ s,.func (.func 189) #[] #[aQ b,aQ<|b+1],
   ν<|kE x.1.1 x.1.2 x.1.3 x.1.4 x.1.5 x.1.6 x.1.7 x.1.8 x.1.9,I x.2,y,y,y,y,y,y,y,y,y,y,y,y,y,y,y],defers:=[]}
def ReB(c rb b a:Nat)(s t:ByteArray)(m:bh)(K:Nat)(d:Nat):Act:=
 {tmps:=#[aQ c,aQ a,aQ d,I K,aQ c,ω M,ω aa,aQ c,aQ c,π<|Z<|F c 11,aQ rb,
   aQ c,aQ c,π<|Z<|F c 12,ξ s,.func (.func 189) #[] #[aQ b,aQ<|b+1],
   ν<|gy m,I K,aQ c,aQ c,aQ c,π<|Z<|F c 12,ξ t,I K,ξ<|mS t K t.size,aQ c,π<|Z<|F c 12,y,y,y,y,y,y],defers:=[]}
def R0(c rb b e:Nat)(s:ByteArray)(x:bh×Int)(a:eQ)(W:aq):Prop:=∃d,b+4<=d/\W.1[d]? =Z (au (kE x.1.1 x.1.2 x.1.3 x.1.4 x.1.5 x.1.6 x.1.7 x.1.8 x.1.9) 132 (0,0))/\a=ReA c rb b e s x d
def R0.bears{c B0 s}(k:rb<b)(l:mb<b)(x:bh×Int):ul (λr=>Lv rb mb (b+1) r\/r=b+2+1) (R0 c rb b B0 s x):=by rintro a W j row ⟨d,f,g2,g⟩ i hr;refine⟨d,f,nT g2 i<|λe=>?_,g⟩;obtain(h|h|h)|h:=hr _ e<;>omega
abbrev xz(w1:aq)(rb:Nat)(s:ByteArray):aq:=(lL (lL w1 (au #[aQ rb] 164)) (au #[ξ s] 9)).drew
def afL(w1 rb s):pB (xz w1 rb s).1=pB w1.1+2/\(xz w1 rb s).1[pB w1.1]? =Z (au #[aQ rb] 164 (0,0))/\(xz w1 rb s).1[pB w1.1+1]? =Z (au #[ξ s] 9 (0,0))/\aK w1 (xz w1 rb s):=by refine⟨ay,(bj _ _ _ ay).E<|ao w1 _,?_,(((bv _ w1).alloc (aR _) _).alloc ay _).drew⟩;have:=ao (lL w1<|au #[aQ rb] 164) (au #[ξ s] 9);rwa [zT]at this
def acQ(d:aS X W W')(e:∀i,X i->¬Aside rb mb b i)(a:rb<pB W.1)(c:mb<pB W.1)(j:b+4<=pB W.1):Ld (b+2) W W'/\Ic rb mb b (b+1) W W':=by let mi:∀i,i<pB W.1->Aside rb mb b i->W'.1[i]? =W.1[i]? :=λi g f=>d.3 i g λh=>e i h f;exact⟨⟨mi _ Y R2,mi _ Y R2⟩,mi _ a R2,mi _ c R2,mi _ Y R2,mi _ Y R2⟩
def fO{o'}(h:W.1[i]? =Z o)(b:W.1[j]? =Z o')(a:o≠o'):i≠j:=λe=>a j4
def aeO{o}(h:uN W v o)(c:W.1[i]? =Z x)(d:∀a,x≠au a 5 (0,0)):Z i≠rW v:=λe=>by obtain⟨rfl,_⟩|⟨g,kh,a,rfl,_,b,_⟩:=h.2;cases e;cases e;exact d a<|ey<|c.y.E b
def ze(h:aS X W W')(a:W.1[i]? =Z x)(b:¬X i):W'.1[i]? =Z x:=(h.3 i (bf.1 a).1 b).E a
def cI(cl:av (aV Nat)):av Nat:=cl.filterMap id
def kY(v:aV Nat):aB:=π (v.map λc=>⟨c,0,aj⟩)
def ahs{cl:av (aV Nat)}{c}(h:cl[i]? =Z (Z c)):cI (cl.take<|i+1)=cI (cl.take i)++[c]:=by rw[rQ,h];simp[cI]
def ahr{cl:av (aV Nat)}(h:cl[i]? =Z aj):cI (cl.take<|i+1)=cI (cl.take i):=by rw[rQ,h];simp[cI]
def aht(cl i):∃r,cI cl=cI (cl.take i)++r:=⟨cI<|cl.drop i,by unfold cI;rw[<-List.filterMap_append,pL]⟩
abbrev yY(c:Nat):aF aB:=#[aQ c]
def IN(xb w):
  ax ai 59 #[aQ xb] w λe b=>e=aG (.func (.func 96) #[] #[aQ w.1.size])/\b=lL w (au #[aQ xb] 36):=by
 let c:∀(a:Fn) (first kh:aF aB) (w:aq),(Qn a first kh).run ai w=.ok (.func a first kh) w:=λ_ _ _ _=>U;go_enter func59,ntmps59;go_wp2;go_ret;exact⟨U,U⟩
def IQ(n)(R:1<=n)(cb xb sb N cl W)(K:kD W (F cb 0)=Z (aQ xb))(S:kD W (F xb 9)=Z (ζ (Z<|F sb 0) N N))(P:pA cl=N)(H:N<=65535)(x:∀(j:Nat) v,cl[j]? =Z v->kD W (F sb j)=Z (kY v)):
  Fd ig n ai 96 #[aQ cb] yY (λ_=>False) (λA B=>B.1[sb]? =A.1[sb]?) (λd=>∃r,cI cl=d++r)
   (λd _=>d=cI cl) (λko _=>∃r,cI cl=ko++r) W:=by
 intro l J C E G w q;refine callsIn_of_wp func96 U trivial ?_ U;simp only[ntmps96,nE,gH,nB,rS,FB,vH,vI,vW,vN,jZ,lT]
 gi_wp2
 gi_loopw [10] (λi wr=>∃j:Nat,j<=N/\i=I j/\bc (J (cI<|cl.take j) wr/\wr.1[sb]? =W.1[sb]?)) (λi _=>N-pD (dw i))
 case atStart=>exact⟨0,cO _,U,q,U⟩
 case round=>
  obtain⟨j,L,rfl,a⟩:=hrel;by_cases Q:j<N
  ·let z:decide ((j:Int)<(N:Int))=M:=bV;obtain⟨v,hv⟩:∃v,cl[j]? =Z v:=⟨cl[j],by rw[dj]⟩;have m:kD wr (F sb j)=Z (kY v):=by rw[iO a.2];exact x j v hv
   obtain _|c:=v
   ·simp[kY,iA]at m;gi_wp2;refine⟨λ_ h=>Uw,?_⟩;gi_wp2;go_roundw;case rel=>exact⟨j+1,Y,by go_num,by rw[(aX<|ahr hv)];exact a.1,a.2⟩
    case measure=>simp[dw];omega
   let f:=aX (ahs hv);let g:bc (∃r,cI cl=(cI (cl.take j)++[c])++r):=by have:=aht cl (j+1);rwa [f]at this
   simp[kY,eO]at m;let⟨D,V,assign,body,T,u⟩:=w (cI<|cl.take j) c wr a.1 g;gi_wp2;apply u.V;rintro e k (⟨rfl,s,o⟩|⟨rfl,t,o⟩)
   ·let b:bc (J (cI<|cl.take<|j+1) k/\k.1[sb]? =W.1[sb]?):=⟨by rw[f];exact s,o.E<|aX a.2⟩;gi_wp2;go_roundw;case rel=>exact⟨j+1,Y,by go_num,b⟩
    case measure=>simp[dw];omega
   gi_wp2;apply iB (zX U _ _ _) U;exact⟨⟨_,U⟩,az ⟨_,g,aX t⟩⟩
  let z:decide ((j:Int)<(N:Int))=aa:=bV;let O:j=N:=Y;let p:bc (J (cI cl) wr):=by have:=a.1;rwa [qE Y]at this
  gi_wp2;exact fC U U ⟨⟨_,U⟩,aA ⟨_,U,p⟩⟩
def Ih(c n w)(h:kD w (F c 0)=Z (I n)):
  eZ 112 #[aQ c] w (I n):=by
 go_enter func112,ntmps112;go_wp2;go_ret;exact⟨U,U⟩
structure yq(W:aq)(xb sb N:Nat)(cl:av (aV Nat)):Prop where
 sl:kD W (F xb 9)=Z (ζ (Z (F sb 0)) N N)
 len:cl.length=N
 pu:N<=65535
 at_:∀(j:Nat) v,cl[j]? =Z v->kD W (F sb j)=Z (kY v)
 row:∃o,W.1[sb]? =Z o
def yq.old{xb N cl}(h:yq W xb sb N cl)(a:aK W W'):yq W' xb sb N cl:=⟨bH a h.1,h.2,h.3,λj v b=>bH a (h.4 j v b),by let⟨o,c⟩:=h.5;exact⟨o,bT a c⟩⟩
abbrev fiA(xb:Nat)(u:Int)(B:Nat)(c:Nat):Act:={tmps:=#[aQ xb,I u,y,aQ B,aQ (B+1),aQ c,aQ xb,.func (.func 96) #[] #[aQ (B+1+1)],aQ c,y,y,y,y,y],defers:=[]}
abbrev PJ(xb:Nat)(u:Int)(B:Nat)(c:Nat)(k:Int)(a:Bool):Act:={tmps:=#[aQ xb,I u,y,aQ B,aQ (B+1),aQ c,aQ xb,.func (.func 96) #[] #[aQ (B+1+1)],aQ c,aQ c,I k,I u,ω a,y],defers:=[]}
def bC(a:k≠b):(kB w (F b i) v).1[k]? =w.1[k]? :=dE w ⟨b,i,aj⟩ v k a
def Pr(w:aq)(u:Int)(no:Nat->Int)(ko:av Nat)(W:aq):Prop:=aK w W/\W.1[pB w.1]? =Z (au #[I u] 3 (0,0))/\W.1[pB w.1+1]? =Z (au #[π aj] 119 (0,0))/\∀c∈ko,no c≠u
def UV(w:aq)(u:Int)(no:Nat->Int)(ko:av Nat)(W:aq):Prop:=aK w W/\∃a c,ko=a++[c]/\(∀c∈a,no c≠u)/\no c=u/\W.1[pB w.1+1]? =Z (au #[aQ c] 119 (0,0))
abbrev Hk(w:aq)(xb:Nat)(u:Int):aq:=lL (lL (lL w (au #[I u] 3)) (au #[π aj] 119)) (au #[aQ xb] 36)
def aaV(xb sb N cl u)(no:Nat->Int)(w:aq)(hS:yq w xb sb N cl)(bE:∀c∈cI cl,kD w (F c 0)=Z (I<|no c)):
  CallsIn ig 3 ai 68 #[aQ xb,I u] w λe w'=>e=aG (kY<|(cI cl).find? λc=>decide (no c=u))/\aK w w':=by
 refine QR func68 U trivial ?_ U;simp[ntmps68,nE,gH,nB,rS,FB,vH,vI,vW,vN,jZ,lT]
 gi_wp2_with (first|(refine⟨trivial,?_⟩;gi_at_call 59;refine(da.2<|IN xb _).V ?_;rintro e w1 ⟨rfl,rfl⟩))
 have ak:aK w (Hk w xb u):=(bq.alloc ay _).alloc bV _;have bL:pB (Hk w xb u).1=pB w.1+3:=ay;have e1:(Hk w xb u).1[pB w.1]? =Z (au #[I u] 3 (0,0)):=(bj _ _ _ bV).E ((bj _ _ _ ay).E<|ao w _);have e2:(Hk w xb u).1[pB w.1+1]? =Z (au #[π aj] 119 (0,0)):=(bj _ _ _ ay).E (by have:=ao (lL w<|au #[I u] 3) (au #[π aj] 119);rwa [zT]at this);have e3:(Hk w xb u).1[pB w.1+1+1]? =Z (au #[aQ xb] 36 (0,0)):=by have:=ao (lL (lL w<|au #[I u] 3)<|au #[π aj] 119) (au #[aQ xb] 36);rwa [zT,zT]at this
 have bR:sb<pB w.1:=by obtain⟨o,ho⟩:=hS.5;exact(bf.1 ho).1
 show Code.wpIn ig 3 ai _ _ _ (Hk w xb u);generalize Hk w xb u=g at*;have bB:Pr w u no [] g:=⟨ak,e1,e2,λc h=>by cases h⟩
 have bI:ul (λr=>False\/r=pB g.1+1) (Pr w u no):=by
  rintro ko W E row ⟨z,P,Q,T⟩ q hr;have s:∀r,row=Z r->r=pB w.1+4:=λr e=>by obtain h|h:=hr r e;cases h;omega
  exact⟨z.grown q z.4 (λk e=>by have:=s k e;omega),nT P q (λe=>by have:=s _ e;omega),nT Q q (λe=>by have:=s _ e;omega),T⟩
 have bX:ul (λr=>False\/r=pB g.1+1) (UV w u no):=by
  rintro ko W E row ⟨z,aS,c,P,Q,T,h5⟩ q hr;have s:∀r,row=Z r->r=pB w.1+4:=λr e=>by obtain h|h:=hr r e;cases h;omega
  exact⟨z.grown q z.4 (λk e=>by have:=s k e;omega),aS,c,P,Q,T,nT h5 q (λe=>by have:=s _ e;omega)⟩
 refine Ba (w:=g) U aM (gf:=96) (lb:=#[aQ<|pB w.1+1+1]) U trivial (enters_of func96 aW U) (encs:=yY) (λ_=>U)
  (R:=λ_=>False) (Kp:=λA B=>B.1[sb]? =A.1[sb]?) (V:=λx=>∃r,cI cl=x++r) (S:=λx _=>x=cI cl) (Sp:=λko _=>∃r,cI cl=ko++r)
  (λW hW=>?seq) (λr h=>h.e) (λh k=>k.E h) (λW o=>gq Y) (λx W E row h _ _=>h) (λx W E row h _ _=>h)
  (Pr w u no) (UV w u no) bI bX bB (λc a _=>a=fiA xb u w.1.size c) (λc a W E row h _ _=>h) ?assign ?body ?done ?stop
 case seq=>have bD:aK w W:=ak.grown hW ak.4 (λk e=>by cases e);have bu:=nT e3 hW ay;have G:=hS.old bD;exact IQ 2 aM (pB w.1+1+1) xb sb N cl W (aD bu U) G.1 G.2 G.3 G.4
 case assign=>rintro l ko c W K b hv jR d;gi_wp2;exact d _ W ⟨U,U⟩ U b U
 case body=>
  rintro l ko c a' W b rfl ⟨r,hv⟩ jR;have hc:c∈cI cl:=by rw[hv];simp
  have cN:kD W (F c 0)=Z (I<|no c):=bH b.1 (bE c hc);have cU:=aJ W w.1.size 0 (I u) b.2.1;have cR:=aJ W (pB w.1+1) 0 (π aj) b.2.2.1;have fR:=bp b.2.2.1 0;have D:bc (Pr w u no ko W):=b;clear b;by_cases t:no c=u
  ·have bN:(no c==u)=M:=by simpa using t
   have H:bc (no c=u):=t;clear t;gi_wp2;rename_i J C;have ah:=C;have L:J (PJ xb u w.1.size c (no c) M) W.drew:=by refine ah _ _ ?_;rw[PJ];clear C;gi_wp2;obtain⟨f,i2,m,n⟩:=D.H;rw[bL];refine⟨⟨?_,?_⟩,?_,?_,ko,c,U,n,H.H,?_⟩;exact bC Y;exact bC Y;exact bC Y;exact f.drew.setCell (p:=F (pB w.1+1) 0) (kJ _) _;exact bG (w:=W.drew) m 0 _
   refine JA (S:=λW=>kD W (F w.1.size 0)=Z (I u)) 3 aW cU λhH=>?_;apply tg [0,2];refine jr 1 λK d=>?_;go_simp;refine⟨trivial,?_⟩;refine(rI l<|da.2<|Ih c (no c) W.drew cN).V ?_;rintro e w1 ⟨rfl,rfl⟩;refine d.H _ _ hH λ_=>?_;refine jz λK d=>?_;go_simp;refine d.H _ _ ?_;refine Jz aW ?_ _;exact L
  have bN:(no c==u)=aa:=by simpa using t
  have H:bc (no c≠u):=t;clear t;gi_wp2;rename_i J C;have ah:=C;have L:J (PJ xb u w.1.size c (no c) aa) W.drew:=by refine ah _ _ ?_;rw[PJ];clear C;gi_wp2;obtain⟨f,i2,m,n⟩:=D.H;refine⟨⟨U,U⟩,U,f.drew,i2,m,λO j=>?_⟩;obtain h|h:=jg.1 j;exact n O h;rw[iz.1 h];exact H.H
  refine JA (S:=λW=>kD W (F w.1.size 0)=Z (I u)) 3 aW cU λhH=>?_;apply tg [0,2];refine jr 1 λK d=>?_;go_simp;refine⟨trivial,?_⟩;refine(rI l<|da.2<|Ih c (no c) W.drew cN).V ?_;rintro e w1 ⟨rfl,rfl⟩;refine d.H _ _ hH λ_=>?_;refine jz λK d=>?_;go_simp;refine d.H _ _ ?_;refine Jz aW ?_ _;exact L
 case done=>rintro x W rfl b X;have cR:=aJ W (pB w.1+1) 0 (π aj) b.2.2.1;have fR:=bp b.2.2.1 0;have D:bc (Pr w u no (cI cl) W):=b;clear b;gi_wp2;obtain⟨f,i2,m,n⟩:=D.H;have bA:(kB W (F (pB w.1+1) 0)<|π aj).1[pB g.1]? =Z (.deferred<|Z []):=oT X Y _ _;have MJ:(kB W (F (pB w.1+1) 0)<|π aj).1[pB w.1+1]? =Z (au #[π aj] 119 (0,0)):=bG m 0 _;have j:=aD (w:=(kB W (F (pB w.1+1) 0)<|π aj).putObj g.1.size<|.deferred aj) ((gq Y).E MJ) (i:=0) (v:=π aj) U;refine⟨ay,aA ⟨_,_,U,rU bA,π aj,by simp[bo,results68,go_sem,j],?_,?_⟩⟩;rw[Kj.2 (λc hc=>by simpa using n c hc)];rfl;exact(f.setCell (p:=F (pB w.1+1) 0) (kJ _) _).grown (FM _ _ _) (by have:=f.4;simpa using this) (λk e=>by cases e;omega)
 case stop=>
  rintro ko W ⟨r,hv⟩ hx X;have HX:bc (UV w u no ko W):=hx;clear hx;gi_wp2;obtain⟨f,aS,c,rfl,m,n,i5⟩:=HX.H;have j:=aD (w:=W.putObj g.1.size<|.deferred aj) ((gq Y).E i5) (i:=0) (v:=aQ c) U;refine⟨ay,aA ⟨_,_,U,rU X,aQ c,by simp[bo,results68,go_sem,j],?_,?_⟩⟩;have e:(cI cl).find? (λc=>decide (no c=u))=Z c:=by rw[hv,lS,List.find?_append,Kj.2 (λO j=>by simpa using m O j)];simp[n]
  rw[e];rfl;exact f.grown (FM _ _ _) f.4 (λk e=>by cases e;omega)
def aaT(xb sb N cl u)(no:Nat->Int)(w)(hS:yq w xb sb N cl)(a:∀c∈cI cl,kD w (F c 0)=Z (I<|no c)):
  bN 68 #[aQ xb,I u] w (kY<|(cI cl).find? λc=>decide (no c=u)):=da.1 (aaV xb sb N cl u no w hS a)
end
def eX(c n:Int):Int:=(if c<0 then -(c+1)else c).tmod n
def AX(c){n}(h0:0<n):0<=eX c n/\eX c n<n:=by rw[eX];exact⟨BL _ j4,EZ _ h0⟩
abbrev dy(c:Int):Prop:=-9223372036854775808<=c/\c<=9223372036854775807
def agy(rb p w)(h:kD w (F rb 2)=Z (I p)):
  eZ 170 #[aQ rb] w (I p):=by
 go_enter func170,ntmps170;go_wp2;go_ret;exact⟨U,U⟩
def dI{x}(a:-9223372036854775808<=x)(b:x<=9223372036854775807):nt cJ x=x:=by rw[vL];omega
def aS.drew'{a}(h:aS X a w):aS X a w.drew:=⟨h.1,h.2,h.3⟩
abbrev TI(sz cl f c e rt a h d:Int)(g N:Nat)(bF clock:Int)(stop:Bool)(aC:Int)(b:aV iL):aF aB:=#[I sz,I cl,I f,I c,I e,I rt,I a,I h,I d,ζ (Z (F g 0)) N N,I bF,I 0,I 0,I clock,ω stop,I aC,ω aa,ζ aj 0 0,ζ aj 0 0,π b,ζ aj 0 0]
abbrev J5(W:aq)(xb:Nat)(sz cl f c e rt a h d:Int)(g N:Nat)(bF clock:Int)(stop:Bool)(aC:Int)(b:aV iL):Prop:=W.1[xb]? =Z (au (TI sz cl f c e rt a h d g N bF clock stop aC b) 112 (0,0))
def tU(cs:av (aV Nat)):aF aB:=(cs.map kY).toArray
abbrev Ai(W:aq)(a:Nat)(cs:av (aV Nat)):Prop:=W.1[a]? =Z (au (tU cs) 119 (0,0))
def xA{cs}{v}(h:cs[j]? =Z v):(tU cs)[j]? =Z (kY v):=by simp[tU,h]
def XB{cs}(j)(v:aV Nat):mP (tU cs) j (kY v)=tU (cs.set j v):=by simp[tU,Fj]
def adh(gone:Nat->Bool):aV Nat->aV Nat
 |some c=>if gone c then aj else Z c
 |none=>aj
def lets(gone:Nat->Bool)(cs:av (aV Nat)):av (aV Nat):=cs.map (adh gone)
def yZ{d:Type}{l:av d}{a}(h:l[j]? =Z a):l.set j a=l:=by let⟨b,c⟩:=bY.1 h;rw[<-c];exact List.set_getElem_self b
def aaC(a w):(binOp .eql 119 (π aj)<|π<|Z a).run ai w=.ok (ω aa) w:=by
 let b:(Op.equal 119 (π aj)<|π<|Z a).run ai w=.ok aa w:=by rw[Op.equal];rw[show Op.maxDepth=9999+1 from U];unfold Op.equalIn;rw[Cn,Cx underlying119];rfl
 unfold binOp;rw[Cn,b];rfl
def abo(cs:av (aV Nat))(j:Nat):Prop:=cs[j]? =Z aj/\∀i,i<j->cs[i]? ≠Z aj
def Vt(sb N cs w)(hR:Ai w sb cs)(hl:pA cs=N)(l:N<=65535):
  ax ai 72 #[ζ (Z<|F sb 0) N N,π aj] w λe k=>k=w/\((∃j:Nat,e=aG (I j)/\abo cs j)\/(e=aG (I<|-1)/\∀i:Nat,cs[i]? ≠Z aj)):=by
 go_enter func72,ntmps72;go_wp2
 go_loop [8] (λi=>∃j:Nat,j<=N/\i=I j/\bc (∀i,i<j->cs[i]? ≠Z aj)) (λi=>N-pD (dw i))
 case atStart=>exact⟨0,cO _,U,λi h=>by omega⟩
 case round=>
  obtain⟨j,n,rfl,b⟩:=hrel;by_cases o:j<N
  ·let g:decide ((j:Int)<(N:Int))=M:=bV;obtain⟨v,hv⟩:∃v,cs[j]? =Z v:=⟨cs[j],by rw[dj]⟩;have f:=aD hR (xA hv);let d:=aX hv;obtain _|c:=v;·simp[kY,iA]at f;go_wp2;go_ret;exact⟨U,aA ⟨j,U,d,b⟩⟩
   simp[kY,eO]at f;let m:=aaC ⟨c,0,aj⟩ w;go_wp2;go_round;case rel=>refine⟨j+1,Y,by go_num,λi a=>?_⟩;by_cases e:i=j;subst e;rw[d];simp;exact b i Y
   case measure=>simp[dw];omega
  let g:decide ((j:Int)<(N:Int))=aa:=bV;go_wp2;go_ret;refine⟨U,az ⟨U,λi a=>?_⟩⟩;have:=(bY.1 a).1;exact b i Y a
def Cl.fresh(no wt bu:Int):Cl:=⟨no,wt,0,⟨#[]⟩,⟨#[]⟩,bu⟩
abbrev iU(b:Nat)(sz cl qu mx qn rt bu wk ou:Int)(W:aq):Prop:=kD W (F b 0)=Z (I sz)/\kD W (F b 1)=Z (I cl)/\kD W (F b 2)=Z (I qu)/\kD W (F b 3)=Z (I mx)/\kD W (F b 4)=Z (I qn)/\kD W (F b 5)=Z (I rt)/\kD W (F b 6)=Z (I bu)/\kD W (F b 7)=Z (I wk)/\kD W (F b 8)=Z (I ou)
def iU.rk{sz cl rt}(h:iU b sz cl qu mx qn rt bu wk ou W)(a:aK W W'):iU b sz cl qu mx qn rt bu wk ou W':=⟨bH a h.1,bH a h.2.1,bH a h.2.2.1,bH a h.2.2.2.1,bH a h.2.2.2.2.1,bH a h.2.2.2.2.2.1,bH a h.2.2.2.2.2.2.1,bH a h.2.2.2.2.2.2.2.1,bH a h.2.2.2.2.2.2.2.2⟩
def iU.a1{sz cl rt}(h:iU b sz cl qu mx qn rt bu wk ou W):iU b sz cl qu mx qn rt bu wk ou (W.alloc x):=h.rk ((bv _ W).alloc (aR _) _)
def iU.a3{sz cl rt}{lm z}(h:iU b sz cl qu mx qn rt bu wk ou W):iU b sz cl qu mx qn rt bu wk ou (((W.alloc x).alloc lm).alloc z):=h.a1.a1.a1
def adL(w):(Instr.makeChan 166<|I 0).run ai w=.ok (.chan<|Z w.1.size) (lL w<|.chan 0 #[] aa 0 0 aa):=by let h:(ai.info? 169).map (·.bytes)=Z 0:=aW;let⟨i,a,c⟩:=gJ.1 h;simpa using run_makeChan underlying166 a .i64 0 Y Y
def Rw(w:aq)(sz cl qu mx qn rt bu wk ou no wt:Int)(e:Ending)(w':aq):Prop:=∃c d f a,e=aG (aQ c)/\J1 w' c d f a sz cl qu mx qn rt bu wk ou 0 (Cl.fresh no wt bu)/\Lm w' c no wt sz cl qu mx qn rt bu wk ou d ⟨#[]⟩ (ζ aj 0 0) bu 0 a/\aK w w'/\pB w.1<=c/\pB w.1<=d/\pB w.1<=f/\pB w.1<=a
def gD(h:W.1[k]? =Z x):(lL W o).1[k]? =Z x:=(bj W o k (bf.1 h).1).E h
def vj(h:k=pB W.1):(lL W o).1[k]? =Z o:=by subst h;exact ao W o
variable{c N o:Nat}
def Wr{V}(sz cl qu mx qn rt bu wk ou no wt)(l:aK w V)(i:V.1[rb]? =Z (au #[I sz,I mx,I 0,.map<|Z mb] 228 (0,0)))(j:V.1[mb]? =Z (.map #[] 0))(k:V.1[ch]? =Z (.chan 0 #[] aa 0 0 aa))(d:Lm V c no wt sz cl qu mx qn rt bu wk ou rb ⟨#[]⟩ (ζ aj 0 0) bu 0 ch)(f:pB w.1<=c)(g2:pB w.1<=rb)(g:pB w.1<=mb)(h:pB w.1<=ch):Rw w sz cl qu mx qn rt bu wk ou no wt (aG<|aQ c) V:=by obtain⟨n,m,a,e⟩:=World.ownsMap_made w ai 3 unitElem;rw[ao]at a;cases a;exact⟨c,rb,mb,ch,U,⟨⟨_,d,qH _ _ _ _⟩,⟨0,⟨i,#[],0,j,e⟩,λ_=>U⟩,k⟩,d,l,f,g2,g,h⟩
def U9(sz cl qu mx qn rt bu wk ou no wt w):
  ax ai 73 #[ν<|iV sz cl qu mx qn rt bu wk ou,I no,I wt] w (Rw w sz cl qu mx qn rt bu wk ou no wt):=by
 let l:=adL;go_enter func73,ntmps73
 go_upto_region 1 with fail
 refine ga (S:=iU w.1.size sz cl qu mx qn rt bu wk ou) ⟨by simp[go_sem],by simp[go_sem],by simp[go_sem],by simp[go_sem],by simp[go_sem],by simp[go_sem],by simp[go_sem],by simp[go_sem],by simp[go_sem]⟩ λc=>?_;apply tl [0,1,2,3,5,6];refine aH [4,7]<|.cons U (λK a=>?_) ?_
 ·go_simp;(refine(Ws sz cl qu mx qn rt bu wk ou 0 _).V ?_;rintro e i ⟨rfl,rfl⟩);go_wp2_with fail;refine a _ _ (iU.a3 c)<|λd=>?_;clear a K;refine rH 7 λK a=>?_;go_simp;refine a _ _ (iU.a1 d)<|λf=>?_;clear a K;apply tl [8];refine rH 9 λK a=>?_;go_simp;refine a _ _ (iU.a1 f)<|λj=>?_;clear a K;apply tl [10];refine dJ ?_;(go_wp2_with fail;go_ret;exact(by refine Wr (rb:=pB w.1+1+2) (mb:=pB w.1+1+1) (ch:=pB w.1+1+1+1+1) sz cl qu mx qn rt bu wk ou no wt ?_ (gD<|gD<|vj ay) (gD<|gD<|gD<|vj ay) (gD<|vj ay) (vj ay) Y Y Y Y;exact((((bq.alloc ay _).alloc bV _).alloc bV _).alloc bV _).alloc bV _ |>.drew))
 refine .cons U (λK a=>?_) .nil;go_simp;refine a _ _ (iU.a1 c)<|λg=>?_;clear a K;refine rH 4 λK a=>?_;go_simp
 (refine(Ws sz cl qu mx qn rt bu wk ou 0 _).V ?_;rintro e i ⟨rfl,rfl⟩)
 go_wp2_with fail;refine a _ _ (iU.a3 g)<|λh=>?_;clear a K;apply tl [8];refine rH 9 λK a=>?_;go_simp;refine a _ _ (iU.a1 h)<|λk=>?_;clear a K;apply tl [10];refine dJ ?_
 (go_wp2_with fail;go_ret;exact(by refine Wr (rb:=pB w.1+1+1+2) (mb:=pB w.1+1+1+1) (ch:=pB w.1+1) sz cl qu mx qn rt bu wk ou no wt ?_ (gD<|vj ay) (gD<|gD<|vj ay) (gD<|gD<|gD<|gD<|vj ay) (vj ay) Y Y Y Y;exact((((bq.alloc ay _).alloc bV _).alloc bV _).alloc bV _).alloc bV _ |>.drew))
section
variable [an] {Q:Exit->eQ->aq->Prop} {a:eQ} {u:aq} {jt:aF ep} {i d k:Nat} {kj:av Nat} {o:ep} {Lf:aZ->av Nat} {f0:aZ} {x:Int}
def CX(jt:aF ep)(a:eQ)(o:ep):Prop:=cY o (co jt a.1)=M
def FO.see{ad:iL}{t x g:Nat}{m:Obj}{vs:aF aB}(D:an.tY g=Z m)(p:∀w,(isAgg t).run ai w=.ok M w)(r:∀w,(sizeOf t).run ai w=.ok x w)(E:∀w n,(isAgg t).events ai w n=n)(B:jt[i]? =Z o)(A:CX jt a o)(hd:o.1=Z d)(q:o.2=.load t (.tmp k))(hv:a.eval (.tmp k)=π (Z ad))(z:ad.1=g)(L:pB vs=x)(hc:∀w:aq,w.1[g]? =Z m->∀j,(h:j<pB vs)->kD w (ad.add j)=Z vs[j])(hr:∀w:aq,w.1[g]? =Z m->(loadCells ad x).run ai w=.ok vs w)(C:∀G,VR G (ν vs)<|ν vs)(c:FO Lf f0 ai jt Q kj (a.put (Z d)<|ν vs) u):FO Lf f0 ai jt Q (i::kj) a u:=by refine FO.Ec D B A hd (λw l=>?_) (λw l e f=>?_) C c;rw[a7];rw[q];dsimp only;rw[hv];simp[JX,EW,loadVar,p,r,hr w l];rw[a7]at f;rw[q]at f;dsimp only at f;rw[hv]at f;simp[JX,EW,loadVar,p,r,E,hr w l]at f;obtain h|⟨H,s,J,v⟩:=events_loadCellsFrom_at ad (λb=>b=g) z x 0 #[] w #[] (λj K=>by rw[jM,hc w l j Y];rfl) e f;simp at h;exact⟨_,s,v⟩
end
structure iD(a b:eQ)(d:Nat)(v:aB):Prop where
 size:b.tmps.size=a.tmps.size
 defers:b.defers=a.defers
 same:∀k,k≠d->b.eval (.tmp k)=a.eval (.tmp k)
 new:d<a.tmps.size->b.eval (.tmp d)=v
def xw(a:eQ)(d:Nat)(v:aB):iD a (a.put (Z d) v) d v:=⟨Xc _ _ _,yv _ _ _,λ_ h=>Tx v h,λh=>Ty v h⟩
section
variable [an] {P:bM} {l:av aZ} {Q:Exit->eQ->aq->Prop} {a:eQ} {u:aq} {jt:aF ep} {i k:Nat} {o:ep} {Lf:aZ->av Nat} {f0:aZ} {v:aB} {x:Int}
def eP(Lf:aZ->av Nat)(f0:aZ)(P:bM)(b:Region.Mode)(jt:aF ep)(Q:Exit->eQ->aq->Prop):Nat->aF Bool->eQ->aq->Prop
 |0,listed,a,u=>fS b jt listed=[]/\FO Lf f0 P jt Q [] a u|n+1,listed,a,u=>(fS b jt listed=[]->FO Lf f0 P jt Q [] a u)/\
  ∀i∈fS b jt listed,∀is,(∀c d,eP Lf f0 P b jt Q n (mP listed i M) c d->FO Lf f0 P jt Q is c d)->FO Lf f0 P jt Q (i::is) a u
def eP.sound{md}:∀(p t:Nat) (listed:aF Bool) (a:eQ) (u:aq),eP Lf f0 P md jt Q p listed a u->FO Lf f0 P jt Q (ic md jt p t listed []) a u:=by
 intro p;induction p with
 |zero=>intro t listed a u h;simpa[ic]using h.2
 |succ p j=>
  intro t listed a u h;obtain⟨f,g⟩:=h;simp only[ic];change FO Lf f0 P jt Q (match(fS md jt listed)[t %pA (fS md jt listed)]? with|some i=>ic md jt p (t / pA (fS md jt listed)) (mP listed i M) [i]|none=>[].reverse) a u;rcases hi:(fS md jt listed)[t %pA (fS md jt listed)]? with _|i;let e:fS md jt listed=[]:=by
   cases hr:fS md jt listed with
   |nil=>rfl
   |cons x b=>rw[hr]at hi;let n:t %pA (x::b)<pA (x::b):=QF _ ay;grind
  simpa using f e;simp[];rw[linearise_go_acc,List.reverse_singleton,List.singleton_append];exact g i (jC hi) _ λc m d=>j _ _ c m d
def FX.afT{id}(hm:P.follows .mixedOrders=M)(h:eP Lf f0 P .any jt Q jt.size (oG jt.size aa) a {u with drawn:=u.3+1}):FX Lf f0 P (.region id jt M) Q a u:=GX.afU λt=>by simp[Region.schedule,hm,Bool.true_or,dN];exact eP.sound jt.size t _ a _ h
def nX(jt:aF ep)(i:Nat):av Nat:=match jt[i]? with|none=>[]|some o=>(o.5.filter λe=>zN .any e).1.map (·.on)
def gR(jt:aF ep)(i:Nat):Nat:=((jt[i]?).bind (·.dst)).getD 0
def nZ(n k:Nat):aF Bool:=(Array.range n).map λi=>decide (i<k)
def afP{listed}(h:i∈fS .any jt listed):i<pB jt/\listed.getD i M=aa/\∀j∈nX jt i,listed.getD j aa=M:=by rw[fS]at h;let⟨n,b⟩:=rO.1 h;let f:=nD.1 n;simp only[cQ,uk]at b;refine⟨f,b.1,λj c=>?_⟩;let g:=gi f;have d:=b.2;rw[g]at d;simp at d;unfold nX at c;rw[g]at c;obtain⟨e,p,rfl⟩:=jY.1 c;let⟨m,hm,r⟩:=EG.1 (Zq.1 (vG.1 p)).1;grind
def afQ{listed}(c:i<pB jt)(e:listed.getD i M=aa)(f:∀j∈nX jt i,listed.getD j aa=M):i∈fS .any jt listed:=by unfold fS;refine rO.2 ⟨nD.2 c,?_⟩;let d:=gi c;simp only[cQ,uk];refine⟨e,?_⟩;rw[d];simp only[eO,oK,Array.all_eq_true];intro m hm;by_cases b:zN .any jt[i].5[m]=M;have:=f jt[i].5[m].1 (by unfold nX;rw[d];exact jY.2 ⟨_,vG.2<|Zq.2 ⟨Array.getElem_mem hm,b⟩,U⟩);simp[this];simp[Bool.not_eq_true _▸b]
def SU(jt:aF ep)(k z:Nat):Bool:=(dA k).all λi=>decide (i=z)||(dA<|k+1).any λj=>decide (i<j)&&(!decide (j=z)&&(nX jt j).contains i)
def Ee(jt:aF ep)(n k0 z b:Nat)(c:av Nat):Bool:=decide (pB jt=n)&&(decide (k0<n)&&(SU jt k0 z&&(((dA n).all λi=>(nX jt i).all λj=>decide (j<i))&&(((dA k0).all λi=>decide (gR jt i<b)&&(!c.contains (gR jt i)&&(dA k0).all λj=>decide (i=j)||!decide (gR jt i=gR jt j)))&&(dA n).all λi=>decide (i<=k0)||(dA i).any λj=>decide (k0<=j)&&(nX jt i).contains j))))
def To(n k0)(h:k0<=n):(nZ n k0).1.count aa=n-k0:=by
 let b:∀m,k0<=m->((dA m).map λi=>decide (i<k0)).count aa=m-k0:=by
  intro m;induction m with
  |zero=>intro _;simp
  |succ m c=>
   intro hm;rw[uB,sV,List.count_append];by_cases h:k0<=m;rw[c h];grind;let d:m+1=k0:=Y;have:((dA m).map λi=>decide (i<k0)).count aa=0:=by refine List.count_eq_zero.2 λe=>?_;grind
   grind
 have:=b n h;simp[nZ,mJ,Array.toList_range];omega
def SS{l:aF Bool}{i}(h:i<pB l)(b):(mP l i b).1.count aa+(if l[i]=aa then 1 else 0)=l.1.count aa+(if b=aa then 1 else 0):=by grind
def eP.adT{k0 z:Nat}(hn:pB jt=n)(MU:k0<n)(aW:SU jt k0 z=M)(bw:((dA n).all λi=>(nX jt i).all λj=>decide (j<i))=M)(aX:∀i j,i<k0->j<k0->gR jt i=gR jt j->i=j)(Base:eQ->Prop)(B:Nat->aB->aq->Prop)(S:aq->Prop)(Mv:aq->aq->Prop)(bz:∀u r j w,Mv u r->B j w u->B j w r)
  (hb:∀a s i v,i<k0->iD a s (gR jt i) v->Base a->Base s) (bp:∀i,k0<i->i<n->∃j,k0<=j/\j<i/\j∈nX jt i)
  (bA:∀a i,i<k0->Base a->gR jt i<pB a.1)
  (step:∀i,i<k0->∀a u is,Base a->S u->(∀j∈nX jt i,j<k0->B j (a.eval<|.tmp<|gR jt j) u)->(∀s v r,B i v r->S r->Mv u r->iD a s (gR jt i) v->FO Lf f0 P jt Q is s r)->FO Lf f0 P jt Q (i::is) a u)
  (bG:∀a u,Base a->S u->(∀i,i<k0->B i (a.eval<|.tmp<|gR jt i) u)->eP Lf f0 P .any jt Q (n-k0) (nZ n k0) a u)
  (bH:z<k0->∀a u,Base a->S u->(∀i,i<k0->i≠z->B i (a.eval<|.tmp<|gR jt i) u)->eP Lf f0 P .any jt Q (n-k0+1) (mP (nZ n k0) z aa) a u) (E:Base a) (hS:S u):eP Lf f0 P .any jt Q n (oG n aa) a u:=by
 suffices H:∀(c:Nat) (listed:aF Bool) (a:eQ) (u:aq),pB listed=n->listed.1.count aa=c->(∀i,k0<=i->i<n->listed[i]? =Z aa)->(∀i,i<k0->listed[i]? =Z M->(∀j∈nX jt i,listed.getD j aa=M)/\B i (a.eval<|.tmp<|gR jt i) u)->Base a->S u->eP Lf f0 P .any jt Q c listed a u by refine H n _ a u ay ay (λi _ b=>by simp[b]) (λi b h=>?_) E hS;rw[Array.getElem?_replicate]at h;split at h<;>cases h
 intro c;induction c with
 |zero=>
  intro listed a u hs W J _ _ _;have g:aa∈listed.1:=by have:=J k0 (aR _) MU;exact vG.2<|vF this
  have:=List.count_pos_iff.2 g;omega
 |succ c ih=>
  intro listed a u hs W J R E hS;by_cases N:∀i,i<k0->i≠z->listed[i]? =Z M;let bJ:pB (nZ n k0)=n:=by simp[nZ]
  let V:∀i,i<n->(nZ n k0)[i]? =Z (decide<|i<k0):=λi b=>by simp[nZ,b]
  by_cases hz:k0<=z\/listed[z]? =Z M;let e:listed=nZ n k0:=by refine By λi=>?_;by_cases p:i<n;rw[V i p];by_cases b:i<k0;rw[lY b];by_cases q:i=z;subst q;exact hz.e (λh=>by omega) id;exact N i b q;rw[lX b];exact J i Y p;rw[vC Y,vC Y]
  let aC:n-k0=c+1:=by rw[<-W,e,To n k0 Y]
  rw[e,<-aC];refine bG a u E hS λi b=>(R i b ?_).2;rw[e,V i Y,lY b];let aL:z<k0:=Nat.lt_of_not_le λh=>hz (aA h);let bB:listed[z]? =Z aa:=by
   have hx:listed[z]? =Z listed[z]:=gi Y;cases h:listed[z]with
   |false=>rw[hx,h]
   |true=>exact absurd (az (by rw[hx,h])) hz
  let e:listed=mP (nZ n k0) z aa:=by refine By λi=>?_;by_cases q:z=i;subst q;rw[bB,EF Y];rw[gn q];by_cases p:i<n;rw[V i p];by_cases b:i<k0;rw[lY b];exact N i b<|dB q;rw[lX b];exact J i Y p;rw[vC Y,vC Y]
  let aC:n-k0+1=c+1:=by
   have g:=SS (l:=nZ n k0) (i:=z) Y aa;have C:(nZ n k0)[z]'Y=M:=by have:=V z Y;rw[gi Y,lY aL]at this;exact ey this
   rw[<-e,W,To n k0 Y,C]at g;simp at g;omega
  rw[e,<-aC];refine bH aL a u E hS λi b bu=>(R i b<|N i b bu).2;have bt:∃i,i<k0/\listed[i]? ≠Z M:=by refine ny λh=>N λi b _=>ny λC=>h ⟨i,b,C⟩
  let aT:(∀j∈nX jt k0,listed.getD j aa=M)->False:=by
   intro hk;refine N λi b q=>?_;let bh:∀m i,i<k0->i≠z->k0-i<=m->listed[i]? =Z M:=by
    intro m;induction m with
    |zero=>intro i b _ h;omega
    |succ m bE=>
     intro i b q h;have g:=nA.1 aW i (nD.2 b);rw[vJ,tB]at g;obtain⟨j,A,d⟩:=uw.1 (g.resolve_left q);simp[cQ,tB,List.contains_iff_mem,uk,decide_eq_false_iff_not]at d;let aJ:=nD.1 A;let G:listed.getD i aa=M:=by obtain L|hge:=lq j k0;exact(R j L<|bE j L d.2.1 Y).1 i d.2.2;have:j=k0:=Y;subst this;exact hk i d.2.2
     let O:i<pB listed:=Y;rw[gi O];simpa[rB,O]using G
   exact bh (k0-i) i b q<|aR _
  refine⟨λh=>?_,λi b is hK=>?_⟩;exfalso;have bq:∃i,i<k0/\listed[i]? ≠Z M/\∀j,j<i->listed[j]? =Z M:=by
   obtain⟨i,g,C⟩:=bt;induction i using Nat.strongRecOn with
   |_ i bD=>by_cases G:∀j,j<i->listed[j]? =Z M;exact⟨i,g,C,G⟩;have:∃j,j<i/\listed[j]? ≠Z M:=ny λf=>G λj A=>ny λt=>f ⟨j,A,t⟩;obtain⟨j,A,d⟩:=this;exact bD j A Y d
  obtain⟨i,g,C,G⟩:=bq;let O:i<pB listed:=Y;let aD:listed[i]=aa:=by
   rw[gi O]at C;cases hx:listed[i]with
   |false=>rfl
   |true=>exact absurd (by rw[hx]) C
  have p:i∈fS .any jt listed:=afQ Y (by simp[rB,O,aD]) λj A=>by
   have L:j<i:=by have f:=nA.1 bw i (nD.2 Y);exact mM<|nA.1 f j A
   have t:=G j L;let D:j<pB listed:=Y;rw[gi D]at t;simp[rB,D,ey t]
  rw[h]at p;cases p;obtain⟨bL,bk,X⟩:=afP b;have p:i<n:=Y;let af:i<k0:=by refine ny λhge=>?_;obtain L|hle:=lq k0 i;obtain⟨j,K,d,bl⟩:=bp i L p;have f:=X j bl;have t:=J j K Y;let D:j<pB listed:=Y;rw[gi D]at t;simp[rB,D,ey t]at f;have:i=k0:=Y;subst this;exact aT X
  let bg:∀j∈nX jt i,j<k0->B j (a.eval<|.tmp<|gR jt j) u:=λj A aJ=>by have f:=X j A;let D:j<pB listed:=Y;refine(R j aJ ?_).2;rw[gi D];simpa[rB,D]using f
  let ah:i<pB listed:=Y;let aD:listed[i]=aa:=by simpa[rB,ah]using bk
  refine step i af a u is E hS bg λs v r hv Dr hM hN=>hK s r (ih _ s r (by simp[hs]) ?_ (λj K d=>?_) (λj K d=>?_) (hb a s i v af hN E) Dr);have:=SS ah M;rw[aD,W]at this;simp at this;simpa using this;rw[gn Y];exact J j K d;by_cases aE:i=j;subst aE;refine⟨λm hm=>?_,?_⟩;have f:=X m hm;by_cases T:m=i;subst T;simp[rB,ah];rw[ue,gn<|dB T,<-ue];exact f;rw[hN.4<|bA a i af E];exact hv;rw[gn aE]at d;obtain⟨f,t⟩:=R j K d;refine⟨λm hm=>?_,?_⟩;by_cases T:m=i;subst T;simp[rB,ah];rw[ue,gn<|dB T,<-ue];exact f m hm;rw[hN.3 _ λe=>aE (aX i j af K e.y)];exact bz _ _ _ _ hM t
def eP.one{p listed}(h:fS .any jt listed=[j])(c:∀is,(∀b e,eP Lf f0 P .any jt Q p (mP listed j M) b e->FO Lf f0 P jt Q is b e)->FO Lf f0 P jt Q (j::is) a u):eP Lf f0 P .any jt Q (p+1) listed a u:=⟨λg=>j4,λi d is f=>by rw[h]at d;obtain rfl:=iz.1 d;exact c is f⟩
def eP.none{listed}(h:fS .any jt listed=[])(c:Q .normal a u):eP Lf f0 P .any jt Q 0 listed a u:=⟨h,GO.nil c⟩
end
section
variable [an] {Q:Exit->eQ->aq->Prop} {a:eQ} {u:aq} {jt:aF ep} {i d k:Nat} {kj:av Nat} {o:ep} {Lf:aZ->av Nat} {f0:aZ}
def FO.adg{t:Nat}{ad:aV iL}{c0:Nat}(l:∃e,nf ai t=Z (.slice e))(j:jt[i]? =Z o)(h:CX jt a o)(hd:o.1=Z d)(g:o.2=.call {callee:=.builtin .len,args:=#[.tmp k],argTypes:=#[t]}) (hv:a.eval (.tmp k)=.slice ad n c0) (c:FO Lf f0 ai jt Q kj (a.put (Z d)<|I n) u):FO Lf f0 ai jt Q (i::kj) a u:=by
 obtain⟨p,q⟩:=l;exact FO.blind j h hd (λw=>by
  let m:=ev hv;rw[a7];rw[g];go_simp) (λw=>by
  let m:=ev hv;rw[a7];rw[g];go_simp) (az λr=>.int _ _) c
end
section
variable [an] {P:bM} {Q:Exit->eQ->aq->Prop} {a:eQ} {u:aq} {b:Frame} {cs:av Frame} {jt:aF ep} {i:Nat} {kj:av Nat} {o:ep} {Lf:aZ->av Nat} {f0:aZ}
def FO.Ss{d:Nat}(B:jt[i]? =Z o)(G:cY o (co jt a.1)=M){body:Code}{args:aF lU}{n:aF aY}(C:o.2=.call {callee:=.value<|.func f,args,argTypes:=n}) (hd:o.1=Z d) (w:P.2[f]? =Z fn) (A:(fn.1== "runtime.NumGoroutine")=aa) (s:fn.9=Z body) (z:il f) (E:∀x:aF aB,bo fn x=bo fn (dU (Lf f) x)) (H:∀h,(∀(j:Nat) v,a.1[j]? =Z v->j∉Lf f0->VR h v v)->∀(j:Nat) v,(ba P f (args.map a.eval) .normal).2[j]? =Z v->j∉Lf f->VR h v v)
  (c:iT Lf P f (args.map a.eval) u λe m=>∃v,e=aG v/\FO Lf f0 P jt Q kj (a.put (Z d) v) m):FO Lf f0 P jt Q (i::kj) a u:=λb k cs g t D=>by
 refine GO.call B G C w A s z (λx=>by rw[<-g.2];exact E x) (λJ h K l r=>?_) ((c g.2).V λe m ⟨v,p,q⟩=>⟨v,p,by rw[hd];exact q⟩) b k cs g t D;rw[<-g.2];exact H h (by rw[<-l.1,l.2];exact r.1)
def FO.S3{l:av aZ}{d:Nat}(t:vb P l)(H:jt[i]? =Z o)(N:cY o (co jt a.1)=M){body:Code}{args:aF lU}{q:aF aY}(J:o.2=.call {callee:=.value<|.func f,args,argTypes:=q}) (hd:o.1=Z d) (n:P.2[f]? =Z fn) (G:(fn.1== "runtime.NumGoroutine")=aa) (m:fn.9=Z body) (E:il f) (hv:Lf f=[]) (B:args.all (dY l)=M) (A:args.map a.eval=args.map (sP (Lf f0) a).eval)
  (c:dX P f (args.map a.eval) u λe p=>∃v,e=aG v/\FO Lf f0 P jt Q kj (a.put (Z d) v) p):FO Lf f0 P jt Q (i::kj) a u:=λb k cs g C K=>by
 let L:an.dU f=[]:=by rw[<-g.2];exact hv
 refine GO.call H N J n G m E (λx=>by rw[L,PI]) (λS O T h w=>GC n m λj v D _=>?_) (c.V λe p ⟨v,r,s⟩=>⟨v,r,by rw[hd];exact s⟩) b k cs g C K;let z:∀(i:Nat) v,a.1[i]? =Z v->i∉Lf f0->VR O v v:=by rw[<-h.1,h.2];exact w.1
 have:=YQ (a:=sP (Lf f0) a) t.1 (PK z) B;rw[<-A]at this;exact this.at j v D
def Di{body}{args:aF aB}{L:av Nat}(g:P.2[f]? =Z fn)(e:fn.9=Z body)(h:∀(j:Nat) v,args[j]? =Z v->j∉L->∀ρ,VR ρ v v)(ρ j v)(hv:(ba P f args .normal).2[j]? =Z v)(l:j∉L):VR ρ v v:=GC g e (λj v a b=>h j v a b ρ) j v hv l
end
section
variable [an] {P:bM} {f:aZ} {fn:Func} {c:Code} {args:aF aB} {W:aq} {Lf:aZ->av Nat} {R:Ending->aq->Prop} {kw:aB->aq->Prop}
def agF(aJ:P=an.prog)(H:Lf=an.dU)(C:∀ρ (j:Nat) v,(ba P f args .normal).2[j]? =Z v->j∉Lf f->VR ρ v v)(hf:P.2[f]? =Z fn)(q:fn.9=Z c){t0}(A:fn.8=#[.tmp t0])(bu:P.inits.idxOf? f=aj)(hk:il f)(z:pB P.globals<=pB W.1)(aN:∀b o,an.tY b=Z o->W.1[b]? =Z o)
  (h:iT Lf P f args (wd (λ_=>False) W) R) (aL:∀e u,R e u->∃v,e=aG v) (aK:∀v s m,R (aG v) s->(∀b,b<pB W.1->m.1[b]? =W.1[b]?)->pB W.1<=pB m.1->m.4=W.4->m.5=W.5->m.2=W.2->kw v m):
  ∃r last o m E,runNT P (r+1) (solo (G (ba P f args .normal) []) W) #[]=(.ended o m,E)/\runN P r (solo (G (ba P f args .normal) []) W)=.next last/\step P last=.ended o m/\Conc.Good P kw last o m E:=by
 rw[solo_eq_crowd];obtain⟨N,L,S',bB,p,bk,s,bn,m,aT,E,q',K,⟨rfl,aC,e,he,hR,aE⟩,w,t,_⟩:=h H [] _ _ _ _ _ aj _ _ (Wk (gs:=#[G (ba P f args .normal) []]) (S:=λ_=>False) (Own:=λ_=>False) aJ U (leavers_one P _) (past_nil.V<|cO _) (λi j h=>by simp[Trace.g?]at h) (λb q=>q.e) (λb h=>h.e) z (Zj hf q hk (H▸C _)) (λg z=>by cases z) λl h=>h.e) (λb o q=>⟨λx C=>C.2.e id id,aN b o q,λ_ _ h=>h⟩);obtain⟨v,rfl⟩:=aL e s hR;obtain⟨l1,l2,l3,bl,J,l5⟩:=aE;rw[aC,hf]at J;cases J
 let hv:v=p.2.getD t0 y:=by
  have:(bo fn p.2).run P s=.ok (p.2.getD t0 y) s:=by simp[bo,A]
  grind
 let hp:∀d,kw v (m.at d):=λd=>aK v s (m.at d) hR (λb q=>t.3 b q λa ha=>ha.2.e id id) t.2 t.5 t.6 t.7
 obtain⟨r,last,o,aX,aW,h1,h2,h3,h4⟩:=beside_ends (P:=P) (Shun:=L) (B:=pB m.1) (D:=λ_ _ _=>False) (Post:=kw) (λ_ _ _ h=>h.e) (sl:=aT) (n:=0) w.1 w.6 w.7 (by
  rintro bA ⟨d,rfl⟩;refine⟨U,v,#[],?_,ay,hp d⟩;let O:(bo fn p.2).run P (m.at d)=.ok v (m.at d):=by simp[bo,A,hv]
  let T:(bo fn p.2).events P (m.at d) #[]=#[]:=events_results_tmp A _ _;let V:P.2[p.1]? =Z fn:=j4;let X:P.inits.idxOf? p.1=aj:=j4;simp[G,stepG,unwind,doReturn,l1,l2,l3,V,O,T,X,seen,GStep.after])
 refine⟨N+r,last,o,aX,aW,?_,?_,h3,h4⟩
 rwa [show N+r+1=N+(r+1) by omega,Bf K]
 rwa [runN_add,<-runNT_fst P _ _ #[],K]
end
def lk:av (Nat×aB)->Nat->aV aB
 |[],_=>aj|p::l,k=>bif vY p.1 k then Z p.2 else lk l k
structure Fa(n:Nat)(a:eQ)(L:av (Nat×aB)):Prop where
 size:a.tmps.size=n
 defers:a.defers=[]
 at_:∀k v,lk L k=Z v->a.eval (.tmp k)=v
def Gh(L:av (Nat×aB)):av (Nat×aB)->Prop
 |[]=>True|p::r=>lk L p.1=Z p.2/\Gh L r
def VO{L}:∀{c:av (Nat×aB)},Gh L c->∀k v,lk c k=Z v->lk L k=Z v
 |[],_,k,v,h=>by cases h
 |p::r,f,k,v,h=>by
  rw[lk]at h;cases b:vY p.1 k with
  |true=>rw[b]at h;simp at h;rw[<-(zK b),<-h];exact f.1
  |false=>rw[b]at h;exact VO f.2 k v h
def Fa.sub{L lh}(h:Fa n a L)(b:Gh L lh):Fa n a lh:=⟨h.1,h.2,λk v e=>h.3 k v (VO b k v e)⟩
variable{d g:Nat}{f:Nat->Nat}
def Fa.put{L}(h:Fa n a L)(v)(hd:d<n):Fa n (a.put (Z d) v) ((d,v)::L):=
 ⟨(Xc _ _ _).E h.1,(yv _ _ _).E h.2,λk x e=>by
  rw[lk]at e;cases b:vY d k with
  |true=>rw[b]at e;let c:=zK b;simp at e;rw[<-c,<-e];exact Ty v (by rw[h.1];exact hd)
  |false=>
   rw[b]at e;let c:k≠d:=λx=>by rw[x,Nat.beq_refl]at b;cases b
   exact(Tx v c).E (h.3 k x e)⟩
def iu(jt:aF ep)(L:av (Nat×aB)):aV (Nat×Bool)->Bool
 |none=>M|some (j,b)=>match(jt[j]?).bind (·.dst)with|none=>aa|some p=>match lk L p with|some (ω x)=>x==b|_=>aa
def Iy(L:av (Nat×aB)):lU->aV aB
 |.tmp k=>lk L k|.const v=>Z v|_=>aj
def mW(B:av Nat)(n d:Nat)(xs:av lU):Bool:=decide (d<n)&&xs.all λx=>match x with|.tmp k=>!B.contains k|.const _=>M|_=>aa
section
variable [an] {l:av aZ} {a:eQ} {jt:aF ep} {n d k:Nat} {o:ep} {v vx:aB} {x:lU} {L:av (Nat×aB)}
def Fa.wants(E:Fa n a L)(c:iu jt L o.6=M)(m:∀j b p,o.6=Z (j,b)->(jt[j]?).bind (·.dst)=Z p->p<n):CX jt a o:=by
 unfold CX cY;rcases hg:o.6 with _|q;rfl;let⟨j,b⟩:=q;rw[hg]at c;unfold iu at c;simp only at c;rcases hj:jt[j]? with _|oj;rw[hj]at c;cases c;rw[hj]at c;simp at c;cases e:oj.1 with
 |none=>rw[e]at c;cases c
 |some p=>
  rw[e]at c;simp only at c;cases f:lk L p with
  |none=>rw[f]at c;cases c
  |some r=>
   rw[f]at c;cases r<;>simp at c;rename_i x;let t:x=b:=j4;let i:p<pB a.1:=by rw[E.1];exact m j b p hg j4
   let g:a.1[p]? =Z (ω b):=by let h:=gi i;rw[h];let s:=ev (E.3 p _ f);grind
   simp[co,hj,e,g]
def aaF(E:Fa n a L)(h:Iy L x=Z vx):a.eval x=vx:=by
 cases x with
 |tmp k=>exact E.3 k vx h
 |const v=>cases h;rfl
 |_=>cases h
def Au{B xs}(h:mW B n d xs=M):d<n:=by rw[mW]at h;exact mM ((cQ _ _).mp h).1
def U7{B xs}(h:mW B n d xs=M)(c:x∈xs):(sP B a).eval x=a.eval x:=by
 rw[mW]at h;have b:=nA.1 ((cQ _ _).mp h).2 x c;cases x with
 |tmp k=>refine zm λe=>?_;grind
 |const v=>rfl
 |_=>cases b
def U6{B xs}(h:mW B n d xs=M)(c:Operand.tmp k∈xs):k∉B:=λb=>by rw[mW]at h;grind
def iH(jt:aF ep)(n:Nat):aV (Nat×Bool)->Bool
 |none=>M|some (j,_)=>match(jt[j]?).bind (·.dst)with|none=>M|some p=>decide (p<n)
def Fa.wt(E:Fa n a L)(f:(iu jt L o.6&&iH jt n o.6)=M):CX jt a o:=by let h:=(cQ _ _).mp f;refine E.wants h.1 λj b p e g=>?_;have c:=h.2;rw[e]at c;rw[iH]at c;grind
def tK(L:av (Nat×aB)):av lU->aV (av aB)
 |[]=>Z []|x::r=>match Iy L x,tK L r with|some v,Z b=>Z (v::b)|_,_=>aj
def Gl(E:Fa n a L):∀{xs:av lU} {vs:av aB},tK L xs=Z vs->xs.map a.eval=vs
 |[],vs,h=>by cases h;rfl
 |x::r,vs,h=>by
  rw[tK]at h;cases b:Iy L x with
  |none=>rw[b]at h;cases h
  |some v=>
   cases c:tK L r with
   |none=>rw[b,c]at h;cases h
   |some e=>rw[b,c]at h;cases h;rw[nC,aaF E b,Gl E c]
def Fa.add(h:Fa n a L)(e:a.eval (.tmp d)=v):Fa n a ((d,v)::L):=⟨h.1,h.2,λk x b=>by
  rw[lk]at b;cases c:vY d k with
  |true=>rw[c]at b;simp at b;rwa [<-zK c,<-b]
  |false=>rw[c]at b;exact h.3 k x b⟩
def Wa:∀{L:av (Nat×aB)} {k:Nat} {v:aB},lk L k=Z v->k∈L.map Prod.fst
 |[],_,_,h=>by cases h
 |p::l,k,v,h=>by
  rw[lk]at h;cases b:vY p.1 k with
  |true=>rw[<-zK b];exact fJ ..
  |false=>rw[b]at h;exact gC _<|Wa h
end
abbrev Lw(xb sb N:Nat)(sz cl qu mx qn rt bu wk ou:Int)(W:aq):Prop:=iU xb sz cl qu mx qn rt bu wk ou W/\kD W (F xb 9)=Z (ζ (Z (F sb 0)) N N)
def Lw.rk{xb sz cl rt}(h:Lw xb sb N sz cl qu mx qn rt bu wk ou W)(a:aK W W'):Lw xb sb N sz cl qu mx qn rt bu wk ou W':=⟨h.1.rk a,bH a h.2⟩
abbrev jp(b:Nat):aB:=aQ b
abbrev kF(n:Nat)(f:Nat->Nat):av aB:=(dA n).map λx=>jp (f x)
structure gK(w:aq)(a b:Nat)(v:aB)(n:Nat)(f:Nat->Nat):Prop where
 head:kD w (F a b)=Z v
 row:mT w 0 130 1 v n (kF n f)
 cm:Z a≠v.ownBlock
def gK.form(h:gK w hb ho v n f):∃a kh,v=ζ a n kh/\n<=kh/\kh<=cP:=by obtain⟨b,c⟩|⟨g,kh,i,b,_,_,d,e,_⟩:=h.2.2;exact⟨aj,0,by rw[b,c],Y,by rw[cP];omega⟩;exact⟨_,kh,b,d,e⟩
def Ir{x}(h:x<n):(kF n f)[x]? =Z (jp<|f x):=by simp[kF,h]
def gK.full(h:gK w hb ho v n f)(h0:0<n):∃g kh a,v=ζ (Z<|F g 0) n kh/\w.1[g]? =Z (au a 130 (0,0))/\n<=kh/\kh<=cP/\pB a=kh/\hb≠g/\∀x,x<n->a[x]? =Z (jp<|f x):=by obtain⟨b,c⟩|⟨g,kh,a,b,_,c,d,i,l,j⟩:=h.2.2;omega;refine⟨g,kh,a,b,c,d,i,Y,λe=>h.3 (by rw[b,e];rfl),λx k=>?_⟩;have:=Ir (f:=f) k;rwa [<-j,vP,aO Y,zw]at this
def acs(hb ho n v f w)(h:gK w hb ho v n f):
  eZ 77 #[π<|Z<|F hb ho] w (I n):=by
 obtain⟨a,kh,rfl,_⟩:=h.form;let b:=h.1;go_enter func77,ntmps77;go_wp2;go_ret;exact⟨U,U⟩
def Vl(hb ho n v f w)(h:gK w hb ho v n f)(h0:0<n):
  eZ 103 #[π<|Z<|F hb ho] w (θ #[jp<|f 0,ω M]):=by
 obtain⟨g,kh,e,rfl,a,_,_,_,_,b⟩:=h.full h0;let c:=h.1;let d:=aD a (b 0 h0);let i:((n:Int)==0)=aa:=bV;let j:(0:Int)<(n:Int):=Y;go_enter func103,ntmps103;go_wp2
 go_ret2
 exact⟨U,U⟩
def WU(i:Nat)(h0:0<i)(a:i<=1048576)(w):
  eZ 270 #[I i] w (I (wn i:Nat)):=by
 go_enter func270,ntmps270;go_wp2;go_ret;refine⟨?_,U⟩;let e:((i:Int)-1) / 2=((wn i:Nat):Int):=j4
 rw[<-e];rfl
structure mj(w:aq)(j:Nat)(k:Key):Prop where
 due:kD w (F j 5)=Z (I k.1)
 sd:kD w (F j 6)=Z (I k.2)
def Q2(i j)(a b:Key)(w)(h:mj w i a)(k:mj w j b):
  ax ai 304 #[jp i,jp j] w λe o=>e=aG (ω<|eI a b)/\∃d,o=w.drewN d:=by
 obtain⟨l,m⟩:=h;obtain⟨d5,d6⟩:=k;obtain⟨a1,c⟩:=a;obtain⟨b1,f⟩:=b;dsimp only at l m d5 d6;generalize n:eI (a1,c) (b1,f)=z;cases p:decide (a1<b1)<;>cases q:(a1==b1)<;>cases r:decide (c<f)
 all_goals
  go_enter func304,ntmps304
  go_upto_region 1 with fail
  go_quiet (fail)
  go_wp2;go_ret;exact⟨by rw[<-(aX n).H];simp_all[eI],_,U⟩
def adI(a w)(hd:d=pB ai.types+Made.depth):(method d 130 (π<|Z a) "Before").run ai w=.ok (304,π<|Z a) w:=by subst hd;kernel_rfl
def S4(x lm w):(callFunc 304 #[x,lm]).run ai w=.ok (.enter 304 #[x,lm]) w:=by let a:(f304.1== "runtime.NumGoroutine")=aa:=aW;let b:f304.9.isNone=aa:=aW;rw[callFunc];simp only[Cn,run_program,FG,func304,a,b,ff,dM,KH]
def VC(hb ho n i k v f)(a:Nat->Key)(w)(h:gK w hb ho v n f)(j:i<n)(l:k<n)(z:n<=1048576)(b:∀x,x<n->mj w (f x) (a<|f x)):
  ax ai 195 #[π<|Z<|F hb ho,I i,I k] w λe c=>e=aG (ω<|eI (a<|f i)<|a<|f k)/\∃d,c=w.drewN d:=by
 obtain⟨g,kh,u,rfl,p,_,_,_,_,q⟩:=h.full Y;let r:=h.1;let s:=aD p (q i j);let t:=aD p (q k l)
 let o:bc (∀c,(∃d,c=w.drewN d)->mj c (f i) (a<|f i)/\mj c (f k) (a<|f k)):=by rintro c ⟨d,rfl⟩;exact⟨⟨(b i j).1,(b i j).2⟩,⟨(b k l).1,(b k l).2⟩⟩
 go_enter func195,ntmps195
 go_upto_region 1 with fail
 apply wp_region_quiet_lit aW aW
 iterate 15 (quiet_step (fail))
 refine wpQuiet_step<|λK b=>?_;go_simp;refine⟨ω<|eI (a<|f i)<|a<|f k,λm=>?_,b _ ?_⟩
 ·rw[adI _ _ aW,FG,S4];refine⟨U,ax.quiet_of<|Q2 (f i) (f k) (a<|f i) (a<|f k) (w.drewN m) (o _ ⟨m,U⟩).1 (o _ ⟨m,U⟩).2⟩
 quiet_step (fail)
 apply wpQuiet_nil;rintro _ ⟨m,rfl⟩;go_wp2;go_ret;exact⟨U,_,U⟩
def tM{a x u}(h:kD W (F a o)=Z v)(c:a≠b):kD (kB W (F b x) u) (F a o)=Z v:=by rwa [iO<|bC c]
def gK.swap{a}(h:gK w a ho (ζ (Z<|F g 0) n kh) n f)(r:i<n)(s:k<n)(p:w.1[g]? =Z (au cur 130 (0,0)))(q:n<=kh)(hm:kh<=cP)(hc:pB cur=kh)(m:a≠g)(c:∀x,x<n->cur[x]? =Z (jp<|f x))(d):
  gK (kB (kB (w.drewN d) (F g i)<|jp<|f k) (F g k)<|jp<|f i) a ho (ζ (Z<|F g 0) n kh) n (gZ f i k)/\aS (·=g) w (kB (kB (w.drewN d) (F g i)<|jp<|f k) (F g k)<|jp<|f i):=by
 refine⟨⟨tM (tM h.1 m) m,⟨by simp[kF],az ⟨g,kh,_,U,cO _,(bG (bG p i (jp<|f k)) k<|jp<|f i),q,hm,bV,(by
    refine ux λx=>?_;rw[vP];split;rename_i h;let l:x<n:=Y;rw[Ir l,zw];rw[gZ];by_cases e:x=k;subst e;grind;rw[gn Y,aI e];by_cases j:x=i;subst j;rw[PU,aO Y,aO U];rw[gn Y,aI j];exact c x l;exact(Kl bV).y)⟩⟩,h.3⟩,U,ay,λb a c=>?_⟩
 exact(bC c).E<|bC c
def Yt(j ho n i k v f w)(h:gK w j ho v n f)(s:i<n)(t:k<n)(Q:i≠k):
  ax ai 196 #[π<|Z<|F j ho,I i,I k] w λe p=>e=aG (θ #[])/\gK p j ho v n (gZ f i k)/\aS (λb=>Z b=rW v) w p:=by
 obtain⟨g,kh,u,rfl,o,z,A,B,m,l⟩:=h.full Y;have c:=h.1;have H:=aD o (l i s);have J:=aD o (l k t);have fz:∀x,nc w (F g x)=aa:=λx=>bp o x;have r:=bG (show(w.drewN 1).1[g]? =Z (au u 130 (0,0)) from o) i (jp<|f k);have L:∀x,nc (kB (w.drewN 1) (F g i)<|jp<|f k) (F g x)=aa:=λx=>bp r x;have q:=h.swap s t o z A B m l 1;have d:=aX q;have O:(i:Int)<(n:Int):=Y;have P:(k:Int)<(n:Int):=Y;clear h l o q r;go_enter func196,ntmps196
 go_upto_region 0 with fail
 refine ga (S:=λp=>kD p (F j ho)=Z (ζ (Z<|F g 0) n kh)) c λN=>?_;apply tl [0,1,2,3,4,5,6,7];apply tl [8,9,10,11,12,13,14,15];apply tl [17,18,19,20,21,22];refine aH [16,23]<|.cons U (λK a=>?_) ?_
 ·go_simp;refine a _ _ c<|λC=>?_;clear a K;refine rH 23 λK a=>?_;go_simp;refine a _ _ c<|λD=>?_;clear a K;apply tl [24];refine rH 25 λK a=>?_;go_simp;refine a _ _ (tM c m)<|λE=>?_;clear a K;apply tl [26];refine rH 27 λK a=>?_;go_simp;refine a _ _ (tM (tM c m) m)<|λG=>?_;clear a K;refine dJ ?_;(go_wp2;refine fC U U ⟨U,d.1,d.2.1,d.2.2,λb j l=>d.2.3 b j λe=>l C1⟩)
 refine .cons U (λK a=>?_) .nil;go_simp;refine a _ _ c<|λC=>?_;clear a K;refine rH 16 λK a=>?_;go_simp;refine a _ _ c<|λD=>?_;clear a K;apply tl [24];refine rH 25 λK a=>?_;go_simp;refine a _ _ (tM c m)<|λE=>?_;clear a K;apply tl [26];refine rH 27 λK a=>?_;go_simp;refine a _ _ (tM (tM c m) m)<|λG=>?_;clear a K;refine dJ ?_
 (go_wp2;refine fC U U ⟨U,d.1,d.2.1,d.2.2,λb j l=>d.2.3 b j λe=>l C1⟩)
structure mq(n:Nat)(f f':Nat->Nat):Prop where
 aN:∀x,x<n->∃a,a<n/\f' x=f a
 all:∀a,a<n->∃x,x<n/\f' x=f a
 one:(∀x a,x<n->a<n->f x=f a->x=a)->∀x a,x<n->a<n->f' x=f' a->x=a
def mq.refl(n f):mq n f f:=⟨λx h=>⟨x,h,U⟩,λx h=>⟨x,h,U⟩,λh=>h⟩
def mq.E{g h}(a:mq n f g)(b:mq n g h):mq n f h:=
 ⟨λx d=>by let⟨k,i,e⟩:=b.1 x d;let⟨z,j,c⟩:=a.1 k i;exact⟨z,j,e.E c⟩,
  λz j=>by let⟨k,i,e⟩:=a.2 z j;let⟨x,d,c⟩:=b.2 k i;exact⟨x,d,c.E e⟩,λo=>b.3 (a.3 o)⟩
def mq.gZ(f)(g:i<n)(h:k<n):mq n f (gZ f i k):=by refine⟨λx j=>?_,λd l=>?_,λo x d j l e=>?_⟩;by_cases a:x=i;exact⟨k,h,R3⟩;by_cases b:x=k;exact⟨i,g,by subst b;simp[Proofs.YtpobhljcainmdaaGreat.gZ,a]⟩;exact⟨x,j,L8⟩;by_cases a:d=k;exact⟨i,g,R3⟩;by_cases b:d=i;refine⟨k,h,?_⟩;subst b;rw[Proofs.YtpobhljcainmdaaGreat.gZ];rw[aI<|λe=>a e.y,aO U];exact⟨d,l,L8⟩;simp[Proofs.YtpobhljcainmdaaGreat.gZ]at e;by_cases a:x=i;by_cases b:d=i;omega;rw[aO a,aI b]at e;by_cases c:d=k;rw[aO c]at e;have:=o _ _ h g e;omega;rw[aI c]at e;have:=o _ _ h l e;omega;rw[aI a]at e;by_cases m:x=k;rw[aO m]at e;by_cases b:d=i;rw[aO b]at e;have:=o _ _ g h e;omega;rw[aI b]at e;by_cases c:d=k;omega;rw[aI c]at e;have:=o _ _ g l e;omega;rw[aI m]at e;by_cases b:d=i;rw[aO b]at e;have:=o _ _ j h e;omega;rw[aI b]at e;by_cases c:d=k;rw[aO c]at e;have:=o _ _ j g e;omega;rw[aI c]at e;exact o _ _ j l e
def VE(K:Nat->Key)(f i k):(λx=>K (gZ f i k x))=gZ (λx=>K (f x)) i k:=by funext x;simp[gZ];grind
def mj.cy{k}(h:mj w j k)(c:aS X w w')(b:¬X j):mj w' j k:=by let a:=c.3 j (jo h.1) b;exact⟨(iO a).E h.1,(iO a).E h.2⟩
def ui(w:aq)(v:aB)(n:Nat)(f:Nat->Nat)(K:Nat->Key):Prop:=∀x,x<n->mj w (f x) (K<|f x)/\Z (f x)≠v.ownBlock
def ui.mix{f'}(h:ui w v n f K)(m:mq n f f')(d:aS (λb=>Z b=rW v) w w'):ui w' v n f' K:=λx g=>by let⟨c,a,e⟩:=m.1 x g;rw[e];exact⟨(h c a).1.cy d (h c a).2,(h c a).2⟩
def ui.drewN(h:ui w v n f K)(d):ui (w.drewN d) v n f K:=λx a=>⟨⟨(h x a).1.1,(h x a).1.2⟩,(h x a).2⟩
def gK.drewN(h:gK w hb ho v n f)(d):gK (w.drewN d) hb ho v n f:=⟨h.1,h.2,h.3⟩
structure Ah(w W:aq)(a c:Nat)(v:aB)(n:Nat)(f:Nat->Nat)(K:Nat->Key)(q:Nat)(f':Nat->Nat):Prop where
 heap:gK W a c v n f'
 keys:ui W v n f' K
 mix:mq n f f'
 up:yp n (λx=>K (f' x)) q
 cy:aS (λb=>Z b=v.ownBlock) w W
def Ah.drewN{q f'}(h:Ah w W hb ho v n f K q f')(d):Ah w (W.drewN d) hb ho v n f K q f':=⟨h.1.drewN d,h.2.drewN d,h.3,h.4,⟨h.5.1,h.5.2,h.5.3⟩⟩
def agt(hb ho n i v f K0 w)(h:gK w hb ho v n f)(C:i<n)(D:n<=1048576)(B:ui w v n f K0)(A:yp n (λx=>K0 (f x)) i):
  ax ai 245 #[π<|Z<|F hb ho,I i] w λe g=>e=aG (θ #[])/\∃c,gK g hb ho v n c/\mq n f c/\Hp n (λx=>K0 (c x))/\aS (λb=>Z b=rW v) w g:=by
 let r:bc (Ah w w hb ho v n f K0 i f):=⟨h,B,mq.refl _ _,A,ja _ _⟩;go_enter func245,ntmps245;go_wp2
 go_loopw [1] (λp wr=>∃q c,p=I (q:Nat)/\q<n/\bc (Ah w wr hb ho v n f K0 q c)) (λp _=>pD (dw p))
 case atStart=>exact⟨i,f,U,C,r⟩
 case round=>
  obtain⟨q,c,rfl,k,hR⟩:=hrel;by_cases h0:q=0;·subst h0;go_wp2;let R:=hR;exact fC U U ⟨U,c,R.1,R.3,R.4.done<|aA U,R.5⟩
  let G:(0:Int)<(q:Int):=Y;let j:wn q<n:=j4;have l:bc (∀d,ax ai 195 #[π<|Z<|F hb ho,I q,I (wn q:Nat)] (wr.drewN d) λe g=>e=aG (ω<|eI (K0<|c q)<|K0<|c<|wn q)/\∃z,g=wr.drewN (d+z)):=λd=>by apply(VC hb ho n q (wn q) v c K0 (wr.drewN d) (hR.1.drewN d) k j D<|λx E=>((hR.2.drewN d) x E).1).V;rintro e g ⟨rfl,m,rfl⟩;exact⟨U,m,I3 ..⟩
  rcases lD:eI (K0<|c q) (K0<|c<|wn q)with _|_
  ·rw[lD]at l;go_wp2_with (first
    |(go_at_call 270;apply(WU q Y Y _).V;rintro e o ⟨rfl,rfl⟩)|(go_at_call 195;apply(l 0).V;rintro e o ⟨rfl,d,rfl⟩))
   let R:=hR.drewN d;exact fC U U ⟨U,c,R.1,R.3,R.4.done<|az lD,R.5⟩
  rw[lD]at l;let u:bc (∀d,ax ai 196 #[π<|Z<|F hb ho,I q,I (wn q:Nat)] (wr.drewN d) λe g=>e=aG (θ #[])/\Ah w g hb ho v n f K0 (wn q) (gZ c q<|wn q)):=λd=>by let R:=hR.drewN d;refine(Yt hb ho n q (wn q) v c (wr.drewN d) R.1 k j (by simp[wn];omega)).V ?_;rintro e g ⟨rfl,a,b⟩;refine⟨U,a,R.2.mix (.gZ c k j) b,R.3.E<|.gZ c k j,?_,R.5.E b⟩;rw[VE];exact R.4.step Y k lD
  go_wp2_with (first
   |(go_at_call 270;apply(WU q Y Y _).V;rintro e o ⟨rfl,rfl⟩)|(go_at_call 195;apply(l 0).V;rintro e o ⟨rfl,d,rfl⟩)|(go_at_call 196;apply(u _).V;rintro e o ⟨rfl,t⟩;let s:=aX t))
  refine⟨⟨wn q,_,?_,j,s⟩,?_⟩;let e:(((q-1:Nat):Int) / 2)=((wn q:Nat):Int):=by simp only[wn];omega
  rw[e];simp[dw];omega
def afp(n f j):kF n f++[jp j]=kF (n+1) (λx=>if x=n then j else f x):=by
 unfold kF;rw[uB,sV]
 congr 1;refine rN λx a=>?_;grind;simp
def acF:(ai.info? 130).map (λi=>(i.8,i.3,i.4))=Z (Z<|π aj,1,8):=aW
abbrev xv(f:Nat->Nat)(n j:Nat):Nat->Nat:=λx=>if x=n then j else f x
def afr{kU x}{m:aY}(q:w.1[hb]? =Z (au kU m (0,0)))(u:kU[ho]? =Z v)(Q:m≠130)(af:mT w 0 130 1 v n (kF n f))(P:ui w v n f K)(S:∀x,x<n->f x≠hb)(z:mj w j (K j))(A:Z j≠rW v)(V:j≠hb)(R:mT W 0 130 1 (ζ (Z<|F g 0) (n+1) kh) (n+1) (kF n f++[jp j]))(r:nz (lL w<|au x 130) W (rW v))(t:rW v=Z g\/g=pB w.1+1):
  kD W (F hb ho)=Z v/\nc W (F hb ho)=aa/\(kB W (F hb ho)<|ζ (Z<|F g 0) (n+1) kh).1[hb]? =Z (au (mP kU ho<|ζ (Z<|F g 0) (n+1) kh) m (0,0))/\
  gK (kB W (F hb ho)<|ζ (Z<|F g 0) (n+1) kh) hb ho (ζ (Z<|F g 0) (n+1) kh) (n+1) (xv f n j)/\ui (kB W (F hb ho)<|ζ (Z<|F g 0) (n+1) kh) (ζ (Z<|F g 0) (n+1) kh) (n+1) (xv f n j) K/\
  aS (λb=>b=hb\/Z b=rW v) w (kB W (F hb ho)<|ζ (Z<|F g 0) (n+1) kh):=by
 let X:=(bf.1 q).1
 let B:Z hb≠rW v:=λe=>by obtain⟨c,_⟩|⟨G,D,s,c,_,d,_⟩:=af.2;rw[c]at e;cases e;rw[c]at e;cases e;rw[q]at d;cases d;exact Q rfl
 let C:hb≠g:=λe=>by obtain h|h:=t;exact B (by rw[h,e]);omega
 let lw:∀b,b<pB w.1->Z b≠rW v->W.1[b]? =w.1[b]? :=λb p l=>(r.5 b bV l).E (bj w _ b p);let o:=(lw hb X B).E q;have d:=bG o ho (ζ (Z<|F g 0) (n+1) kh);have ah:=r.4;simp at ah
 let cy:aS (λb=>b=hb\/Z b=rW v) w (kB W (F hb ho)<|ζ (Z<|F g 0) (n+1) kh):=⟨by show W.4=w.4;rw[r.1];rfl,bV,λb p l=>(bC<|λe=>l (aA e)).E (lw b p λe=>l (az e))⟩
 let T:=(bf.1 u).1;let mi:∀i k,mj w i k->Z i≠rW v->i≠hb->mj (kB W (F hb ho)<|ζ (Z<|F g 0) (n+1) kh) i k:=λi k h c d=>h.cy cy (λe=>e.e d c)
 let cm:∀i k,mj w i k->Z i≠rW v->Z i≠rW (fM (Z<|F g 0) (n+1) kh):=λi k h c e=>by let E:i=g:=D4;obtain h'|h':=t;exact c (by rw[h',E]);have:=jo h.1;simp only at this;omega
 refine⟨aD o u,bp o _,d,⟨aD d (by simp[T]),⟨by simp[kF],?_⟩,λe=>C D4⟩,λx l=>?_,cy⟩;obtain⟨h,_⟩|⟨G,D,s,c,d,H,J,L,N,O⟩:=R.2;cases h;cases c;exact az ⟨g,kh,s,rfl,d,(bC<|λe=>C e.y).E H,J,L,N,by rw[O,afp]⟩;simp[xv]
 by_cases e:x=n
 rw[aO e];exact⟨mi j _ z A V,cm j _ z A⟩;rw[aI e]
 let⟨a,b⟩:=P x Y
 exact⟨mi _ _ a b<|S x Y,cm _ _ a b⟩
def afq(a ho n j v f K0 kU Th w)(p:w.1[a]? =Z (au kU Th (0,0)))(z:kU[ho]? =Z v)(K:Th≠130)(B:mT w 0 130 1 v n (kF n f))(hn:n<1048576)(J:ui w v n f K0)(L:∀x,x<n->f x≠a)(P:mj w j (K0 j))(R:Z j≠rW v)(Q:j≠a)(H:Hp n λx=>K0 (f x)):
  ax ai 212 #[π<|Z<|F a ho,jp j] w λe r=>e=aG (θ #[])/\∃l d,r.1[a]? =Z (au (mP kU ho l) Th (0,0))/\mT r 0 130 1 l (n+1) (kF (n+1) d)/\mq (n+1) (xv f n j) d/\Hp (n+1) (λx=>K0 (d x))/\aS (λb=>b=a\/Z b=rW v) w r/\(rW l=rW v\/∀g,rW l=Z g->pB w.1<=g):=by
 let⟨iP,O,V,W,X⟩:=nG acF
 let aT:=(bf.1 p).1;let c0:=aD p z;let HM:bc (w.1[a]? =Z (au kU Th (0,0))/\mT w 0 130 1 v n (kF n f)/\ui w v n f K0/\mj w j (K0 j)):=⟨p,B,J,P⟩;let A:a≠pB w.1:=Y;go_enter func212,ntmps212
 go_wp2_with (first
  |(at_builtin;let _t:=trivial;refine wpList_append_lies _ n7 _ _ 107 n7 0 130 iP _ 1 8 underlying107 O V W X n7 Y v n (kF n f) n7 (B.alloc _) ⟨pB w.1,0,aj⟩ 1 1 [jp j] n7 n7 (wu<|ao w _) Hx Y B5 Y ay (pB w.1+1) ay ?_;intro g kh m S N u aW;let⟨m1,m2,m3,C,m5,m6⟩:=afr HM.1 z K HM.2.1 HM.2.2.1 L HM.2.2.2 R Q S N u;have o:bc ((kB m (F a ho)<|ζ (Z<|F g 0) (n+1) kh).1[a]? =Z (au (mP kU ho<|ζ (Z<|F g 0) (n+1) kh) Th (0,0))/\
  gK (kB m (F a ho)<|ζ (Z<|F g 0) (n+1) kh) a ho (ζ (Z<|F g 0) (n+1) kh) (n+1) (xv f n j)/\ui (kB m (F a ho)<|ζ (Z<|F g 0) (n+1) kh) (ζ (Z<|F g 0) (n+1) kh) (n+1) (xv f n j) K0/\
  aS (λb=>b=a\/Z b=rW v) w (kB m (F a ho)<|ζ (Z<|F g 0) (n+1) kh)/\(rW v=Z g\/g=pB w.1+1)):=⟨m3,C,m5,m6,u⟩;let c4:=C.1)
  |(go_at_call 245;apply(agt a ho (n+1) n _ (xv f n j) K0 _ o.2.1 Y Y o.2.2.1 (by
     refine⟨λx h0 q A=>?_,λh0 c hc aQ T=>?_⟩;let h1:wn x<n:=by simp[wn];omega
     have:=H x h0 Y;simp[xv];rwa [aI Y,aI A];simp[wn]at T;omega)).V;rintro e w5 ⟨rfl,d,D,r2,r3,k⟩))
 let⟨a1,a2,a3,i,s⟩:=o
 refine fC U U ⟨U,_,d,(k.3 a (bf.1 a1).1 D.3).E a1,D.2,r2,r3,⟨k.1.E i.1,cM i.2 k.2,λb a q=>(k.3 b (cS a i.2)<|λe=>?_).E (i.3 b a q)⟩,?_⟩;let t:b=g:=D4
 obtain h|h:=s;exact q (az (by rw[h,t]));omega;obtain h|h:=s;exact aA (by rw[h];rfl);refine az λG e=>?_;let t:g=G:=D4
 omega
structure Ak(w W:aq)(a c:Nat)(v:aB)(n:Nat)(f:Nat->Nat)(K:Nat->Key)(q:Nat)(f':Nat->Nat):Prop where
 heap:gK W a c v n f'
 keys:ui W v n f' K
 mix:mq n f f'
 dn:ym n (λx=>K (f' x)) q
 cy:aS (λb=>Z b=v.ownBlock) w W
def Ak.drewN{q f'}(h:Ak w W hb ho v n f K q f')(d):Ak w (W.drewN d) hb ho v n f K q f':=⟨h.1.drewN d,h.2.drewN d,h.3,h.4,⟨h.5.1,h.5.2,h.5.3⟩⟩
def qS(n:Nat)(f:Nat->Key)(q:Nat):Nat->Nat
 |0=>q|k+1=>kT n f q (2*q+1+k) (qS n f q k)
def Uj(n f q):∀k,qS n f q k<=2*q+k
 |0=>by simp[qS];omega|k+1=>by have:=Uj n f q k;simp[qS,kT];split<;>omega
def YP{R}(hr:fn.8=#[])(hd:a.2=[])(h:R (aG<|θ #[]) w):FJ P fn R Qf a w:=⟨hd,θ #[],L4,h⟩
def ahp(hb ho n i v f j w)(h:gK w hb ho v n f)(V:i<=n)(hn:n<=1048576)(Q:ui w v n f j)(P:ym n (λx=>j (f x)) i):
  ax ai 160 #[π<|Z<|F hb ho,I i] w λe l=>e=aG (θ #[])/\∃g,gK l hb ho v n g/\mq n f g/\Hp n (λx=>j (g x))/\aS (λb=>Z b=rW v) w l:=by
 have H:bc (Ak w w hb ho v n f j i f):=⟨h,Q,mq.refl _ _,P,ja _ _⟩;go_enter func160,ntmps160;go_wp2
 go_loopw [1,4,5] (λD _ _ wr=>∃q g,D=I (q:Nat)/\q<=n/\bc (Ak w wr hb ho v n f j q g)) (λD _ _ _=>n-pD (dw D))
 case atStart=>exact⟨i,f,U,V,H⟩
 case round=>
  obtain⟨q,g,rfl,hq,hR⟩:=hrel;let⟨sa,kh,hv,S,X⟩:=hR.1.form;have O:∀d,kD (wr.drewN d) (F hb ho)=Z (ζ sa n kh):=λd=>hv▸hR.1.1;clear hv S X;have L:bc (∀d x p,x<n->p<n->ax ai 195 #[π<|Z<|F hb ho,I (x:Nat),I (p:Nat)] (wr.drewN d) λe l=>e=aG (ω<|eI (j<|g x)<|j<|g p)/\∃u,l=wr.drewN (d+u)):=λd x p C hy=>by apply(VC hb ho n x p v g j (wr.drewN d) (hR.1.drewN d) C hy hn<|λx C=>((hR.2.drewN d) x C).1).V;rintro e l ⟨rfl,m,rfl⟩;exact⟨U,m,I3 ..⟩
  go_wp2;go_loopw [4,5] (λm c wi=>∃k:Nat,k<=2/\c=I ((2*q+1+k:Nat):Int)/\m=I (qS n (λx=>j (g x)) q k:Nat)/\∃d,wi=wr.drewN d) (λ_ c _=>2*q+3-pD (dw c));case atStart=>exact⟨0,Y,by go_num,U,0,U⟩
  case round=>
   obtain⟨k,hk,rfl,rfl,d,rfl⟩:=hrel;have aC:=Uj n (λx=>j (g x)) q k;generalize hm:qS n (λx=>j (g x)) q k=m at*;have c1:=O d;by_cases aE:k<2
   ·have W:((2*q+1+k:Nat):Int)<=2*(q:Int)+2:=Y;generalize z:2*q+1+k=c at*
    by_cases A:c<n
    ·have T:(c:Int)<(n:Int):=Y;have r:=L d c m A Y;cases s:eI (j<|g c) (j<|g m)with
     |true=>
      have o:qS n (λx=>j (g x)) q (k+1)=c:=by simp only[qS,kT,hm,z];exact aO ⟨A,s⟩
      rw[s]at r;go_wp2_with (go_at_call 195;apply r.V;rintro e G ⟨rfl,u,rfl⟩);refine⟨⟨k+1,Y,by go_num,by rw[o],_,U⟩,?_⟩;simp[dw];omega
     |false=>
      have o:qS n (λx=>j (g x)) q (k+1)=m:=by simp only[qS,kT,hm,z];exact aI (λh=>by rw[s]at h;cases h.2)
      rw[s]at r;go_wp2_with (go_at_call 195;apply r.V;rintro e G ⟨rfl,u,rfl⟩);refine⟨⟨k+1,Y,by go_num,by rw[o],_,U⟩,?_⟩;simp[dw];omega
    have T:¬(c:Int)<(n:Int):=Y;have o:qS n (λx=>j (g x)) q (k+1)=m:=by simp only[qS,kT,hm,z];exact aI<|λh=>A h.1
    go_wp2;refine⟨⟨k+1,Y,by go_num,by rw[o],_,U⟩,?_⟩;simp[dw];omega
   obtain rfl:k=2:=Y;have W:¬((2*q+1+2:Nat):Int)<=2*(q:Int)+2:=Y;have B:=hm;by_cases t:m=q;·subst t;go_wp2;have R:=hR.drewN d;exact YP U U ⟨U,g,R.1,R.3,R.4.done B,R.5⟩
   have aH:((m:Int)==(q:Int))=aa:=bV;let⟨l1,E,l3,l4⟩:=Up B t;have N:bc (ax ai 196 #[π<|Z<|F hb ho,I q,I m] (wr.drewN d) λe l=>e=aG (θ #[])/\Ak w l hb ho v n f j m (gZ g q m)):=by have R:=hR.drewN d;apply(Yt hb ho n q m v g (wr.drewN d) R.1 Y E<|λe=>t e.y).V;rintro e l ⟨rfl,a,b⟩;refine⟨U,a,R.2.mix (.gZ g Y E) b,R.3.E<|.gZ g Y E,?_,R.5.E b⟩;rw[VE];exact R.4.step B t
   go_wp2_with (go_at_call 196;apply N.V;rintro e G ⟨rfl,K⟩;have J:=aX K);refine⟨⟨m,_,U,Y,J⟩,?_⟩;simp[dw];omega
def yU{o K Q lm x}{z}(d:cY o lm=M)(b:o.2=.call {callee:=.builtin .append,args:=#[sl,x],argTypes:=#[t,u]}) (c:a.eval sl=v) (e:a.eval x=z) (hr:(rD #[t,u] o.3 #[v,z]).run P w=.ok v' w') (h:K (a.put o.1 v') w'):
  if cY o lm=M then tr P o a w K Q else K (a.put o.1 y) w:=by
 rw[aO d];unfold tr a7;simp[b,resolve,invoke,builtin,Cn,KH,FG,sW,nC,xR,c,e,hr];exact h
def sO{T}:∀(xs:av aB) (o:Nat) (W:aq) (a:aF aB),W.1[g]? =Z (au a T (0,0))->
  ∃b,(nb W g o xs).1[g]? =Z (au b T (0,0))/\pB b=pB a/\(∀i,i<o\/o+pA xs<=i->b[i]? =a[i]?)/\(∀i u,xs[i]? =Z u->o+i<pB a->b[o+i]? =Z u)/\(∀k,k≠g->(nb W g o xs).1[k]? =W.1[k]?)/\pB (nb W g o xs).1=pB W.1/\(nb W g o xs).4=W.4:=by
 intro xs;induction xs with
 |nil=>exact λo W a h=>⟨a,h,U,λ_ _=>U,λi u d=>by simp at d,λ_ _=>U,U,U⟩
 |cons x xs q=>
  intro o W a h;let⟨e,f,j,l,r,m,n,p⟩:=q (o+1) (kB W (F g o) x) _ (bG h o x);refine⟨e,f,by rw[j];simp,λi s=>?_,λi u d t=>?_,λk c=>(m k c).E (bC c),n.E ay,p.E U⟩;rw[l i j4];exact gn j4;cases i with
  |zero=>grind
  |succ i=>grind
def aab(s a L kh)(b:s=ζ a L kh)(hc:L<=kh)(hm:kh<=cP)(w):
  eZ 113 #[s,I 0,I 0] w s:=by
 subst b;rw[cP]at hm;go_enter func113,ntmps113;go_wp2
 all_goals (go_ret;exact⟨U,U⟩)
abbrev Ta(w:aq)(g L n:Nat)(ml:av aB):aq:=nb (nb w.drew g 0 ml) g (L-n) (rP n (ι .u8 0))
def aac(g L kh n ml cur w)(h0:0<n)(J:n<=L)(hc:L<=kh)(hm:kh<=cP)(hl:pA ml=L-n)(k:∀u∈ml,u.oneCell'=M)(a:w.1[g]? =Z (au cur 5 (0,0)))(N:pB cur=kh)(c:∀j u,ml[j]? =Z u->cur[n+j]? =Z u):
  ax ai 113 #[ζ (Z<|F g 0) L kh,I 0,I n] w λe B=>e=aG (ζ (Z<|F g 0) (L-n) kh)/\B=Ta w g L n ml:=by
 have c:∀j u,ml[j]? =Z u->kD w (F g<|n+j)=Z u:=λj u b=>aD a (c j u b);have o:∀j,j<L->qL (kD w<|F g j)=M:=λj d=>by rw[aD a<|gi Y];rfl
 have m:∀j,nc w (F g j)=aa:=λj=>bp a j
 let⟨q,x,O,z,Q⟩:=nG infoByte
 obtain⟨A,C,p⟩:∃A:iL,(if kh=n then Z (⟨g,0,aj⟩:iL)else Z ⟨g,n,aj⟩)=Z A/\(∀t u,ml[t]? =Z u->kD w.drew (A.add t)=Z u):=by by_cases h:kh=n;refine⟨⟨g,0,aj⟩,Hn,λt u b=>?_⟩;have e:pA ml=0:=Y;rw[vQ.1 e]at b;simp at b;exact⟨⟨g,n,aj⟩,Hn,λt u b=>by rw[Bw];exact c t u b⟩
 have r:bc ((rD #[158,158] 158 #[ζ (Z<|F g 0) 0 kh,ζ (Z A) (L-n)<|kh-n]).run ai w.drew=.ok (ζ (Z<|F g 0) (0+(L-n)) kh) (nb w.drew g (0+0*q.3) ml)):=KZ (P:=ai) w.drew 158 158 5 q dp x g 0 0 kh A (L-n) (kh-n) ml (by rw[z,hl];omega) p k Y (λj d=>by rw[xX,jM];exact(o j Y)) (λj d=>by rw[xX,jM];exact m j)
 have hv:=zeroValue5
 have H:∀i,(um #[158] i #[ζ (Z<|F g<|L-n) (L-(L-n))<|kh-(L-n)]).run ai (nb w.drew g 0 ml)=.ok (θ #[]) (Ta w g L n ml):=λi=>by have:=Lib.run_clear_slice (P:=ai) (nb w.drew g 0 ml) 158 5 i (ι .u8 0) dp hv U U g (L-n) (L-(L-n)) (kh-(L-n)) Y ?_ ?_;rw[this,show L-(L-n)=n by omega];intro j d;let⟨s,f,v,_⟩:=sO ml 0 w.drew cur a;rw[aD f<|gi Y];rfl;intro j d;let⟨s,f,v,_⟩:=sO ml 0 w.drew cur a;exact bp f _
 rw[cP]at hm;have G:((0:Int)==(n:Int))=aa:=bV;clear p c o m k hv a;go_enter func113,ntmps113
 go_upto_region 5 with fail
 refine ga (S:=λ_=>True) trivial λE=>?_;apply tl [0,1,2,3,4,5];refine rH 6 λK l=>?_
 (refine yU U U U U r ?_;simp)
 refine l _ _ (trivial)<|λD=>?_;clear l K;apply tl [7];refine dJ ?_
 (go_wp2;go_ret;exact⟨U,U⟩)
def IM(w t e ty z)(f:nf P t=Z (.slice e))(hv:∀w,(zeroValue e).run P w=.ok z w)(b o n c)(h:0<n)(zs)(g:(qA z.cells n).1=zs)(d:∀u∈zs,u.oneCell'=M)(hc:∀j,j<pA zs->qL (kD w<|F b<|o+j)=M)(hf:∀j,j<pA zs->nc w (F b<|o+j)=aa):
  (um #[t] ty #[ζ (Z<|F b o) n c]).run P w=.ok (θ #[]) (nb w b o zs):=by
 have a:=I7 (P:=P) b o zs 0 w Y Y d;simp at a;obtain⟨m,rfl⟩:∃m,n=m+1:=⟨n-1,Y⟩;simp[um,Cx f,hv,g,a]
def Tc{T ml zs}(m:w.1[g]? =Z (au cur T (0,0)))(t:pB cur=kh*k)(l:n+1<=kh)(hm:kh<=cP)(hl:pA ml=n*k)(u:pA zs=k):
  mT (nb (nb w.drew g 0 ml) g (n*k) zs) 0 T k (ζ (Z<|F g 0) n kh) n ml/\aS (·=g) w (nb (nb w.drew g 0 ml) g (n*k) zs):=by
 let⟨c,e,o,p,q,f,h,j⟩:=sO ml 0 w.drew cur m
 let⟨d,f1,f2,f3,f4,f5,f6,f7⟩:=sO zs (n*k) _ c e
 let s:n*k+k<=kh*k:=by rw[<-Ce];exact th k l
 refine⟨⟨hl,az ⟨g,kh,d,U,cO _,f1,Y,hm,Y,?_⟩⟩,f7.E j,xV (f6.E h).y,λb r a=>(f5 b a).E (f b a)⟩;refine ux λi=>?_
 grind
def DA{a:aF aB}{x kj m}(h:a.1.take m=x++kj)(c:pA x=k):∀j u,kj[j]? =Z u->a[k+j]? =Z u:=λj u b=>by
 let d:(x++kj)[k+j]? =Z u:=by rw[vO Y,c,Cd];exact b
 grind
def Ij{zs:av aB}(h:zs.all (·.oneCell')=M):∀u∈zs,u.oneCell'=M:=λu a=>nA.1 h u a
abbrev SJ:av aB:=[I 0,ξ ⟨#[]⟩,I 0,I 0,I 0,I 0,I 0,ξ ⟨#[]⟩,I 0,I 0]
abbrev SZ(w:aq)(g L:Nat)(ml:av aB):aq:=nb (nb w.drew g 0 ml) g ((L-1) *10) SJ
def Z9(g L kh ml cur w)(G:0<L)(hc:L<=kh)(hm:kh<=cP)(hl:pA ml=(L-1) *10)(m:∀u∈ml,u.oneCell'=M)(c:w.1[g]? =Z (au cur 134 (0,0)))(O:pB cur=kh*10)(d:∀j u,ml[j]? =Z u->cur[10+j]? =Z u):
  ax ai 269 #[ζ (Z<|F g 0) L kh,I 0,I 1] w λe x=>e=aG (ζ (Z<|F g 0) (L-1) kh)/\x=SZ w g L ml:=by
 let d:∀j u,ml[j]? =Z u->kD w (F g<|10+j)=Z u:=λj u a=>aD c (d j u a);let r:∀j,j<kh*10->qL (kD w<|F g j)=M:=λj b=>by rw[aD c<|gi Y];rfl
 let o:∀j,nc w (F g j)=aa:=λj=>bp c j;let q:(ai.info? 134).map (·.size)=Z 10:=aW
 let⟨k,p,v⟩:=gJ.1 q
 obtain⟨A,C,s⟩:∃A:iL,(if kh=1 then Z (⟨g,0,aj⟩:iL)else Z ⟨g,10,aj⟩)=Z A/\(∀t u,ml[t]? =Z u->kD w.drew (A.add t)=Z u):=by by_cases h:kh=1;refine⟨⟨g,0,aj⟩,Hn,λt u a=>?_⟩;let e:pA ml=0:=Y;rw[vQ.1 e]at a;simp at a;exact⟨⟨g,10,aj⟩,Hn,λt u a=>by rw[Bw];exact d t u a⟩
 let l:bc ((rD #[165,165] 165 #[ζ (Z<|F g 0) 0 kh,ζ (Z A) (L-1)<|kh-1]).run ai w.drew=.ok (ζ (Z<|F g 0) (0+(L-1)) kh) (nb w.drew g (0+0*k.3) ml)):=KZ w.drew 165 165 134 k underlying165 p g 0 0 kh A (L-1) (kh-1) ml (by rw[v,hl]) s m Y (λj b=>by rw[xX,jM];exact(r _ Y)) (λj b=>by rw[xX,jM];exact o _)
 let N:∀f,(um #[165] f #[ζ (Z<|F g<|(L-1) *10) (L-(L-1))<|kh-(L-1)]).run ai (nb w.drew g 0 ml)=.ok (θ #[]) (SZ w g L ml):=λf=>by let⟨z,i,B,_⟩:=sO ml 0 w.drew cur c;refine IM (nb w.drew g 0 ml) 165 134 f _ underlying165 zeroValue134 g ((L-1) *10) (L-(L-1)) (kh-(L-1)) Y _ (by rw[show L-(L-1)=1 by omega];kernel_rfl) (Ij n7) ?_ ?_;intro j b;have:j<10:=b;rw[aD i<|gi Y];rfl;exact λj _=>bp i _
 rw[cP]at hm;let H:(1:Int)<=(L:Int):=Y;let J:((kh:Int)==1)=decide (kh=1):=by by_cases h:kh=1<;>simp[h];omega
 go_enter func269,ntmps269
 go_upto_region 5 with fail
 refine ga (S:=λ_=>True) trivial λE=>?_;apply tl [0,1,2,3,4,5];refine rH 6 λK n=>?_
 (apply yU U U U U l.H;simp)
 refine n _ _ (trivial)<|λD=>?_;apply tl [7];refine dJ ?_
 (go_wp2;go_ret;exact⟨U,U⟩)
abbrev Vc:av aB:=[I 0,ω aa,I 0]
abbrev SY(w:aq)(g L:Nat)(ml:av aB):aq:=nb (nb w.drew g 0 ml) g ((L-1) *3) Vc
def Z5(g L kh ml cur w)(G:0<L)(hc:L<=kh)(hm:kh<=cP)(hl:pA ml=(L-1) *3)(m:∀u∈ml,u.oneCell'=M)(c:w.1[g]? =Z (au cur 188 (0,0)))(O:pB cur=kh*3)(d:∀j u,ml[j]? =Z u->cur[3+j]? =Z u):
  ax ai 244 #[ζ (Z<|F g 0) L kh,I 0,I 1] w λe x=>e=aG (ζ (Z<|F g 0) (L-1) kh)/\x=SY w g L ml:=by
 let d:∀j u,ml[j]? =Z u->kD w (F g<|3+j)=Z u:=λj u a=>aD c (d j u a);let r:∀j,j<kh*3->qL (kD w<|F g j)=M:=λj b=>by rw[aD c<|gi Y];rfl
 let o:∀j,nc w (F g j)=aa:=λj=>bp c j;let q:(ai.info? 188).map (·.size)=Z 3:=aW
 let⟨k,p,v⟩:=gJ.1 q
 obtain⟨A,C,s⟩:∃A:iL,(if kh=1 then Z (⟨g,0,aj⟩:iL)else Z ⟨g,3,aj⟩)=Z A/\(∀t u,ml[t]? =Z u->kD w.drew (A.add t)=Z u):=by by_cases h:kh=1;refine⟨⟨g,0,aj⟩,Hn,λt u a=>?_⟩;let e:pA ml=0:=Y;rw[vQ.1 e]at a;simp at a;exact⟨⟨g,3,aj⟩,Hn,λt u a=>by rw[Bw];exact d t u a⟩
 let l:bc ((rD #[106,106] 106 #[ζ (Z<|F g 0) 0 kh,ζ (Z A) (L-1)<|kh-1]).run ai w.drew=.ok (ζ (Z<|F g 0) (0+(L-1)) kh) (nb w.drew g (0+0*k.3) ml)):=KZ w.drew 106 106 188 k underlying106 p g 0 0 kh A (L-1) (kh-1) ml (by rw[v,hl]) s m Y (λj b=>by rw[xX,jM];exact(r _ Y)) (λj b=>by rw[xX,jM];exact o _)
 let N:∀f,(um #[106] f #[ζ (Z<|F g<|(L-1) *3) (L-(L-1))<|kh-(L-1)]).run ai (nb w.drew g 0 ml)=.ok (θ #[]) (SY w g L ml):=λf=>by let⟨z,i,B,_⟩:=sO ml 0 w.drew cur c;refine IM (nb w.drew g 0 ml) 106 188 f _ underlying106 zeroValue188 g ((L-1) *3) (L-(L-1)) (kh-(L-1)) Y _ (by rw[show L-(L-1)=1 by omega];kernel_rfl) (Ij n7) ?_ ?_;intro j b;have:j<3:=b;rw[aD i<|gi Y];rfl;exact λj _=>bp i _
 rw[cP]at hm;let H:(1:Int)<=(L:Int):=Y;let J:((kh:Int)==1)=decide (kh=1):=by by_cases h:kh=1<;>simp[h];omega
 go_enter func244,ntmps244
 go_upto_region 5 with fail
 refine ga (S:=λ_=>True) trivial λE=>?_;apply tl [0,1,2,3,4,5];refine rH 6 λK n=>?_
 (apply yU U U U U l.H;simp)
 refine n _ _ (trivial)<|λD=>?_;apply tl [7];refine dJ ?_
 (go_wp2;go_ret;exact⟨U,U⟩)
def Z6{x kj}(w)(h:mT w 0 188 3 v (n+1) (x++kj))(c:pA x=3)(q:∀u∈kj,u.oneCell'=M):
  ax ai 244 #[v,I 0,I 1] w λe f=>∃d,e=aG d/\mT f 0 188 3 d n kj/\aS (λb=>Z b=rW v) w f/\rW d=rW v:=by
 let m:pA kj=n*3:=by have:=h.1;simp[c]at this;omega
 obtain⟨_,h0⟩|⟨g,kh,p,rfl,t,l,o,i,j,s⟩:=h.2;omega;apply(Z5 g (n+1) kh kj p w Y o i m q l j<|DA s c).V;rintro e f ⟨rfl,rfl⟩
 let⟨a,b⟩:=Tc (zs:=Vc) l j o i m U
 exact⟨_,U,a,⟨b.1,b.2,λk r c=>b.3 k r λe=>c C1⟩,U⟩
def Z7(g n kh cur w)(h0:0<n)(hc:n<=kh)(hm:kh<=cP)(d:w.1[g]? =Z (au cur 130 (0,0)))(D:pB cur=kh):
  ax ai 159 #[ζ (Z<|F g 0) n kh,I ((n-1:Nat):Int),I n] w λe q=>e=aG (ζ (Z<|F g 0) (n-1) kh)/\q=nb w.drew g (n-1) [π aj]:=by
 let o:∀j,j<kh->qL (kD w<|F g j)=M:=λj a=>by rw[aD d<|gi Y];rfl
 let k:∀j,nc w (F g j)=aa:=λj=>bp d j;let m:(ai.info? 130).map (·.size)=Z 1:=aW
 let⟨p,l,E⟩:=gJ.1 m
 obtain⟨A,x⟩:∃A:iL,(if kh=n then Z (⟨g,0,aj⟩:iL)else Z ⟨g,n,aj⟩)=Z A:=by by_cases h:kh=n;exact⟨_,aO h⟩;exact⟨_,aI h⟩
 let f:bc ((rD #[107,107] 107 #[ζ (Z<|F g 0) (n-1) kh,ζ (Z A) 0<|kh-n]).run ai w.drew=.ok (ζ (Z<|F g 0) (n-1) kh) w.drew):=KZ w.drew 107 107 130 p underlying107 l g 0 (n-1) kh A 0 (kh-n) [] ay (λj u b=>by simp at b) (λu b=>by cases b) Y (λj a=>by simp at a) (λj a=>by simp at a)
 let C:∀c,(um #[107] c #[ζ (Z<|F g<|n-1) (n-(n-1))<|kh-(n-1)]).run ai w.drew=.ok (θ #[]) (nb w.drew g (n-1) [π aj]):=λc=>by refine IM w.drew 107 130 c _ underlying107 zeroValue130 g (n-1) (n-(n-1)) (kh-(n-1)) Y _ (by rw[show n-(n-1)=1 by omega];kernel_rfl) (Ij n7) ?_ ?_;intro j a;have:j<1:=a;exact o _ Y;exact λj _=>k _
 rw[cP]at hm;let r:(((n-1:Nat):Int)==(n:Int))=aa:=bV;let s:((n-1:Nat):Int)<=(n:Int):=Y;let t:n-1<=kh:=Y;let v:n-1<=n:=Y;go_enter func159,ntmps159
 go_upto_region 5 with fail
 refine ga (S:=λ_=>True) trivial λB=>?_;apply tl [0,1,2,3,4,5];refine rH 6 λK i=>?_
 (apply yU U U U U f.H;simp)
 refine i _ _ (trivial)<|λz=>?_;apply tl [7];refine dJ ?_
 (go_wp2;go_ret;exact⟨U,U⟩)
abbrev down(f:Nat->Nat)(m:Nat):Nat->Nat:=λx=>if x=0 then f m else f x
def afk{m d' kU}{j:aY}(C:w.1[hb]? =Z (au kU j (0,0)))(G:ho<pB kU)(E:w.1[g]? =Z (au cur 130 (0,0)))(N:m+1<=kh)(hm:kh<=cP)(hc:pB cur=kh)(i:hb≠g)(H:∀x,x<m+1->cur[x]? =Z (jp<|f x))(B:ui w (ζ (Z<|F g 0) (m+1) kh) (m+1) f K)(D:∀x,x<m+1->f x≠hb):
  ∃W,kB (nb ((kB (w.drewN d) (F g 0)<|jp<|f m).drewN d') g m [π aj]) (F hb ho) (ζ (Z<|F g 0) m kh)=W/\W.1[hb]? =Z (au (mP kU ho<|ζ (Z<|F g 0) m kh) j (0,0))/\
   gK W hb ho (ζ (Z<|F g 0) m kh) m (down f m)/\ui W (ζ (Z<|F g 0) m kh) m (down f m) K/\aS (λb=>b=hb\/b=g) w W/\(nb ((kB (w.drewN d) (F g 0)<|jp<|f m).drewN d') g m [π aj]).1[hb]? =Z (au kU j (0,0)):=by
 let g0:=E;let A:((kB (w.drewN d) (F g 0)<|jp<|f m).drewN d').1[g]? =_:=(bG g0 0<|jp<|f m)
 let⟨r,s,t,u,J,o,v,z⟩:=sO [π aj] m _ _ A
 let b1:=(o hb i).E ((bC i).E C);let n:=bG b1 ho (ζ (Z<|F g 0) m kh)
 let cy:aS (λb=>b=hb\/b=g) w (kB (nb ((kB (w.drewN d) (F g 0)<|jp<|f m).drewN d') g m [π aj]) (F hb ho)<|ζ (Z<|F g 0) m kh):=⟨z,by simp;rw[v];simp,λb L k=>(bC<|λe=>k (aA e)).E ((o b λe=>k (az e)).E<|bC λe=>k (az e))⟩
 refine⟨_,U,n,⟨aD n (by simp[G]),⟨by simp[kF],az ⟨g,kh,r,U,cO _,(bC<|λe=>i e.y).E s,Y,hm,by simp at t;omega,?_⟩⟩,λe=>i D4⟩,λx O=>?_,cy,b1⟩;refine ux λx=>?_;rw[vP];split;rename_i h;let p:x<m:=Y;rw[Ir p,zw,u x<|aA p];simp[down]
 by_cases e:x=0
 subst e;rw[aO U,PU,aO Y];rw[aI e,gn Y];exact H x Y;exact(Kl bV).y
 let mi:∀c,c<m+1->mj (kB (nb ((kB (w.drewN d) (F g 0)<|jp<|f m).drewN d') g m [π aj]) (F hb ho)<|ζ (Z<|F g 0) m kh) (f c) (K<|f c)/\Z (f c)≠Z g:=λc q=>by let⟨a,b⟩:=B c q;let l:f c≠g:=λe=>b C1;exact⟨a.cy cy<|λe=>e.e (D c q) l,λe=>l (by simpa using e)⟩
 simp[down]
 by_cases e:x=0
 rw[aO e];exact mi m Y;rw[aI e];exact mi x Y
def afj(hb ho m v f K0 kU Th w)(n:w.1[hb]? =Z (au kU Th (0,0)))(s:kU[ho]? =Z v)(X:Th≠130)(t:mT w 0 130 1 v (m+1) (kF (m+1) f))(hn:m<1048576)(c:ui w v (m+1) f K0)(af:∀x,x<m+1->f x≠hb)(W:Hp (m+1) λx=>K0 (f x)):
  ax ai 105 #[π<|Z<|F hb ho] w λe a=>e=aG (θ #[jp<|f 0,ω M])/\∃z j,a.1[hb]? =Z (au (mP kU ho z) Th (0,0))/\mT a 0 130 1 z m (kF m j)/\mq m (down f m) j/\Hp m (λx=>K0 (j x))/\aS (λb=>b=hb\/Z b=rW v) w a/\rW z=rW v:=by
 have ah:Z hb≠rW v:=λe=>by rcases t.2 with⟨r,_⟩|⟨g',aQ,aW,r,_,A,_⟩;rw[r]at e;cases e;rw[r]at e;cases e;rw[n]at A;cases A;exact X rfl
 have k:gK w hb ho v (m+1) f:=⟨aD n s,t,ah⟩;obtain⟨g,kh,aT,rfl,i,E,G,k3,H,h⟩:=k.full Y;have q:=k.1;have c1:=aD i (h m Y);have fz:=bp i 0;have c2:=aD i (h 0 Y);have R:bc (∀d,ax ai 103 #[π<|Z<|F hb ho] (w.drewN d) λe a=>e=aG (θ #[jp<|f 0,ω M])/\a=w.drewN d):=λd=>Vl hb ho (m+1) _ f (w.drewN d) (k.drewN d) Y;have HM:bc (∀d d',_):=λd d'=>afk (d:=d) (d':=d') n ((bf.1 s).1) i E G k3 H h c af
 let⟨W6,C,J,L,N,O,u⟩:=HM 1 1
 have Q:bc (ax ai 159 #[ζ (Z<|F g 0) (m+1) kh,I m,I<|(m:Int)+1] (kB (w.drewN 1) (F g 0)<|jp<|f m) λe a=>e=aG (ζ (Z<|F g 0) m kh)/\kD a (F hb ho)=Z (ζ (Z<|F g 0) (m+1) kh)/\nc a (F hb ho)=aa/\
   (kB a (F hb ho)<|ζ (Z<|F g 0) m kh).1[hb]? =Z (au (mP kU ho<|ζ (Z<|F g 0) m kh) Th (0,0))/\gK (kB a (F hb ho)<|ζ (Z<|F g 0) m kh) hb ho (ζ (Z<|F g 0) m kh) m (down f m)/\ui (kB a (F hb ho)<|ζ (Z<|F g 0) m kh) (ζ (Z<|F g 0) m kh) m (down f m) K0/\aS (λb=>b=hb\/b=g) w (kB a (F hb ho)<|ζ (Z<|F g 0) m kh)):=by
  have g0:=i;have mi:ax ai 159 #[ζ (Z<|F g 0) (m+1) kh,I m,I<|(m:Int)+1] (kB (w.drewN 1) (F g 0)<|jp<|f m) λe a=>e=aG (ζ (Z<|F g 0) m kh)/\a=nb ((kB (w.drewN 1) (F g 0)<|jp<|f m).drewN 1) g m [π aj]:=Z7 g (m+1) kh _ _ Y E G (bG g0 0<|jp<|f m) bV;apply mi.V;rintro e a ⟨rfl,rfl⟩;refine⟨U,aD u s,bp u ho,?_⟩;have V:=C;change(iQ (nb ((kB (w.drewN 1) (F g 0)<|jp<|f m).drewN 1) g m [π aj]) ⟨hb,ho,aj⟩<|ζ (Z<|F g 0) m kh).1[hb]? =_/\gK (iQ (nb ((kB (w.drewN 1) (F g 0)<|jp<|f m).drewN 1) g m [π aj]) ⟨hb,ho,aj⟩<|ζ (Z<|F g 0) m kh) _ _ _ _ _/\ui (iQ (nb ((kB (w.drewN 1) (F g 0)<|jp<|f m).drewN 1) g m [π aj]) ⟨hb,ho,aj⟩<|ζ (Z<|F g 0) m kh) _ _ _ _/\aS _ _ (iQ (nb ((kB (w.drewN 1) (F g 0)<|jp<|f m).drewN 1) g m [π aj]) ⟨hb,ho,aj⟩<|ζ (Z<|F g 0) m kh);rw[V];exact⟨J,L,N,O⟩
 have T:kD (kB (w.drewN 1) (F g 0)<|jp<|f m) (F hb ho)=Z (ζ (Z<|F g 0) (m+1) kh):=tM q H;have bq:(m:Int)<(m:Int)+1:=Y;have bn:(0:Int)<(m:Int)+1:=Y;clear HM J L N O u h c t k i n C;go_enter func105,ntmps105
 go_upto_region 4 with(go_at_call 103;apply(R 0).V;rintro e w1 ⟨rfl,rfl⟩)
 refine ga (S:=λa=>kD a (F hb ho)=Z (ζ (Z<|F g 0) (m+1) kh)) q λbl=>?_;apply tl [0,1,2,3,4,5,6,7];apply tl [8,9];refine rH 10 λK c=>?_;go_simp;refine c _ _ q<|λhA=>?_;clear c K;apply tl [11];refine rH 12 λK c=>?_;go_simp;refine c _ _ T<|λhB=>?_;clear c K;refine dJ ?_
 go_wp2_with (first
  |(go_at_call 159;apply Q.V;rintro e w5 ⟨rfl,c5,f5,B⟩;have p:=aX B;clear B)
  |(go_at_call 160;apply(ahp hb ho m 0 _ (down f m) K0 _ p.2.1 Y Y p.2.2.1 (by
     refine⟨λx h0 h hp=>?_,λh0=>by omega⟩;have:=W x h0 Y;simp only[down];rwa [aI hp,aI Y])).V;rintro e w7 ⟨rfl,j,P,r2,r3,o⟩))
 go_ret2
 let⟨a1,a2,a3,l⟩:=p
 exact⟨U,_,j,(o.3 hb (bf.1 a1).1 P.3).E a1,P.2,r2,r3,⟨o.1.E l.1,cM l.2 o.2,λb D h=>(o.3 b (cS D l.2)<|λe=>h (az e)).E (l.3 b D<|λe=>h (e.e aA λe=>az C1))⟩,U⟩
abbrev bP(x:UInt8):aB:=ι .u8 (x.toNat:Int)
def fq:aF UInt8->Nat->av UInt8->aF UInt8
 |B,_,[]=>B|B,o,x::a=>fq (mP B o x) (o+1) a
def AP:∀(xs:av UInt8) (B:aF UInt8) (o:Nat),pB (fq B o xs)=pB B
 |[],_,_=>rfl|x::xs,B,o=>by rw[fq,AP xs];simp
abbrev pQ(W:aq)(b:Nat)(B:aF UInt8):Prop:=W.1[b]? =Z (au (B.map bP) 5 (0,0))
def Bb:∀(xs:av UInt8) (o:Nat) (W:aq) (B:aF UInt8),pQ W g B->
  pQ (nb W g o<|xs.map bP) g (fq B o xs)/\(∀k,k≠g->(nb W g o<|xs.map bP).1[k]? =W.1[k]?)/\pB (nb W g o<|xs.map bP).1=pB W.1/\(nb W g o<|xs.map bP).4=W.4
 |[],o,W,B,h=>⟨h,λ_ _=>U,U,U⟩
 |x::xs,o,W,B,h=>by
  let f:pQ (kB W (F g o)<|bP x) g (mP B o x):=by
   have:=bG h o (bP x);rw[pQ];rw[this]
   congr 2;exact(zy ..).y
  obtain⟨a,b,c,d⟩:=Bb xs (o+1) _ _ f;exact⟨a,λk e=>(b k e).E (bC e),c.E ay,d.E U⟩
variable{B:aF UInt8}
def Of(h:pQ W b B)(a:i<pB B):kD W (F b i)=Z (bP B[i]):=aD h D2
abbrev dZ(c:Nat×av UInt8):av aB:=I (c.1:Int)::c.2.map bP
structure dc(W:aq)(d bb db:Nat)(cv:aB)(n:Nat)(B D:aF UInt8)(C:av (Nat×av UInt8)):Prop where
 box:W.1[d]? =Z (au #[ζ (Z (F bb 0)) n n,ζ (Z (F db 0)) n n,cv] 161 (0,0))
 bytes:pQ W bb B
 fX:pQ W db D
 qz:mT W 0 274 5 cv C.length (C.flatMap dZ)
 rg:B.size=n/\D.size=n
 fits:∀c∈C,c.1+4<=n/\c.2.length=4
 sc:bb≠db
 pu:n<=65536
def aaj(d a db n mf len cv B D)(C:av (Nat×av UInt8))(w)(h:dc w d a db cv n B D C)(hl:mf+len<=n):
  eZ 54 #[jp d,I mf,I len] w (ξ ⟨B.extract mf<|mf+len⟩):=by
 let f:=aJ w d 0 (ζ (Z<|F a 0) n n) h.1;obtain⟨A,b⟩:∃A:iL,(if n=mf then Z (⟨a,0,aj⟩:iL)else Z ⟨a,mf,aj⟩)=Z A:=j4
 let o:=h.8;let p:=h.5.1
 let k:∀kh,(convert 158 9<|ζ (Z A) len kh).run ai w=.ok (ξ ⟨B.extract mf<|mf+len⟩) w:=λkh=>by let c:pA (B.extract mf<|mf+len).1=len:=bV;have:=yd w 158 9 5 A kh (B.extract mf<|mf+len).1 dp kc gc (λj l=>by let m:j<len:=Y;rw[aI Y]at b;cases b;rw[Bw,Of h.2 Y];simp);rwa [c]at this
 let g:((mf:Int)+(len:Int))<=(n:Int):=Y;let i:(mf:Int)<=(mf:Int)+(len:Int):=Y
 trace_state
 go_enter func54,ntmps54;go_wp2;go_ret;exact⟨U,U⟩
def WL(l:av UInt8):∀u∈l.map bP,u.oneCell'=M:=λu a=>by obtain⟨x,_,rfl⟩:=jY.1 a;rfl
def Oy(w dT sT ty elem b o dLen dCap t l)(d:nf P dT=Z (.slice elem))(e:∀w,(JV elem).run P w=.ok 1 w)(hl:t.1.1.take dLen=l)(hc:∀j,j<pA l->qL (kD w<|F b<|o+j)=M)(hf:∀j,j<pA l->nc w (F b<|o+j)=aa):
  ∃r,(uq #[dT,sT] ty #[ζ (Z<|F b o) dLen dCap,ξ t]).run P w=.ok r (nb w b o<|l.map bP):=by
 have a:=I7 (P:=P) b o (l.map bP) 0 w j4 j4 (WL l);simp at a;let f:pA t.1.1=pC t:=U
 let c:List.take (Nat.min t.size dLen) (t.1.1.map bP)=l.map bP:=by
  rw[<-List.map_take,<-hl]
  congr 1;by_cases h:pC t<=dLen;rw[show Nat.min t.size dLen=pC t from uE h,qE Y,qE Y];rw[show Nat.min t.size dLen=dLen from Nat.min_eq_right Y]
 refine⟨goInt<|Nat.min t.size dLen,?_⟩;simp[uq,Cx d,EK,Builtin.firstCells,e];rw[show List.take (t.size.min dLen) (List.map (λb=>BX IntKind.u8 ↑b.toNat) t.1.1)=l.map bP from c,a];rfl
def Ja(w):(JV 5).run ai w=.ok 1 w:=by let⟨e,a,c,b,d⟩:=nG infoByte;simp[JV,typeInfo,a,b]
def xn(mf:Nat)(s:av UInt8)(q:Nat):av (Nat×av UInt8):=(dA q).map λi=>(mf+4*i,(s.drop<|4*i).take 4)
def agQ(mf s q):xn mf s (q+1)=xn mf s q++[(mf+4*q,(s.drop<|4*q).take 4)]:=by simp[xn,uB]
def Gi(w W:aq)(d c f n mf:Nat)(B D:aF UInt8)(C:av (Nat×av UInt8))(e:aB)(s:av UInt8)(q:Nat):Prop:=∃a,dc W d c f a n B D (C++xn mf s q)/\aS (λb=>b=d\/b=c\/Z b=rW e) w W/\(rW a=rW e\/∀g,rW a=Z g->pB w.1<=g)
def acJ:(ai.info? 274).map (λi=>(i.8,i.3,i.4))=Z (Z<|ν #[I 0,ι .u8 0,ι .u8 0,ι .u8 0,ι .u8 0],5,16):=aW
def IA{o K Q lm x}{z}(d:cY o lm=M)(b:o.2=.call {callee:=.builtin .copy,args:=#[sl,x],argTypes:=#[t,u]}) (c:a.eval sl=v) (e:a.eval x=z) (hr:(uq #[t,u] o.3 #[v,z]).run P w=.ok v' w') (h:K (a.put o.1 v') w'):
  if cY o lm=M then tr P o a w K Q else K (a.put o.1 y) w:=by
 rw[aO d];unfold tr a7;simp[b,resolve,invoke,builtin,Cn,KH,FG,sW,nC,xR,c,e,hr];exact h
abbrev eN(o:Int)(a b1 b c:UInt8):aF aB:=#[I o,bP a,bP b1,bP b,bP c]
def agN{wr}(o)(b b1 c d:UInt8)(k):
  ∃a,nb ((lL wr<|au (eN o 0 0 0 0) 274).drewN k) wr.1.size 1 ([b,b1,c,d].map bP)=a/\a.1[pB wr.1]? =Z (au (eN o b b1 c d) 274 (0,0))/\aK wr a/\pB a.1=pB wr.1+1:=by
 let h0:((lL wr<|au (eN o 0 0 0 0) 274).drewN k).1[pB wr.1]? =Z (au (eN o 0 0 0 0) 274 (0,0)):=ao wr _;let e:=bG (bG h0 1<|bP b) 2 (bP b1);refine⟨_,U,bG (bG e 3<|bP c) 4 (bP d),?_,by simp[World.setCells]⟩;exact((((jj (bq) _).setCell (aR _) _).setCell (aR _) _).setCell (aR _) _).setCell (aR _) _
def dc.below(h:dc w d bb db cv n B D C)(a:aK w w'):dc w' d bb db cv n B D C:=by refine⟨bT a h.1,bT a h.2,bT a h.3,⟨h.4.1,?_⟩,h.5,h.6,h.7,h.8⟩;obtain b|⟨g,kh,c,b,e,f,i⟩:=h.4.2;exact aA b;exact az ⟨g,kh,c,b,e,bT a f,i⟩
def dc.cm(h:dc w d bb db cv n B D C){x}{T:aY}(j:w.1[k]? =Z (au x T (0,0)))(i:T≠274):Z k≠rW cv:=λe=>by obtain⟨a,_⟩|⟨f,b,c,a,_,g,_⟩:=h.4.2;rw[a]at e;cases e;rw[a]at e;cases e;grind
def OC{a j f:aq}{AA C' ml c}(R:dc a d bb db AA n B D C')(q:mT f 0 274 5 (ζ (Z<|F g 0) (pA C'+1) kh) (pA C'+1) (C'.flatMap dZ++ml))(m:nz j f (rW AA))(p:j.1=(a.alloc x).1)(C:j.4=a.4)(u:rW AA=Z g\/g=pB a.1+1)(hc:ml=dZ c)(z:c.1+4<=n/\pA c.2=4):
  kD f (F d 2)=Z AA/\nc f (F d 2)=aa/\dc (kB f (F d 2)<|ζ (Z<|F g 0) (pA C'+1) kh) d bb db (ζ (Z<|F g 0) (pA C'+1) kh) n B D (C'++[c])/\aS (λb=>b=d\/Z b=rW AA) a (kB f (F d 2)<|ζ (Z<|F g 0) (pA C'+1) kh):=by
 let lw:∀b,b<pB a.1->Z b≠rW AA->f.1[b]? =a.1[b]? :=λb l i=>(m.5 b (by rw[p];simp;omega) i).E (by rw[p];exact bj a _ b l);let lt:∀{b:Nat} {o:Obj},a.1[b]? =Z o->b<pB a.1:=λh=>(bf.1 h).1;let k:=(lw d (lt R.1)<|R.cm R.1 aM).E R.1;let v:=fO R.2 R.1 ay;let w:=fO R.3 R.1 ay
 let A:g≠d:=λe=>by obtain h|h:=u;exact R.cm R.1 aM (by rw[h,e]);have:=lt R.1;omega
 have r:=m.4;rw[p]at r;simp at r;refine⟨aD k U,bp k _,⟨(bG k 2<|ζ (Z<|F g 0) (pA C'+1) kh),(bC v).E<|(lw bb (lt R.2)<|R.cm R.2 aM).E R.2,(bC w).E<|(lw db (lt R.3)<|R.cm R.3 aM).E R.3,?_,R.5,?_,R.7,R.8⟩,⟨m.1.E C,bV,λb l i=>(bC<|λe=>i (aA e)).E (lw b l λe=>i (az e))⟩⟩;rw[fQ,rL];let e:[c].flatMap dZ=ml:=by simp[hc]
 rw[e];refine⟨q.1,?_⟩;obtain⟨h,_⟩|⟨N,L,t,G,H,J,K⟩:=q.2;cases h;cases G;exact az ⟨g,kh,t,rfl,H,(bC A).E J,K⟩;intro s E;obtain h|h:=jg.1 E;exact R.6 s h;have:s=c:=Pa
 rw[this];exact z
def aam(d k db n mf m cv B D)(C:av (Nat×av UInt8))(s w)(h:dc w d k db cv n B D C)(cC:mf<n)(hl:mf+pC s<=n)(hm:pC s=4*m)(hC:pA C+m<=1099511627776):
  ax ai 200 #[jp d,I mf,ξ s] w λe w'=>e=aG (θ #[])/\Gi w w' d k db n mf (fq B mf s.1.1) D C cv s.1.1 m:=by
 have hn:=h.8;have hz:=h.5.1;have c0:=aJ w d 0 (ζ (Z<|F k 0) n n) h.1;have e0:(mf:Int)<=(n:Int):=Y;have cB:¬n=mf:=Y
 obtain⟨r,UO⟩:∃r,(uq #[158,9] 3 #[ζ (Z<|F k mf) (n-mf)<|n-mf,ξ s]).run ai w=.ok r (nb w k mf<|s.1.1.map bP):=by have cx:pA s.1.1=pC s:=U;exact Oy w 158 9 3 5 k mf (n-mf) (n-mf) s s.1.1 dp Ja (qE Y) (λj hj=>by rw[Of h.2 Y];rfl) (λj hj=>bp h.2 _)
 have H1:bc (Gi w (nb w k mf<|s.1.1.map bP) d k db n mf (fq B mf s.1.1) D C cv s.1.1 0):=by
  obtain⟨a1,a2,a3,a4⟩:=Bb s.1.1 mf w B h.2;have bQ:d≠k:=fO h.1 h.2 ay;have bO:Z k≠rW cv:=λe=>by obtain⟨G,_⟩|⟨J,bq,bt,G,_,Q,_⟩:=h.4.2;rw[G]at e;cases e;rw[G]at e;cases e;exact fO h.2 Q ay rfl
  refine⟨cv,⟨(a2 d bQ).E h.1,a1,(a2 db<|λe=>h.7 e.y).E h.3,?_,⟨by rw[AP];exact hz,h.5.2⟩,by simpa[xn]using h.6,h.7,hn⟩,⟨a4,Y,λb _ hb=>a2 b λe=>hb (az<|aA e)⟩,aA U⟩;have:C++xn mf s.1.1 0=C:=by simp[xn]
  rw[this];refine⟨h.4.1,?_⟩;obtain G|⟨J,bq,bt,G,Q,h3,h4⟩:=h.4.2;exact aA G;refine az ⟨J,bq,bt,G,Q,(a2 J λe=>bO (by rw[G,<-e];rfl)).E h3,h4⟩
 generalize nb w k mf (s.1.1.map bP)=W1 at*;have HM:=aX hm;clear h hm;go_enter func200,ntmps200;go_wp2
 go_loopw [6] (λiv wr=>∃t q:Nat,iv=I (t:Int)/\bc (t=4*q/\q<=m/\Gi w wr d k db n mf (fq B mf s.1.1) D C cv s.1.1 q)) (λiv _=>4*m-pD (dw iv))
 case atStart=>exact⟨0,0,U,U,cO _,H1.H⟩
 case round=>
  obtain⟨t,q,rfl,hR⟩:=hrel;by_cases cz:t<pC s
  ·have h4:(t:Int)<(pC s:Int):=Y;have cE:t+4<=pC s:=by have:=hR.H.1;have:=HM.H;omega
   obtain⟨l,R,T,O⟩:=hR.H.2.2;have c2:=aJ wr d 2 l R.1;have HR:bc (dc wr d k db l n (fq B mf s.1.1) D (C++xn mf s.1.1 q)/\aS (λb=>b=d\/b=k\/Z b=rW cv) w wr/\(rW l=rW cv\/∀g,rW l=Z g->pB w.1<=g)):=⟨R,T,O⟩;have hd:d<pB wr.1:=(bf.1 R.1).1;have cA:t<=pC s:=Y;obtain⟨p,b1,v,z,bC⟩:∃p b1 v z:UInt8,(s.1.1.drop t).take 4=[p,b1,v,z]:=by
    have bR:pA ((s.1.1.drop t).take 4)=4:=by have:pA s.1.1=pC s:=U;simp;omega
    match(s.1.1.drop t).take 4,bR with
    |[p,b1,v,z],_=>exact⟨p,b1,v,z,U⟩
   obtain⟨f,bB,N,bn,YR⟩:=agN (wr:=wr) ((mf:Int)+(t:Int)) p b1 v z 1;obtain⟨r2,Dt⟩:∃r2,(uq #[158,9] 3 #[ζ (Z<|F wr.1.size 1) 4 4,ξ<|mS s t s.size]).run ai (lL wr<|au (eN ((mf:Int)+(t:Int)) 0 0 0 0) 274).drew=.ok r2 f:=by
    have h0:(lL wr<|au (eN ((mf:Int)+(t:Int)) 0 0 0 0) 274).drew.1[pB wr.1]? =Z (au (eN ((mf:Int)+(t:Int)) 0 0 0 0) 274 (0,0)):=ao wr _;rw[<-bB];refine Oy _ 158 9 3 5 wr.1.size 1 4 4 (mS s t s.size) [p,b1,v,z] dp Ja ?_ (λj hj=>?_)<|λj hj=>bp h0 _;rw[<-bC];simp;rw[List.take_take,uE Y];match j,hj with
    |0,_|1,_|2,_|3,_=>rw[aD h0 (i:=_) U];rfl
   have bH:=aX Dt;clear R T O Dt bB;go_upto_region 5 with fail;refine ga (S:=λ_=>True) trivial λcq=>?_;apply tl [0,1,2,3,4];refine rH 5 λK a=>?_;(refine IA U U U U bH.H ?_;simp);refine a.H _ _ (trivial)<|λcm=>?_;clear a K;refine dJ ?_;obtain⟨c,V⟩:∃c,C++xn mf s.1.1 q=c:=⟨_,U⟩;have E:bc (dc f d k db l n (fq B mf s.1.1) D c/\aS (λb=>b=d\/b=k\/Z b=rW cv) w f/\(rW l=rW cv\/∀g,rW l=Z g->pB w.1<=g)):=⟨V▸HR.H.1.below bn,HR.H.2.1.E<|.below bn,HR.H.2.2⟩;have aK:bc (∀x,mT (f.alloc x) 0 274 5 l (pA c)<|c.flatMap dZ):=λx=>E.H.1.4.alloc x;have aC:bc (∀u∈dZ (mf+t,[p,b1,v,z]),u.oneCell'=M):=Ij U;have cD:pA c+1<=1099511627776:=by have G:=hR.H.1;have Q:=HM.H;rw[<-V];simp[xn];omega
   have an:bc ((mf+t,[p,b1,v,z]).1+4<=n/\pA (mf+t,[p,b1,v,z]).2=4):=⟨by show mf+t+4<=n;omega,U⟩;obtain⟨iS,aQ,aT,aW,jR⟩:=nG acJ;have cj:=aJ f d 2 l E.H.1.1;have k0:=aJ f wr.1.size 0 (I<|(mf:Int)+(t:Int)) N;have k1:=aJ f wr.1.size 1 (bP p) N;have k2:=aJ f wr.1.size 2 (bP b1) N;have k3:=aJ f wr.1.size 3 (bP v) N;have k4:=aJ f wr.1.size 4 (bP z) N;have cw:d<pB f.1:=Y;have bX:=aX V;have HW:=aX YR
   have J4:bc (∀(g kh:Nat) (A:aq),(dc (kB A (F d 2)<|ζ (Z<|F g 0) (pA c+1) kh) d k db (ζ (Z<|F g 0) (pA c+1) kh) n (fq B mf s.1.1) D (c++[(mf+t,[p,b1,v,z])])/\aS (λb=>b=d\/Z b=rW l) f (kB A (F d 2)<|ζ (Z<|F g 0) (pA c+1) kh)/\(rW l=Z g\/g=pB f.1+1))->
     (∃t1 q1:Nat,BX cJ ((t:Int)+4)=I (t1:Int)/\bc (t1=4*q1/\q1<=m/\Gi w (kB A (F d 2)<|ζ (Z<|F g 0) (pA c+1) kh) d k db n mf (fq B mf s.1.1) D C cv s.1.1 q1))/\4*m-pD (dw<|I<|(t:Int)+4)<4*m-pD (dw<|I (t:Int))):=λg kh A W=>by
    have G:=hR.H.1;have Q:=HM.H;refine⟨⟨t+4,q+1,by go_num,Y,Y,ζ (Z<|F g 0) (pA c+1) kh,?_,?_,?_⟩,by simp[dw];omega⟩;rw[agQ,<-lS,V,<-G,bC];exact W.1;refine⟨W.2.1.1.E E.H.2.1.1,cM E.H.2.1.2 W.2.1.2,λb hb hx=>(W.2.1.3 b (cS hb E.H.2.1.2)<|λe=>?_).E (E.H.2.1.3 b hb hx)⟩;obtain e|e:=e;exact hx<|aA e;obtain o|o:=E.H.2.2;exact hx<|az<|az<|e.E o;have:=o b e.y;omega;obtain o|o:=W.2.2;obtain o2|o2:=E.H.2.2;exact aA (by rw[<-o2,o];rfl);refine az λJ e=>?_;have e':g=J:=D4
    exact o2 J (by rw[o,e']);refine az λJ e=>?_;have e':g=J:=D4
    have:=E.H.2.1.2;omega
   clear N bn YR V;go_upto_region 6 with fail;refine ga (S:=λ_=>True) trivial λcr=>?_;apply tl [0,1,2,3];refine aH [4,5]<|.cons U (λK a=>?_) ?_;·go_simp;refine a.H _ _ (trivial)<|λhA=>?_;clear a K;refine rH 5 λK a=>?_;go_simp;refine a.H _ _ (trivial)<|λhB=>?_;clear a K;refine rH 6 λK a=>?_;go_simp;refine a.H _ _ (trivial)<|λhC=>?_;clear a K;refine rH 7 λK a=>?_;(refine Rb _ n7 _ _ 159 n7 0 274 iS _ 5 16 underlying159 aQ aT aW jR n7 Y l (pA c) (c.flatMap dZ) n7 (aK.H _) ⟨pB f.1,0,aj⟩ 1 1 (dZ (mf+t,[p,b1,v,z])) n7 n7 (wu<|ao f _) (aC.H) Y B5 Y ay (pB f.1+1) ay ?_;intro g kh A L X H bD;obtain⟨f1,f2,f3,f4⟩:=OC E.H.1 L X U U H U an.H;have P:bc (dc (kB A (F d 2)<|ζ (Z<|F g 0) (pA c+1) kh) d k db (ζ (Z<|F g 0) (pA c+1) kh) n (fq B mf s.1.1) D (c++[(mf+t,[p,b1,v,z])])/\aS (λb=>b=d\/Z b=rW l) f (kB A (F d 2)<|ζ (Z<|F g 0) (pA c+1) kh)/\(rW l=Z g\/g=pB f.1+1)):=⟨f3,f4,H⟩;clear f3 f4 L H);refine a.H _ _ (trivial)<|λhG=>?_;clear a K;apply tl [8,9];refine rH 10 λK a=>?_;go_simp;refine a.H _ _ (trivial)<|λhH=>?_;clear a K;refine dJ ?_;go_wp2;exact J4.H g kh A P.H
   refine .cons U (λK a=>?_) .nil;go_simp;refine a.H _ _ (trivial)<|λhA=>?_;clear a K;refine aH [4,6]<|.cons U (λK a=>?_) ?_;·go_simp;refine a.H _ _ (trivial)<|λhB=>?_;clear a K;refine rH 6 λK a=>?_;go_simp;refine a.H _ _ (trivial)<|λhC=>?_;clear a K;refine rH 7 λK a=>?_;(refine Rb _ n7 _ _ 159 n7 0 274 iS _ 5 16 underlying159 aQ aT aW jR n7 Y l (pA c) (c.flatMap dZ) n7 (aK.H _) ⟨pB f.1,0,aj⟩ 1 1 (dZ (mf+t,[p,b1,v,z])) n7 n7 (wu<|ao f _) (aC.H) Y B5 Y ay (pB f.1+1) ay ?_;intro g kh A L X H bD;obtain⟨f1,f2,f3,f4⟩:=OC E.H.1 L X U U H U an.H;have P:bc (dc (kB A (F d 2)<|ζ (Z<|F g 0) (pA c+1) kh) d k db (ζ (Z<|F g 0) (pA c+1) kh) n (fq B mf s.1.1) D (c++[(mf+t,[p,b1,v,z])])/\aS (λb=>b=d\/Z b=rW l) f (kB A (F d 2)<|ζ (Z<|F g 0) (pA c+1) kh)/\(rW l=Z g\/g=pB f.1+1)):=⟨f3,f4,H⟩;clear f3 f4 L H);refine a.H _ _ (trivial)<|λhG=>?_;clear a K;apply tl [8,9];refine rH 10 λK a=>?_;go_simp;refine a.H _ _ (trivial)<|λhH=>?_;clear a K;refine dJ ?_;go_wp2;exact J4.H g kh A P.H
   refine .cons U (λK a=>?_) .nil;go_simp;refine a.H _ _ (trivial)<|λhB=>?_;clear a K;refine rH 4 λK a=>?_;go_simp;refine a.H _ _ (trivial)<|λhC=>?_;clear a K;refine rH 7 λK a=>?_;(refine Rb _ n7 _ _ 159 n7 0 274 iS _ 5 16 underlying159 aQ aT aW jR n7 Y l (pA c) (c.flatMap dZ) n7 (aK.H _) ⟨pB f.1,0,aj⟩ 1 1 (dZ (mf+t,[p,b1,v,z])) n7 n7 (wu<|ao f _) (aC.H) Y B5 Y ay (pB f.1+1) ay ?_;intro g kh A L X H bD;obtain⟨f1,f2,f3,f4⟩:=OC E.H.1 L X U U H U an.H;have P:bc (dc (kB A (F d 2)<|ζ (Z<|F g 0) (pA c+1) kh) d k db (ζ (Z<|F g 0) (pA c+1) kh) n (fq B mf s.1.1) D (c++[(mf+t,[p,b1,v,z])])/\aS (λb=>b=d\/Z b=rW l) f (kB A (F d 2)<|ζ (Z<|F g 0) (pA c+1) kh)/\(rW l=Z g\/g=pB f.1+1)):=⟨f3,f4,H⟩;clear f3 f4 L H);refine a.H _ _ (trivial)<|λhG=>?_;clear a K;apply tl [8,9];refine rH 10 λK a=>?_;go_simp;refine a.H _ _ (trivial)<|λhH=>?_;clear a K;refine dJ ?_;go_wp2;exact J4.H g kh A P.H
  have h4:¬(t:Int)<(pC s:Int):=Y;go_wp2;have bT:q=m:=by have:=hR.H;have:=HM.H;omega
  exact fC U U ⟨U,bT▸hR.H.2.2⟩
def acZ(db n o)(c b1 d f:UInt8)(D w)(h:pQ w db D)(O:pB D=n)(L:o+4<=n)(H:n<=65536):
  ax ai 224 #[ν<|eN o c b1 d f,ζ (Z<|F db 0) n n] w λe k=>e=aG (θ #[])/\pQ k db (fq D o [c,b1,d,f])/\aS (·=db) w k:=by
 have A:=(bf.1 h).1;have m:(lL w<|au (eN o c b1 d f) 274).1[pB w.1]? =Z (au (eN o c b1 d f) 274 (0,0)):=ao w _;have g:(lL w<|au (eN o c b1 d f) 274).drew.1[db]? =Z (au (D.map bP) 5 (0,0)):=(bj w _ db A).E h;have s:=aJ (lL w<|au (eN o c b1 d f) 274) w.1.size 0 (I (o:Int)) m;have J:¬n=o:=Y;have N:(o:Int)<=(n:Int):=Y
 have u:bc ((uq #[158,158] 3 #[ζ (Z<|F db o) (n-o)<|n-o,ζ (Z<|F w.1.size 1) 4 4]).run ai (lL w<|au (eN o c b1 d f) 274).drew=.ok (goInt 4) (nb (lL w<|au (eN o c b1 d f) 274).drew db o<|[c,b1,d,f].map bP)):=by
  refine run_copy_cells (P:=ai) _ 158 158 3 5 db o (n-o) (n-o) ⟨pB w.1,1,aj⟩ 4 4 ([c,b1,d,f].map bP) dp aW ?_ ?_ ?_ (λj i=>bp g _)<|WL _;show 4=Nat.min 4 (n-o);exact(uE Y).y;intro j v i;rw[Bw];match j with
  |0|1|2|3=>exact(aD m U).E i
  |j+4=>simp at i
  intro j i;have G:j<4:=i;rw[aD g<|gi bV];rfl
 have p:bc (pQ (nb (lL w<|au (eN o c b1 d f) 274).drew db o<|[c,b1,d,f].map bP) db (fq D o [c,b1,d,f])/\aS (·=db) w (nb (lL w<|au (eN o c b1 d f) 274).drew db o<|[c,b1,d,f].map bP)):=by obtain⟨a1,l,a3,q⟩:=Bb [c,b1,d,f] o (lL w<|au (eN o c b1 d f) 274).drew D g;exact⟨a1,q,by rw[a3];simp,λb z B=>(l b B).E (bj w _ b z)⟩
 have t:kD (nb (lL w<|au (eN o c b1 d f) 274).drew db o<|[c,b1,d,f].map bP) (F w.1.size 0)=Z (I (o:Int)):=by obtain⟨a1,l,a3,q⟩:=Bb [c,b1,d,f] o (lL w<|au (eN o c b1 d f) 274).drew D g;exact(iO (a:=F w.1.size 0)<|l w.1.size Y).E s
 have x:=aX t;clear h m g t;go_enter func224,ntmps224
 go_upto_region 1 with fail
 refine ga (S:=λk=>kD k (F w.1.size 0)=Z (I (o:Int))) s λE=>?_;apply tl [0,1,2,3,4,5];refine rH 6 λK r=>?_
 (refine IA U U U U u ?_;simp)
 refine r _ _ x<|λC=>?_;clear r K;refine dJ ?_;go_wp2;exact fC U U ⟨U,p.1,p.2⟩
def qT(D:aF UInt8)(C:av (Nat×av UInt8)):aF UInt8:=C.foldl (λD c=>fq D c.1 c.2) D
def VH(D):∀(C:av (Nat×av UInt8)),pB (qT D C)=pB D:=by
 intro C;induction C generalizing D with
 |nil=>rfl
 |cons c C a=>exact(a<|fq D c.1 c.2).E<|AP _ _ _
def acW(D)(C:av (Nat×av UInt8))(c:Nat×av UInt8):qT D (C++[c])=fq (qT D C) c.1 c.2:=by simp[qT]
def XL(e:w.1[g]? =Z (au cur 274 (0,0)))(n:cur.1.take (pA C*5)=C.flatMap dZ){a b1 b d:UInt8}(f:C[i]? =Z (o,[a,b1,b,d]))(hf:∀c∈C,pA c.2=4):
  kD w (F g<|i*5)=Z (I (o:Int))/\kD w (F g<|i*5+1)=Z (bP a)/\kD w (F g<|i*5+2)=Z (bP b1)/\kD w (F g<|i*5+3)=Z (bP b)/\kD w (F g<|i*5+4)=Z (bP d):=by
 let mi:∀(C:av (Nat×av UInt8)) (i:Nat),(∀c∈C,pA c.2=4)->C[i]? =Z (o,[a,b1,b,d])->∀j,j<5->(C.flatMap dZ)[i*5+j]? =(dZ (o,[a,b1,b,d]))[j]? :=by
  intro C;induction C with
  |nil=>intro i _ h;simp at h
  |cons c C p=>
   intro i hf h j k;let l:pA (dZ c)=5:=j4;rw[pH];cases i with
   |zero=>grind
   |succ i=>grind
 let m:=(bY.1 f).1;let cell:∀j,j<5->cur[i*5+j]? =(dZ (o,[a,b1,b,d]))[j]? :=λj k=>by grind
 exact⟨aD e<|cell 0 Y,aD e<|cell 1 Y,aD e<|cell 2 Y,aD e<|cell 3 Y,aD e<|cell 4 Y⟩
def Gb(w W:aq)(d b a:Nat)(cv:aB)(n:Nat)(B D:aF UInt8)(C:av (Nat×av UInt8))(i:Nat):Prop:=dc W d b a cv n B (qT D<|C.take i) C/\aS (·=a) w W
def abj(d bb db n cv B D)(C:av (Nat×av UInt8))(w)(h:dc w d bb db cv n B D C)(hC:pA C<=1099511627776):
  ax ai 197 #[jp d] w λe p=>e=aG (θ #[])/\dc p d bb db (ζ aj 0 0) n B (qT D C) []/\aS (λb=>b=d\/b=db) w p:=by
 have H0:bc (Gb w w d bb db cv n B D C 0):=⟨h,ja _ _⟩;obtain⟨A,kh,rfl⟩:=gP h.4;have c2:=aJ w d 2 (ζ A (pA C) kh) h.1;have hd:=(bf.1 h.1).1;clear h;go_enter func197,ntmps197;go_wp2
 go_loopw [9] (λJ wr=>∃i:Nat,i<=pA C/\J=I (i:Int)/\bc (Gb w wr d bb db (ζ A (pA C) kh) n B D C i)) (λJ _=>pA C-pD (dw J))
 case atStart=>exact⟨0,cO _,U,H0⟩
 case round=>
  obtain⟨i,hi,rfl,hR⟩:=hrel;by_cases bn:i<pA C
  ·have G:(i:Int)<(pA C:Int):=Y;obtain⟨c,z⟩:∃c,C[i]? =Z c:=⟨C[i],dj bn⟩;obtain⟨aQ,f4⟩:=hR.1.6 c (jC z);obtain⟨o,N⟩:=c;obtain⟨f,b1,j,l,rfl⟩:∃f b1 j l:UInt8,N=[f,b1,j,l]:=by
    match N,f4 with
    |[f,b1,j,l],_=>exact⟨f,b1,j,l,U⟩
   obtain⟨g,t,rfl,hg,ah⟩:∃g t,A=Z ⟨g,0,aj⟩/\wr.1[g]? =Z (au t 274 (0,0))/\t.1.take (pA C*5)=C.flatMap dZ:=by rcases hR.1.4.2 with⟨v,m⟩|⟨g,O,t,v,_,m,_,_,_,q⟩;omega;cases v;exact⟨g,t,rfl,m,q⟩
   obtain⟨k0,k1,k2,k3,k4⟩:=XL hg ah z (λc h=>(hR.1.6 c h).2);have c1:=aJ wr d 1 (ζ (Z<|F db 0) n n) hR.1.1;have bk:d<pB wr.1:=(bf.1 hR.1.1).1;have X:d≠db:=fO hR.1.1 hR.1.3 ay;have bJ:db<pB wr.1:=(bf.1 hR.1.3).1;have P:(lL wr<|au (eN o f b1 j l) 274).1[pB wr.1]? =Z (au (eN o f b1 j l) 274 (0,0)):=ao wr _;have s:aK wr (lL wr<|au (eN o f b1 j l) 274):=bq;have L:bc (∀W,aS (·=db) (lL wr<|au (eN o f b1 j l) 274) W->kD W (F d 1)=Z (ζ (Z<|F db 0) n n)/\kD W (F wr.1.size 0)=Z (I (o:Int))/\kD W (F wr.1.size 1)=Z (bP f)/\kD W (F wr.1.size 2)=Z (bP b1)/\kD W (F wr.1.size 3)=Z (bP j)/\kD W (F wr.1.size 4)=Z (bP l)):=λW V=>by have e1:W.1[d]? =wr.1[d]? :=(V.3 d bV X).E (bj wr _ d bk);have u:W.1[pB wr.1]? =Z (au (eN o f b1 j l) 274 (0,0)):=(V.3 wr.1.size ay Y).E P;exact⟨(iO (a:=F d 1) e1).E c1,aD u U,aD u U,aD u U,aD u U,aD u U⟩
   have HL:bc (∀k,ax ai 224 #[ν<|eN o f b1 j l,ζ (Z<|F db 0) n n] ((lL wr<|au (eN o f b1 j l) 274).drewN k) λe p=>e=aG (θ #[])/\aS (·=db) (lL wr<|au (eN o f b1 j l) 274) p/\Gb w p d bb db (ζ (Z<|F g 0) (pA C) kh) n B D C (i+1)):=λk=>by have R:=hR.1.below s;refine(acZ db n o f b1 j l (qT D<|C.take i) _ (show pQ ((lL wr<|au (eN o f b1 j l) 274).drewN k) db _ from R.3) R.5.2 aQ R.8).V ?_;rintro e p ⟨rfl,v,m⟩;have E:aS (·=db) (lL wr<|au (eN o f b1 j l) 274) p:=⟨m.1,m.2,m.3⟩;have lw:∀{b:Nat} {x:Obj},(lL wr<|au (eN o f b1 j l) 274).1[b]? =Z x->b≠db->p.1[b]? =Z x:=λr bt=>(E.3 _ (bf.1 r).1 bt).E r;refine⟨U,E,⟨lw R.1 X,lw R.2 R.7,?_,⟨R.4.1,?_⟩,⟨R.5.1,by rw[VH];have:=R.5.2;rw[VH]at this;exact this⟩,R.6,R.7,R.8⟩,(hR.2.E ⟨s.1,s.4,λb r _=>s.5 b r⟩).E E⟩;rw[C9,z];show pQ p db (qT D<|C.take i++[(o,[f,b1,j,l])]);rwa [acW];rcases R.4.2 with q|⟨g',O,aL,q,G,h5,h6⟩;exact aA q;exact az ⟨g',O,aL,q,G,lw h5 (λe=>R.cm R.3 aM (by rw[q,<-e];rfl)),h6⟩
   have s0:=L _ (ja _ _);clear hg ah P s;go_upto_region 3 with fail;refine ga (S:=λW=>kD W (F d 1)=Z (ζ (Z<|F db 0) n n)/\kD W (F wr.1.size 0)=Z (I (o:Int))/\kD W (F wr.1.size 1)=Z (bP f)/\kD W (F wr.1.size 2)=Z (bP b1)/\kD W (F wr.1.size 3)=Z (bP j)/\kD W (F wr.1.size 4)=Z (bP l)) s0 λbE=>?_;apply tl [0,1,2,3,4];refine rH 5 λK Q=>?_;go_simp;go_at_call 224;refine(HL 1).V ?_;rintro e w5 ⟨rfl,v,m⟩;have H5:=aX m;refine Q _ _ (L _ v)<|λhH=>?_;clear Q K m;refine dJ ?_;go_wp2;refine⟨⟨i+1,Y,by go_num,H5⟩,?_⟩;simp[dw];omega
  have G:¬(i:Int)<(pA C:Int):=Y;have bl:i=pA C:=Y;have H:bc (dc wr d bb db (ζ A (pA C) kh) n B (qT D C) C/\aS (·=db) w wr):=by have:=hR;rw[bl]at this;rw[Gb]at this;rwa [pM]at this
  have bz:=aJ wr d 2 (ζ A (pA C) kh) H.1.1;have bA:nc wr (F d 2)=aa:=bp H.1.1 _;go_wp2;obtain⟨R,T⟩:=H;have m:=bG R.1 2 (ζ aj 0 0);have yH:bb≠d:=fO R.2 R.1 ay;have bh:db≠d:=fO R.3 R.1 ay;exact fC U U ⟨U,⟨m,(bC yH).E R.2,(bC bh).E R.3,qH _ _ _ _,R.5,λc z=>(by cases z),R.7,R.8⟩,⟨T.1,by simpa using T.2,λb r hx=>(bC<|λe=>hx (aA e)).E (T.3 b r λe=>hx (az e))⟩⟩
def jQ(mf a:Nat)(c:Nat×av UInt8):Bool:=decide (mf<=c.1)&&decide (c.1<a)
structure uJ(w:aq)(c a mf b:Nat):Prop where
 from_:kD w (F c 0)=Z (I (mf:Int))
 till:kD w (F a 0)=Z (I (b:Int))
def uJ.below{ob eb mf}(h:uJ w ob eb mf en)(a:aK w w'):uJ w' ob eb mf en:=⟨(iO<|a.5 ob<|jo h.1).E h.1,(iO<|a.5 eb<|jo h.2).E h.2⟩
def UU(f b mf a o:Nat)(c b1 d e:UInt8)(w)(h:uJ w f b mf a):
  bN 235 #[ν<|eN o c b1 d e,jp f,jp b] w (ω<|jQ mf a (o,[c,b1,d,e])):=by
 let q:=jo h.1;have k:=jo h.2;obtain⟨n,p⟩:=h;let r:f≠pB w.1:=j4
 let s:b≠pB w.1:=by have:b<pB w.1:=k;omega
 let mi:∀x:Bool,jQ mf a (o,[c,b1,d,e])=x->bN 235 #[ν<|eN o c b1 d e,jp f,jp b] w (ω x):=by
  intro x g;by_cases i:mf<=o
  ·let l:(mf:Int)<=(o:Int):=Y;by_cases j:o<a
   ·let m:(o:Int)<(a:Int):=Y;have:x=M:=by rw[<-g];simp[jQ,i,j]
    subst this;go_enter func235,ntmps235;go_wp2;go_ret;exact⟨U,bq⟩
   let m:¬(o:Int)<(a:Int):=Y;have:x=aa:=by rw[<-g];simp[jQ,i,j]
   subst this;go_enter func235,ntmps235;go_wp2;go_ret;exact⟨U,bq⟩
  let l:¬(mf:Int)<=(o:Int):=Y;have:x=aa:=by rw[<-g];simp[jQ,i]
  subst this;go_enter func235,ntmps235;go_wp2;go_ret;exact⟨U,bq⟩
 exact mi _ U
abbrev MR(b a:Nat):aB:=.func (.func 235) #[] #[jp b,jp a]
def agO(h:mT w 0 274 5 (ζ (Z<|F g 0) (pA C) kh) (pA C) (C.flatMap dZ))(hf:∀c∈C,c.1+4<=n/\pA c.2=4)(m:i<pA C):
  ∃o a b1 b d,C[i]? =Z (o,[a,b1,b,d])/\kD w (F g<|i*5)=Z (I ((o:Nat):Int))/\kD w (F g<|i*5+1)=Z (bP a)/\kD w (F g<|i*5+2)=Z (bP b1)/\kD w (F g<|i*5+3)=Z (bP b)/\kD w (F g<|i*5+4)=Z (bP d):=by
 obtain⟨c,f⟩:∃c,C[i]? =Z c:=⟨C[i],dj m⟩;obtain⟨r,f4⟩:=hf c (jC f);obtain⟨o,j⟩:=c
 obtain⟨a,b1,b,d,rfl⟩:∃a b1 b d:UInt8,j=[a,b1,b,d]:=by
  match j,f4 with
  |[a,b1,b,d],_=>exact⟨a,b1,b,d,U⟩
 obtain⟨e,k⟩|⟨s,p,q,e,_,k,_,_,_,l⟩:=h.2;cases e;cases e;exact⟨o,a,b1,b,d,f,XL k l f<|λc h=>(hf c h).2⟩
def acC(q kh ob eb mf en n)(C:av (Nat×av UInt8))(w)(h:mT w 0 274 5 (ζ q (pA C) kh) (pA C) (C.flatMap dZ))(hf:∀c∈C,c.1+4<=n/\pA c.2=4)(D:uJ w ob eb mf en)(O:pA C<=1099511627776):
  ax ai 262 #[ζ q (pA C) kh,MR ob eb] w λe r=>aK w r/\((e=aG (I<|-1)/\∀c∈C,jQ mf en c=aa)\/∃i,e=aG (I ((i:Nat):Int))/\i<pA C/\(∀j c,j<i->C[j]? =Z c->jQ mf en c=aa)/\∃c,C[i]? =Z c/\jQ mf en c=M):=by
 have s:bc (mT w 0 274 5 (ζ q (pA C) kh) (pA C) (C.flatMap dZ)/\uJ w ob eb mf en):=⟨h,D⟩;go_enter func262,ntmps262;go_wp2
 go_loopw [8] (λv wr=>∃i:Nat,i<=pA C/\v=I (i:Int)/\bc (aK w wr/\∀j c,j<i->C[j]? =Z c->jQ mf en c=aa)) (λv _=>pA C-pD (dw v))
 case atStart=>exact⟨0,cO _,U,bv _ _,λj c p=>by omega⟩
 case round=>
  obtain⟨i,P,rfl,hR⟩:=hrel;by_cases A:i<pA C
  ·let B:(i:Int)<(pA C:Int):=Y;obtain⟨g,rfl⟩:∃g,q=Z ⟨g,0,aj⟩:=by obtain⟨x,N⟩|⟨g,K,L,x,_⟩:=s.1.2;omega;cases x;exact⟨g,rfl⟩
   obtain⟨o,f,b1,k,l,z,R,S,T,V,W⟩:=agO (yX s.1 hR.1) hf A;have d:bc (ax ai 235 #[ν<|eN o f b1 k l,jp ob,jp eb] wr λe r=>e=aG (ω<|jQ mf en (o,[f,b1,k,l]))/\aK w r):=by refine(UU ob eb mf en o f b1 k l wr<|s.2.below hR.1).V ?_;rintro e r ⟨rfl,G⟩;exact⟨U,hR.1.E<|G.V hR.1.4⟩
   cases m:jQ mf en (o,[f,b1,k,l])with
   |true=>rw[m]at d;go_wp2_with (go_at_call 235;refine d.V ?_;rintro e J ⟨rfl,t⟩);go_ret;exact⟨t,az ⟨i,U,A,hR.2,_,z,m⟩⟩
   |false=>rw[m]at d;go_wp2_with (go_at_call 235;refine d.V ?_;rintro e J ⟨rfl,t⟩);refine⟨⟨i+1,Y,by go_num,t,λj c p u=>?_⟩,?_⟩;by_cases e:j=i;subst e;rw[z]at u;cases u;exact m;exact hR.2 j c Y u;simp[dw];omega
  have B:¬(i:Int)<(pA C:Int):=Y;have H:∀a b,(a,b)∈C->jQ mf en (a,b)=aa:=λa b E=>by obtain⟨j,p⟩:=pJ.1 E;have Q:=(bY.1 p).1;exact hR.2 j _ Y p
  go_wp2;go_ret;exact⟨hR.1,aA ⟨U,H⟩⟩
abbrev stay(mf a:Nat)(C:av (Nat×av UInt8)):av (Nat×av UInt8):=C.filter λc=>!jQ mf a c
structure mg(w W:aq)(g kh mf b:Nat)(C:av (Nat×av UInt8))(i j:Nat):Prop where
 row:∃a,W.1[g]? =Z (au a 274 (0,0))/\a.size=kh*5/\(∀x,x<i*5->a[x]? =((stay mf b (C.take j)).flatMap dZ)[x]?)/\∀x,j*5<=x->x<C.length*5->a[x]? =(C.flatMap dZ)[x]?
 many:i=(stay mf b (C.take j)).length
 lt:i<j
 le:j<=C.length
 cy:aS (·=g) w W
def OY(mf en)(C:av (Nat×av UInt8)){c}(h:C[j]? =Z c):stay mf en (C.take<|j+1)=stay mf en (C.take j)++(if jQ mf en c=M then[]else[c]):=by
 rw[stay];rw[C9,h,Option.toList_some,zF]
 congr 1;cases a:jQ mf en c<;>simp[a]
def AG(hf:∀c∈C,pA c.2=4):pA (C.flatMap dZ)=pA C*5:=by
 induction C with
 |nil=>rfl
 |cons c C a=>grind
def mg.pass{mf c}(h:mg w W g kh mf en C i j)(hc:C[j]? =Z c)(o:jQ mf en c=M)(a:aK W W'):mg w W' g kh mf en C i (j+1):=by
 obtain⟨d,f,k,l,m⟩:=h.1;let e:stay mf en (C.take<|j+1)=stay mf en (C.take j):=by rw[OY mf en C hc,aO o,lf]
 exact⟨⟨d,bT a f,k,by rw[e];exact l,λx q p=>m x Y p⟩,by rw[e];exact h.2,Kx h.3,(bY.1 hc).1,h.5.E ⟨a.1,a.4,λb n _=>a.5 b n⟩⟩
def mg.ri{mf b0 b1 b2 b3}(h:mg w W g kh mf en C i j)(J:pA C<=kh)(hf:∀c∈C,pA c.2=4)(hc:C[j]? =Z (o,[b0,b1,b2,b3]))(A:jQ mf en (o,[b0,b1,b2,b3])=aa)(a:aK W W'):
  mg w (nb W' g (i*5)<|dZ (o,[b0,b1,b2,b3])) g kh mf en C (i+1) (j+1):=by
 obtain⟨n,t,H,u,v⟩:=h.1;let K:=(bY.1 hc).1;let e:stay mf en (C.take<|j+1)=stay mf en (C.take j)++[(o,[b0,b1,b2,b3])]:=by rw[OY mf en C hc,aI (by rw[A];simp)]
 let O:=h.3;let N:=th 5 Y;obtain⟨m,p,E,f,q,r,G,s⟩:=sO (dZ (o,[b0,b1,b2,b3])) (i*5) W' n (bT a t);let L:pA (dZ (o,[b0,b1,b2,b3]))=5:=U
 let B:pA ((stay mf en<|C.take j).flatMap dZ)=i*5:=by rw[AG<|λc hc=>hf c (uA (rO.1 hc).1),h.2]
 refine⟨⟨m,p,Y,λx d=>?_,λx d D=>?_⟩,by rw[e,fQ,<-h.2];rfl,Y,Y,h.5.E ⟨s.E a.1,by have:=a.4;omega,λb z d=>(r b d).E (a.5 b z)⟩⟩;rw[e,rL]
 by_cases l:x<i*5
 rw[f x<|aA l,BS Y];exact u x l;rw[vO Y,B];have:([(o,[b0,b1,b2,b3])].flatMap dZ)=dZ (o,[b0,b1,b2,b3]):=ay;rw[this];let k:x-i*5<pA (dZ (o,[b0,b1,b2,b3])):=Y;have:=q (x-i*5) _ (dj k) Y;rw[show i*5+(x-i*5)=x by omega]at this;rw[this,dj k];rw[f x<|az Y];exact v x Y D
def mg.cells{mf}(h:mg w W g kh mf en C i j)(z:pA C<=kh)(hf:∀c∈C,c.1+4<=n/\pA c.2=4)(m:j<pA C):
  ∃o a b1 b d,C[j]? =Z (o,[a,b1,b,d])/\kD W (F g<|j*5)=Z (I ((o:Nat):Int))/\kD W (F g<|j*5+1)=Z (bP a)/\kD W (F g<|j*5+2)=Z (bP b1)/\kD W (F g<|j*5+3)=Z (bP b)/\kD W (F g<|j*5+4)=Z (bP d):=by
 obtain⟨p,e,v,x,q⟩:=h.1;obtain⟨c,l⟩:∃c,C[j]? =Z c:=⟨C[j],dj m⟩;obtain⟨u,f4⟩:=hf c (jC l);obtain⟨o,f⟩:=c
 obtain⟨a,b1,b,d,rfl⟩:∃a b1 b d:UInt8,f=[a,b1,b,d]:=by
  match f,f4 with
  |[a,b1,b,d],_=>exact⟨a,b1,b,d,U⟩
 let A:=AG (C:=C) (λc h=>(hf c h).2)
 let mi:∀k,k<5->p[j*5+k]? =(dZ (o,[a,b1,b,d]))[k]? :=λk s=>by
  rw[q (j*5+k) Y Y];let r:C=C.take j++(o,[a,b1,b,d])::C.drop (j+1):=by have:=pL j C;rw[BQ m]at this;grind
  let t:pA ((C.take j).flatMap dZ)=j*5:=T4;rw[r,rL,pH,vO Y,t,Cd,BS (by show k<5;exact s)]
 exact⟨o,a,b1,b,d,l,aD e<|mi 0 Y,aD e<|mi 1 Y,aD e<|mi 2 Y,aD e<|mi 3 Y,aD e<|mi 4 Y⟩
def mg.room{mf}(h:mg w W g kh mf en C i j)(f:pA C<=kh):∃a,W.1[g]? =Z (au a 274 (0,0))/\pB a=kh*5/\i*5+5<=pB a:=by obtain⟨a,b,c,_⟩:=h.1;let d:=h.3;let e:=h.4;grind
def mg.first {mf}(h:mT w 0 274 5 (ζ (Z<|F g 0) (pA C) kh) (pA C) (C.flatMap dZ))(hf:∀c∈C,c.1+4<=n/\pA c.2=4)(d:aK w W)(G:i<pA C)(v:∀j c,j<i->C[j]? =Z c->jQ mf en c=aa){c}(hc:C[i]? =Z c)(t:jQ mf en c=M):mg w W g kh mf en C i (i+1):=by
 let e:stay mf en (C.take i)=C.take i:=by refine Fg.2 λx a=>?_;obtain⟨j,f⟩:=pJ.1 a;rw[vP]at f;split at f;rename_i u;rw[v j x u f];rfl;cases f
 let m:stay mf en (C.take<|i+1)=C.take i:=by rw[OY mf en C hc,aO t,lf,e]
 obtain⟨k,o⟩|⟨A,z,l,k,_,o,B,D,p,q⟩:=h.2;cases k;cases k;let E:=AG (C:=C) (λc h=>(hf c h).2);let cell:∀x,x<pA C*5->l[x]? =(C.flatMap dZ)[x]? :=λx a=>by rw[<-q,vP,aO a,zw]
 refine⟨⟨l,bT d o,p,λx a=>?_,λx _ a=>cell x a⟩,by rw[m,vS,uE Y],Y,Y,⟨d.1,d.4,λb r _=>d.5 b r⟩⟩;rw[m,cell x Y];let s:C.flatMap dZ=(C.take i).flatMap dZ++(C.drop i).flatMap dZ:=by rw[<-rL,pL]
 let H:pA ((C.take i).flatMap dZ)=i*5:=T4;rw[s,BS Y]
abbrev xC:aB:=ν #[I 0,ι .u8 0,ι .u8 0,ι .u8 0,ι .u8 0]
def XK:xC.cells=#[I 0,ι .u8 0,ι .u8 0,ι .u8 0,ι .u8 0]:=aW
def agM(m):∀u∈(qA xC.cells m).1,u.oneCell'=M:=λu a=>by
 rw[XK]at a;simp[qA,mJ,jY]at a;obtain⟨k,_,rfl⟩:=a;have b:k %5<5:=QF _ Y;generalize k %5=q at b;match q,b with
 |0,_|1,_|2,_|3,_|4,_=>rfl
def agL(m):pA (qA xC.cells m).1=m*5:=by rw[lQ,size_zeroCells,XK];rfl
def mg.over{mf}(h:mg w W g kh mf en C i (pA C))(A:pA C<=kh)(o:kh<=cP)(hf:∀c∈C,c.1+4<=n/\pA c.2=4)(zs):
  mT (nb W g (i*5) zs) 0 274 5 (ζ (Z<|F g 0) i kh) (pA (stay mf en C)) ((stay mf en C).flatMap dZ)/\aS (·=g) w (nb W g (i*5) zs):=by
 obtain⟨d,k,v,l,z⟩:=h.1;have hm:=h.2;rw[pM]at hm l;obtain⟨a,e,r,s,t,f,u,j⟩:=sO zs (i*5) W d k;let D:=h.3
 let p:pA ((stay mf en C).flatMap dZ)=i*5:=by rw[AG<|λc m=>(hf c (rO.1 m).1).2,hm]
 let B:=th 5 Y;refine⟨⟨by rw[p,<-hm],az ⟨g,kh,a,by rw[<-hm],cO _,e,Y,o,Y,?_⟩⟩,h.5.E ⟨j,Y,λb _ q=>f b q⟩⟩;rw[<-hm];refine ux λx=>?_
 grind
def aaa(r kh ob eb mf en n)(C:av (Nat×av UInt8))(w)(h:mT w 0 274 5 (ζ r (pA C) kh) (pA C) (C.flatMap dZ))(hf:∀c∈C,c.1+4<=n/\pA c.2=4)(L:uJ w ob eb mf en)(hC:pA C<=1099511627776)(bl:∀g,r=Z ⟨g,0,aj⟩->ob≠g/\eb≠g):
  ax ai 234 #[ζ r (pA C) kh,MR ob eb] w λe w'=>∃R,e=aG R/\mT w' 0 274 5 R (pA (stay mf en C)) ((stay mf en C).flatMap dZ)/\aS (λb=>Z b=rW (fM r C.length kh)) w w'/\rW R=rW (fM r C.length kh):=by
 have q:bc (mT w 0 274 5 (ζ r (pA C) kh) (pA C) (C.flatMap dZ)/\uJ w ob eb mf en):=⟨h,L⟩;have S:=acC r kh ob eb mf en n C w h hf L hC;have an:=aX S;have aQ:=gP h;clear h L S;go_enter func234,ntmps234;go_wp2_with (go_at_call 262;refine an.V ?_;rintro e w1 ⟨z,aN⟩;obtain⟨rfl,G⟩|⟨i,rfl,hi,G,c,t,u⟩:=aN)
 ·have e:stay mf en C=C:=Fg.2 λc t=>by rw[G c t];rfl
  go_ret;exact⟨_,U,by rw[e];exact yX q.1 z,⟨z.1,z.4,λb N _=>z.5 b N⟩,U⟩
 obtain⟨g,E,rfl⟩:∃g,pA C<=kh/\r=Z ⟨g,0,aj⟩:=by obtain⟨f,H⟩|⟨g,aE,A,f,_,_,J,_⟩:=q.1.2;omega;cases f;exact⟨g,J,rfl⟩
 have bk:kh<=cP:=by obtain⟨f,H⟩|⟨g,aE,A,f,_,_,J,K,_⟩:=q.1.2;cases f;cases f;exact K
 have HD:=aX (mg.first q.1 hf z hi G t u);obtain⟨bn,bt⟩:=bl g U;have ak:bc (∀W,aS (·=g) w W->uJ W ob eb mf en):=λW V=>⟨(iO (a:=F ob 0)<|V.3 ob (jo q.2.1) bn).E q.2.1,(iO (a:=F eb 0)<|V.3 eb (jo q.2.2) bt).E q.2.2⟩;have bh:((i:Int)==-1)=aa:=ay;clear z G t u aQ;rw[bh]
 go_loopw [5,6] (λiv O wr=>∃i j:Nat,iv=I (i:Int)/\O=I (j:Int)/\bc (mg w wr g kh mf en C i j)) (λ_ O _=>pA C-pD (dw O))
 case atStart=>exact⟨i,i+1,U,by go_num,HD⟩
 case round=>
  obtain⟨i,j,rfl,rfl,hR⟩:=hrel;have bJ:=hR.4;have bH:=hR.3;by_cases bg:j<pA C
  ·have K:(j:Int)<(pA C:Int):=Y;obtain⟨o,l,b1,m,p,t,k0,k1,k2,k3,k4⟩:=hR.cells E hf bg;have bD:g<pB wr.1:=by obtain⟨A,f,_⟩:=hR.1;exact(bf.1 f).1
   have v:aK wr (lL wr<|au (eN o l b1 m p) 274):=bq;have hA:(lL wr<|au (eN o l b1 m p) 274).1[pB wr.1]? =Z (au (eN o l b1 m p) 274 (0,0)):=ao wr _;have D:bc (bN 235 #[ν<|eN o l b1 m p,jp ob,jp eb] (lL wr<|au (eN o l b1 m p) 274)<|ω<|jQ mf en (o,[l,b1,m,p])):=UU ob eb mf en o l b1 m p _ ((ak _ hR.5).below v);have HV:bc (∀d,aK (lL wr<|au (eN o l b1 m p) 274) d->(∀k,k<5->∃x,kD d (F g<|i*5+k)=Z x)/\∀k,nc d (F g k)=aa):=λd s=>by obtain⟨A,f,H,J⟩:=hR.room E;have T:d.1[g]? =Z (au A 274 (0,0)):=bT s (bT v f);exact⟨λk X=>⟨_,aD T<|gi Y⟩,λk=>bp T k⟩
   cases u:jQ mf en (o,[l,b1,m,p])with
   |true=>rw[u]at D;go_wp2_with (go_at_call 235;refine D.V ?_;rintro e d ⟨rfl,s⟩);refine⟨⟨i,j+1,U,by go_num,hR.pass t u<|v.E<|s.V v.4⟩,?_⟩;simp[dw];omega
   |false=>rw[u]at D;go_wp2_with (go_at_call 235;refine D.V ?_;rintro e d ⟨rfl,s⟩;have hv:d.1[pB wr.1]? =Z (au (eN o l b1 m p) 274 (0,0)):=bT s hA;have m0:=aJ d wr.1.size 0 (I (o:Int)) hv;have m1:=aJ d wr.1.size 1 (bP l) hv;have m2:=aJ d wr.1.size 2 (bP b1) hv;have m3:=aJ d wr.1.size 3 (bP m) hv;have m4:=aJ d wr.1.size 4 (bP p) hv;obtain⟨hr,fr⟩:=HV d s;obtain⟨x0,r0⟩:=hr 0 Y;obtain⟨x1,r1⟩:=hr 1 Y;obtain⟨x2,r2⟩:=hr 2 Y;obtain⟨x3,r3⟩:=hr 3 Y;obtain⟨x4,r4⟩:=hr 4 Y;rw[xU]at r0;clear hr hv);refine⟨⟨i+1,j+1,by go_num,by go_num,hR.ri E (λc h=>(hf c h).2) t u<|v.E<|s.V v.4⟩,?_⟩;simp[dw];omega
  have K:¬(j:Int)<(pA C:Int):=Y;have aW:j=pA C:=Y;have hv:∀w,(zeroValue 274).run ai w=.ok xC w:=zeroValue274;have bC:∀Q,(um #[159] Q #[ζ (Z<|F g<|i*5) (pA C-i)<|kh-i]).run ai wr=.ok (θ #[]) (nb wr g (i*5) (qA xC.cells<|pA C-i).1):=λQ=>by
   obtain⟨A,f,H,_⟩:=hR.1;have bL:i*5+(pA C-i) *5<=kh*5:=by rw[<-ej];exact th 5 Y
   refine IM (P:=ai) wr 159 274 Q _ underlying159 hv g (i*5) (pA C-i) (kh-i) Y _ U (agM _) ?_<|λk _=>bp f _;intro k X;rw[agL]at X;rw[aD f<|gi Y];rfl
  have B:bc (mT (nb wr g (i*5) (qA xC.cells<|pA C-i).1) 0 274 5 (ζ (Z<|F g 0) i kh) (pA (stay mf en C)) ((stay mf en C).flatMap dZ)/\aS (·=g) w (nb wr g (i*5) (qA xC.cells<|pA C-i).1)):=(aW▸hR:mg w wr g kh mf en C i (pA C)).over E bk hf _;generalize nb wr g (i*5) (qA xC.cells<|pA C-i).1=W9 at*;have bE:(i:Int)<=(kh:Int):=Y;have bG:(i:Int)<=(pA C:Int):=Y;clear hv;go_wp2;go_ret;exact⟨_,U,B.1,⟨B.2.1,B.2.2,λb N hx=>B.2.3 b N λe=>hx C1⟩,U⟩
def SP{mf s}(w)(c:nf P 158=Z (.slice 5))(d:∀w,(JV 5).run P w=.ok 1 w)(h:pQ w b B)(e:pB B=n)(hl:mf+pC s<=n):
  ∃r,(uq #[158,9] 3 #[ζ (Z<|F b mf) (n-mf)<|n-mf,ξ s]).run P w=.ok r (nb w b mf<|s.1.1.map bP):=by
 let f:pA s.1.1=pC s:=U;exact Oy w 158 9 3 5 b mf (n-mf) (n-mf) s s.1.1 c d (qE Y) (λj a=>by rw[Of h Y];rfl) (λj a=>bp h _)
def dc.lay{mf}(h:dc w d bb db cv n B D C)(s):dc (nb w bb mf<|s.map bP) d bb db cv n (fq B mf s) D C/\aS (·=bb) w (nb w bb mf<|s.map bP):=by obtain⟨a1,a,a3,g⟩:=Bb s mf w B h.2;refine⟨⟨(a d (fO h.1 h.2 ay)).E h.1,a1,(a db<|λe=>h.7 e.y).E h.3,⟨h.4.1,?_⟩,⟨by rw[AP];exact h.5.1,h.5.2⟩,h.6,h.7,h.8⟩,⟨g,Y,λb _ o=>a b o⟩⟩;obtain c|⟨f,i,j,c,k,l,m⟩:=h.4.2;exact aA c;exact az ⟨f,i,j,c,k,(a f λe=>h.cm h.2 aM (by rw[c,<-e];rfl)).E l,m⟩
def dc.acY{mf}(h:dc w d bb db cv n B D C)(s):dc (nb w db mf<|s.map bP) d bb db cv n B (fq D mf s) C/\aS (·=db) w (nb w db mf<|s.map bP):=by obtain⟨a1,a,a3,g⟩:=Bb s mf w D h.3;refine⟨⟨(a d<|fO h.1 h.3 ay).E h.1,(a bb h.7).E h.2,a1,⟨h.4.1,?_⟩,⟨h.5.1,by rw[AP];exact h.5.2⟩,h.6,h.7,h.8⟩,⟨g,Y,λb _ o=>a b o⟩⟩;obtain c|⟨f,i,j,c,k,l,m⟩:=h.4.2;exact aA c;exact az ⟨f,i,j,c,k,(a f λe=>h.cm h.3 aM (by rw[c,<-e];rfl)).E l,m⟩
def ajg(d f i n mf cv B D)(C:av (Nat×av UInt8))(s w)(h:dc w d f i cv n B D C)(cw:mf<n)(hl:mf+pC s<=n)(hC:pA C<=1099511627776):
  ax ai 198 #[jp d,I mf,ξ s] w λe t=>e=aG (θ #[])/\∃aC,dc t d f i aC n (fq B mf s.1.1) (fq D mf s.1.1) (stay mf (mf+pC s) C)/\aS (λb=>b=d\/b=f\/b=i\/Z b=rW cv) w t/\rW aC=rW cv:=by
 have hn:=h.8;obtain⟨k,kh,rfl⟩:=gP h.4;have J:aK w (lL w<|au #[I (mf:Int)] 3):=bq;have hA:(lL w<|au #[I (mf:Int)] 3).1[pB w.1]? =Z (au #[I (mf:Int)] 3 (0,0)):=ao w _;have O:∀{W:aq} {b:Nat} {o:Obj},W.1[b]? =Z o->b<pB W.1:=λh=>(bf.1 h).1
 have H:dc (lL w<|au #[I (mf:Int)] 3).drew d f i (ζ k (pA C) kh) n B D C:=by have:=h.below J;exact⟨this.1,this.2,this.3,this.4,this.5,this.6,this.7,this.8⟩
 obtain⟨r1,aL⟩:=SP (P:=ai) (mf:=mf) (s:=s) (lL w<|au #[I (mf:Int)] 3).drew dp Ja H.2 H.5.1 hl;obtain⟨l,A⟩:=H.lay (mf:=mf) s.1.1;have ak:(nb (lL w<|au #[I (mf:Int)] 3).drew f mf<|s.1.1.map bP).1[pB w.1]? =Z (au #[I (mf:Int)] 3 (0,0)):=(A.3 w.1.size ay (by have:=O h.2;omega)).E hA;have xh:pB w.1+1<=pB (nb (lL w<|au #[I (mf:Int)] 3).drew f mf<|s.1.1.map bP).1:=by have:=A.2;exact DP
 have an:aS (λb=>b=d\/b=f\/b=i\/Z b=rW (fM k C.length kh)) w (nb (lL w<|au #[I (mf:Int)] 3).drew f mf<|s.1.1.map bP):=⟨A.1.E J.1,by have:=A.2;have:=J.4;simp at*;omega,λb p u=>(A.3 b bV<|λe=>u (az<|aA e)).E (J.5 b p)⟩;have bg:=aX aL;clear aL A;generalize nb (lL w<|au #[I (mf:Int)] 3).drew f mf (s.1.1.map bP)=m at*;have V:dc m.drew d f i (ζ k (pA C) kh) n (fq B mf s.1.1) D C:=⟨l.1,l.2,l.3,l.4,l.5,l.6,l.7,l.8⟩;obtain⟨r2,Dt⟩:=SP (P:=ai) (mf:=mf) (s:=s) m.drew dp Ja V.3 V.5.2 hl;obtain⟨v,E⟩:=V.acY (mf:=mf) s.1.1;have X:(nb m.drew i mf<|s.1.1.map bP).1[pB w.1]? =Z (au #[I (mf:Int)] 3 (0,0)):=(E.3 w.1.size (by show pB w.1<pB m.1;omega) (by have:=O h.3;omega)).E ak;have bQ:pB w.1+1<=pB (nb m.drew i mf<|s.1.1.map bP).1:=cM xh E.2;have z:aS (λb=>b=d\/b=f\/b=i\/Z b=rW (fM k C.length kh)) w (nb m.drew i mf<|s.1.1.map bP):=an.E ⟨E.1,E.2,λb p u=>E.3 b p λe=>u (az<|az<|aA e)⟩;have bh:=aX Dt;clear Dt E an V;generalize nb m.drew i mf (s.1.1.map bP)=a at*;have c0:=aJ (lL w<|au #[I (mf:Int)] 3) d 0 (ζ (Z<|F f 0) n n) H.1;have k0:=aJ (lL w<|au #[I (mf:Int)] 3) w.1.size 0 (I (mf:Int)) hA;have c1:=aJ m d 0 (ζ (Z<|F f 0) n n) l.1;have bu:=aJ m d 1 (ζ (Z<|F i 0) n n) l.1;have k1:=aJ m w.1.size 0 (I (mf:Int)) ak;have c2:=aJ a d 1 (ζ (Z<|F i 0) n n) v.1;have cg:=aJ a d 2 (ζ k (pA C) kh) v.1;have k2:=aJ a w.1.size 0 (I (mf:Int)) X;have cu:¬n=mf:=Y;have cx:(mf:Int)<=(n:Int):=Y;have cq:d<pB a.1:=O v.1;have H2:bc (dc a d f i (ζ k (pA C) kh) n (fq B mf s.1.1) (fq D mf s.1.1) C/\aS (λb=>b=d\/b=f\/b=i\/Z b=rW (fM k C.length kh)) w a/\a.1[pB w.1]? =Z (au #[I (mf:Int)] 3 (0,0))):=⟨v,z,X⟩;have Hh:pB w.1<pB a.1:=Y
 have bk:bc (ax ai 234 #[ζ k (pA C) kh,MR w.1.size a.1.size] (lL a<|au #[I<|(mf:Int)+(pC s:Int)] 3) λe t=>∃r af L G,r=ζ af L G/\e=aG r/\kD t (F d 2)=Z (ζ k (pA C) kh)/\nc t (F d 2)=aa/\dc (kB t (F d 2) r) d f i r n (fq B mf s.1.1) (fq D mf s.1.1) (stay mf (mf+pC s) C)/\aS (λb=>b=d\/b=f\/b=i\/Z b=rW (fM k C.length kh)) w (kB t (F d 2) r)/\rW r=rW (fM k C.length kh)):=by have bB:aK a (lL a<|au #[I<|(mf:Int)+(pC s:Int)] 3):=bq;have j:=v.below bB;have aE:(lL a<|au #[I<|(mf:Int)+(pC s:Int)] 3).1[pB a.1]? =Z (au #[I<|(mf:Int)+(pC s:Int)] 3 (0,0)):=ao a _;have aH:(lL a<|au #[I<|(mf:Int)+(pC s:Int)] 3).1[pB w.1]? =Z (au #[I (mf:Int)] 3 (0,0)):=bT bB X;refine(aaa k kh w.1.size a.1.size mf (mf+pC s) n C _ j.4 j.6 ⟨aD aH U,by rw[Int.natCast_add];exact aD aE U⟩ hC ?_).V ?_;intro g hg;have e1:=j.cm aH aM;have e2:=j.cm aE aM;exact⟨λe=>e1 (by rw[hg,e];rfl),λe=>e2 (by rw[hg,e];rfl)⟩;rintro e t ⟨r,rfl,p1,Q,R⟩;have lw:∀{b:Nat} {x:aF aB} {T:aY},(lL a<|au #[I<|(mf:Int)+(pC s:Int)] 3).1[b]? =Z (au x T (0,0))->T≠274->t.1[b]? =Z (au x T (0,0)):=λp hT=>(Q.3 _ (O p)<|j.cm p hT).E p;have b1:=lw j.1 aM;have b2:=bG b1 2 r;have yH:f≠d:=fO j.2 j.1 ay;have bO:i≠d:=fO j.3 j.1 ay;obtain⟨af,G,bR⟩:=gP p1;refine⟨r,af,_,G,bR,U,aD b1 U,bp b1 _,⟨b2,(bC yH).E<|lw j.2 aM,(bC bO).E<|lw j.3 aM,⟨p1.1,?_⟩,j.5,λc hc=>j.6 c (rO.1 hc).1,j.7,j.8⟩,⟨by show t.4=w.4;exact Q.1.E (bB.1.E z.1),by have:=Q.2;have:=bB.4;have:=z.2;simp at*;omega,λb p u=>?_⟩,R⟩;obtain q|⟨g,G,bz,q1,q2,q3,q4⟩:=p1.2;exact aA q;refine az ⟨g,G,bz,q1,q2,(bC λe=>?_).E q3,q4⟩;exact j.cm j.1 aM (by rw[<-R,q1,<-e];rfl);have bL:b<pB a.1:=cS p z.2;exact(bC<|λe=>u (aA e)).E<|(Q.3 b bV<|λe=>u (az<|az<|az e)).E<|(bB.5 b bL).E<|z.3 b p u
 clear h J hA H l v z ak X xh bQ O;go_enter func198,ntmps198
 go_upto_region 1 with fail
 refine ga (S:=λW=>kD W (F d 0)=Z (ζ (Z<|F f 0) n n)/\kD W (F w.1.size 0)=Z (I (mf:Int))) ⟨c0,k0⟩ λcj=>?_;apply tl [0,1,2,3,4,5,6];refine rH 7 λK N=>?_
 (refine IA U U U U bg ?_;simp)
 refine N _ _ ⟨c1,k1⟩<|λhH=>?_;clear N K;refine dJ ?_
 go_upto_region 2 with fail
 refine ga (S:=λW=>kD W (F d 1)=Z (ζ (Z<|F i 0) n n)/\kD W (F w.1.size 0)=Z (I (mf:Int))) ⟨bu,k1⟩ λck=>?_;apply tl [0,1,2,3,4,5,6];refine rH 7 λK N=>?_
 (refine IA U U U U bh ?_;simp)
 refine N _ _ ⟨c2,k2⟩<|λhH=>?_;clear N K;refine dJ ?_;go_wp2_with (go_at_call 234;refine bk.V ?_;rintro e w5 ⟨r,af,L,G,rfl,rfl,p1,Q,R⟩;have H5:=aX R;clear R);exact fC U U ⟨U,_,H5⟩
structure Rq where
 m:bh
 no:Int
abbrev aU(r:Rq):aF aB:=#[I r.m.1,ξ r.m.nm,I r.m.kd,I r.m.fl,I r.m.ck,I r.m.of,I r.m.ln,ξ r.m.dt,I r.m.er,I r.no]
structure Rq.Ok(r:Rq):Prop where
 of0:0<=r.m.of
 of1:r.m.of<=65535
 nh:0<=r.m.ln
 qU:r.m.ln<=65535
def Rq.ss(a b:Rq):Bool:=!(decide (a.m.3=0)&&decide (b.m.3=0))&&(decide (a.m.6<b.m.6+b.m.7)&&decide (b.m.6<a.m.6+a.m.7))
def IF(m w)(h0:0<=m.7)(g:m.7<=65535):
  bN 201 #[ν<|gy m] w (I<|sy m):=by
 let⟨i,h,kd,f,b,of,ln,c,d⟩:=m
 dsimp only at h0 g⊢
 by_cases a:kd=0
 ·subst a;go_enter func201,ntmps201;go_wp2;go_ret;exact⟨U,bq⟩
 let j:(kd==0)=aa:=D2
 let e:sy ⟨i,h,kd,f,b,of,ln,c,d⟩=4:=by simp[sy,a]
 rw[e];go_enter func201,ntmps201;go_wp2;go_ret;exact⟨U,bq⟩
def Xi(r w):
  bN 206 #[ν<|aU r] w (I<|cw r.m):=by
 let⟨⟨h,g,kd,f,b,of,ln,c,d⟩,no⟩:=r
 by_cases a:kd=2
 ·subst a;go_enter func206,ntmps206;go_wp2;go_ret;exact⟨U,bq⟩
 let i:(kd==2)=aa:=D2
 let e:cw ⟨h,g,kd,f,b,of,ln,c,d⟩=ln:=by simp[cw,a]
 rw[e];go_enter func206,ntmps206;go_wp2;go_ret;exact⟨U,bq⟩
def Oj(r w)(h:r.Ok):
  bN 268 #[ν<|aU r] w (I<|r.m.6+r.m.7):=by
 let⟨h0,a,b,c⟩:=h
 let⟨⟨j,i,kd,g,d,of,ln,e,f⟩,no⟩:=r
 dsimp only at h0 a b c⊢;go_enter func268,ntmps268;go_wp2;go_ret;exact⟨U,bq⟩
abbrev dD(W:aq)(b:Nat)(r:Rq):Prop:=kD W (F b 0)=Z (I r.m.1)/\kD W (F b 1)=Z (ξ r.m.nm)/\kD W (F b 2)=Z (I r.m.kd)/\kD W (F b 3)=Z (I r.m.fl)/\kD W (F b 4)=Z (I r.m.ck)/\kD W (F b 5)=Z (I r.m.of)/\kD W (F b 6)=Z (I r.m.ln)/\kD W (F b 7)=Z (ξ r.m.dt)/\kD W (F b 8)=Z (I r.m.er)/\kD W (F b 9)=Z (I r.no)
variable{r:Rq}{q:av Rq}{b1 b0:Nat}
def dD.of(h:W.1[b]? =Z (au (aU r) 134 (0,0))):dD W b r:=⟨aD h U,aD h U,aD h U,aD h U,aD h U,aD h U,aD h U,aD h U,aD h U,aD h U⟩
def yw(w:aq)(a b:Rq)(W:aq):Prop:=W.1[pB w.1]? =Z (au (aU a) 134 (0,0))/\W.1[pB w.1+1]? =Z (au (aU b) 134 (0,0))/\aK w W
def yw.old{V a b}(h:yw w a b V)(c:aK V W):yw w a b W:=⟨bT c h.1,bT c h.2.1,h.2.2.E<|c.V h.2.2.4⟩
def yw.cells{a b}(h:yw w a b W):dD W w.1.size a/\dD W (pB w.1+1) b:=⟨dD.of h.1,dD.of h.2.1⟩
def YG(a b w)(j:a.Ok)(k:b.Ok):
  bN 241 #[ν<|aU a,ν<|aU b] w (ω<|a.ss b):=by
 have g:bc (yw w a b<|lL (lL w<|au (aU a) 134)<|au (aU b) 134):=⟨(bj _ _ _ ay).E<|ao w _,by have:=ao (lL w<|au (aU a) 134) (au (aU b) 134);simpa using this,bq.alloc ay _⟩;have h:bc (a.Ok/\b.Ok):=⟨j,k⟩;generalize t:a.ss b=z;cases u:(a.m.3==0)<;>cases v:(b.m.3==0)<;>(try cases o:decide (a.m.6<b.m.6+b.m.7))<;>(try cases p:decide (b.m.6<a.m.6+a.m.7))
 all_goals
  go_enter func241,ntmps241
  first
  |(go_upto_region 3 with fail
    refine ga (S:=λW=>dD W w.1.size a/\dD W (pB w.1+1) b) g.H.cells λs=>?_;apply tl [0,1,2,3];refine rH 4 λK f=>?_;go_simp;go_at_call 268;refine(Oj b _ h.H.2).V ?_;rintro e x ⟨rfl,c⟩;have d:=aX<|g.H.old ⟨c.1,c.2,c.3,c.4,c.5⟩;refine f.H _ _ d.H.cells (λq=>?_);clear f K c;apply tl [5,6]
    first
    |(apply CH [7,8,9,10,11,12])
    |(apply tl [7,8,9,10]
      refine rH 11 λK f=>?_;go_simp;go_at_call 268;refine(Oj a _ h.H.1).V ?_;rintro e n ⟨rfl,i⟩
      replace d:bc (yw w a b n):=d.H.old i
      refine f.H _ _ d.H.cells (λr=>?_);clear f K i;apply tl [12])
    apply tl [13,14];refine dJ ?_;go_wp2;go_ret;exact⟨by simp_all[Rq.ss],d.H.2.2⟩)
  |(go_wp2
    go_ret;exact⟨by simp_all[Rq.ss],g.H.2.2⟩)
def abe{b:Type}(a:b->av aB)(k)(hF:∀x,pA (a x)=k):∀(l:av b) (i:Nat) (x:b),l[i]? =Z x->∀j,j<k->(l.flatMap a)[i*k+j]? =(a x)[j]? :=by
 intro l;induction l with
 |nil=>intro i x h;simp at h
 |cons c l e=>
  intro i x h j d;rw[pH];cases i with
  |zero=>grind
  |succ i=>grind
abbrev kr(w:aq)(v:aB)(q:av Rq):Prop:=mT w 0 134 10 v q.length (q.flatMap λr=>(aU r).toList)
def kr.form(h:kr w v q):∃a kh,v=ζ a (pA q) kh/\pA q<=kh/\kh<=cP:=by obtain⟨b,c⟩|⟨g,kh,f,b,_,_,d,e,_⟩:=h.2;exact⟨aj,0,by rw[b,c],Y,by rw[cP];omega⟩;exact⟨_,kh,b,d,e⟩
def kr.at {a}(h:kr w (ζ a n kh) q)(d:q[i]? =Z r):∃g,a=Z ⟨g,0,aj⟩/\
  (kD w (F g<|i*10)=Z (I r.m.1)/\kD w (F g<|i*10+1)=Z (ξ r.m.2)/\kD w (F g<|i*10+2)=Z (I r.m.3)/\kD w (F g<|i*10+3)=Z (I r.m.4)/\kD w (F g<|i*10+4)=Z (I r.m.5)/\kD w (F g<|i*10+5)=Z (I r.m.6)/\kD w (F g<|i*10+6)=Z (I r.m.7)/\kD w (F g<|i*10+7)=Z (ξ r.m.8)/\kD w (F g<|i*10+8)=Z (I r.m.9)/\kD w (F g<|i*10+9)=Z (I r.2)):=by
 let p:=(bY.1 d).1;obtain⟨c,b⟩|⟨g,l,e,c,_,b,_,_,o,f⟩:=h.2;omega;cases c
 let cell:∀j,j<10->e[i*10+j]? =(aU r).1[j]? :=λj k=>by rw[<-abe (λr=>(aU r).1) 10 (λ_=>U) q i r d j k,<-f,vP,aO Y,zw]
 exact⟨g,U,aD b<|cell 0 Y,aD b<|cell 1 Y,aD b<|cell 2 Y,aD b<|cell 3 Y,aD b<|cell 4 Y,aD b<|cell 5 Y,aD b<|cell 6 Y,aD b<|cell 7 Y,aD b<|cell 8 Y,aD b<|cell 9 Y⟩
abbrev Pv(r:Rq):aB:=.func (.func 241) #[ν (aU r)] #[]
def acD(v q r w)(h:kr w v q)(hr:r.Ok)(E:∀x∈q,x.Ok)(L:pA q<=1048576):
  ax ai 282 #[v,Pv r] w λe l=>aK w l/\∃i:Int,e=aG (I i)/\decide (0<=i)=q.any (r.ss ·):=by
 obtain⟨a,kh,rfl,H,hm⟩:=h.form;generalize A:q.any (r.ss ·)=B;let t:=aX A;let m:bc (kr w (ζ a (pA q) kh) q/\r.Ok/\∀x∈q,x.Ok):=⟨h,hr,E⟩;go_enter func282,ntmps282;go_wp2
 go_loopw [8] (λs wr=>∃i:Nat,i<=pA q/\s=I (i:Int)/\bc (aK w wr/\∀j x,j<i->q[j]? =Z x->r.ss x=aa)) (λs _=>pA q-pD (dw s))
 case atStart=>exact⟨0,cO _,U,bv _ _,λj c k=>by omega⟩
 case round=>
  obtain⟨i,J,rfl,hR⟩:=hrel;by_cases D:i<pA q
  ·let z:(i:Int)<(pA q:Int):=Y;obtain⟨x,b⟩:∃x,q[i]? =Z x:=⟨q[i],dj D⟩;have u:kr wr (ζ a (pA q) kh) q:=yX m.1 hR.1;obtain⟨g,rfl,N,O,P,Q,R,S,T,V,W,X⟩:=u.at b;have d:bc (ax ai 241 #[ν<|aU r,ν<|aU x] wr λe l=>e=aG (ω<|r.ss x)/\aK w l):=by apply(YG r x wr m.2.1<|m.2.2 x<|jC b).V;rintro e l ⟨rfl,C⟩;exact⟨U,hR.1.E<|C.V hR.1.4⟩
   clear u;cases f:r.ss x with
   |true=>let n:=uw.2 ⟨x,jC b,f⟩;rw[f]at d;go_wp2_with (go_at_call 241;apply d.V;rintro e G ⟨rfl,o⟩);go_ret;exact⟨o,(i:Int),U,by rw[<-t,n];simp⟩
   |false=>rw[f]at d;go_wp2_with (go_at_call 241;apply d.V;rintro e G ⟨rfl,o⟩);refine⟨⟨i+1,Y,by go_num,o,λj c k p=>?_⟩,?_⟩;by_cases e:j=i;subst e;rw[b]at p;cases p;exact f;exact hR.2 j c Y p;simp[dw];omega
  let z:¬(i:Int)<(pA q:Int):=Y;let n:q.any (r.ss ·)=aa:=by rw[vM];intro x b;let⟨j,k⟩:=pJ.1 b;let K:=(bY.1 k).1;rw[hR.2 j x Y k];simp
  go_wp2;go_ret;exact⟨hR.1,-1,U,by rw[<-t,n];rfl⟩
def V9(v q r w)(h:kr w v q)(hr:r.Ok)(f:∀x∈q,x.Ok)(d:pA q<=1048576):
  bN 267 #[v,Pv r] w (ω (q.any (r.ss ·))):=by
 generalize a:q.any (r.ss ·)=B;go_enter func267,ntmps267;go_wp2_with (go_at_call 282;apply(aX (a▸acD v q r w h hr f d)).V;rintro e g ⟨b,i,rfl,c⟩);go_ret;exact⟨by rw[<-c];rfl,b⟩
structure Ft where
 pm:Int
 eJ:Bool
 part:Int
abbrev DD(c:Nat)(rv:aB)(f:Ft)(due a:Int):aF aB:=#[jp c,rv,I f.1,ω f.2,I f.part,I due,I a]
structure fA(W:aq)(j c:Nat)(rv:aB)(q:av Rq)(f:Ft)(due order:Int):Prop where
 box:W.1[j]? =Z (au (DD c rv f due order) 217 (0,0))
 row:kr W rv q
variable{f:Ft}
def fA.key{rv}(h:fA W j c rv q f due order):mj W j (due,order):=⟨aD h.1 U,aD h.1 U⟩
def fA.below{rv}(h:fA w j c rv q f due order)(a:aK w w'):fA w' j c rv q f due order:=⟨bT a h.1,yX h.2 a⟩
def fA.drewN{rv}(h:fA w j c rv q f due order)(d):fA (w.drewN d) j c rv q f due order:=⟨h.1,h.2⟩
def acP(j c rv q)(f:Ft)(due order r w)(h:fA w j c rv q f due order)(hr:r.Ok)(p:∀x∈q,x.Ok)(u:pA q<=1048576):
  bN 240 #[jp j,ν<|aU r] w (ω (q.any (r.ss ·))):=by
 have b:aK w (lL w<|au (aU r) 134):=bq;have i:(lL w<|au (aU r) 134).1[pB w.1]? =Z (au (aU r) 134 (0,0)):=ao w _;have g:bc (∀W,aK (lL w<|au (aU r) 134) W->kD W (F j 1)=Z rv/\dD W w.1.size r):=λW n=>⟨aD (bT n<|bT b h.1) U,dD.of<|bT n i⟩;have z:=g _ (bv _ _);generalize l:q.any (r.ss ·)=B
 have t:bc (∀k,ax ai 267 #[rv,Pv r] ((lL w<|au (aU r) 134).drewN k) λe s=>e=aG (ω B)/\aK (lL w<|au (aU r) 134) s):=λk=>by rw[<-l];apply(V9 rv q r _ ((h.below b).drewN k).2 hr p u).V;rintro e s ⟨rfl,a⟩;exact⟨U,a.1,a.2,a.3,a.4,a.5⟩
 have d:=aX b;obtain⟨ra,v,rfl,_⟩:=h.2.form;clear h hr p i b l;go_enter func240,ntmps240
 go_upto_region 1 with fail
 refine ga (S:=λW=>kD W (F j 1)=Z (ζ ra (pA q) v)/\dD W w.1.size r) z λC=>?_;apply tl [0,1,2,3,4,5];refine rH 6 λK m=>?_;go_simp;go_at_call 267;apply(t 1).V;rintro e D ⟨rfl,o⟩;refine m _ _ (g _ o)<|λA=>?_;clear m K;apply tl [7];refine dJ ?_;go_wp2;go_ret;exact⟨U,d.E<|o.V d.4⟩
def mD{a x u}(h:kD W.drew (F a o)=Z v)(c:a≠b):kD (kB W (F b x) u).drew (F a o)=Z v:=by exact tM h c
def fA.drew{rv}(h:fA w j c rv q f due order):fA w.drew j c rv q f due order:=⟨h.1,h.2⟩
def aS.drew(h:aS X w W):aS X w W.drew:=⟨h.1,h.2,h.3⟩
abbrev dK(f:Ft):aF aB:=#[I f.1,ω f.2,I f.part]
def aiF(j c rv q)(f0 f:Ft)(Ts WN now order w)(h:fA w j c rv q f0 Ts WN)(h0:0<=now)(H:now<=281474976710656)(x:0<=f.1)(z:f.1<=65535):
  ax ai 210 #[jp j,I now,I order,ν<|dK f] w λe A=>e=aG (θ #[])/\fA A j c rv q f (now+f.1) order/\aS (·=j) w A:=by
 let⟨a,d,part⟩:=f
 dsimp only at x z;have p:aK w (lL w<|au (dK ⟨a,d,part⟩) 188):=bq;have m:(lL w<|au (dK ⟨a,d,part⟩) 188).1[pB w.1]? =Z (au (dK ⟨a,d,part⟩) 188 (0,0)):=ao w _;have hj:=(bf.1 h.1).1;have l:=bT p h.1;have r:kD (lL w<|au (dK ⟨a,d,part⟩) 188) (F w.1.size 0)=Z (I a)/\kD (lL w<|au (dK ⟨a,d,part⟩) 188) (F w.1.size 1)=Z (ω d)/\kD (lL w<|au (dK ⟨a,d,part⟩) 188) (F w.1.size 2)=Z (I part):=⟨aD m U,aD m U,aD m U⟩;have i:pB w.1≠j:=Y;have P:=aJ (lL w<|au (dK ⟨a,d,part⟩) 188) j 2 (I f0.1) l;have Q:=aJ (lL w<|au (dK ⟨a,d,part⟩) 188) j 3 (ω f0.2) l;have R:=aJ (lL w<|au (dK ⟨a,d,part⟩) 188) j 4 (I f0.3) l;have T:=aJ (lL w<|au (dK ⟨a,d,part⟩) 188) j 5 (I Ts) l;have V:=aJ (lL w<|au (dK ⟨a,d,part⟩) 188) j 6 (I WN) l;have X:∀k,nc (lL w<|au (dK ⟨a,d,part⟩) 188) (F j k)=aa:=λk=>bp l k
 have v:bc (fA (kB (kB (kB (kB (kB (lL w<|au (dK ⟨a,d,part⟩) 188) (F j 2)<|I a) (F j 3)<|ω d) (F j 4)<|I part) (F j 5)<|I<|nt cJ<|now+a) (F j 6)<|I order) j c rv q ⟨a,d,part⟩ (nt cJ<|now+a) order/\aS (·=j) w (kB (kB (kB (kB (kB (lL w<|au (dK ⟨a,d,part⟩) 188) (F j 2)<|I a) (F j 3)<|ω d) (F j 4)<|I part) (F j 5)<|I<|nt cJ<|now+a) (F j 6)<|I order)):=by have G:=bG (bG (bG (bG l 2<|I a) 3 (ω d)) 4<|I part) 5 (I<|nt cJ<|now+a);have mf:∀b,b≠j->(kB (kB (kB (kB (kB (lL w<|au (dK ⟨a,d,part⟩) 188) (F j 2)<|I a) (F j 3)<|ω d) (F j 4)<|I part) (F j 5)<|I<|nt cJ<|now+a) (F j 6)<|I order).1[b]? =(lL w<|au (dK ⟨a,d,part⟩) 188).1[b]? :=λb o=>(bC o).E ((bC o).E<|(bC o).E<|(bC o).E<|bC o);refine⟨⟨(bG G 6<|I order),(h.below p).2.1,?_⟩,⟨p.1,ay,λb o J=>(mf b J).E (p.5 b o)⟩⟩;rcases(h.below p).2.2 with t|⟨g,kh,C,t,L,u,N⟩;exact aA t;refine az ⟨g,kh,C,t,L,(mf g λe=>?_).E u,N⟩;rw[e,l]at u;cases u
 have B:bc (nt cJ (now+a)=now+a):=(by rw[vL];omega:nt cJ (now+a)=now+a);clear h p m l h0 H x z;go_enter func210,ntmps210
 go_upto_region 1 with fail
 generalize lL w (au (dK ⟨a,d,part⟩) 188)=O at*;refine ga (S:=λW=>kD W (F w.1.size 0)=Z (I a)/\kD W (F w.1.size 1)=Z (ω d)/\kD W (F w.1.size 2)=Z (I part)) r λah=>?_;apply tl [0,1,2,3,4,5,6,7];generalize nt cJ (now+a)=D at*;apply tl [8,9,10];refine rH 11 λK n=>?_;go_simp;refine n _ _ ⟨mD (mD (mD r.1 i) i) i,mD (mD (mD r.2.1 i) i) i,mD (mD (mD r.2.2 i) i) i⟩<|λm=>?_;clear n K;apply tl [12,13];refine rH 14 λK n=>?_;go_simp;refine n _ _ ⟨mD m.1 i,mD m.2.1 i,mD m.2.2 i⟩<|λs=>?_;clear n K;apply tl [15,16];refine rH 17 λK n=>?_;go_simp;refine n _ _ ⟨mD s.1 i,mD s.2.1 i,mD s.2.2 i⟩<|λhC=>?_;clear n K;refine dJ ?_;go_wp2;have e:=B;subst e;exact fC U U ⟨U,v.1.drew,v.2.drew⟩
abbrev clG(no wt sz cl e b d rt a f c:Int)(rb:Nat)(s:ByteArray)(q:aB)(bw prom:Int)(out:aB)(tok de sv:Int)(ch:Nat):aF aB:=#[I no,I wt,I sz,I cl,I e,I b,I d,I rt,I a,I f,I c,aQ rb,ξ s,q,I bw,I prom,out,I tok,I de,I sv,.chan (Z ch)]
def TW(c kh a w)(h:kD w (F c 13)=Z (ζ a 0 kh)):
  bN 78 #[jp c] w (θ #[afZ,ω aa]):=by
 let b:=jo h;go_enter func78,ntmps78;go_wp2;refine iB (by simp[bo,results78,go_sem]) U ⟨U,?_⟩
 repeat (refine fg ?_ (aR _) _)
 exact bq
def TX(c v r q w)(h:kD w (F c 13)=Z v)(b:kr w v (r::q)):
  bN 78 #[jp c] w (θ #[ν<|aU r,ω M]):=by
 have z:=jo h;obtain⟨a,kh,rfl,_⟩:=b.form;obtain⟨g,rfl,d,e,f,j,k,l,m,n,o,p⟩:=b.at (i:=0) U;simp at d e f j k l m n o p;have A:=jo d;have B:((pA (r::q):Int)==0)=aa:=j4
 have C:(0:Int)<(pA (r::q):Int):=j4
 generalize pA (r::q)=L at*
 let⟨⟨E,D,kd,x,s,of,ln,t,u⟩,no⟩:=r
 go_enter func78,ntmps78;go_wp2;refine iB (by simp[bo,results78,go_sem]) U ⟨U,?_⟩
 repeat (refine fg ?_ (aR _) _)
 exact bq
def ML(c w oa)(n kh:Nat)(k prom ou)(g:n<=4194304)(f:0<=k/\k<=131072)(i:0<=prom/\prom<=4194304)(h:kD w (F c 16)=Z (ζ oa n kh))(b:kD w (F c 15)=Z (I prom))(d:kD w (F c 10)=Z (I ou)):
  ax ai 225 #[jp c,I k] w λe a=>e=aG (ω<|decide<|(n:Int)+prom+k<=ou)/\∃m,a=w.drewN m:=by
 go_enter func225,ntmps225;go_wp2
 go_quiet (fail)
 go_wp2;go_ret;exact⟨U,_,U⟩
def Sv(c r de w)(h:kD w (F c 18)=Z (I de)):
  bN 168 #[jp c,ν<|aU r] w (ω<|decide<|cw r.m<=de):=by
 have q:c<pB w.1:=jo h;have d:aK w (lL w<|au (aU r) 134):=bq;have i:(lL w<|au (aU r) 134).1[pB w.1]? =Z (au (aU r) 134 (0,0)):=ao w _
 have g:bc (∀W,aK (lL w<|au (aU r) 134) W->kD W (F c 18)=Z (I de)/\dD W w.1.size r):=λW l=>⟨(iO (a:=F c 18)<|(l.5 c bV).E<|d.5 c q).E h,dD.of<|bT l i⟩
 have s:=g _ (bv _ _);have f:=aX d
 have p:bc (∀k,ax ai 206 #[ν<|aU r] ((lL w<|au (aU r) 134).drewN k) λe o=>e=aG (I<|cw r.m)/\aK (lL w<|au (aU r) 134) o):=λk=>by apply(Xi r _).V;rintro e o ⟨rfl,b⟩;exact⟨U,b.1,b.2,b.3,b.4,b.5⟩
 clear d i;generalize cw r.m=t at*;go_enter func168,ntmps168
 go_upto_region 1 with fail
 refine ga (S:=λW=>kD W (F c 18)=Z (I de)/\dD W w.1.size r) s λv=>?_;apply tl [0,2,3,4,5];refine rH 1 λK j=>?_;go_simp;go_at_call 206;apply(p 1).V;rintro e x ⟨rfl,n⟩;refine j _ _ (g _ n)<|λu=>?_;clear j K;apply tl [6,7];refine dJ ?_;go_wp2;go_ret;exact⟨U,f.E<|n.V f.4⟩
def Below.drew'{B w W}(h:ca B w W):ca B w W.drew:=⟨h.1,h.2,h.3,h.4,h.5⟩
def eC{B}(h:ca B w W)(k v):ca B w (kB W (F B k) v):=fg h (aR _) _
def Sf{B}(h:ca B w W)(v0 v1 v2 v3 v4 v5 v6 v7 v8 v9):ca B w (kB (kB (kB (kB (kB (kB (kB (kB (kB (kB W (F B 0) v0) (F B 1) v1) (F B 2) v2) (F B 3) v3) (F B 4) v4) (F B 5) v5) (F B 6) v6) (F B 7) v7) (F B 8) v8) (F B 9) v9).drew:=Below.drew' (eC (eC (eC (eC (eC (eC (eC (eC (eC (eC h _ _) _ _) _ _) _ _) _ _) _ _) _ _) _ _) _ _) _ _)
abbrev qp:aF aB:=#[I 0,ξ ⟨#[]⟩,I 0,I 0,I 0,I 0,I 0,ξ ⟨#[]⟩,I 0,I 0]
abbrev rZ(W:aq)(b:Nat):Prop:=W.1[b]? =Z (au qp 134 (0,0))
abbrev uO(W:aq)(c:Nat)(tok:Int)(b:Nat)(r:Rq):Prop:=kD W (F c 17)=Z (I tok)/\dD W b r
def uO.old{tok}(h:uO W c tok b r)(f:aK W W'):uO W' c tok b r:=by let e:∀{a k:Nat} {v:aB},kD W (F a k)=Z v->kD W' (F a k)=Z v:=λ{a k v} d=>(iO<|f.5 a<|jo d).E d;grind
def uO.drewN{tok}(h:uO W c tok b r)(m):uO (W.drewN m) c tok b r:=h
def ww(q:av Rq):Int:=match q with|[]=>6|r::_=>6+sy r.m
def agx(c n kh oa prom a v r q w)(h:kD w (F c 13)=Z v)(z:kr w v (r::q))(hr:r.Ok)(o:n<=4194304)(t:0<=prom/\prom<=4194304)(p:kD w (F c 16)=Z (ζ oa n kh))(u:kD w (F c 15)=Z (I prom))(s:kD w (F c 10)=Z (I a)):
  bN 188 #[jp c] w (ω<|decide<|(n:Int)+prom+ww (r::q)<=a):=by
 have g:=aX (TX c v r q w h z)
 have J:0<=sy r.m/\sy r.m<=65539:=by have G:=hr.3;have H:=hr.4;rw[sy];split<;>omega
 have HM:bc (∀W,aK w W->(ax ai 201 #[ν<|kE r.m.1 r.m.2 r.m.3 r.m.4 r.m.5 r.m.6 r.m.7 r.m.8 r.m.9] W λe b=>e=aG (I<|sy r.m)/\aK w b)/\ax ai 225 #[jp c,I<|6+sy r.m] W λe b=>e=aG (ω<|decide<|(n:Int)+prom+(6+sy r.m)<=a)/\aK w b):=λW d=>by have lw:∀(k:Nat) (x:aB),kD w (F c k)=Z x->kD W (F c k)=Z x:=λk x A=>(iO<|d.5 c<|jo h).E A;constructor;apply(IF r.m W hr.3 hr.4).V;rintro e b ⟨rfl,i⟩;exact⟨U,d.E<|i.V d.4⟩;refine(ML c W oa n kh _ prom a o ⟨Y,Y⟩ t (lw _ _ p) (lw _ _ u)<|lw _ _ s).V ?_;rintro e b ⟨rfl,m,rfl⟩;exact⟨U,jj d _⟩
 have e:ww (r::q)=6+sy r.m:=U;rw[e];generalize sy r.m=sm at*;generalize decide ((n:Int)+prom+(6+sm)<=a)=ok at*
 let⟨⟨P,K,kd,E,B,of,ln,C,D⟩,no⟩:=r
 go_enter func188,ntmps188
 go_wp2_with (first
  |(go_at_call 78;apply g.V;rintro e L ⟨rfl,f⟩)|(go_at_call 201;apply(HM _<|f.E<|bq.V f.4).1.V;rintro e N ⟨rfl,j⟩)|(go_at_call 225;apply(HM _ j).2.V;rintro e O ⟨rfl,l⟩))
 go_ret;exact⟨U,l⟩
def agw(c n kh cap' a oa prom b)(w:aq)(h:kD w (F c 13)=Z (ζ a 0 cap'))(j:n<=4194304)(p:0<=prom/\prom<=4194304)(l:kD w (F c 16)=Z (ζ oa n kh))(q:kD w (F c 15)=Z (I prom))(o:kD w (F c 10)=Z (I b)):
  bN 188 #[jp c] w (ω<|decide<|(n:Int)+prom+ww []<=b):=by
 have HM:bc (∀W,aK w W->ax ai 225 #[jp c,I 6] W λe g=>e=aG (ω<|decide<|(n:Int)+prom+ww []<=b)/\aK w g):=λW d=>by have lw:∀(k:Nat) (x:aB),kD w (F c k)=Z x->kD W (F c k)=Z x:=λk x r=>(iO<|d.5 c<|jo h).E r;refine(ML c W oa n kh 6 prom b j ⟨Y,Y⟩ p (lw _ _ l) (lw _ _ q)<|lw _ _ o).V ?_;rintro e g ⟨rfl,m,rfl⟩;exact⟨U,jj d _⟩
 generalize decide ((n:Int)+prom+ww []<=b)=ok at*;go_enter func188,ntmps188
 go_wp2_with (first
  |(go_at_call 78;apply(aX<|TW c cap' a w h).V;rintro e s ⟨rfl,f⟩)|(go_at_call 225;apply(HM _<|f.E<|bq.V f.4).V;rintro e t ⟨rfl,i⟩))
 go_ret;exact⟨U,i⟩
def adC(c ch v q qu ok w)(s:kD w (F c 20)=Z (.chan<|Z ch))(t:w.1[ch]? =Z (.chan 0 #[] aa 0 0 aa))(h:kD w (F c 13)=Z v)(u:kr w v q)(x:kD w (F c 4)=Z (I qu))(z:∀k,ax ai 188 #[jp c] (w.drewN k) λe g=>e=aG (ω ok)/\aK w g):
  bN 151 #[jp c] w (ω<|decide ((pA q:Int)<qu)&&ok):=by
 obtain⟨a,kh,rfl,_⟩:=u.form;have n:=jo h;have i:bc (∀k,ax ai 116 #[jp c] (w.drewN k) λe g=>e=aG (ω aa)/\g=w.drewN k):=λk=>AM c ch (w.drewN k) s t;have j:bc (∀W,aK w W->kD W (F c 13)=Z (ζ a (pA q) kh)/\kD W (F c 4)=Z (I qu)):=λW l=>⟨(iO<|l.5 c n).E h,(iO<|l.5 c n).E x⟩;have d:=j _ (bv _ _);generalize pA q=L at*
 by_cases o:(L:Int)<qu
 ·have f:=lY o;rw[f,Bool.true_and];go_enter func151,ntmps151;go_upto_region 1 with fail;refine ga (S:=λW=>kD W (F c 13)=Z (ζ a L kh)/\kD W (F c 4)=Z (I qu)) d λr=>?_;apply tl [0];refine rH 1 λK b=>?_;go_simp;go_at_call 116;apply(i 1).V;rintro e A ⟨rfl,rfl⟩;refine b _ _ d<|λp=>?_;clear b K;apply tl [2,3,4,5,6,7,8,9];apply tl [10,11,12,13,14,15,16,17];refine rH 18 λK b=>?_;go_simp;go_at_call 188;apply((aX z) 1).V;rintro e C ⟨rfl,m⟩;refine b _ _ (j _ m)<|λB=>?_;clear b K;apply tl [19,20];refine dJ ?_;go_wp2;go_ret;exact⟨U,m⟩
 rw[lX o,Bool.false_and];go_enter func151,ntmps151
 go_upto_region 1 with fail
 refine ga (S:=λW=>kD W (F c 13)=Z (ζ a L kh)/\kD W (F c 4)=Z (I qu)) d λr=>?_;apply tl [0];refine rH 1 λK b=>?_;go_simp;go_at_call 116;apply(i 1).V;rintro e A ⟨rfl,rfl⟩;refine b _ _ d<|λp=>?_;clear b K;apply tl [2,3,4,5,6,7,8,9];apply tl [10,11,12,13,14,15,16];apply CH [17,18];apply tl [19,20];refine dJ ?_;go_wp2;go_ret;exact⟨U,jj (bv _ _) _⟩
def jy(er:UInt8)(ck:Int)(d:ByteArray):ByteArray:=⟨#[82]⟩++⟨#[er]⟩++⟨(cu ck).toArray⟩++d
def Xp(er:UInt8)(ck d w)(f:0<=ck)(g:ck<=65535)(hd:pC d<=65535):
  bN 202 #[I (er.toNat:Int),I ck,ξ d] w (ξ<|jy er ck d):=by
 have c:bc (∀W,aK w W->ax ai 238 #[I ck] W λe b=>e=aG (ξ ⟨(cu ck).toArray⟩)/\aK w b):=λW a=>by apply(Nn ck W f g).V;rintro e b ⟨rfl,h⟩;exact⟨U,a.E<|h.V a.4⟩
 have n:pC (⟨(cu ck).toArray⟩:ByteArray)=2:=U;generalize k:(⟨(cu ck).toArray⟩:ByteArray)=l at*;have m:(er.toNat:Int)%256=(er.toNat:Int):=by have:=er.toNat_lt;omega
 have e:jy er ck d=⟨#[82]⟩++⟨#[er]⟩++l++d:=by rw[jy,k]
 rw[e];go_enter func202,ntmps202
 go_wp2_with (first
  |(go_at_call 237;apply(NI er _).V;rintro e o ⟨rfl,i⟩)|(go_at_call 238;apply(c _ i).V;rintro e p ⟨rfl,j⟩))
 go_ret;exact⟨U,j⟩
def aje(c n w)(h:decide (n<0)=M):
  eZ 69 #[aQ c,I n] w (θ #[ξ ⟨#[]⟩,I 5]):=by
 go_enter func69,ntmps69;go_wp2
 go_ret2
 exact⟨U,U⟩
def X3(b kh w):(convert 158 9<|ζ b 0 kh).run ai w=.ok (ξ ⟨#[]⟩) w:=by
 cases b with
 |some a=>exact yd w 158 9 5 a kh [] dp kc gc (λj c=>by cases c)
 |none=>rw[run_convert_bytes_string w 158 9 5 aj 0 kh dp kc gc];rfl
structure Cf where
 sz:Int
 cl:Int
 qu:Int
 mx:Int
 qn:Int
 rt:Int
 bu:Int
 wk:Int
 ou:Int
structure Ck where
 no:Int
 wt:Int
 ph:Int
 aN:ByteArray
 q:av Rq
 bw:Int
 pc:Int
 H:ByteArray
 tok:Int
 de:Int
 sv:Int
 us:av Int
def gM(g:Cf)(m:bh):ByteArray:=if m.1=3 then(if m.9=0 then⟨#[]⟩else jy (ji (pD m.9)) m.5 ⟨#[]⟩)else vt g.1 g.4 m
def Ck.shut(k:Ck):Ck:={k with ph:=4,aN:=⟨#[]⟩,q:=[],H:=⟨#[]⟩}
def Ck.qt(g:Cf)(k:Ck)(x:bh×Int):Ck:={k with ph:=ua k.3 x.1,aN:=mS k.4 (pD x.2) k.4.size,H:=k.H++gM g x.1,q:=if ta x.1 then k.q++[⟨x.1,-1⟩]else k.q,us:=if ta x.1 then k.us++[x.1.5]else k.us}
def Ck.may(g:Cf)(k:Ck):Prop:=k.3≠4/\(pA k.q:Int)<g.3/\(pC k.H:Int)+k.7+ww k.q<=g.9
def Ck.read(g:Cf):Nat->Ck->Ck
 |0,k=>k|f+1,k=>
  if k.3≠4/\(pA k.q:Int)<g.3/\(pC k.H:Int)+k.7+ww k.q<=g.9 then
   let x:=first g.1 g.4 k.3 k.us k.4
   if x.2=0 then k else if x.1.1=4 then k.shut else Ck.read g f (k.qt g x)
  else k
open Ck renaming read->et
open Go.ConcN (sumTo)
inductive qJ(g:Cf)(k:Ck):av (bh×Int)->Ck->Prop
 |nil:qJ g k [] k
 |snoc {ko:av (bh×Int)} {k1:Ck} {x:bh×Int} (h:qJ g k ko k1) (b:k1.may g) (c:first g.sz g.mx k1.ph k1.us k1.aN=x) (h0:x.2≠0) (a:x.1.1≠4):qJ g k (ko++[x]) (k1.qt g x)
variable{k k1 k':Ck}{g:Cf}{q:aB}
def Xk{x}(a:k.may g)(c:first g.1 g.4 k.3 k.us k.4=x)(h0:x.2≠0)(b:x.1.1≠4)(f):et g (f+1) k=et g f (k.qt g x):=by rw[Ck.may]at a;rw[et,aO a];simp[c,h0,b,dM]
def YN{x}(a:k.may g)(c:first g.1 g.4 k.3 k.us k.4=x)(h0:x.2≠0)(b:x.1.1=4)(f):et g (f+1) k=k.shut:=by rw[Ck.may]at a;rw[et,aO a];simp[c,h0,b,dM,dN]
theorem Y0(h0:(first g.1 g.4 k.3 k.us k.4).2=0)(f):et g f k=k:=by
 cases f with
 |zero=>rfl
 |succ f=>rw[et];grind
def Xj(a:¬k.may g)(f):et g f k=k:=by
 cases f with
 |zero=>rfl
 |succ f=>rw[et];exact aI a
def Oh(h:qJ g k ko k1):∀f,et g (pA ko+f) k=et g f k1:=by
 induction h with
 |nil=>intro f;simp
 |@snoc ko k1 x h b c h0 a d=>intro f;let e:pA (ko++[x])+f=pA ko+(f+1):=bV;rw[e,d<|f+1,Xk b c h0 a]
def GW(h:qJ g k ko k1):
  k1.3=((⟨k.3,k.us,0⟩:St).run ko).1/\((⟨k.3,k.us,0⟩:St).run ko).2=k1.us/\k1.4=mS k.4 ((⟨k.3,k.us,0⟩:St).run ko).3 k.4.size/\((⟨k.3,k.us,0⟩:St).run ko).3<=pC k.4/\
   k1.1=k.1/\k1.2=k.2/\k1.9=k.9/\k1.6=k.6/\k1.7=k.7/\k1.de=k.de/\k1.sv=k.sv:=by
 induction h with
 |nil=>refine⟨U,U,?_,cO _,U,U,U,U,U,U,U⟩;show k.4=mS k.4 0 k.4.size;simp
 |@snoc ko k1 x h l c h0 j i=>
  let⟨d,e,a,n,f⟩:=i;have b:=Mm g.1 g.4 k1.3 k1.us k1.4;rw[c]at b;let m:pC k1.4=pC k.4-((⟨k.3,k.us,0⟩:St).run ko).3:=by rw[a];simp[oH]
  rw[St.Oz];refine⟨?_,?_,?_,?_,f⟩;show ua k1.3 x.1=ua _ x.1;rw[d];show(if ta x.1 then _ else _)=if ta x.1 then _ else _
  rw[e];show mS k1.4 (pD x.2) k1.4.size=mS k.4 (((⟨k.3,k.us,0⟩:St).run ko).3+pD x.2) k.4.size;rw[a];apply rG;simp[oH]
  congr 1;omega;show((⟨k.3,k.us,0⟩:St).run ko).3+pD x.2<=pC k.4;omega
def Uz(h:qJ g k ko k1):((⟨k.3,k.us,0⟩:St).run ko).next g.1 g.4 k.4=first g.1 g.4 k1.3 k1.us k1.4:=by let⟨a,b,c,_⟩:=GW h;rw[St.next];rw[a,b,c]
def mN:aB->Prop
 |ι _ _=>True|ξ _=>True|ω _=>True|_=>False
def nP(W:aq)(v:aB):Prop:=∀g,rW v=Z g->∃x T,W.1[g]? =Z (au x T (0,0))/\∀u∈x.1,mN u
def Et(W):nP W (ζ aj 0 0):=λg h=>by cases h
def nP.ri(h:nP W v)(e:∀g,rW v=Z g->W'.1[g]? =W.1[g]?):nP W' v:=λg a=>by let⟨x,T,b,d⟩:=h g a;exact⟨x,T,(e g a).E b,d⟩
def eF{k:Nat}(h:mT W 0 T k v n xs)(f:∀g,rW v=Z g->W'.1[g]? =W.1[g]?):mT W' 0 T k v n xs:=by refine⟨h.1,?_⟩;obtain h|⟨g,kh,a,rfl,b,d,e⟩:=h.2;exact aA h;exact az ⟨g,kh,a,rfl,b,(f g rfl).E d,e⟩
def Be{k:Nat}(h:mT W 0 T k v n xs){g:Nat}(a:rW v=Z g):g<pB W.1:=(h.lt g a).2
def GJ{z}(h:∀u∈z.1,mN u):∀u∈(qA z n).1,mN u:=λu a=>by
 simp[qA,mJ,jY]at a;obtain⟨i,b,rfl⟩:=a;let d:i<n*pB z:=j4
 have:i %pB z<pB z:=QF _ (Nat.pos_of_ne_zero λe=>by grind);grind
def Ug(s):∀u∈jX s,mN u:=λu a=>by simp[jX,jY]at a;obtain⟨b,_,rfl⟩:=a;trivial
structure Ge(w w':aq)(v a:aB)(ml:av aB):Prop where
 at_:a.ownBlock=v.ownBlock\/∀g,a.ownBlock=Z g->w.1.size<=g
 Yz:nP w v->(∀u∈ml,mN u)->nP w' a
def Jm{g a}{T:aY}(h:nP w (ζ (Z<|F g 0) n kh))(f:w.1[g]? =Z (au a T (0,0))):∀u∈a.1,mN u:=by let⟨x,b,d,e⟩:=h g U;grind
def RS(w t u ty e)(i:TypeInfo)(f:nf P t=Z (.slice e))(a:nf P u=Z .string)(d:P.info? e=Z i)(z:i.8=Z (ι .u8 0))(m:i.3=1)(p:i.4=1)(v n xs)(l:mT w 0 e 1 v n xs)(s)(O:n+pC s<=140737488355328):
  ∃A o,(rD #[t,u] ty #[v,ξ s]).run P w=.ok A o/\mT o 0 e 1 A (n+pC s) (xs++jX s)/\nz w o (rW v)/\Ge w o v A (jX s):=by
 let⟨A,o,hr,K,L,_⟩:=Lib.run_append_own_string w 0 t u ty e i f a d z m p v n xs l s B5 O (cO _)
 refine⟨A,o,hr,K,L,(by
    let G:pA xs=n:=by simpa using l.1
    obtain⟨rfl,rfl⟩|⟨g,kh,B,rfl,Q,j,V,R,S,H⟩:=l.2;by_cases hm:pC s=0;have r:=y7 (P:=P) w 1 s;grind;let k:=I6 (P:=P) w t u ty e i (ι .u8 0) f a d z s Y Y (by rw[p];omega);rw[k]at hr;cases hr;exact az λg h=>by cases h;exact aR _
    by_cases E:n+pC s<=kh;let k:=x8 (P:=P) w t u ty e i f a d m g n kh B j s E Y;rw[k]at hr;cases hr;exact aA U;let D:=l.cells (g:=g) U;let k:=x7 (P:=P) w t u ty e i (ι .u8 0) f a d z ⟨g,0,aj⟩ n kh xs (by rw[m];simpa using G) D s Y Y (by rw[p];exact QU Y Y);rw[k]at hr;cases hr;exact az λg h=>by cases h;exact aR _),λN r=>?_⟩
 obtain⟨rfl,rfl⟩|⟨g,kh,B,rfl,Q,j,V,R,S,H⟩:=l.2
 by_cases hm:pC s=0
 have r:=y7 (P:=P) w 1 s;rw[hm]at r;simp[rD,Cx f,Cx a,sizeOf,typeInfo,d,m,EK,hm,r]at hr
 grind
 let k:=I6 (P:=P) w t u ty e i (ι .u8 0) f a d z s Y Y (by rw[p];omega);rw[k]at hr;cases hr;intro g j;cases j;refine⟨_,_,ao w.drew _,λx hx=>?_⟩;rw[uh,jg]at hx;obtain hx|hx:=hx;simp at hx;obtain⟨b,_,rfl⟩:=hx;trivial;exact GJ (λu a=>by simp[zR]at a;subst a;trivial) x hx;let T:=Jm N j
 by_cases E:n+pC s<=kh
 let k:=x8 (P:=P) w t u ty e i f a d m g n kh B j s E Y;rw[k]at hr;cases hr;intro J C;cases C;refine⟨_,_,setRow_heap w g B _ e _ j,λx hx=>?_⟩
 grind
 let D:=l.cells (g:=g) U;let k:=x7 (P:=P) w t u ty e i (ι .u8 0) f a d z ⟨g,0,aj⟩ n kh xs (by rw[m];simpa using by simpa using l.1) D s Y Y (by rw[p];exact QU Y Y);rw[k]at hr;cases hr;intro J C;cases C;refine⟨_,_,ao w.drew _,λx hx=>?_⟩;simp only[uh,jg]at hx;obtain(hx|hx)|hx:=hx;rw[<-H]at hx;exact T x (uA (by simpa using hx));exact r x (by simpa using hx);exact GJ (λu a=>by simp[zR]at a;subst a;trivial) x hx
def LH(w t ty e)(i:TypeInfo)(z size bytes)(A:nf P t=Z (.slice e))(p:P.info? e=Z i)(D:i.8=Z z)(L:i.3=size)(H:i.4=bytes)(X:pB z.cells=size)(T:0<size)(N:∀u∈z.cells.1,mN u)(v n xs)(s:mT w 0 e size v n xs)(a m c ml)(hl:pA ml=m*size)(r:∀j u,ml[j]? =Z u->kD w (a.add j)=Z u)(E:∀u∈ml,u.oneCell'=M)(hm:0<m)(G:n+m<=cP)(J:(n+m) *bytes<=140737488355328):
  ∃f d,(rD #[t,t] ty #[v,ζ (Z a) m c]).run P w=.ok f d/\mT d 0 e size f (n+m) (xs++ml)/\nz w d (rW v)/\Ge w d v f ml:=by
 let⟨f,d,hr,k1,k2,_⟩:=run_append_own w 0 t ty e i z size bytes A p D L H X T v n xs s a m c ml hl r E G J (cO _)
 subst L H;let aD:n+m<=9223372036854775807:=by simp[cP]at G;omega
 refine⟨f,d,hr,k1,k2,?_⟩;obtain⟨rfl,rfl⟩|⟨g,kh,B,rfl,ak,b,aC,an,Q,V⟩:=s.2;rw[run_append_nil w t ty e i z A p D a m c ml hl r Y Y j4]at hr;cases hr;refine⟨az λg h=>by cases h;exact aR _,λl o g b=>?_⟩;cases b;refine⟨_,_,ao w.drew _,λx hx=>?_⟩;rw[uh,jg]at hx;obtain hx|hx:=hx;exact o x j4;exact GJ N x hx
 by_cases K:n+m<=kh
 let R:n*i.3+pA ml<=pB B:=by rw[hl,Q,<-ej];exact th _ K
 rw[(run_append_room w t ty e i A p g n kh B b a m c ml hl r E K R)]at hr;cases hr;refine⟨aA U,λl o O C=>?_⟩;let kU:=Jm l b;cases C;refine⟨_,_,setRow_heap w g B _ e _ b,λx hx=>?_⟩
 grind
 rw[(run_append_grow w t ty e i z A p D ⟨g,0,aj⟩ n kh xs s.1 (s.cells U) a m c ml hl r Y Y<|QU Y J)]at hr;cases hr;refine⟨az λg h=>by cases h;exact aR _,λl o O C=>?_⟩;cases C;refine⟨_,_,ao w.drew _,λx hx=>?_⟩;simp only[uh,jg]at hx;obtain(hx|hx)|hx:=hx;rw[<-V]at hx;exact(Jm l b) x (uA (by simpa using hx));exact o x j4;exact GJ N x hx
abbrev kO(g:Cf)(k:Ck)(rb:Nat)(q out:aB)(ch:Nat):aF aB:=clG k.no k.wt g.sz g.cl g.qu g.mx g.qn g.rt g.bu g.8 g.ou rb k.aN q k.bw k.pc out k.tok k.de k.sv ch
structure cD(W:aq)(c rb ch:Nat)(q v:aB)(g:Cf)(k:Ck):Prop where
 box:W.1[c]? =Z (au (kO g k rb q v ch) 168 (0,0))
 row:kr W q k.q
 H:uN W v k.H
 tq:nP W q
 tv:nP W v
 chan:W.1[ch]? =Z (.chan 0 #[] (decide (k.ph=4)) 0 0 aa)
def cD.ri(h:cD W c rb ch q v g k)(e:W'.1[c]? =W.1[c]?)(f:W'.1[ch]? =W.1[ch]?)(a:∀b,rW q=Z b->W'.1[b]? =W.1[b]?)(d:∀b,rW v=Z b->W'.1[b]? =W.1[b]?):cD W' c rb ch q v g k:=⟨e.E h.1,eF h.2 a,eF h.H d,h.4.ri a,h.5.ri d,f.E h.6⟩
def cD.eE(h:cD W c rb ch q v g k):c<pB W.1/\ch<pB W.1/\(∀b,rW q=Z b->b<pB W.1)/\∀b,rW v=Z b->b<pB W.1:=⟨(bf.1 h.1).1,(bf.1 h.6).1,λ_ a=>Be h.2 a,λ_ a=>Be h.H a⟩
def cD.old(h:cD W c rb ch q v g k)(a:aK W W'):cD W' c rb ch q v g k:=let l:=h.eE;h.ri (a.5 _ l.1) (a.5 _ l.2.1) (λb e=>a.5 _ (l.2.2.1 b e)) λb e=>a.5 _ (l.2.2.2 b e)
def cD.cy(h:cD W c rb ch q v g k)(a:aS X W W')(d:¬X c)(f:¬X ch)(i:∀b,rW q=Z b->¬X b)(j:∀b,rW v=Z b->¬X b):cD W' c rb ch q v g k:=let l:=h.eE;h.ri (a.3 _ l.1 d) (a.3 _ l.2.1 f) (λb e=>a.3 _ (l.2.2.1 b e) (i b e)) λb e=>a.3 _ (l.2.2.2 b e) (j b e)
def cD.sc(h:cD W c rb ch q v g k):c≠ch/\Z c≠rW q/\Z c≠rW v/\Z ch≠rW q/\Z ch≠rW v/\(∀b,rW q=Z b->Z b≠rW v):=by
 let mi:∀{T k n:Nat} {u:aB} {i:av aB} {b:Nat} {o:Obj},mT W 0 T k u n i->W.1[b]? =Z o->(∀a,o≠au a T (0,0))->Z b≠rW u:=λ{T k n u i b o} hr d l e=>by obtain⟨rfl,_⟩|⟨j,kh,a,rfl,_,f,_⟩:=hr.2;cases e;cases e;exact l a<|ey<|d.y.E f
 refine⟨λe=>?_,mi h.2 h.1 ay,mi h.H h.1 ay,mi h.2 h.6 ay,mi h.H h.6 ay,λb d e=>?_⟩;let m:=h.1;let p:=h.6;grind;obtain⟨rfl,_⟩|⟨j,kh,a,rfl,_,f,_⟩:=h.2.2;cases d;cases d;exact mi h.H f ay e
def cD.put(h:cD W c rb ch q v g k)(i u)(d:mP (kO g k rb q v ch) i u=kO g k' rb q v ch)(m:k'.q=k.q)(j:k'.H=k.H)(l:k'.3=k.3):cD (kB W (F c i) u) c rb ch q v g k':=by let⟨a1,f,a3,_⟩:=h.sc;let mf:∀b,b≠c->(kB W (F c i) u).1[b]? =W.1[b]? :=λb d=>bC d;refine⟨d▸bG h.1 i u,?_,?_,h.4.ri λb e=>mf b λa=>f (by rw[e,a]),h.5.ri λb e=>mf b λa=>a3 (by rw[e,a]),?_⟩;rw[m];exact eF h.2 λb e=>mf b λa=>f (by rw[e,a]);rw[j];exact eF h.H λb e=>mf b λa=>a3 (by rw[e,a]);rw[l];exact(mf ch<|dB a1).E h.6
def cD.drewN(h:cD W c rb ch q v g k)(n):cD (W.drewN n) c rb ch q v g k:=⟨h.1,h.2,h.H,h.4,h.5,h.6⟩
def cD.drew(h:cD W c rb ch q v g k):cD W.drew c rb ch q v g k:=⟨h.1,h.2,h.H,h.4,h.5,h.6⟩
abbrev TN(g:Cf):aB:=ν (iV g.sz g.cl g.qu g.mx g.qn g.rt g.bu g.8 g.ou)
abbrev ST(m:bh):aB:=ν (gy m)
structure bh.Ok(m:bh):Prop where
 nm:m.nm.size<=65535
 ck:0<=m.ck/\m.ck<=65535
 er:0<=m.er/\m.er<=255
def O2(g m w)(h0:0<=g.1/\g.1<=65535)(p:0<=g.4/\g.4<=65535)(hm:m.Ok)(k:m.1=1\/m.1=2\/m.1=3\/m.1=4):
  bN 192 #[TN g,ST m] w (ξ<|gM g m):=by
 by_cases h:m.1=3
 ·let⟨x,s,kd,o,c,of,ln,n,b⟩:=m;let⟨r,i,j⟩:=hm;dsimp only at h r i j;subst h;obtain⟨v,hv⟩:∃v,v=gM g ⟨3,s,kd,o,c,of,ln,n,b⟩:=⟨_,U⟩;rw[<-hv];by_cases d:b=0;·subst d;have f:=aX hv;clear hv k;go_enter func192,ntmps192;go_wp2;go_ret;exact⟨by rw[f];rfl,bq.alloc ay _⟩
  obtain⟨a,rfl⟩:∃a:UInt8,b=(a.toNat:Int):=⟨_,(Ar b j.1 Y).y⟩;have f:bc (v=jy a c ⟨#[]⟩):=by
   rw[hv];rw[gM];rw[aO U,aI d];show jy (ji _) _ _=_
   congr 1;simp
  have t:((a.toNat:Int)==0)=aa:=by simpa using d
  have l:bc (∀w,bN 202 #[I (a.toNat:Int),I c,ξ ⟨#[]⟩] w<|ξ v):=λw=>by rw[f];exact Xp a c ⟨#[]⟩ w i.1 i.2 aM
  clear hv k d j;generalize (a.toNat:Int)=b at*;go_enter func192,ntmps192;go_wp2_with (go_at_call 202;apply(l _).V;rintro e u ⟨rfl,q⟩);go_ret;exact⟨U,(bq.alloc ay _).E<|q.V bV⟩
 have e:gM g m=vt g.1 g.4 m:=aI h;rw[e];exact O7 _ _ _ _ _ _ _ _ _ m w h0 p hm.1 Y
def VA(m w):
  bN 193 #[ST m] w (ω<|ta m):=by
 obtain⟨a,c⟩:∃a,a=ta m:=⟨_,U⟩;rw[<-c]
 let⟨g,k,kd,j,h,of,ln,i,f⟩:=m
 rcases h1:(g==3)with _|_
 ·let b:bc (a=aa):=by rw[c];simp[ta];intro e;simp[e]at h1
  go_enter func193,ntmps193;go_wp2;go_ret;exact⟨by rw[b];rfl,bq⟩
 cases d:(f==0)with
 |false=>
  let b:bc (a=aa):=by rw[c];simp[ta];intro _ e;simp[e]at d
  go_enter func193,ntmps193;go_wp2;go_ret;exact⟨by rw[b];rfl,bq⟩
 |true=>
  let b:bc (a=(kd !=5)):=by show a=_;rw[c];simp[mL]at h1 d;simp[ta,h1,d,bne,BEq.beq]
  go_enter func193,ntmps193;go_wp2;go_ret;exact⟨by rw[b];rfl,bq⟩
def Vv:(ai.info? 134).map (λi=>(i.8,i.3,i.4))=Z (Z<|ν #[I 0,ξ ⟨#[]⟩,I 0,I 0,I 0,I 0,I 0,ξ ⟨#[]⟩,I 0,I 0],10,96):=aW
def SF(c rb ch q v g k w)(h:cD w c rb ch q v g k)(z:k.3≠4):
  ax ai 75 #[jp c] w λe n=>e=aG (θ #[])/\cD n c rb ch (ζ aj 0 0) (ζ aj 0 0) g k.shut/\aS (λb=>b=c\/b=ch) w n:=by
 have f:=h.6;rw[lX z]at f;have t:=aJ w c 20 (.chan<|Z ch) h.1;have j:=h.sc.1;have u:=run_close_open (P:=ai) (w:=w) #[166] 0 f;obtain⟨W,d⟩:∃W:aq,W={w with heap:=mP w.1 ch<|.chan 0 #[] M 0 0 aa}:=⟨_,U⟩;rw[<-d]at u
 have a:W.1[c]? =Z (au (kO g k rb q v ch) 168 (0,0)):=by rw[d];show(mP w.1 ch _)[c]? =_;rw[gn<|dB j];exact h.1
 have l:W.1[ch]? =Z (.chan 0 #[] M 0 0 aa):=by rw[d];have:=(bf.1 f).1;simp[this]
 have m:aS (λb=>b=c\/b=ch) w W:=by rw[d];exact⟨U,ay,λk _ x=>gn (λe=>x (az e.y))⟩
 have o:bc (W.1[c]? =Z (au (kO g k rb q v ch) 168 (0,0))/\W.1[ch]? =Z (.chan 0 #[] M 0 0 aa)/\aS (λb=>b=c\/b=ch) w W):=⟨a,l,m⟩;have A:=aJ W c 12 (ξ k.4) a;have B:=aJ W c 13 q a;have C:=aJ W c 16 v a;have f12:=bp a 12;have f13:=bp a 13;have f16:=bp a 16;have i:=aX j;clear d a l m j h;go_enter func75,ntmps75;go_wp2_with (go_at_call 116;apply(AM c ch _ t f).V;rintro e D ⟨rfl,rfl⟩)
 let⟨r,g2,s⟩:=o
 exact fC U U ⟨U,⟨bG (bG (bG r 12 _) 13 _) 16 _,qH _ _ _ _,qH _ _ _ _,Et _,Et _,oT (oT (oT g2 (dB i) _ _) (dB i) _ _) (dB i) _ _⟩,((s.set (p:=F c 12) (aA U) _).set (p:=F c 13) (aA U) _).set (p:=F c 16) (aA U) _⟩
abbrev tE(c b:Nat)(g:Cf)(q v:aB)(m:bh)(W:aq):Prop:=(kD W (F c 13)=Z q/\kD W (F c 16)=Z v)/\HeS c b g.sz g.cl g.qu g.mx g.qn g.rt g.bu g.8 g.ou m W
def tE.of(h:W.1[c]? =Z (au (kO g k rb q v ch) 168 (0,0)))(hm:uM W b m):tE c b g q v m W:=⟨⟨aD h U,aD h U⟩,⟨aD h U,aD h U,aD h U,aD h U,aD h U,aD h U,aD h U,aD h U,aD h U⟩,⟨aD hm U,aD hm U,aD hm U,aD hm U,aD hm U,aD hm U,aD hm U,aD hm U,aD hm U⟩⟩
def RN(h:pC m.2<=65535):pC (gM g m)<=65540:=by rw[gM];split;split;exact(by decide:(0:Nat)<=65540);exact(by decide:(4:Nat)<=65540);rw[vt];split;split<;>exact(by decide:(1:Nat)<=65540);split;split;rw[qB,qB];exact(by decide:1+2+2<=65540);split;exact(by decide:(1:Nat)<=65540);rw[qB];show 1+pC m.2<=65540;omega;exact(by decide:(0:Nat)<=65540)
def Ck.told(k:Ck)(a:ByteArray):Ck:={k with H:=k.H++a}
def cD.tell{W1 a}(h:cD W c rb ch q v g k)(m:mT W1 0 5 1 v' (pC k.H+pC a) (jX k.H++jX a))(d:nz W W1 (rW v))(u:Ge W W1 v v' (jX a)):
  cD (kB W1 (F c 16) v') c rb ch q v' g (k.told a)/\aS (λb=>b=c\/Z b=rW v) W (kB W1 (F c 16) v')/\W1.1[c]? =Z (au (kO g k rb q v ch) 168 (0,0)):=by
 let⟨a1,j,a3,x,r,l⟩:=h.sc
 let⟨l1,w,o,C⟩:=h.eE
 let f:=(d.5 c l1 a3).E h.1;let mf:∀b,b≠c->(kB W1 (F c 16) v').1[b]? =W1.1[b]? :=λb f=>bC f
 let p:∀b,rW v'=Z b->b≠c:=λb e i=>by obtain⟨rfl,_⟩|⟨A,kh,z,rfl,_,B,_⟩:=m.2;cases e;cases e;grind
 refine⟨⟨bG f 16 v',eF h.2 λb e=>(mf b λi=>j (by rw[e,i])).E (d.5 b (o b e)<|l b e),?_,h.4.ri λb e=>(mf b λi=>j (by rw[e,i])).E (d.5 b (o b e)<|l b e),(u.2 h.5<|Ug a).ri λb e=>mf b (p b e),(mf ch<|dB a1).E<|(d.5 ch w r).E h.6⟩,⟨d.1,by simpa using d.4,λb f n=>(mf b λe=>n (aA e)).E (d.5 b f λe=>n (az e))⟩,f⟩;let t:jX (k.H++a)=jX k.H++jX a:=by simp[jX]
 show uN _ v' (k.H++a);rw[uN];rw[qB ..,t];exact eF m λb e=>mf b (p b e)
def Ck.asks(k:Ck)(r:Rq):Ck:={k with q:=k.q++[r]}
def cD.ask{W1 q'}(h:cD W c rb ch q v g k)(j:mT W1 0 134 10 q' (pA k.q+1) (k.q.flatMap (λr=>(aU r).1)++(aU r).1))(a:nz W W1 (rW q))(w:Ge W W1 q q' (aU r).1):
  cD (kB W1 (F c 13) q') c rb ch q' v g (k.asks r)/\aS (λb=>b=c\/Z b=rW q) W (kB W1 (F c 13) q')/\W1.1[c]? =Z (au (kO g k rb q v ch) 168 (0,0)):=by
 let⟨a1,p,a3,s,z,t⟩:=h.sc
 let⟨l1,x,D,n⟩:=h.eE
 let f:=(a.5 c l1 p).E h.1;let mf:∀b,b≠c->(kB W1 (F c 13) q').1[b]? =W1.1[b]? :=λb f=>bC f
 let o:∀b,rW q'=Z b->b≠c:=λb e d=>by obtain⟨rfl,_⟩|⟨B,kh,A,rfl,_,C,_⟩:=j.2;cases e;cases e;grind
 let i:∀b,rW v=Z b->Z b≠rW q:=λb e d=>t b d.y e.y;refine⟨⟨bG f 13 q',?_,eF h.H λb e=>(mf b λd=>a3 (by rw[e,d])).E (a.5 b (n b e)<|i b e),(w.2 h.4 ?_).ri λb e=>mf b (o b e),h.5.ri λb e=>(mf b λd=>a3 (by rw[e,d])).E (a.5 b (n b e)<|i b e),(mf ch<|dB a1).E<|(a.5 ch x s).E h.6⟩,⟨a.1,by simpa using a.4,λb f m=>(mf b λe=>m (aA e)).E (a.5 b f λe=>m (az e))⟩,f⟩;show kr _ q' (k.q++[r]);rw[kr];rw[fQ,rL];simp;exact eF j λb e=>mf b (o b e);intro u l;simp at l;obtain rfl|rfl|rfl|rfl|rfl|rfl|rfl|rfl|rfl|rfl:=l<;>trivial
def Ck.heard(g:Cf)(k:Ck)(m:bh):Ck:=if m.1=4 then k.shut else if ta m then(k.told<|gM g m).asks ⟨m,-1⟩else k.told (gM g m)
def acn(c rb ch q v g k m w)(h:cD w c rb ch q v g k)(hp:k.3≠4)(h0:0<=g.1/\g.1<=65535)(h1:0<=g.4/\g.4<=65535)(hm:m.Ok)(hw:m.1=1\/m.1=2\/m.1=3\/m.1=4)(ho:pC k.H<=1048576)(hq:pA k.q<=1048576):
  ax ai 153 #[jp c,ST m] w λe j=>e=aG (θ #[])/\∃z a,cD j c rb ch z a g (k.heard g m)/\aS (λb=>b=c\/b=ch\/Z b=rW q\/Z b=rW v) w j/\
   (rW z=rW q\/∀b,rW z=Z b->pB w.1<=b)/\(rW a=rW v\/∀b,rW a=Z b->pB w.1<=b):=by
 let⟨i0,bA,oh,bJ,oZ⟩:=nG infoByte
 let⟨i1,bB,bE,bG,bH⟩:=nG Vv
 have bU:=RN (g:=g) hm.1
 have D:bc (pB w.1≠c/\pB w.1≠ch/\(∀b,rW q=Z b->b≠pB w.1)/\∀b,rW v=Z b->b≠pB w.1):=by let⟨l1,l2,l3,l4⟩:=h.eE;exact⟨Y,Y,λb e=>by have:=l3 b e;omega,λb e=>by have:=l4 b e;omega⟩
 have L:aK w (lL w<|au (gy m) 132):=bq;have o:bc (cD (lL w<|au (gy m) 132) c rb ch q v g k/\uM (lL w<|au (gy m) 132) w.1.size m/\aK w (lL w<|au (gy m) 132)):=⟨h.old L,ao w _,L⟩;have O:bc (m.Ok/\(m.1=1\/m.1=2\/m.1=3\/m.1=4)):=⟨hm,hw⟩;clear h hm hw L;go_enter func153,ntmps153
 go_upto_region 1 with fail
 generalize lL w (au (gy m) 132)=A0 at*
 go_cut [3] (λp j=>p=aQ w.1.size/\∃a,cD j c rb ch q a g (k.told<|gM g m)/\uM j w.1.size m/\aS (λb=>b=c\/Z b=rW v) w j/\(rW a=rW v\/∀b,rW a=Z b->pB w.1<=b))
 case first=>refine gY (S:=tE c w.1.size g q v m) 14 (tE.of o.1.1 o.2.1) λhS=>?_;apply tg [0,1,2,3,4,5,6,7];apply tg [8,9];refine gr 10 λK d=>?_;go_simp;go_at_call 192;apply(O2 g m _ h0 h1 O.1 O.2).V;rintro e N ⟨rfl,r⟩;have t:aK A0 N:=⟨r.1,r.2,r.3,r.4,r.5⟩;have H:=o.H.1.old t;have E:uM N w.1.size m:=bT t o.H.2.1;refine d.H _ _ (tE.of H.1 E)<|λyG=>?_;clear d K;let⟨a,w3,hr,af,W,an⟩:=RS (P:=ai) N 158 9 158 5 i0 dp gc bA oh bJ oZ v k.H.size (jX k.H) H.H (gM g m) Y;obtain⟨va,vc,rfl⟩:=gP af;let⟨P3,T3,A⟩:=H.tell af W an;have Q:uM w3 w.1.size m:=(W.5 _ (bf.1 E).1 λe=>D.H.2.2.2 _ e.y U).E E;refine gr 11 λK d=>?_;apply Xm U U U U hr;refine d.H _ _ (tE.of A Q)<|λMK=>?_;clear d K;apply tg [12,13];have b8:=aJ w3 c 16 v A;have f16:=bp A 16;refine gz λK d=>?_;go_simp;apply d.H _ _;refine gl ?_;go_wp2_with fail;go_meet;case rel=>refine⟨U,_,P3,oT Q D.H.1 16 _,(ip<|o.H.2.2.E<|t.V o.H.2.2.4).E<|T3.V λb _ h=>h,an.1.imp id λh b e=>?_⟩;have:=h b e;have:=t.4;have:=o.H.2.2.4;omega
 case rest=>
  obtain⟨rfl,a,k1,f,k3,k4⟩:=hcut;have i:bc (cD wc c rb ch q a g (k.told<|gM g m)/\uM wc w.1.size m/\aS (λb=>b=c\/Z b=rW v) w wc/\(rW a=rW v\/∀b,rW a=Z b->pB w.1<=b)):=⟨k1,f,k3,k4⟩;have z0:=aJ wc w.1.size 0 (I m.1) f;have z1:=aJ wc w.1.size 1 (ξ m.2) f;have z2:=aJ wc w.1.size 2 (I m.3) f;have z3:=aJ wc w.1.size 3 (I m.4) f;have z4:=aJ wc w.1.size 4 (I m.5) f;have z5:=aJ wc w.1.size 5 (I m.6) f;have z6:=aJ wc w.1.size 6 (I m.7) f;have z7:=aJ wc w.1.size 7 (ξ m.8) f;have z8:=aJ wc w.1.size 8 (I m.9) f;clear k1 f k3 k4;cases V:(m.1==4)with
  |true=>
   have e4:k.heard g m=(k.told<|gM g m).shut:=aO (by simpa using V);have HC:bc (ax ai 75 #[jp c] wc λe j=>e=aG (θ #[])/\cD j c rb ch (ζ aj 0 0) (ζ aj 0 0) g (k.heard g m)/\aS (λb=>b=c\/b=ch) wc j):=by rw[e4];exact SF c rb ch q a g _ wc i.H.1 hp
   go_wp2_with (go_at_call 75;apply HC.H.V;rintro e l ⟨rfl,c1,c2⟩);refine fC U U ⟨U,_,_,c1,(i.H.2.2.1.V ?_).E<|c2.V ?_,az<|λb e=>A6,az<|λb e=>A6⟩;rintro b _ (h|h);exact aA h;exact az<|az<|az h;rintro b _ (h|h);exact aA h;exact az<|aA h
  |false=>
   have x:m.1≠4:=by simpa using V
   rcases ha:ta m with _|_
   ·have C:bc (k.heard g m=k.told (gM g m)):=by show k.heard g m=_;rw[Ck.heard,aI x,ha];rfl
    clear x;go_wp2_with (go_at_call 193;apply(aX (ha▸VA m wc)).H.V;rintro e l ⟨rfl,n⟩);refine fC U U ⟨U,q,a,C.H▸i.H.1.old n,(i.H.2.2.1.V ?_).E<|ip n,aA U,i.H.2.2.2⟩;rintro b _ (h|h);exact aA h;exact az<|az<|az h
   have C:bc (k.heard g m=(k.told<|gM g m).asks ⟨m,-1⟩):=by show k.heard g m=_;rw[Ck.heard,aI x,ha];rfl
   clear x;go_upto_region 5 with(go_at_call 193;apply(aX (ha▸VA m wc)).H.V;rintro e l ⟨rfl,n⟩);have T:=i.H.1.old n;have R:uM l w.1.size m:=bT n i.H.2.1;refine gY (S:=tE c w.1.size g q a m) 11 (tE.of T.1 R) λhS=>?_;apply tg [0,1,2,3,4,5,6];have s:aK l (lL l.drew<|au (aU ⟨m,-1⟩) 134):=⟨U,U,U,ay,λk hk=>bj _ _ _ hk⟩;have J:=T.old s;have G:uM (lL l.drew<|au (aU ⟨m,-1⟩) 134) w.1.size m:=bT s R;refine gr 7 λK d=>?_;go_simp;refine d.H _ _ (tE.of J.1 G)<|λbQ=>?_;clear d K;let⟨z,w7,hr,Vg,X,aC⟩:=LH (P:=ai) (lL l.drew<|au (aU ⟨m,-1⟩) 134) 165 165 134 i1 _ 10 96 underlying165 bB bE bG bH U Y (by intro u hu;simp[zR,jh,Fo,or_false]at hu;obtain rfl|rfl|rfl|rfl|rfl|rfl|rfl|rfl|rfl|rfl:=hu<;>trivial) q (pA k.q) _ J.2 ⟨pB l.1,0,aj⟩ 1 1 (aU ⟨m,-1⟩).1 U (wu<|ao l.drew<|au (aU ⟨m,-1⟩) 134) Hx Y B5 Y;obtain⟨qa,qc,rfl⟩:=gP Vg;let⟨P7,T7,B⟩:=J.ask Vg X aC;have M7:uM w7 w.1.size m:=(X.5 _ (bf.1 G).1 λe=>D.H.2.2.1 _ e.y U).E G;refine gr 8 λK d=>?_;apply yU U U U U hr;refine d.H _ _ (tE.of B M7)<|λbR=>?_;clear d K;apply tg [9,10];have b7:=aJ w7 c 13 q B;have f13:=bp B 13;refine gz λK d=>?_;go_simp;apply d.H _ _;refine gl ?_;go_wp2;refine fC U U ⟨U,_,a,C.H▸P7,((i.H.2.2.1.V ?_).E<|ip<|n.E<|s.V n.4).E<|T7.V ?_,aC.1.imp id λh b e=>?_,i.H.2.2.2⟩;rintro b _ (h|h);exact aA h;exact az<|az<|az h;rintro b _ (h|h);exact aA h;exact az<|az<|aA h;have:=h b e;have:=s.4;have:=n.4;have:=i.H.2.2.1.2;omega
def ajL(sz kd fl of ln):0<=tt sz kd fl of ln/\tt sz kd fl of ln<=255:=by
 rw[tt]
 repeat' split
 all_goals omega
def ace(s f i):(cL s f i).1.5=0/\(cL s f i).1.9=0/\(cL s f i).1.6=0/\(cL s f i).1.7=0:=by
 induction f generalizing i with
 |zero=>rw[cL];split<;>exact⟨U,U,U,U⟩
 |succ f a=>rw[cL];split;exact⟨U,U,U,U⟩;split;exact a<|i+1;exact⟨U,U,U,U⟩
def Ua(sz mx ph us s):(first sz mx ph us s).1.Ok/\(⟨(first sz mx ph us s).1,-1⟩:Rq).Ok:=by
 let e:=TZ sz mx ph us s;let mi:(0<=(first sz mx ph us s).1.9/\(first sz mx ph us s).1.9<=255)/\(0<=(first sz mx ph us s).1.6/\(first sz mx ph us s).1.6<=65535)/\(0<=(first sz mx ph us s).1.7/\(first sz mx ph us s).1.7<=65535):=by
  let z:((0:Int)<=0/\(0:Int)<=255)/\((0:Int)<=0/\(0:Int)<=65535)/\((0:Int)<=0/\(0:Int)<=65535):=aM;rw[first]
  split;let⟨_,a,b,d⟩:=ace s 5 0;rw[qb];omega;split
  ·rw[CK]
   repeat' split
   all_goals exact z
  split
  ·rw[mH]
   repeat' split
   all_goals first|exact⟨ajL _ _ _ _ _,pF s 5,pF s 7⟩|exact z
  exact z
 exact⟨⟨Y,(TY sz mx ph us s),mi.1⟩,⟨mi.2.1.1,mi.2.1.2,mi.2.2.1,mi.2.2.2⟩⟩
def aba(sz mx ph us s)(h0:(first sz mx ph us s).2≠0):(first sz mx ph us s).1.1=1\/(first sz mx ph us s).1.1=2\/(first sz mx ph us s).1.1=3\/(first sz mx ph us s).1.1=4:=by
 revert h0;rw[first]
 split;obtain h|h|h:=acf s 5 0;intro h0;exact absurd h.2 h0;exact λ_=>aA h;intro _;have:(qb s).1=.closing:=h;rw[this];exact az<|az<|az U;split
 ·rw[CK]
  repeat' split
  all_goals simp[ib]
 split
 ·rw[mH]
  repeat' split
  all_goals simp[ib]
 simp
def LD(a:ph≠4)(hm:m.1≠4):ua ph m≠4:=by
 rw[ua]
 repeat' split
 all_goals omega
def cD.like(h:cD W c rb ch q v g k)(a:kO g k' rb q v ch=kO g k rb q v ch)(b:k'.q=k.q)(d:k'.H=k.H)(e:k'.3=4↔k.3=4):cD W c rb ch q v g k':=⟨a▸h.1,b▸h.2,d▸h.H,h.4,h.5,by rw[show decide (k'.3=4)=decide (k.3=4) from decide_eq_decide.2 e];exact h.6⟩
def VZ(h:cD w c rb ch q v g k)(t:∀r∈k.q,r.Ok)(m:pC k.H<=4194304)(o:0<=k.7/\k.7<=4194304):
  ∃b:Bool,(b=M↔k.may g)/\bN 151 #[jp c] w (ω b):=by
 by_cases l:k.3=4
 ·have j:=h.6;rw[lY l]at j
  exact⟨aa,by simp[Ck.may,l],(by
       go_enter func151,ntmps151;go_wp2;go_quiet ((go_at_call 116;exact ax.quiet_of_same (DC c ch _ (aD h.1 U) j)));go_wp2;go_ret;exact⟨U,jj (bv _ _) _⟩)⟩
 have j:=h.6;rw[lX l]at j;obtain⟨p,s,rfl⟩:=gP h.H;refine⟨decide ((pA k.q:Int)<g.3)&&decide ((pC k.H:Int)+k.7+ww k.q<=g.9),by simp[Ck.may,l],adC c ch q k.q g.3 (decide<|(pC k.H:Int)+k.7+ww k.q<=g.9) w (aD h.1 U) j (aD h.1 U) h.2 (aD h.1 U) λn=>?_⟩;let d:=h.drewN n
 let mi:bN 188 #[jp c] (w.drewN n) (ω<|decide<|(pC k.H:Int)+k.7+ww k.q<=g.9):=by rcases hk:k.q with _|⟨r,kj⟩;obtain⟨a,kh,rfl,_⟩:=h.2.form;refine agw c k.H.size s kh a p k.7 g.9 _ ?_ m o (aD d.1 U) (aD d.1 U)<|aD d.1 U;have:=aD (i:=13) d.1 U;rw[this,hk];rfl;have hr:=d.2;rw[hk]at hr;exact agx c k.H.size s p k.7 g.9 q r kj _ (aD d.1 U) hr (t r (by rw[hk];simp)) m o (aD d.1 U) (aD d.1 U) (aD d.1 U)
 apply mi.V;rintro e u ⟨rfl,f⟩;exact⟨U,f.1,f.2,f.3,f.4,f.5⟩
structure cg(W:aq)(c rb mb ch:Nat)(q v:aB)(g:Cf)(k:Ck):Prop where
 p:cD W c rb ch q v g k
 rd:∃rp,eB W rb mb g.sz g.mx rp k.us/\(k.ph≠4->rp=k.ph)
structure Ck.CF(g:Cf)(k:Ck):Prop where
 aN:k.aN.size<=1048576
 H:k.H.size<=1048576
 q:∀r∈k.q,r.Ok
 len:k.q.length<=1048576
 pc:0<=k.pc/\k.pc<=1048576
 us:k.us.length<=1048576
 sz:0<=g.sz/\g.sz<=65535
 mx:0<=g.mx/\g.mx<=65535
 qu:g.qu<=65535
 ou:g.ou<=65535
def UA{a}(h:qJ g k ko a)(d:∀r∈k.q,r.Ok):∀r∈a.q,r.Ok:=by
 induction h with
 |nil=>exact d
 |@snoc ko a x h i e h0 f b=>intro r hr;have hr':r∈(if ta x.1 then a.q++[⟨x.1,-1⟩]else a.q):=hr;split at hr';rw[jg]at hr';obtain hr'|hr':=hr';exact b r hr';obtain rfl:=iz.1 hr';rw[<-e];exact(Ua _ _ _ _ _).2;exact b r hr'
def aeb{l}(h:∀r∈l,r.Ok):6<=ww l:=by obtain _|⟨r,t⟩:=l;exact fI 6;have:=(h r ay).3;show 6<=6+sy r.m;rw[sy];split<;>omega
section
attribute [local go_sem] Oper.semAt_some
open Go.Shelf
def Pf(c rb mb ch b B0:Nat)(g:Cf)(k:Ck)(ko:av (bh×Int))(W:aq):Prop:=∃a q v,qJ g k ko a/\a.may g/\cD W c rb ch q v g a/\(∀x,rW q=Z x->¬Aside rb mb b x)/\(∀x,rW v=Z x->¬Aside rb mb b x)/\W.1[B0]? =Z (au #[aQ c] 119 (0,0))
def RT(c rb mb ch b:Nat)(g:Cf)(k:Ck)(ko:av (bh×Int))(W:aq):Prop:=∃a q v,(∀f,pA ko<=f->et g f k=a)/\cD W c rb ch q v g a/\(∀x,rW q=Z x->¬Aside rb mb b x)/\(∀x,rW v=Z x->¬Aside rb mb b x)/\(a.3≠4->a.3=((⟨k.3,k.us,0⟩:St).run ko).1)/\((⟨k.3,k.us,0⟩:St).run ko).2=a.us
section
variable {c rb mb ch b B0:Nat} {g:Cf} {k:Ck} {q v:aB} {W W':aq}
def LI(hr:∀r,row=Z r->Lv rb mb (b+1) r\/r=b+2+1):∀i,¬Aside rb mb b i->row≠Z i:=λi a e=>a (by obtain(h|h|h)|h:=hr i e;exact aA h;exact az (aA h);exact az (az<|az<|aA h);exact az (az<|az<|az<|az h))
def cD.grown(h:cD W c rb ch q v g k)(a:nz W W' row)(hr:∀i,¬Aside rb mb b i->row≠Z i)(hc:¬Aside rb mb b c)(j:¬Aside rb mb b ch)(d:∀x,rW q=Z x->¬Aside rb mb b x)(f:∀x,rW v=Z x->¬Aside rb mb b x):cD W' c rb ch q v g k:=let l:=h.eE;h.ri (a.5 _ l.1 (hr c hc).y) (a.5 _ l.2.1 (hr ch j).y) (λx e=>a.5 _ (l.2.2.1 x e) (hr x<|d x e).y) λx e=>a.5 _ (l.2.2.2 x e) (hr x<|f x e).y
def Pf.bears{B0}(hc:¬Aside rb mb b c)(m:¬Aside rb mb b ch)(l:¬Aside rb mb b B0):ul (λr=>Lv rb mb (b+1) r\/r=b+2+1) (Pf c rb mb ch b B0 g k):=by rintro ko W W' row ⟨n,q,v,f,h,i,a,d,j⟩ e hr;exact⟨n,q,v,f,h,i.grown e (LI hr) hc m a d,a,d,nT j e<|LI hr B0 l⟩
def RT.bears(hc:¬Aside rb mb b c)(j:¬Aside rb mb b ch):ul (λr=>Lv rb mb (b+1) r\/r=b+2+1) (RT c rb mb ch b g k):=by rintro ko W W' row ⟨l,q,v,e,f,a,d,h⟩ i hr;exact⟨l,q,v,e,f.grown i (LI hr) hc j a d,a,d,h⟩
def cg.off{x}(h:cg W c rb mb ch q v g k)(C:W.1[N]? =Z (.deferred x))(w:∀i,i≠N->W'.1[i]? =W.1[i]?):cg W' c rb mb ch q v g k:=by
 let mi:∀i o,W.1[i]? =Z o->o≠Obj.deferred x->W'.1[i]? =W.1[i]? :=λi o D z=>w i λe=>z j4;let f:∀{T m n:Nat} {u:aB} {j:av aB},mT W 0 T m u n j->∀b,rW u=Z b->W'.1[b]? =W.1[b]? :=λ{T m n u j} hr b e=>by obtain⟨rfl,_⟩|⟨B,kh,A,rfl,_,a,_⟩:=hr.2;cases e;cases e;exact mi _ _ a ay
 let⟨rp,a,t⟩:=h.2;refine⟨h.p.ri (mi _ _ h.p.1 ay) (mi _ _ h.p.6 ay) (f h.p.2)<|f h.p.H,rp,⟨(mi _ _ a.1 ay).E a.1,?_⟩,t⟩;let⟨s,l,d,r⟩:=a.2;exact⟨s,l,(mi _ _ d ay).E d,r⟩
end
def Ck.jS(g:Cf)(k:Ck)(x:bh×Int):Ck:=if x.1.1=4 then k.shut else k.qt g x
def dQ(c rb mb ch q v g k w)(h:cg w c rb mb ch q v g k)(C:k.CF g):
  CallsIn ig 3 ai 100 #[aQ c] w λe w'=>e=aG (θ #[])/\∃d j,cg w' c rb mb ch d j g (et g (pC k.4+1) k):=by
 let⟨rp,hR,bW⟩:=h.2
 have AJ:aK w (lL w<|au #[aQ c] 119):=bq
 let⟨dd,bR,dD⟩:=VZ (h.p.old AJ) C.q (by have:=C.H;omega) (by have:=C.5;omega)
 have HM:=aX dD;have HB:=aX AJ;clear dD AJ;obtain _|_:=dd
 ·have HA:bc (∀W,aK w W->∃d j,cg W c rb mb ch d j g<|et g (pC k.4+1) k):=λW hW=>by rw[Xj (λhx=>by simp[hx]at bR)];exact⟨q,v,h.p.old hW,rp,hR.rk hW,bW⟩
  clear hR bW h bR;refine QR func100 U trivial ?_ U;simp[ntmps100,nE,gH,nB,rS,FB,vH,vI,vW,vN,jZ,lT];gi_wp2_with (first|(refine⟨trivial,?_⟩;gi_at_call 151;apply(da.2 HM.H).V;rintro e G ⟨rfl,oY⟩));exact⟨θ #[],X2,U,HA.H _<|HB.H.E<|oY.V ay⟩
 have Vi:k.may g:=bR.1 U;have Vh:k.3≠4:=Vi.1;obtain rfl:=bW Vh;have HA:bc (∀W,aK w W->cD W c rb ch q v g k/\eB W rb mb g.1 g.4 k.3 k.us):=λW hW=>⟨h.p.old hW,hR.rk hW⟩
 have HX:bc (∀b,pB w.1<b->¬Aside rb mb b c/\¬Aside rb mb b ch/\¬Aside rb mb b w.1.size/\(∀x,rW q=Z x->¬Aside rb mb b x)/\(∀x,rW v=Z x->¬Aside rb mb b x)/\rb<pB w.1/\mb<pB w.1):=λb hb=>by
  let⟨es,ck,dz,_⟩:=hR.2;have yI:=hR.1;have l1:=(bf.1 yI).1;have l2:=(bf.1 dz).1;have mi:∀i o,w.1[i]? =Z o->o≠.map es ck->o≠au #[I g.1,I g.4,I k.3,.map<|Z mb] 228 (0,0)->¬Aside rb mb b i:=λi o ho n1 n2=>by have l3:=(bf.1 ho).1;rintro(rfl|rfl|h);exact n2<|ey<|ho.y.E yI;exact n1<|ey<|ho.y.E dz;omega
  have VF:∀{T m n:Nat} {u:aB} {L:av aB},T≠228->mT w 0 T m u n L->∀x,rW u=Z x->¬Aside rb mb b x:=λ{T m n u L} hT hr x e=>by obtain⟨rfl,_⟩|⟨g',kh,eH,rfl,_,h3,_⟩:=hr.2;cases e;cases e;exact mi _ _ h3 ay (by simp;intro _ e;exact absurd e hT)
  refine⟨mi c _ h.p.1 ay ay,mi ch _ h.p.6 ay ay,?_,VF aM h.p.2,VF aM h.p.H,l1,l2⟩;rintro(h|h|h)<;>omega
 clear hR bW h bR;refine QR func100 U trivial ?_ U;simp[ntmps100,nE,gH,nB,rS,FB,vH,vI,vW,vN,jZ,lT]
 gi_wp2_with (first|(refine⟨trivial,?_⟩;gi_at_call 151;apply(da.2 HM.H).V;rintro e G ⟨rfl,oY⟩;have dr:=HA.H G<|HB.H.E<|oY.V ay;have fP:=aJ G c 11 (aQ rb) dr.1.1;have fR:=aJ G c 12 (ξ k.4) dr.1.1;have r0:kD G (F w.1.size 0)=Z (aQ c):=bH oY (by simp[go_sem])))
 apply wpIn_wide.2;refine ga (S:=Pl c rb w.1.size k.4) ⟨fP,fR,r0⟩ λeP=>?_;apply tl [0,1,2,3,4,5,6,7];refine rH 8 λK hK=>?_;go_simp
 (refine(adG rb k.4 _).V ?_;rintro e w4 ⟨rfl,rfl⟩)
 go_wp2_with fail;refine hK.H _ _ (Pl.acX eP)<|λgl=>?_;clear hK K;refine dJ ?_
 (gi_wp2)
 let⟨bD,UO,e4,lD⟩:=afL G rb k.4
 have eN:aK w G:=HB.H.E (oY.V ay);have yH:pB w.1<pB G.1:=by have:=oY.4;simp at this;omega
 have MH:aK w (xz G rb k.4):=eN.E (lD.V<|oI yH);have AK:(xz G rb k.4).1[pB w.1]? =Z (au #[aQ c] 119 (0,0)):=(lD.5 _ yH).E ((oY.5 _ ay).E<|ao w _)
 let⟨y1,y3⟩:=HA.H _ MH
 let⟨x1,x2,x3,x4,fX,x5,x6⟩:=HX.H _ yH
 show Code.wpIn ig 3 ai _ _ _ (xz G rb k.4);generalize xz G rb k.4=W0 at*;generalize pB G.1=b at*;have eT:kN W0 rb mb b (b+1) g.1 g.4 k.4 ⟨k.3,k.us,0⟩:=⟨y3,UO,by rw[show mS k.4 (⟨k.3,k.us,0⟩:St).3 k.4.size=k.4 by simp];exact e4,Y,Y,Y,Y,Y⟩;have gw:=C.1;have gA:=C.6
 refine Ba (w:=W0) U aM (gf:=189) (lb:=#[aQ b,aQ<|b+1]) U trivial (enters_of func189 aW U) (encs:=Nu) (λ_=>U)
  (R:=Lv rb mb<|b+1) (Kp:=Ic rb mb b<|b+1) (V:=mR g.1 g.4 k.4 ⟨k.3,k.us,0⟩)
  (S:=λL W'=>mR g.1 g.4 k.4 ⟨k.3,k.us,0⟩ L/\(((⟨k.3,k.us,0⟩:St).run L).next g.1 g.4 k.4).2=0/\kN W' rb mb b (b+1) g.1 g.4 k.4 ((⟨k.3,k.us,0⟩:St).run L))
  (Sp:=λko W'=>mR g.1 g.4 k.4 ⟨k.3,k.us,0⟩ ko/\kN W' rb mb b (b+1) g.1 g.4 k.4 ((⟨k.3,k.us,0⟩:St).run ko))
  (λW hW=>acN 2 aM _ _ _ _ g.1 g.4 k.4 ⟨k.3,k.us,0⟩ W C.7.1 Y (by show pA k.us<=_;omega) (cO _) (eT.rk hW)) ?hR ?hKt ?hKb ?hS ?hSp
  (Pf c rb mb ch b w.1.size g k) (RT c rb mb ch b g k) ?hI ?hIx ?h0 (R0 c rb b w.1.size k.4) ?hAx ?assign ?body ?done ?stop
 case hR=>rintro r (h|h|h)<;>omega
 case hKt=>exact λh k=>⟨k.1.E h.1,k.2.1.E h.2.1,k.2.2.1.E h.2.2.1,k.2.2.2.E h.2.2.2⟩
 case hKb=>exact λW o=>⟨gq Y,gq Y,gq Y,gq Y⟩
 case hS=>exact λL W W' row h hg hr=>⟨h.1,h.2.1,h.2.2.kept ⟨hg.5 _ h.2.2.1.lt.1 (λe=>by have:=hr _ e.y;omega),hg.5 _ h.2.2.1.lt.2 (λe=>by have:=hr _ e.y;omega),hg.5 _ (bf.1 h.2.2.2).1 (λe=>by have:=hr _ e.y;omega),hg.5 _ (bf.1 h.2.2.3).1 (λe=>by have:=hr _ e.y;omega)⟩⟩
 case hSp=>exact λL W W' row h hg hr=>⟨h.1,h.2.kept ⟨hg.5 _ h.2.1.lt.1 (λe=>by have:=hr _ e.y;omega),hg.5 _ h.2.1.lt.2 (λe=>by have:=hr _ e.y;omega),hg.5 _ (bf.1 h.2.2).1 (λe=>by have:=hr _ e.y;omega),hg.5 _ (bf.1 h.2.3).1 (λe=>by have:=hr _ e.y;omega)⟩⟩
 case hI=>rw[bD];exact Pf.bears x1 x2 x3
 case hIx=>rw[bD];exact RT.bears x1 x2
 case h0=>exact⟨k,_,_,.nil,Vi,y1,x4,fX,AK⟩
 case hAx=>rw[bD];exact λx=>R0.bears Y Y x
 case assign=>rintro l ko ⟨m,nn⟩ W K hi hv jR hK;gi_wp2;exact hK _ (lL W<|au (gy m) 132) ⟨bj _ _ _ Y,bj _ _ _ Y⟩ ⟨bj _ _ _ Y,bj _ _ _ Y,bj _ _ _ Y,bj _ _ _ Y⟩ (Pf.bears x1 x2 x3 _ _ _ aj hi (pN W (au (gy m) 132) aj) (λr e=>by cases e)) ⟨pB W.1,Y,ao _ _,U⟩
 case body=>
  rintro l ko ⟨m,nn⟩ a' W ⟨a,D,E,J,g2,X,g4,g5,g7⟩ ⟨B,ed,ef,rfl⟩ hv jR;let⟨i1,i2,i3,i4,i5,i6,i7,i8,i9,e7,e9⟩:=GW J;have xg:=Uz J;have dL:=((XE g.1 g.4 k.4 ⟨k.3,k.us,0⟩ ko (m,nn)).1 hv).2;rw[xg]at dL;let⟨hf,cT⟩:=dL;have bU:=Mm g.1 g.4 a.3 a.us a.4;have cR:=Ua g.1 g.4 a.3 a.us a.4;have cW:=aba g.1 g.4 a.3 a.us a.4 (by rw[hf];exact cT);rw[hf]at bU cR cW;obtain⟨K,rfl⟩:∃K:Nat,nn=(K:Int):=⟨pD nn,by have:=bU.1;simp at this;omega⟩;have hK:K<=pC a.4:=by have:=bU.2;simp at this;omega
  have eE:=aJ W c 12 (ξ a.4) X.1;have f12:=bp X.1 12;have c0:=aJ W w.1.size 0 (aQ c) g7;have gu:pC a.4<=1048576:=by rw[i3];simp[oH];omega
  have gx:(K:Int)<=(pC a.4:Int):=Y;have HG:bc (qJ g k ko a/\a.may g/\first g.1 g.4 a.3 a.us a.4=(m,(K:Int))/\(K:Int)≠0/\m.Ok/\(m.1=1\/m.1=2\/m.1=3\/m.1=4)):=⟨J,g2,hf,cT,cR.1,cW⟩;have HQ:bc (cD W c rb ch D E g a/\(∀x,rW D=Z x->¬Aside rb mb b x)/\(∀x,rW E=Z x->¬Aside rb mb b x)/\W.1[pB w.1]? =Z (au #[aQ c] 119 (0,0))/\W.1[B]? =Z (au (gy m) 132 (0,0))/\b+4<=B/\pB W0.1+2<=pB W.1):=⟨X,g4,g5,g7,ef,ed,jR⟩;have HI:bc (a.7=k.7/\a.3=((⟨k.3,k.us,0⟩:St).run ko).1/\((⟨k.3,k.us,0⟩:St).run ko).2=a.us):=⟨i9,i1,i2⟩;clear J g2 X g4 g5 g7 ed ef jR i1 i2 i3 i4 i5 i6 i7 i8 i9 e7 e9 hf cT cR cW bU xg hv;rw[ReA];gi_wp2;rename_i K0 dn;have eR:=dn;have ew:K0 (ReB c rb b w.1.size k.4 a.4 m K B) (kB W (F c 12)<|ξ<|mS a.4 K a.4.size).drew:=by
   let⟨p1,A,p3,p4,p5,p6⟩:=HG.H;let⟨bg,q3,c6,q5,q6,q7,q8⟩:=HQ.H;let⟨j1,j2,j3⟩:=HI.H;have n2:pB w.1≠c:=fO q5 bg.1 ay;have n3:B≠c:=fO q6 bg.1 ay;have n4:pB w.1≠ch:=fO q5 bg.6 ay;have n5:Z w.1.size≠rW D:=λe=>by obtain⟨e',_⟩|⟨g',kh,eH,e',_,h3,_⟩:=bg.2.2;rw[e']at e;cases e;rw[e']at e;cases e;exact fO q5 h3 ay rfl
   have n6:Z w.1.size≠rW E:=aeO bg.H q5 ay;obtain⟨z,bl⟩:∃z,z=(kB W (F c 12)<|ξ<|mS a.4 K a.4.size).drew:=⟨_,U⟩;have P5:cD z c rb ch D E g {a with aN:=mS a.4 K a.4.size}:=by rw[bl];exact(bg.put (k':={a with aN:=mS a.4 K a.4.size}) 12 (ξ<|mS a.4 K a.4.size) U U U U).drew
   have P:z.1[B]? =Z (au (gy m) 132 (0,0)):=by rw[bl];exact oT q6 n3 _ _
   have X5:z.1[pB w.1]? =Z (au #[aQ c] 119 (0,0)):=by rw[bl];exact oT q5 n2 _ _
   have T5:aS (λi=>i=c) W z:=by rw[bl];exact⟨U,ay,λi _ hi=>dE _ _ _ _ hi⟩
   rw[<-bl];clear bl dn bg q5 q6 eE f12 c0;refine eR _ _ ?_;have z0:=aJ z B 0 (I m.1) P;have z1:=aJ z B 1 (ξ m.2) P;have z2:=aJ z B 2 (I m.3) P;have z3:=aJ z B 3 (I m.4) P;have z4:=aJ z B 4 (I m.5) P;have z5:=aJ z B 5 (I m.6) P;have z6:=aJ z B 6 (I m.7) P;have z7:=aJ z B 7 (ξ m.8) P;have z8:=aJ z B 8 (I m.9) P;have y0:=aJ z w.1.size 0 (aQ c) X5;have dH:=UA p1 C.q;have eV:=aeb dH;have eW:pC a.H<=65535:=by have:=A.2.2;have:=C.ou;have:=C.5;omega
   have eX:pA a.q<=65535:=by have:=A.2.1;have:=C.9;omega
   have UW:(a.jS g (m,(K:Int))).3=4↔m.1=4:=by rw[Ck.jS];split;rename_i e;exact⟨λ_=>e,λ_=>U⟩;rename_i e;exact⟨λh=>absurd h (LD A.1 e),λh=>absurd h e⟩
   have dK:∀t d j,cD t c rb ch d j g (({a with aN:=mS a.4 K a.4.size}:Ck).heard g m)->cD t c rb ch d j g (a.jS g (m,(K:Int))):=λt d j s=>by
    by_cases e:m.1=4;have e1:(({a with aN:=mS a.4 K a.4.size}:Ck).heard g m)=a.shut:=aO e;have e2:a.jS g (m,(K:Int))=a.shut:=aO e;rwa [e2,<-e1];have e2:a.jS g (m,(K:Int))=a.qt g (m,(K:Int)):=aI e;rw[e2];rw[Ck.heard]at s;rw[aI e]at s;cases ha:ta m with
    |true=>rw[ha]at s;refine s.like U ?_ U ⟨λh=>absurd h (LD A.1 e),λh=>absurd h A.1⟩;show(if ta m then _ else _)=_;rw[ha];rfl
    |false=>rw[ha]at s;refine s.like U ?_ U ⟨λh=>absurd h (LD A.1 e),λh=>absurd h A.1⟩;show(if ta m then _ else _)=_;rw[ha];rfl
   have Hi:(∀r∈(a.jS g (m,(K:Int))).q,r.Ok)/\pC (a.jS g (m,(K:Int))).H<=4194304/\(a.jS g (m,(K:Int))).7=k.7:=by rw[Ck.jS];split;exact⟨λr hr=>(by cases hr),(by decide:(0:Nat)<=4194304),j1⟩;rename_i e;refine⟨UA (qJ.snoc p1 A p3 p4 e) C.q,?_,j1⟩;show(a.H++gM g m).size<=_;rw[qB];have:=RN (g:=g) p5.1;omega
   have HE:bc (ax ai 153 #[aQ c,ν<|gy m] z λe t=>e=aG (θ #[])/\∃d j,cD t c rb ch d j g (a.jS g (m,(K:Int)))/\
     aS (λi=>i=c\/i=ch\/Z i=rW D\/Z i=rW E) W t/\t.1[pB w.1]? =Z (au #[aQ c] 119 (0,0))/\(∀x,rW d=Z x->¬Aside rb mb b x)/\(∀x,rW j=Z x->¬Aside rb mb b x)):=by
    refine(acn c rb ch D E g _ m z P5 A.1 C.7 C.8 p5 p6 (by show pC a.H<=_;omega) (by show pA a.q<=_;omega)).V ?_;rintro e t ⟨rfl,d,j,s,H,a6,b6⟩
    have fresh:∀(u u':aB),(∀x,rW u=Z x->¬Aside rb mb b x)->(rW u'=rW u\/∀x,rW u'=Z x->pB z.1<=x)->∀x,rW u'=Z x->¬Aside rb mb b x:=λu u' hu e6 x hx=>by obtain e|e:=e6;exact hu x (e▸hx);have:=e x hx;have:=T5.2;rintro(h|h|h)<;>omega
    refine⟨U,d,j,dK _ _ _ s,(T5.V λi _ h=>aA h).E H,ze H X5 ?_,fresh D d q3 a6,fresh E j c6 b6⟩;rintro(e|e|e|e);exact n2 e;exact n4 e;exact n5 e;exact n6 e
   have dc:bc (∀W7,aS (λi=>i=c\/i=ch\/Z i=rW D\/Z i=rW E) W W7->Ld (b+2) W W7/\Ic rb mb b (b+1) W W7):=λW7 hT=>acQ hT (by rintro i (rfl|rfl|e|e);exact x1;exact x2;exact q3 i e.y;exact c6 i e.y) Y Y Y;obtain⟨d2,dx⟩:∃d2:Bool,(d2=M↔(a.jS g (m,(K:Int))).may g):=by by_cases e:(a.jS g (m,(K:Int))).may g;exact⟨M,by simp[e]⟩;exact⟨aa,by simp[e]⟩
   have HR:bc (∀t d j,cD t c rb ch d j g (a.jS g (m,(K:Int)))->bN 151 #[aQ c] t (ω d2)):=λt d j s=>by
    let⟨d3,gr,gz⟩:=VZ s Hi.1 Hi.2.1 (by rw[Hi.2.2];have:=C.5;omega);have:d3=d2:=by cases d2<;>cases d3<;>simp_all
    rwa [<-this]
   have HD:bc ((d2=M↔(a.jS g (m,(K:Int))).may g)/\((a.jS g (m,(K:Int))).3=4↔m.1=4)):=⟨dx,UW⟩;clear p1 A p3 p4 p5 p6 q3 c6 q7 q8 j1 j2 j3 dH eV eW eX UW dK Hi dx P5 P X5 T5 n2 n3 n4 n5 n6;rw[ReB];cases d2 with
   |true=>have cw:=aX (HD.H.1.1 U);gi_wp2_with (first|(refine⟨trivial,?_⟩;gi_at_call 153;refine(rI l<|da.2 HE.H).V ?_;rintro e t ⟨rfl,d,j,s,H,Q,N,O⟩;have y6:=aJ t w.1.size 0 (aQ c) Q;have bu:bc (cD t c rb ch d j g (a.jS g (m,(K:Int)))/\aS (λi=>i=c\/i=ch\/Z i=rW D\/Z i=rW E) W t/\t.1[pB w.1]? =Z (au #[aQ c] 119 (0,0))/\(∀x,rW d=Z x->¬Aside rb mb b x)/\(∀x,rW j=Z x->¬Aside rb mb b x)):=⟨s,H,Q,N,O⟩;clear s H Q N O)|(refine⟨trivial,?_⟩;gi_at_call 151;refine(rI l<|da.2<|HR.H _ _ _ bu.H.1).V ?_;rintro e W7 ⟨rfl,aD⟩));let⟨p1,A,p3,p4,p5,p6⟩:=HG.H;let⟨s,H,Q,N,O⟩:=bu.H;have MW:=cw.H;have Vn:m.1≠4:=λe=>MW.1 (HD.H.2.2 e);have en:a.jS g (m,(K:Int))=a.qt g (m,(K:Int)):=aI Vn;have G6:=qJ.snoc p1 A p3 p4 Vn;rw[bD];let⟨t1,t2⟩:=dc.H W7 (H.E<|.below aD);rw[en]at s MW;exact⟨t1,t2,_,d,j,G6,MW,s.old aD,N,O,bT aD Q⟩
   |false=>
    have cw:bc (¬(a.jS g (m,(K:Int))).may g):=λe=>(by have:=HD.H.1.2 e;cases this);gi_wp2_with (first|(refine⟨trivial,?_⟩;gi_at_call 153;refine(rI l<|da.2 HE.H).V ?_;rintro e t ⟨rfl,d,j,s,H,Q,N,O⟩;have y6:=aJ t w.1.size 0 (aQ c) Q;have bu:bc (cD t c rb ch d j g (a.jS g (m,(K:Int)))/\aS (λi=>i=c\/i=ch\/Z i=rW D\/Z i=rW E) W t/\t.1[pB w.1]? =Z (au #[aQ c] 119 (0,0))/\(∀x,rW d=Z x->¬Aside rb mb b x)/\(∀x,rW j=Z x->¬Aside rb mb b x)):=⟨s,H,Q,N,O⟩;clear s H Q N O)|(refine⟨trivial,?_⟩;gi_at_call 151;refine(rI l<|da.2<|HR.H _ _ _ bu.H.1).V ?_;rintro e W7 ⟨rfl,aD⟩));let⟨p1,A,p3,p4,p5,p6⟩:=HG.H;let⟨s,H,Q,N,O⟩:=bu.H;have dG:=cw.H;rw[bD];let⟨t1,t2⟩:=dc.H W7 (H.E<|.below aD);by_cases Vn:m.1=4;have en:a.jS g (m,(K:Int))=a.shut:=aO Vn;let⟨j1,j2,j3⟩:=HI.H;rw[en]at s;refine⟨t1,t2,_,d,j,λf hf=>?_,s.old aD,N,O,λh=>absurd U h,?_⟩;obtain⟨f',rfl⟩:=E5 hf;have e:pA (ko++[(m,(K:Int))])+f'=pA ko+(f'+1):=bV;rw[e,Oh p1,YN A p3 p4 Vn];rw[St.Oz];show(if ta m then _ else _)=a.us;have:ta m=aa:=by rw[ta];simp[Vn]
    rwa [this];have en:a.jS g (m,(K:Int))=a.qt g (m,(K:Int)):=aI Vn;have G6:=qJ.snoc p1 A p3 p4 Vn;let⟨r1,r2,r3⟩:=GW G6;rw[en]at s dG;refine⟨t1,t2,_,d,j,λf hf=>?_,s.old aD,N,O,λ_=>r1,r2⟩;obtain⟨f',rfl⟩:=E5 hf;rw[Oh G6,Xj dG]
  gi_region<;>exact ew
 case done=>
  rintro L W ⟨hr,cN,bB⟩ ⟨a,D,E,J,g2,X,g4,g5,g7⟩ hD;let⟨i1,i2,i3⟩:=GW J;have aH:=OA g.1 g.4 k.4 ⟨k.3,k.us,0⟩ L (cO _) hr;have hrd:et g (pC k.4+1) k=a:=by obtain⟨f,hf⟩:∃f,pC k.4+1=pA L+f:=⟨pC k.4+1-pA L,by have:=aH.1;have:=aH.2;simp only at*;omega⟩;rw[hf,Oh J,Y0 (by rw[Uz J]at cN;exact cN)]
  have HQ:bc (cg W c rb mb ch D E g<|et g (pC k.4+1) k):=by rw[hrd];have bC:=bB.1;rw[i2]at bC;exact⟨X,_,bC,λ_=>i1.y⟩
  clear hrd aH i1 i2 i3 J g2 X g4 g5 g7 hr cN bB;gi_wp2;refine⟨ay,aA ⟨_,_,U,rU hD,θ #[],X2,U,_,_,HQ.H.off hD λi hi=>gq hi⟩⟩
 case stop=>
  rintro ko W ⟨hr,bB⟩ ⟨k2,D,E,J,X,g4,g5,g7,g8⟩ hD;have aH:=OA g.1 g.4 k.4 ⟨k.3,k.us,0⟩ ko (cO _) hr;have hrd:et g (pC k.4+1) k=k2:=J _ (by have:=aH.1;have:=aH.2;simp only at*;omega);have HQ:bc (cg W c rb mb ch D E g<|et g (pC k.4+1) k):=by rw[hrd];have bC:=bB.1;rw[g8]at bC;exact⟨X,_,bC,λh=>(g7 h).y⟩
  clear hrd aH J X g4 g5 g7 g8 hr bB;gi_wp2;refine⟨ay,aA ⟨_,_,U,rU hD,θ #[],X2,U,_,_,HQ.H.off hD λi hi=>gq hi⟩⟩
end
def eB.ri{sz}(h:eB w rb mb sz mx ph us)(a:w'.1[rb]? =w.1[rb]?)(b:w'.1[mb]? =w.1[mb]?):eB w' rb mb sz mx ph us:=⟨a.E h.1,h.2.block b⟩
def cg.eE(h:cg W c rb mb ch q v g k):rb<pB W.1/\mb<pB W.1:=by let⟨rp,a,_⟩:=h.2;exact a.lt
def cg.sc(h:cg W c rb mb ch q v g k):rb≠c/\mb≠c/\rb≠ch/\mb≠ch/\Z rb≠rW q/\Z mb≠rW q/\Z rb≠rW v/\Z mb≠rW v/\rb≠mb:=by
 let⟨rp,a,_⟩:=h.2;let⟨s,cl,d,_⟩:=a.2;let mi:∀{T m n:Nat} {u:aB} {i:av aB} {b:Nat} {o:Obj},mT W 0 T m u n i->W.1[b]? =Z o->(∀f,o≠au f T (0,0))->Z b≠rW u:=λ{T m n u i b o} hr l r e=>by obtain⟨rfl,_⟩|⟨t,kh,f,rfl,_,j,_⟩:=hr.2;cases e;cases e;exact r f<|ey<|l.y.E j
 exact⟨fO a.1 h.p.1 ay,fO d h.p.1 ay,fO a.1 h.p.6 ay,fO d h.p.6 ay,mi h.p.2 a.1 ay,mi h.p.2 d ay,mi h.p.H a.1 ay,mi h.p.H d ay,fO a.1 d ay⟩
def cg.of{q'}(h:cg W c rb mb ch q v g k)(f:cD W' c rb ch q' v' g k')(a:W'.1[rb]? =W.1[rb]?)(b:W'.1[mb]? =W.1[mb]?)(i:k'.us=k.us)(hf:k'.3≠4->k'.3=k.3):cg W' c rb mb ch q' v' g k':=by let⟨rp,d,j⟩:=h.2;refine⟨f,rp,i▸d.ri a b,λe=>?_⟩;grind
def cg.put(h:cg W c rb mb ch q v g k)(i u)(b:mP (kO g k rb q v ch) i u=kO g k' rb q v ch)(e:k'.q=k.q)(d:k'.H=k.H)(a:k'.3=k.3)(f:k'.us=k.us):cg (kB W (F c i) u) c rb mb ch q v g k':=h.of (h.p.put i u b e d a) (bC h.sc.1) (bC h.sc.2.1) f λ_=>a
def cg.drew(h:cg W c rb mb ch q v g k):cg W.drew c rb mb ch q v g k:=⟨h.p.drew,h.2.choose,⟨h.2.choose_spec.1.1,h.2.choose_spec.1.2⟩,h.2.choose_spec.2⟩
def cg.drewN(h:cg W c rb mb ch q v g k)(n):cg (W.drewN n) c rb mb ch q v g k:=⟨h.p.drewN n,h.2.choose,⟨h.2.choose_spec.1.1,h.2.choose_spec.1.2⟩,h.2.choose_spec.2⟩
def cg.old(h:cg W c rb mb ch q v g k)(a:aK W W'):cg W' c rb mb ch q v g k:=h.of (h.p.old a) (a.5 _ h.eE.1) (a.5 _ h.eE.2) U λ_=>U
def cg.ri(h:cg W c rb mb ch q v g k){O:Nat->Prop}(a:O c/\O rb/\O mb/\O ch/\(∀b,rW q=Z b->O b)/\∀b,rW v=Z b->O b)(d:∀b,O b->b<pB W.1->W'.1[b]? =W.1[b]?):cg W' c rb mb ch q v g k:=let l:=h.p.eE;let f:=h.eE;h.of (h.p.ri (d _ a.1 l.1) (d _ a.2.2.2.1 l.2.1) (λb e=>d b (a.2.2.2.2.1 b e) (l.2.2.1 b e)) λb e=>d b (a.2.2.2.2.2 b e) (l.2.2.2 b e)) (d _ a.2.1 f.1) (d _ a.2.2.1 f.2) U λ_=>U
def Ck.gone(k:Ck):Bool:=!decide (k.3<3)&&(((pA k.q:Int)==0)&&(k.6==0)&&((pC k.H:Int)==0))
def acL(c rb mb ch q v g k w)(h:cg w c rb mb ch q v g k):
  eZ 109 #[jp c] w (ω k.gone):=by
 obtain⟨t,u,rfl,_⟩:=h.p.2.form;obtain⟨r,s,rfl⟩:=gP h.p.H;have A:=aJ w c 13 (ζ t (pA k.q) u) h.p.1;have B:=aJ w c 14 (I k.6) h.p.1;have C:=aJ w c 16 (ζ r k.H.size s) h.p.1
 have d:bc (eZ 114 #[jp c] w<|I k.3):=(by
    let⟨rp,f,i⟩:=h.2;have b:=h.p.6;have l:=aJ w c 20 (.chan<|Z ch) h.p.1;have z:=aJ w c 11 (aQ rb) h.p.1;have x:=aJ w rb 2 (I rp) f.1;by_cases a:k.3=4;·rw[lY a]at b;have d:=aX a;clear a f i h;go_enter func114,ntmps114;go_wp2_with (go_at_call 116;apply(DC c ch _ l b).V;rintro e j ⟨rfl,rfl⟩);go_ret;exact⟨by rw[d];rfl,U⟩
    rw[lX a]at b;obtain rfl:=i a;clear a f i h;go_enter func114,ntmps114;go_wp2_with (first|(go_at_call 116;apply(AM c ch _ l b).V;rintro e j ⟨rfl,rfl⟩)|(go_at_call 170;apply(agy rb k.3 _ x).V;rintro e j ⟨rfl,rfl⟩));go_ret;exact⟨U,U⟩)
 have m:bc (k.gone=(!decide (k.3<3)&&(((pA k.q:Int)==0)&&(k.6==0)&&((pC k.H:Int)==0)))):=U;generalize k.gone=G at*;clear h;cases a:decide (k.3<3)<;>cases n:((pA k.q:Int)==0)<;>cases o:(k.6==0)
 all_goals
  go_enter func109,ntmps109;go_wp2_with (go_at_call 114;refine d.H.V ?_;rintro e j ⟨rfl,rfl⟩);go_ret;exact⟨by rw[m.H,a,n,o];rfl,U⟩
def Ck.px(k:Ck):Ck:={k with de:=0}
def Ck.dh(g:Cf)(k:Ck):Ck:={k with tok:=min (k.9+g.6) g.7}
def aar(c rb mb ch q v g k w)(h:cg w c rb mb ch q v g k)(hr:0<=g.6/\g.6<=65535)(m:0<=k.9/\k.9<=65535):
  ax ai 60 #[jp c] w λe a=>e=aG (θ #[])/\cg a c rb mb ch q v g (k.dh g)/\aS (λi=>i=c) w a:=by
 have b:bc (cg (kB w.drew (F c 17)<|I<|min (nt cJ<|k.9+g.6) g.7) c rb mb ch q v g<|k.dh g):=by rw[dI Y Y];exact h.drew.put 17 _ U U U U U
 have f:=aJ w c 7 (I g.6) h.p.1;have j:=aJ w c 8 (I g.7) h.p.1;have d:=aJ w c 17 (I k.9) h.p.1;have f17:=bp h.p.1 17;clear h;go_enter func60,ntmps60
 go_upto_region 0 with fail
 refine gY (S:=λW=>kD W (F c 7)=Z (I g.6)/\kD W (F c 8)=Z (I g.7)/\kD W (F c 17)=Z (I k.9)) 19 ⟨f,j,d⟩ λhS=>?_;apply tg [0,1,2,3,4,5,6,7];apply tg [8,9,10,11,12,13,14,15];apply tg [16,17,18];refine gz λK l=>?_;go_simp;apply l _ _;refine gl ?_;go_wp2;exact fC U U ⟨U,b,(ja (λi=>i=c) w).drew'.set (p:=F c 17) U _⟩
def Ck.open(g:Cf)(k:Ck):Ck:={k with de:=k.de+k.2*g.5}
def bL(n:Int):av Rq->av Rq×Int
 |[]=>([],n)|r::t=>if r.2= -1 then(⟨r.m,n⟩::(bL (n+1) t).1,(bL (n+1) t).2)else(r::(bL n t).1,(bL n t).2)
def yP(l):∀n,pA (bL n l).1=pA l:=by
 induction l with
 |nil=>intro n;rfl
 |cons r t a=>intro n;rw[bL];split<;>simp[a]
def DT(l):∀n,n<=(bL n l).2/\(bL n l).2<=n+pA l:=by
 induction l with
 |nil=>intro n;simp[bL]
 |cons r t a=>intro n;rw[bL];grind
def Ny(a b):∀n,bL n (a++b)=((bL n a).1++(bL (bL n a).2 b).1,(bL (bL n a).2 b).2):=by
 induction a with
 |nil=>intro n;simp[bL]
 |cons r t c=>intro n;simp[lT,bL];split<;>simp[c]
def aew{l:av Rq}(h:l[i]? =Z r)(n):bL n (l.take<|i+1)=if r.2= -1 then((bL n<|l.take i).1++[⟨r.m,(bL n<|l.take i).2⟩],(bL n<|l.take i).2+1)else((bL n<|l.take i).1++[r],(bL n<|l.take i).2):=by rw[rQ,h,Ny];by_cases e:r.2= -1;simp[bL,e];simp[bL,e]
def Uf{d:Type}(b:d->av aB)(K)(hF:∀x,pA (b x)=K):∀(l:av d) (i j:Nat) (x c:d) (u:aB),l[i]? =Z x->j<K->b c=(b x).set j u->(l.set i c).flatMap b=(l.flatMap b).set (i*K+j) u:=by
 intro l;induction l with
 |nil=>intro i j x c u h;simp at h
 |cons a t g=>
  intro i j x c u h e f;cases i with
  |zero=>grind
  |succ i=>grind
def cD.afW{gb}(h:cD W c rb ch (ζ (Z<|F gb 0) n kh) v g k)(o:k.q[i]? =Z r)(no):
  cD (kB W (F gb<|i*10+9)<|I no) c rb ch (ζ (Z<|F gb 0) n kh) v g {k with q:=k.q.set i ⟨r.m,no⟩}:=by
 let⟨a1,s,a3,t,E,p⟩:=h.sc
 let mf:∀b,b≠gb->(kB W (F gb<|i*10+9)<|I no).1[b]? =W.1[b]? :=λb l=>bC l;let K:=(bY.1 o).1;refine⟨(mf c λe=>s C1).E h.1,?_,eF h.H λb e=>mf b λf=>p gb U (by rw[e,f]),?_,h.5.ri λb e=>mf b λf=>p gb U (by rw[e,f]),(mf ch λe=>t C1).E h.6⟩;let a:pA (k.q.set i ⟨r.m,no⟩)=pA k.q:=ay;refine⟨?_,?_⟩;rw[Uf (λr=>(aU r).1) 10 (λ_=>U) k.q i 9 r ⟨r.m,no⟩ (I no) o Y U,jB,a];exact h.2.1;obtain⟨e,_⟩|⟨J,G,H,e,j,z,A,B,C,D⟩:=h.2.2;cases e;cases e;refine az ⟨gb,kh,_,by rw[a],j,bG z (i*10+9) _,by rw[a];exact A,B,by simpa using C,?_⟩;rw[Uf (λr=>(aU r).1) 10 (λ_=>U) k.q i 9 r ⟨r.m,no⟩ (I no) o Y U,<-D,a,JH,List.take_set]
 let⟨x,T,w,j⟩:=h.4 gb U
 intro b l;cases l;refine⟨_,T,bG w (i*10+9) _,λu d=>?_⟩;rw[JH]at d;obtain d|rfl:=Ks d;exact j u d;trivial
def aev(c rb mb ch q v g k n w)(h:cg w c rb mb ch q v g k)(hn:0<=n/\n<=281474976710656)(hl:pA k.q<=1048576):
  ax ai 102 #[jp c,I n] w λe J=>e=aG (I (bL n k.q).2)/\cg J c rb mb ch q v g {k with q:=(bL n k.q).1}/\aS (λb=>Z b=rW q) w J:=by
 obtain⟨s,a,rfl,_⟩:=h.p.2.form;have S:=aJ w c 13 (ζ s (pA k.q) a) h.p.1;have t:=aX h;clear h;go_enter func102,ntmps102;go_wp2
 go_loopw [1,5,11] (λnv _ D wr=>∃i:Nat,i<=pA k.q/\D=I (i:Int)/\nv=I (bL n<|k.q.take i).2/\bc (cD wr c rb ch (ζ s (pA k.q) a) v g {k with q:=(bL n<|k.q.take i).1++k.q.drop i}/\aS (λb=>Z b=rW (fM s k.q.length a)) w wr)) (λ_ _ D _=>pA k.q-pD (dw D))
 case atStart=>exact⟨0,cO _,U,U,t.p,ja _ _⟩
 case round=>
  obtain⟨i,hi,rfl,rfl,hR⟩:=hrel;by_cases x:i<pA k.q
  ·have O:(i:Int)<(pA k.q:Int):=Y;obtain⟨r,hr⟩:∃r,k.q[i]? =Z r:=⟨k.q[i],dj x⟩;have j:=aew hr n;have z:((bL n<|k.q.take i).1++k.q.drop i)[i]? =Z r:=by rw[vO (by rw[yP];simp;omega),yP,List.getElem?_drop,vS,uE Y];simpa using hr
   have ak:=DT (k.q.take i) n;have aD:pA (k.q.take i)<=1048576:=bV;have W:=aJ wr c 13 (ζ s (pA k.q) a) hR.1.1;have an:pA ((bL n<|k.q.take i).1++k.q.drop i)=pA k.q:=by rw[fQ,yP];simp;omega
   have A:=hR.1.2;obtain⟨f,rfl,k0,k1,k2,k3,k4,k5,k6,k7,k8,k9⟩:=A.at z;have C:((bL n<|k.q.take i).1++k.q.drop i).set i ⟨r.m,(bL n<|k.q.take i).2⟩=(bL n<|k.q.take i).1++[⟨r.m,(bL n<|k.q.take i).2⟩]++k.q.drop (i+1):=by
    have P:pA (bL n<|k.q.take i).1=i:=by rw[yP];simp;omega
    rw[List.set_append,aI Y,P,Nat.sub_self,lS]
    congr 1;rw[BQ x];rfl
   have B:k.q.drop i=r::k.q.drop (i+1):=by
    rw[BQ x]
    congr 1;rw[dj x]at hr;exact ey hr
   have f9:nc wr (F f<|i*10+9)=aa:=by obtain⟨e,_⟩|⟨X,T,V,e,h2,N,_⟩:=A.2;cases e;injection e with d;injection d with d;injection d with d;subst d;exact bp N _
   have E:=hR.1.afW z (bL n<|k.q.take i).2;cases G:(r.2==-1)with
   |true=>
    have d:r.2= -1:=by simpa using G
    rw[aO d]at j;have l:bc (cD (kB wr (F f<|i*10+9)<|I (bL n<|k.q.take i).2) c rb ch (ζ (Z<|F f 0) (pA k.q) a) v g {k with q:=(bL n<|k.q.take<|i+1).1++k.q.drop (i+1)}/\aS (λb=>Z b=rW (fM (Z<|F f 0) k.q.length a)) w (kB wr (F f<|i*10+9)<|I (bL n<|k.q.take i).2)):=by refine⟨?_,hR.2.set (p:=F f<|i*10+9) U _⟩;rw[j];show cD _ _ _ _ _ _ _ {k with q:=(bL n<|k.q.take i).1++[⟨r.m,(bL n<|k.q.take i).2⟩]++k.q.drop (i+1)};rwa [<-C]
    have u:bc ((bL n<|k.q.take<|i+1).2=(bL n<|k.q.take i).2+1):=by show _=_;rw[j]
    clear E j C B A z;generalize (bL n<|k.q.take i).2=H at*;go_wp2;refine⟨⟨i+1,Y,by go_num,?_,l⟩,?_⟩;rw[u];simp[dw];omega
   |false=>
    have d:¬r.2= -1:=by simpa using G
    rw[aI d]at j;have l:bc (cD wr c rb ch (ζ (Z<|F f 0) (pA k.q) a) v g {k with q:=(bL n<|k.q.take<|i+1).1++k.q.drop (i+1)}/\aS (λb=>Z b=rW (fM (Z<|F f 0) k.q.length a)) w wr):=by refine⟨?_,hR.2⟩;rw[j];show cD _ _ _ _ _ _ _ {k with q:=(bL n<|k.q.take i).1++[r]++k.q.drop (i+1)};rw[lS];show cD _ _ _ _ _ _ _ {k with q:=(bL n<|k.q.take i).1++(r::k.q.drop (i+1))};rw[<-B];exact hR.1
    have u:bc ((bL n<|k.q.take<|i+1).2=(bL n<|k.q.take i).2):=by show _=_;rw[j]
    clear E j C B A z;generalize (bL n<|k.q.take i).2=H at*;go_wp2;refine⟨⟨i+1,Y,by go_num,?_,l⟩,?_⟩;rw[u];simp[dw];omega
  have O:¬(i:Int)<(pA k.q:Int):=Y;have e:i=pA k.q:=Y;subst e;have o:=hR;rw[pM,List.drop_length,lf]at o;have l:bc (cg wr c rb mb ch (ζ s (pA k.q) a) v g {k with q:=(bL n k.q).1}/\aS (λb=>Z b=rW (fM s k.q.length a)) w wr):=by let⟨a1,Q,a3,R,K,L,_⟩:=t.sc;exact⟨t.of o.1 (o.2.3 _ t.eE.1 K) (o.2.3 _ t.eE.2 L) U λ_=>U,o.2⟩
  have u:bc ((bL n<|k.q.take (pA k.q)).2=(bL n k.q).2):=by show _=_;rw[pM]
  clear hR o;generalize (bL n<|k.q.take (pA k.q)).2=H at*;go_wp2;go_ret;exact⟨by rw[<-u];rfl,l.1,l.2⟩
open Go.ChangeMaps Go.Maps Go.WideElems
def ahe{H:Type}{Kd}(O:OneKind Kd)(u:DataW H):∀acc:av Lit,(∀x∈acc,Kd x)->(∀x∈acc,QL x)->acc.Nodup->Cc u acc.reverse=.map ((acc.map λx=>(x,u)).foldr ZG []):=by
 intro acc;induction acc with
 |nil=>intros;rfl
 |cons x t l=>
  intro c d k;let f:=vV.1 k;rw[List.reverse_cons,E0,l (λb a=>c b D2) (λb a=>d b D2) f.2];let h:Keys Kd (t.map λx=>(x,u)):=λp g=>by grind
  let i:(t.map λx=>(x,u)).Pairwise (λp q=>p.1≠q.1):=j4;let j:(t.map λx=>(x,u)).filter (notKey x)=t.map λx=>(x,u):=by rw[Fg];intro p g;obtain⟨b,a,rfl⟩:=jY.1 g;rw[notKey_iff<|d x ay];exact λe=>f.1 (by rw[<-e];exact a)
  have:=Maps.sorted_put (E':=(x,u)::t.map λx=>(x,u)) O (c x ay) h i (by rw[j]);show DataW.map (putKey x u _)=_;rw[<-this];rfl
def aep{a:Type}{l:av a}(h:l.Nodup):l.reverse.Nodup:=by grind
def ahd{H:Type}{Kd}(O:OneKind Kd)(u:DataW H)(acc)(k:Lit)(p:Lit->Bool)(c:∀x∈acc,(p x=M↔x≠k))(j:∀x∈acc,Kd x)(hl:∀x∈acc,QL x)(m:QL k)(b:acc.Nodup):
  (Cc u acc).del k=Cc u (acc.filter p)/\Maps.size (Cc u<|acc.filter p)=pA (acc.filter p):=by
 let hr:∀l:av Lit,(∀x∈l,x∈acc)->l.Nodup->Cc u l=.map ((l.reverse.map λx=>(x,u)).foldr ZG []):=λl hm n=>by have:=ahe O u l.reverse (λx a=>j x (hm x T2)) (λx a=>hl x (hm x T2)) (aep n);rwa [List.reverse_reverse]at this
 let o:∀x∈acc.filter p,x∈acc:=λx a=>(rO.1 a).1;let e:=hr _ o (b.filter _);rw[e,hr acc (λ_ h=>h) b]
 let f:Keys Kd (acc.reverse.map λx=>(x,u)):=λp c=>by grind
 let g:(acc.reverse.map λx=>(x,u)).Pairwise (λp q=>p.1≠q.1):=j4
 let i:((acc.filter p).reverse.map λx=>(x,u))=(acc.reverse.map λx=>(x,u)).filter (notKey k):=by
  rw[<-List.filter_reverse,A7]
  congr 1;apply List.filter_congr;intro x a;let d:notKey k (x,u)=M↔x≠k:=notKey_iff m;exact sR.2<|(c x T2).E d.y
 refine⟨?_,?_⟩;show DataW.map (delKey k _)=_;rw[Maps.sorted_del (E':=(acc.filter p).reverse.map λx=>(x,u)) O f g (by rw[i])];rw[Maps.size_eq,length_sorted];simp
def aeS{H:Type}{k:aY}{R}{D:DataW H}(h:w.ownsMap P k R b n D):w.ownsMap P k R b (Maps.size D) D:=by let⟨d,c,e,f,g,a⟩:=h;refine⟨d,c,e,f,?_,a⟩;rw[a,Maps.size_eq,length_read];exact aR _
def Aa(W:aq)(g:Nat):Prop:=∃x T,W.1[g]? =Z (au x T (0,0))/\∀u∈x.1,mN u
def Aa.sets{g}:∀(vs:av aB) (o:Nat) (W:aq),Aa W g->(∀u∈vs,mN u)->Aa (nb W g o vs) g
 |[],_,_,h,_=>h|u::vs,o,W,⟨x,T,d,e⟩,hv=>by refine Aa.sets vs (o+1) (kB W (F g o) u) ⟨_,T,bG d o u,λb a=>?_⟩ λb a=>hv b D2;rw[JH]at a;obtain a|rfl:=Ks a;exact e b a;exact hv b ay
def Mo(r):∀u∈(aU r).1,mN u:=λu a=>by simp at a;obtain rfl|rfl|rfl|rfl|rfl|rfl|rfl|rfl|rfl|rfl:=a<;>trivial
def abh(l:av Rq):∀u∈l.flatMap (λr=>(aU r).1),mN u:=λu a=>by let⟨r,_,hr⟩:=BY.1 a;exact Mo r u hr
def aeI(l:av Rq):∀u∈l.flatMap (λr=>(aU r).1),u.oneCell'=M:=λu a=>by let⟨r,_,hr⟩:=BY.1 a;simp at hr;obtain rfl|rfl|rfl|rfl|rfl|rfl|rfl|rfl|rfl|rfl:=hr<;>rfl
def Z8{l}(w)(h:kr w v (r::l))(u:nP w v):
  ax ai 269 #[v,I 0,I 1] w λe f=>∃d,e=aG d/\kr f d l/\aS (λb=>Z b=rW v) w f/\rW d=rW v/\nP f d:=by
 let n:pA (l.flatMap<|λr=>(aU r).1)=pA l*10:=by have:=h.1;rw[pH,fQ]at this;let e:pA (aU r).1=10:=U;grind
 obtain⟨_,h0⟩|⟨g,kh,p,rfl,B,m,o,i,j,x⟩:=h.2;simp at h0;apply(Z9 g (pA l+1) kh (l.flatMap λr=>(aU r).1) p w Y o i n (aeI l) m j<|DA x U).V;rintro e f ⟨rfl,rfl⟩
 let⟨a,b⟩:=Tc (zs:=SJ) m j o i n U
 refine⟨_,U,a,⟨b.1,b.2,λk t z=>b.3 k t λe=>z C1⟩,U,λA s=>?_⟩;cases s;have h0:Aa w.drew g:=u g U;exact(h0.sets _ 0 _<|abh l).sets SJ _ _<|Mo ⟨⟨0,⟨#[]⟩,0,0,0,0,0,⟨#[]⟩,0⟩,0⟩
def Ck.bO(k:Ck)(r:Rq)(l:av Rq):Ck:={k with q:=l,tok:=k.9-1,de:=k.de-cw r.m,sv:=k.sv+cw r.m,bw:=k.6+1,pc:=k.7+sy r.m}
structure kL(w W:aq)(c rb ch:Nat)(q0 q v:aB)(g:Cf)(k:Ck)(r:Rq)(b0 b1:Nat):Prop where
 p:cD W c rb ch q v g k
 z:rZ W b0
 b:W.1[b1]? =Z (au (aU r) 134 (0,0))
 t:aS (λb=>b=c\/Z b=q0.ownBlock) w W
def kL.drew(h:kL w W c rb ch q0 q v g k r b0 b1):kL w W.drew c rb ch q0 q v g k r b0 b1:=⟨h.p.drew,h.z,h.b,h.t.drew⟩
def kL.old(h:kL w W c rb ch q0 q v g k r b0 b1)(a:aK W W'):kL w W' c rb ch q0 q v g k r b0 b1:=⟨h.p.old a,bT a h.z,bT a h.b,h.t.E<|ip a⟩
def kL.put(h:kL w W c rb ch q0 q v g k r b0 b1)(i u)(a:mP (kO g k rb q v ch) i u=kO g k' rb q v ch)(f:k'.q=k.q)(d:k'.H=k.H)(e:k'.3=k.3):kL w (kB W (F c i) u) c rb ch q0 q v g k' r b0 b1:=⟨h.p.put i u a f d e,oT h.z (fO h.z h.p.1 ay) _ _,oT h.b (fO h.b h.p.1 ay) _ _,h.t.set (aA U) _⟩
abbrev Sk(c b1:Nat)(k:Ck)(r:Rq)(W:aq):Prop:=(kD W (F c 18)=Z (I k.de)/\kD W (F c 19)=Z (I k.sv)/\kD W (F c 15)=Z (I k.pc))/\dD W b1 r
def kL.s(h:kL w W c rb ch q0 q v g k r b0 b1):Sk c b1 k r W:=⟨⟨aD h.p.1 U,aD h.p.1 U,aD h.p.1 U⟩,dD.of h.b⟩
def ajf(W B u0 u1 u2 u3 u4 u5 u6 u7 u8 u9):aS (λb=>b=B) W (kB (kB (kB (kB (kB (kB (kB (kB (kB (kB W (F B 0) u0) (F B 1) u1) (F B 2) u2) (F B 3) u3) (F B 4) u4) (F B 5) u5) (F B 6) u6) (F B 7) u7) (F B 8) u8) (F B 9) u9):=(((((((((((ja (λb=>b=B) W).set (p:=F B 0) U u0).set (p:=F B 1) U u1).set (p:=F B 2) U u2).set (p:=F B 3) U u3).set (p:=F B 4) U u4).set (p:=F B 5) U u5).set (p:=F B 6) U u6).set (p:=F B 7) U u7).set (p:=F B 8) U u8).set (p:=F B 9) U u9)
def kL.fin{gb L qc a}(h:kL w W c rb ch (ζ (Z<|F gb 0) L qc) a v g k r w.1.size b1){k0}(h0:cg w c rb mb ch (ζ (Z<|F gb 0) L qc) v g k0)(n:k.us=k0.us)(l:k.3=k0.3)(m:rW a=Z gb)(f:aS (λb=>b=pB w.1) W W'):
  ∃a,cg W' c rb mb ch a v g k/\aS (λb=>b=c\/Z b=rW (fM (Z<|F gb 0) L qc)) w W'/\rW a=rW (fM (Z<|F gb 0) L qc):=by
 let d:=h.t
 let⟨a1,A,a3,B,C,D,E,G,H⟩:=h0.sc
 let⟨l1,j⟩:=h0.eE
 let⟨s,u,x,z⟩:=h0.p.eE
 let J:=x gb U;let sz:=d.2;let mf:∀b,b<pB w.1->W'.1[b]? =W.1[b]? :=λb i=>f.3 b Y Y;exact⟨a,h0.of (h.p.ri (mf c s) (mf ch u) (λb e=>mf b j4) λb e=>mf b (z b e)) ((mf rb l1).E<|d.3 rb l1 j4) ((mf mb j).E<|d.3 mb j j4) n λ_=>l,⟨f.1.E d.1,cM sz f.2,λb i o=>(mf b i).E (d.3 b i o)⟩,m⟩
def Ti(c rb mb ch q v g k r l w)(h:cg w c rb mb ch q v g k)(hq:k.q=r::l)(hr:r.Ok)(ht:0<=k.9/\k.9<=65535)(hd:0<=k.de/\k.de<=1048576)(hs:0<=k.sv/\k.sv<=281474976710656)(hf:0<=k.6/\k.6<=1048576)(hp:0<=k.7/\k.7<=4194304):
  ax ai 242 #[jp c] w λe A=>e=aG (ν<|aU r)/\∃G,cg A c rb mb ch G v g (k.bO r l)/\aS (λb=>b=c\/Z b=rW q) w A/\rW G=rW q:=by
 have J:=h.p.2;rw[hq]at J;obtain⟨qa,t,rfl,_⟩:=J.form;have cW:=aJ w c 13 (ζ qa (pA (r::l)) t) h.p.1;obtain⟨d,rfl,k0,k1,k2,k3,k4,k5,k6,k7,k8,k9⟩:=J.at (i:=0) U;simp at k0 k1 k2 k3 k4 k5 k6 k7 k8 k9;have hc:c<pB w.1:=h.p.eE.1;have hg:d<pB w.1:=jo k0;have c8:(0:Int)<(pA (r::l):Int):=j4
 have e0:cw r.m=r.m.7\/cw r.m=4:=by rw[cw];split;exact az U;exact aA U
 have e1:sy r.m=4+r.m.7\/sy r.m=4:=by rw[sy];split;exact aA U;exact az U
 have c6:0<=cw r.m/\cw r.m<=65535:=by have:=hr.3;have:=hr.4;omega
 have dg:0<=sy r.m/\sy r.m<=65539:=by have:=hr.3;have:=hr.4;omega
 have bA:aK w (lL (lL w<|au qp 134)<|au (aU r) 134):=bq.alloc ay _;have aT:(lL (lL w<|au qp 134)<|au (aU r) 134).1[pB w.1]? =Z (au qp 134 (0,0)):=(bj _ _ _ ay).E (ao w _)
 have aW:(lL (lL w<|au qp 134)<|au (aU r) 134).1[pB w.1+1]? =Z (au (aU r) 134 (0,0)):=by have:=ao (lL w<|au qp 134) (au (aU r) 134);rwa [zT]at this
 have HD:bc (ax ai 269 #[ζ (Z<|F d 0) (pA (r::l)) t,I 0,I 1] (lL (lL w<|au qp 134)<|au (aU r) 134) λe A=>∃f x j,e=aG (ζ f x j)/\kL w (kB A (F c 13)<|ζ f x j) c rb ch (ζ (Z<|F d 0) (pA (r::l)) t) (ζ f x j) v g {k with q:=l} r w.1.size (pB w.1+1)/\rW (fM f x j)=Z d/\A.1[c]? =Z (au (kO g k rb (ζ (Z<|F d 0) (pA (r::l)) t) v ch) 168 (0,0))):=by have P:=h.p.old bA;have bJ:kr _ _ (r::l):=hq▸P.2;let⟨a1,a2,a3,a4,a5,a6⟩:=P.sc;apply(Z8 _ bJ P.4).V;rintro e A ⟨v',rfl,d1,d2,d3,d4⟩;obtain⟨f,j,rfl,_⟩:=d1.form;have N:=P.eE;have mf:∀b,b≠c->(kB A (F c 13)<|ζ f (pA l) j).1[b]? =A.1[b]? :=λb hb=>bC hb;have AK:=(d2.3 c N.1 a2).E P.1;have nq:∀b,rW (fM f l.length j)=Z b->b≠c:=λb e B=>a2 (by rw[<-B,<-d3,e]);have nv:∀b,rW v=Z b->Z b≠rW (fM (Z<|F d 0) (r::l).length t):=λb e B=>a6 b B.y e.y;have O:pB w.1≠d/\pB w.1+1≠d/\pB w.1≠c/\pB w.1+1≠c:=Y;refine⟨_,_,_,U,⟨⟨bG AK 13 _,eF d1 λb e=>mf b (nq b e),eF P.H λb e=>(mf b λB=>a3 (by rw[e,B])).E (d2.3 b (N.2.2.2 b e)<|nv b e),d4.ri λb e=>mf b (nq b e),P.5.ri λb e=>(mf b λB=>a3 (by rw[e,B])).E (d2.3 b (N.2.2.2 b e)<|nv b e),(mf ch<|dB a1).E<|(d2.3 ch N.2.1 a4).E P.6⟩,?_,(mf _ O.2.2.2).E<|(d2.3 _ ay<|λe=>O.2.1 Og).E aW,((ip bA).E<|d2.V λb _ h=>.inr h).set (p:=F c 13) (.inl U) _⟩,d3,AK⟩;exact(mf _ O.2.2.1).E<|(d2.3 _ bV<|λe=>O.1 Og).E aT
 have H0:=aX h;have X:bc (∀W,bN 206 #[ν<|aU r] W<|I<|cw r.m):=λW=>Xi r W;have HZ:bc (∀W,bN 201 #[ν<|kE r.m.1 r.m.2 r.m.3 r.m.4 r.m.5 r.m.6 r.m.7 r.m.8 r.m.9] W<|I<|sy r.m):=λW=>IF r.m W hr.3 hr.4;have HE:bc (k.bO r l={k with q:=l,tok:=k.9-1,de:=k.de-cw r.m,sv:=k.sv+cw r.m,bw:=k.6+1,pc:=k.7+sy r.m}):=U;clear h J bA aT aW e0 e1;generalize k.bO r l=kd at*;generalize cw r.m=o at*;generalize sy r.m=si at*;generalize pA (r::l)=L at*;go_enter func242,ntmps242
 go_upto_region 4 with(go_at_call 269;apply HD.H.V;rintro e Q ⟨f,x,j,rfl,d1,d2,d3⟩;have H1:=aX d1;have b9:=aJ Q c 13 (ζ (Z<|F d 0) L t) d3;have f13:=bp d3 13;have cq:=aJ Q c 17 (I k.9) d3;have f17:=bp d3 17;clear d1 d3)
 have R:bc (kL w (kB (kB Q (F c 13)<|ζ f x j) (F c 17)<|I<|k.9-1) c rb ch (ζ (Z<|F d 0) L t) (ζ f x j) v g {k with q:=l,tok:=k.9-1} r w.1.size<|pB w.1+1):=H1.H.put 17 _ U U U U;clear b9 f13 cq f17 H1;generalize kB (kB Q (F c 13)<|ζ f x j) (F c 17) (I<|k.9-1)=W2 at*;refine gY (S:=Sk c (pB w.1+1) {k with q:=l,tok:=k.9-1} r) 9 R.H.drew.s λhS=>?_;apply tg [0,1,2,3,4];refine gr 5 λK a=>?_;go_simp;go_at_call 206;apply(X.H _).V;rintro e w3 ⟨rfl,UL⟩;have C:=R.H.drew.old UL;refine a.H _ _ C.s<|λMK=>?_;clear a K;apply tg [6,7,8];have cr:=aJ w3 c 18 (I k.de) C.p.1;have f18:=bp C.p.1 18;refine gz λK a=>?_;go_simp;apply a.H _ _
 have T:bc (kL w (kB w3 (F c 18)<|I<|nt cJ<|k.de-o) c rb ch (ζ (Z<|F d 0) L t) (ζ f x j) v g {k with q:=l,tok:=k.9-1,de:=k.de-o} r w.1.size<|pB w.1+1):=by rw[dI Y Y];exact C.put 18 _ U U U U
 clear hS MK C cr f18 a K UL R;generalize kB w3 (F c 18) (I<|nt cJ<|k.de-o)=W4 at*;refine gl ?_
 go_upto_region 5 with fail
 refine gY (S:=Sk c (pB w.1+1) {k with q:=l,tok:=k.9-1,de:=k.de-o} r) 9 T.H.drew.s λhS=>?_;apply tg [0,1,2,3,4];refine gr 5 λK a=>?_;go_simp;go_at_call 206;apply(X.H _).V;rintro e w5 ⟨rfl,UM⟩;have D:=T.H.drew.old UM;refine a.H _ _ D.s<|λbB=>?_;clear a K;apply tg [6,7,8];have cu:=aJ w5 c 19 (I k.sv) D.p.1;have f19:=bp D.p.1 19;refine gz λK a=>?_;go_simp;apply a.H _ _
 have H:bc (kL w (kB w5 (F c 19)<|I<|nt cJ<|k.sv+o) c rb ch (ζ (Z<|F d 0) L t) (ζ f x j) v g {k with q:=l,tok:=k.9-1,de:=k.de-o,sv:=k.sv+o} r w.1.size<|pB w.1+1):=by rw[dI Y Y];exact D.put 19 _ U U U U
 clear hS bB D cu f19 a K UM T;generalize kB w5 (F c 19) (I<|nt cJ<|k.sv+o)=W6 at*;refine gl ?_;have cj:=aJ W6 c 14 (I k.6) H.H.p.1;have f14:=bp H.H.p.1 14
 go_upto_region 7 with fail
 have V:bc (kL w (kB W6 (F c 14)<|I<|k.6+1) c rb ch (ζ (Z<|F d 0) L t) (ζ f x j) v g {k with q:=l,tok:=k.9-1,de:=k.de-o,sv:=k.sv+o,bw:=k.6+1} r w.1.size<|pB w.1+1):=H.H.put 14 _ U U U U;clear cj f14 H;generalize kB W6 (F c 14) (I<|k.6+1)=W7 at*;refine gY (S:=Sk c (pB w.1+1) {k with q:=l,tok:=k.9-1,de:=k.de-o,sv:=k.sv+o,bw:=k.6+1} r) 10 V.H.drew.s λhS=>?_;apply tg [0,1,2,3,4,5];refine gr 6 λK a=>?_;go_simp;go_at_call 201;apply(HZ.H _).V;rintro e w8 ⟨rfl,bg⟩;have E:=V.H.drew.old bg;refine a.H _ _ E.s<|λbD=>?_;clear a K;apply tg [7,8,9];have cm:=aJ w8 c 15 (I k.7) E.p.1;have f15:=bp E.p.1 15;refine gz λK a=>?_;go_simp;apply a.H _ _
 have n:bc (kL w (kB w8 (F c 15)<|I<|nt cJ<|k.7+si) c rb ch (ζ (Z<|F d 0) L t) (ζ f x j) v g {k with q:=l,tok:=k.9-1,de:=k.de-o,sv:=k.sv+o,bw:=k.6+1,pc:=k.7+si} r w.1.size<|pB w.1+1):=by rw[dI Y Y];exact E.put 15 _ U U U U
 clear hS bD E cm f15 a K bg V;generalize kB w8 (F c 15) (I<|nt cJ<|k.7+si)=u at*;refine gl ?_
 let⟨m0,m1,m2,m3,m4,m5,m6,m7,m8,m9⟩:=dD.of n.H.b
 have z0:=aJ u w.1.size 0 (I 0) n.H.z;have z1:=aJ u w.1.size 1 (ξ ⟨#[]⟩) n.H.z;have z2:=aJ u w.1.size 2 (I 0) n.H.z;have z3:=aJ u w.1.size 3 (I 0) n.H.z;have z4:=aJ u w.1.size 4 (I 0) n.H.z;have z5:=aJ u w.1.size 5 (I 0) n.H.z;have z6:=aJ u w.1.size 6 (I 0) n.H.z;have z7:=aJ u w.1.size 7 (ξ ⟨#[]⟩) n.H.z;have z8:=aJ u w.1.size 8 (I 0) n.H.z;have z9:=aJ u w.1.size 9 (I 0) n.H.z;have fz:∀i,nc u (F w.1.size i)=aa:=λi=>bp n.H.z i
 have J4:bc (∀W',aS (λb=>b=pB w.1) u W'->∃G,cg W' c rb mb ch G v g kd/\aS (λb=>b=c\/Z b=rW (fM (Z<|F d 0) L t)) w W'/\rW G=rW (fM (Z<|F d 0) L t)):=λW' hT=>by rw[HE.H];exact n.H.fin H0.H U U d2 hT
 clear n H0 HE X HZ;go_wp2;refine iB (v:=ν<|aU r) (by simp[bo,results242,go_sem,z0,z1,z2,z3,z4,z5,z6,z7,z8,z9]) U ⟨U,?_⟩;exact J4.H _<|ajf _ _ _ _ _ _ _ _ _ _ _ _
abbrev AO(us:av Int)(ck:Int):av Int:=us.filter λx=>decide (x≠ck)
def wR(us:av Int):Prop:=us.Nodup/\∀x∈us,0<=x/\x<=65535
def abq(rb mb sz mx ph us ck w)(h:eB w rb mb sz mx ph us)(s:wR us)(A:0<=ck/\ck<=65535):
  ax ai 203 #[jp rb,I ck] w λe t=>e=aG (.tuple #[])/\eB t rb mb sz mx ph (AO us ck)/\aS (λb=>b=mb) w t:=by
 have G:=aJ w rb 3 (.map<|Z mb) h.1;have j:=QC (P:=ai) fh (a:=ck) A1;have i:bc (eB w rb mb sz mx ph us/\wR us):=⟨h,s⟩;have l:=aX h.2;clear h s;go_enter func203,ntmps203;go_wp2_with (at_delete;refine wpList_delete_own _ U _ _ 226 3 U 169 (Fz fh) underlying226 _ mb (pA us) (Cc (.agg [])<|us.map<|Fw .i64) U l _ _ U j ?_;intro J p E);have m:=E.grown
 let D:rb≠mb:=by let⟨H,cl,o,_⟩:=l;exact fO i.1.1 o ay
 refine fC U U ⟨U,⟨(m.5 rb (bf.1 i.1.1).1 (λe=>D Og)).E i.1.1,(by
    let j:∀x:Int,0<=x/\x<=65535->keyOf ai 3 (.int .i64 x)=Z (.int .i64 x):=λx f=>QC fh A1;let C:(us.map<|Fw .i64).Nodup:=by rw[List.nodup_iff_pairwise_ne,Fp];exact i.2.1.imp λl e=>l Og
    obtain⟨o,u⟩:=ahd (Fz fh).one (.agg []) (us.map<|Fw .i64) (.int .i64 ck) (λx=>match x with|.int _ d=>decide (d≠ck)|_=>M) (λx f=>by
     obtain⟨d,n,rfl⟩:=jY.1 f;simp) (λx f=>by
     obtain⟨d,n,rfl⟩:=jY.1 f;exact⟨_,j d<|i.2.2 d n⟩) (λx f=>by
     obtain⟨d,n,rfl⟩:=jY.1 f;exact(Fz fh).1 (j d<|i.2.2 d n)) ((Fz fh).1<|j ck A) C
    let B:(us.map<|Fw .i64).filter (λx=>match x with|.int _ d=>decide (d≠ck)|_=>M)=(us.filter λx=>decide (x≠ck)).map (Fw .i64):=by rw[A7];rfl
    rw[o]at p;have:=aeS p;rw[u,B,pI]at this;rw[yo];exact this)⟩,⟨m.1,m.4,λb z f=>m.5 b z λe=>f Og⟩⟩
def Ck.nQ(k:Ck)(r:Rq)(er:UInt8)(d:ByteArray):Ck:=
 if k.3=4 then{k with bw:=k.6-1,pc:=k.7-sy r.m}
 else{k with bw:=k.6-1,pc:=k.7-sy r.m,H:=k.H++jy er r.m.5 d,us:=AO k.us r.m.5}
structure nI(w W:aq)(c rb ch:Nat)(v0 q v:aB)(g:Cf)(k:Ck)(r:Rq)(b1:Nat):Prop where
 p:cD W c rb ch q v g k
 b:W.1[b1]? =Z (au (aU r) 134 (0,0))
 t:aS (λb=>b=c\/Z b=v0.ownBlock) w W
def nI.drew(h:nI w W c rb ch v0 q v g k r b1):nI w W.drew c rb ch v0 q v g k r b1:=⟨h.p.drew,h.b,h.t.drew⟩
def nI.old(h:nI w W c rb ch v0 q v g k r b1)(a:aK W W'):nI w W' c rb ch v0 q v g k r b1:=⟨h.p.old a,bT a h.b,h.t.E<|ip a⟩
def nI.put(h:nI w W c rb ch v0 q v g k r b1)(i u)(a:mP (kO g k rb q v ch) i u=kO g k' rb q v ch)(f:k'.q=k.q)(d:k'.H=k.H)(e:k'.3=k.3):nI w (kB W (F c i) u) c rb ch v0 q v g k' r b1:=⟨h.p.put i u a f d e,oT h.b (fO h.b h.p.1 ay) _ _,h.t.set (aA U) _⟩
abbrev CG(c b1 rb:Nat)(v:aB)(k:Ck)(r:Rq)(W:aq):Prop:=(kD W (F c 11)=Z (aQ rb)/\kD W (F c 15)=Z (I k.pc)/\kD W (F c 16)=Z v)/\dD W b1 r
def nI.s(h:nI w W c rb ch v0 q v g k r b1):CG c b1 rb v k r W:=⟨⟨aD h.p.1 U,aD h.p.1 U,aD h.p.1 U⟩,dD.of h.b⟩
def N9(c rb mb ch q v g k r)(er:UInt8)(d w)(h:cg w c rb mb ch q v g k)(hr:r.Ok)(uW:0<=r.m.5/\r.m.5<=65535)(hd:pC d<=65535)(hu:wR k.us)(hf:0<=k.6/\k.6<=1048576)(hp:0<=k.7/\k.7<=4194304)(ho:pC k.H<=1048576):
  ax ai 163 #[jp c,ν<|aU r,I (er.toNat:Int),ξ d] w λe n=>e=aG (θ #[])/\∃u,cg n c rb mb ch q u g (k.nQ r er d)/\aS (λb=>b=c\/b=mb\/Z b=rW v) w n/\(rW u=rW v\/∀b,rW u=Z b->pB w.1<=b):=by
 let⟨i0,bO,oh,bR,oZ⟩:=nG infoByte
 have e1:sy r.m=4+r.m.7\/sy r.m=4:=by rw[sy];split;exact aA U;exact az U
 have cA:0<=sy r.m/\sy r.m<=65539:=by have:=hr.3;have:=hr.4;omega
 have cz:pC (jy er r.m.5 d)<=131072:=by rw[jy];rw[qB,qB,qB];have:pC (⟨#[82]⟩:ByteArray)+pC (⟨#[er]⟩:ByteArray)+pC (⟨(cu r.m.5).toArray⟩:ByteArray)=4:=U;omega
 have bA:aK w (lL w<|au (aU r) 134):=bq;have G:nI w (lL w<|au (aU r) 134) c rb ch v q v g k r w.1.size:=⟨h.p.old bA,ao w _,ip bA⟩;have f:=aX h;have aN:=aX G;have HZ:bc (∀W,bN 201 #[ν<|kE r.m.1 r.m.2 r.m.3 r.m.4 r.m.5 r.m.6 r.m.7 r.m.8 r.m.9] W<|I<|sy r.m):=λW=>IF r.m W hr.3 hr.4;have HR:bc (∀W,bN 202 #[I (er.toNat:Int),I r.m.5,ξ d] W<|ξ<|jy er r.m.5 d):=λW=>Xp er r.m.5 d W uW.1 uW.2 hd;have H:bc (k.nQ r er d=if k.3=4 then{k with bw:=k.6-1,pc:=k.7-sy r.m}else{k with bw:=k.6-1,pc:=k.7-sy r.m,H:=k.H++jy er r.m.5 d,us:=AO k.us r.m.5}):=U;have bW:=aJ (lL w<|au (aU r) 134) c 14 (I k.6) G.p.1;have f14:=bp G.p.1 14;clear h G bA e1;generalize k.nQ r er d=kd at*;generalize sy r.m=i at*;generalize jy er r.m.5 d=rp at*;generalize (er.toNat:Int)=en at*;go_enter func163,ntmps163
 go_upto_region 2 with fail
 have R:bc (nI w (kB (lL w<|au (aU r) 134) (F c 14)<|I<|k.6-1) c rb ch v q v g {k with bw:=k.6-1} r w.1.size):=aN.H.put 14 _ U U U U;clear bW f14 aN;generalize kB (lL w<|au (aU r) 134) (F c 14) (I<|k.6-1)=W1 at*;refine gY (S:=CG c w.1.size rb v {k with bw:=k.6-1} r) 10 R.H.drew.s λhS=>?_;apply tg [0,1,2,3,4,5];refine gr 6 λK a=>?_;go_simp;go_at_call 201;apply(HZ.H _).V;rintro e w2 ⟨rfl,lD⟩;have D:=R.H.drew.old lD;refine a.H _ _ D.s<|λyG=>?_;clear a K;apply tg [7,8,9];have bX:=aJ w2 c 15 (I k.7) D.p.1;have f15:=bp D.p.1 15;refine gz λK a=>?_;go_simp;apply a.H _ _
 have z:bc (nI w (kB w2 (F c 15)<|I<|nt cJ<|k.7-i) c rb ch v q v g {k with bw:=k.6-1,pc:=k.7-i} r w.1.size):=by rw[dI Y Y];exact D.put 15 _ U U U U
 clear hS yG D bX f15 a K lD R;generalize kB w2 (F c 15) (I<|nt cJ<|k.7-i)=V at*;refine gl ?_;have aL:=aJ V c 20 (.chan<|Z ch) z.H.p.1;have C:=z.H.p.6
 by_cases A:k.3=4
 ·have Q:V.1[ch]? =Z (.chan 0 #[] M 0 0 aa):=by rw[lY<|show(_:Int)=4 from A]at C;exact C
  have E:bc (kd={k with bw:=k.6-1,pc:=k.7-i}):=by show _=_;rw[H.H,aO A]
  clear C A H;go_wp2_with (go_at_call 116;apply(DC c ch _ aL Q).V;rintro e w3 ⟨rfl,rfl⟩);let⟨a1,N,a3,a4,a5,a6,X,O,a9⟩:=f.H.sc;have T:=z.H.t;refine YP U U ⟨U,v,?_,T.V<|λb _ h=>h.imp id az,aA U⟩;rw[E.H];exact f.H.of z.H.p (T.3 rb f.H.eE.1 (by rintro(e|e);exact a1 e;exact X e)) (T.3 mb f.H.eE.2 (by rintro(e|e);exact N e;exact O e)) U λ_=>U
 have Q:V.1[ch]? =Z (.chan 0 #[] aa 0 0 aa):=by rw[lX<|show ¬(_:Int)=4 from A]at C;exact C
 have E:bc (kd={k with bw:=k.6-1,pc:=k.7-i,H:=k.H++rp,us:=AO k.us r.m.5}/\k.3≠4):=⟨by rw[H.H,aI A],A⟩;clear C A H
 go_upto_region 4 with(go_at_call 116;apply(AM c ch _ aL Q).V;rintro e w3 ⟨rfl,rfl⟩)
 refine gY (S:=CG c w.1.size rb v {k with bw:=k.6-1,pc:=k.7-i} r) 14 z.H.drew.s λhS=>?_;apply tg [0,1,2,3,4,5,6,7];apply tg [8,9];refine gr 10 λK a=>?_;go_simp;go_at_call 202;apply(HR.H _).V;rintro e w4 ⟨rfl,bl⟩;have o:=z.H.drew.old bl;refine a.H _ _ o.s<|λbH=>?_;clear a K
 let⟨u,w5,Hj,Vf,ak,an⟩:=RS (P:=ai) w4 158 9 158 5 i0 dp gc bO oh bR oZ v k.H.size (jX k.H) o.p.H rp Y
 obtain⟨j,l,rfl⟩:=gP Vf
 let⟨P5,T5,x⟩:=o.p.tell Vf ak an
 have bL:Z w.1.size≠rW v:=λe=>by have:=f.H.p.eE.2.2.2 _ e.y;omega
 have J:=(ak.5 _ (bf.1 o.b).1 bL).E o.b;refine gr 11 λK a=>?_;apply Xm U U U U Hj;refine a.H _ _ ⟨⟨aD x U,aD x U,aD x U⟩,dD.of J⟩<|λbJ=>?_;clear a K;apply tg [12,13];have b7:=aJ w5 c 16 v x;have f16:=bp x 16;refine gz λK a=>?_;go_simp;apply a.H _ _
 have B:bc (nI w (kB w5 (F c 16)<|ζ j (pC k.H+pC rp) l) c rb ch v q (ζ j (pC k.H+pC rp) l) g {k with bw:=k.6-1,pc:=k.7-i,H:=k.H++rp} r w.1.size/\(rW (fM j (k.H.size+rp.size) l)=rW v\/∀b,rW (fM j (k.H.size+rp.size) l)=Z b->pB w.1<=b)):=by refine⟨⟨P5,oT J (fO J x ay) _ _,o.t.E<|T5.V λb _ h=>h⟩,an.1.imp id λh b e=>?_⟩;have:=h b e;have:=o.t.2;omega
 clear hS bH bJ o b7 f16 a K bl z P5 T5 x J an ak Vf aL Q Hj;generalize kB w5 (F c 16) (ζ j (pC k.H+pC rp) l)=W6 at*;refine gl ?_
 have HF:bc (ax ai 203 #[jp rb,I r.m.5] W6.drew λe n=>e=aG (θ #[])/\(∃u,cg n c rb mb ch q u g kd/\aS (λb=>b=c\/b=mb\/Z b=rW v) w n/\(rW u=rW v\/∀b,rW u=Z b->pB w.1<=b))/\CG c w.1.size rb (ζ j (pC k.H+pC rp) l) {k with bw:=k.6-1,pc:=k.7-i,H:=k.H++rp} r n):=by
  let⟨a1,N,a3,a4,a5,a6,X,O,a9⟩:=f.H.sc;let⟨aC,h3,h4⟩:=f.H.2;have T:=B.H.1.t;have hrd:eB W6.drew rb mb g.1 g.4 aC k.us:=h3.ri (T.3 rb f.H.eE.1 (by rintro(e|e);exact a1 e;exact X e)) (T.3 mb f.H.eE.2 (by rintro(e|e);exact N e;exact O e));apply(abq rb mb g.1 g.4 aC k.us r.m.5 _ hrd hu uW).V;rintro e n ⟨rfl,f1,f2⟩;have P6:=B.H.1.p;let⟨b1,b2,b3,b4⟩:=P6.eE;have bP:∀b,rW (fM j (k.H.size+rp.size) l)=Z b->b≠mb:=λb e e'=>by obtain h|h:=B.H.2;exact O (by rw[<-h,e,e']);have:=h b e;have:=f.H.eE.2;omega
  have L:cD n c rb ch q (ζ j (pC k.H+pC rp) l) g {k with bw:=k.6-1,pc:=k.7-i,H:=k.H++rp}:=P6.drew.cy f2 (dB N) (dB a4) (λb e e'=>a6 (by rw[e,e'])) bP;have B7:n.1[pB w.1]? =Z (au (aU r) 134 (0,0)):=ze f2 B.H.1.drew.b (by have:=f.H.eE.2;omega);refine⟨U,⟨_,⟨?_,aC,?_,?_⟩,(T.drew.V λb _ h=>h.imp id az).E<|f2.V λb _ h=>az (aA h),B.H.2⟩,⟨aD L.1 U,aD L.1 U,aD L.1 U⟩,dD.of B7⟩;rw[E.H.1];exact L.like U U U sS;rw[E.H.1];exact f1;rw[E.H.1];exact h4
 go_upto_region 5 with fail
 refine ga (S:=CG c w.1.size rb (ζ j (pC k.H+pC rp) l) {k with bw:=k.6-1,pc:=k.7-i,H:=k.H++rp} r) B.H.1.drew.s λcv=>?_;apply tl [0,1,2,3,4,5,6];refine rH 7 λK a=>?_;go_simp;go_at_call 203;apply HF.H.V;rintro e w7 ⟨rfl,f1,f2⟩;refine a.H _ _ f2<|λhH=>?_;clear a K;refine dJ ?_;go_wp2;exact fC U U ⟨U,f1⟩
def ahc(c rb mb ch q v g k s w)(h:cg w c rb mb ch q v g k)(d:k.3=4):
  eZ 74 #[jp c,ξ s] w (I 2):=by
 have a:=h.p.6;rw[lY d]at a;go_enter func74,ntmps74;go_wp2_with (go_at_call 116;apply(DC c ch _ (aJ w c 20 (.chan<|Z ch) h.p.1) a).V;rintro e f ⟨rfl,rfl⟩);go_ret;exact⟨U,U⟩
def ahb(c rb mb ch q v g k s w)(h:cg w c rb mb ch q v g k)(b:k.3≠4)(j:pC k.4<=1024)(hl:1024<pC k.4+pC s):
  eZ 74 #[jp c,ξ s] w (I 6):=by
 have a:=h.p.6;rw[lX b]at a;have d:=aJ w c 20 (.chan<|Z ch) h.p.1;have f:=aJ w c 12 (ξ k.4) h.p.1;have i:decide ((1024:Int)-(pC k.4:Int)<(pC s:Int))=M:=bV;clear h b;go_enter func74,ntmps74;go_wp2_with (go_at_call 116;apply(AM c ch _ d a).V;rintro e l ⟨rfl,rfl⟩);go_ret;exact⟨U,U⟩
def Ck.sp(s:ByteArray)(k:Ck):Ck:={k with aN:=k.4++s}
def aha(c rb mb ch q v g k s w)(h:cg w c rb mb ch q v g k)(j:k.3≠4)(hl:pC k.4+pC s<=1024):
  ax ai 74 #[jp c,ξ s] w λe l=>e=aG (I 0)/\cg l c rb mb ch q v g (k.sp s)/\aS (λi=>i=c) w l:=by
 have f:=h.p.6;rw[lX j]at f;have r:=aJ w c 20 (.chan<|Z ch) h.p.1;have o:=aJ w c 12 (ξ k.4) h.p.1;have A:decide ((1024:Int)-(pC k.4:Int)<(pC s:Int))=aa:=bV;have z:¬9223372036854775807<pC k.4+pC s:=Y;have n:=aX h;clear h j;go_enter func74,ntmps74
 go_upto_region 5 with(go_at_call 116;apply(AM c ch _ r f).V;rintro e t ⟨rfl,rfl⟩)
 refine gY (S:=λW=>kD W (F c 12)=Z (ξ k.4)) 9 o λhS=>?_;apply tg [0,1,2,3,4];refine gr 5 λK b=>?_;go_simp;go_at_call 117;apply(SE s _ Y).V;rintro e m ⟨rfl,a⟩;have d:=n.drew.old a;have u:=aJ m c 12 (ξ k.4) d.p.1;have f12:=bp d.p.1 12;refine b _ _ u<|λx=>?_;clear b K;apply tg [6,7,8];refine gz λK b=>?_;go_simp;apply b _ _;refine gl ?_;go_wp2;go_ret;exact⟨U,d.put 12 _ U U U U U,(ip (X:=λi=>i=c) (⟨a.1,a.2,a.3,a.4,a.5⟩:aK t m)).set (p:=F c 12) U _⟩
def WO{o}(h:uN w v o):∃f a,v=ζ f o.size a/\pC o<=a/\a<=cP:=by obtain⟨e,b⟩|⟨g,i,j,e,_,_,c,d,_⟩:=h.2;exact⟨aj,0,by rw[e,b],Y,by rw[cP];omega⟩;exact⟨_,_,e,c,d⟩
def aeN{oa m o}(h:uN w (ζ oa o.size kh) o)(hm:m<=pC o):(convert 158 9<|ζ oa m kh).run ai w=.ok (ξ<|mS o 0 m) w:=by
 let b:pA (o.1.1.take m)=m:=by rw[vS];exact uE (by simpa using hm)
 let c:(⟨(o.1.1.take m).toArray⟩:ByteArray)=mS o 0 m:=by apply rG;apply Bx;simp[rE]
 obtain⟨e,h0⟩|⟨g,n,a,e,_,l,_,_,_,r⟩:=h.2;have k:m=0:=Y;subst k;rw[X3];grind;cases e;let f:∀(j:Nat) u,(jX o)[j]? =Z u->a[j]? =Z u:=λj u s=>by grind
 have d:=yd w 158 9 5 ⟨g,0,aj⟩ kh (o.1.1.take m) dp kc gc (λj i=>by
  rw[Bw,jM];refine aD l (f j _ ?_);let p:pB o.1=pC o:=U;rw[vS]at i;let q:j<pB o.1:=Y;have e:(jX o)[j]? =Z (ι .u8 (o.1[j].toNat:Int)):=by rw[jX];grind
  rw[e];simp)
 rwa [b,c]at d
def Z4{o}(w)(h:uN w v o)(x:nP w v)(m)(hm:m<=pC o)(hs:pC o<=cP):
  ax ai 113 #[v,I 0,I m] w λe d=>∃k,e=aG k/\uN d k (mS o m o.size)/\aS (λb=>Z b=rW v) w d/\rW k=rW v/\nP d k:=by
 by_cases h0:m=0
 subst h0;obtain⟨W,X,rfl,r⟩:=WO h;apply(aab _ W o.size X U r.1 r.2 w).V;rintro e d ⟨rfl,rfl⟩;let l:mS o 0 o.size=o:=ay;exact⟨_,U,by rw[l];exact h,ja _ _,U,x⟩;obtain⟨_,e⟩|⟨g,kh,f,rfl,_,t,O,s,p,V⟩:=h.2;omega;rw[Nat.mul_one]at p V;let an:=y8 o;let Q:∀(j:Nat) u,(jX o)[j]? =Z u->f[j]? =Z u:=λj u a=>by grind
 obtain⟨ml,n⟩:∃ml,ml=(jX o).drop m:=⟨_,U⟩;let S:pA ml=pC o-m:=j4
 let T:∀u∈ml,u.oneCell'=M:=λu a=>Lib.strCells_oneCell o u (BZ (n▸a));let R:∀(j:Nat) u,ml[j]? =Z u->f[m+j]? =Z u:=λj u a=>Q (m+j) u j4
 let⟨L,a1,z,a3,A,B,C,D⟩:=sO ml 0 w.drew f t
 let⟨N,b1,E,G,b4,H,J,K⟩:=sO (rP m<|ι .u8 0) (pC o-m) (nb w.drew g 0 ml) L a1
 apply(aac g o.size kh m ml f w Y hm O s S T t p R).V;rintro e d ⟨rfl,rfl⟩;let q:pC (mS o m o.size)=pC o-m:=by simp[oH]
 refine⟨_,U,?_,⟨K.E D,by rw[J,C];exact aR _,λi _ c=>(H i λe=>c C1).E (B i λe=>c C1)⟩,U,λg' P=>?_⟩;show World.ownsRow _ 0 5 1 _ (mS o m o.size).size _;rw[q];refine⟨by rw[y8,q];omega,az ⟨g,kh,N,U,cO _,b1,Y,s,by rw[E,z,p];omega,?_⟩⟩;rw[Nat.mul_one]
 let l:jX (mS o m o.size)=ml:=by rw[n];unfold jX;rw[rE,zz,Kh,qE ay,List.map_drop]
 rw[l];apply ux;intro i;rw[vP];split;rename_i c;rw[zw,G i<|aA c];have:=A i ml[i] (dj Y) Y;rw[jM]at this;rw[this,dj];rename_i c;rw[Kl Y];cases P;have h0:Aa w.drew g:=x g U;refine(h0.sets _ 0 _ λu a=>Ug o u (BZ (n▸a))).sets _ _ _ λu a=>?_;rw[List.eq_of_mem_replicate a];trivial
def Ck.take(m:Nat)(k:Ck):Ck:={k with H:=mS k.H m k.H.size}
def ajd(c rb mb ch q v g k)(n:Int)(m:Nat)(w:aq)(h:cg w c rb mb ch q v g k)(hm:(m:Int)=min n k.H.size)(ho:pC k.H<=1048576):
  ax ai 69 #[jp c,I n] w λe f=>e=aG (θ #[ξ<|mS k.H 0 m,I 0])/\∃s,cg f c rb mb ch q s g (k.take m)/\aS (λb=>b=c\/Z b=rW v) w f/\rW s=rW v:=by
 have x:m<=pC k.H:=Y;have X:decide (n<0)=aa:=bV;have W:=hm.y;obtain⟨j,i,rfl,E⟩:=WO h.p.H;have R:=aeN h.p.H x;have P:=aJ w c 16 (ζ j k.H.size i) h.p.1
 have B:bc (ax ai 113 #[ζ j k.H.size i,I 0,I m] w λe f=>∃a l d,e=aG (ζ a l d)/\(cg (kB f (F c 16)<|ζ a l d) c rb mb ch q (ζ a l d) g (k.take m)/\aS (λb=>b=c\/Z b=rW (fM j k.H.size i)) w (kB f (F c 16)<|ζ a l d)/\rW (fM a l d)=rW (fM j k.H.size i))/\kD f (F c 16)=Z (ζ j k.H.size i)/\nc f (F c 16)=aa):=by refine(Z4 w h.p.H h.p.5 m x B5).V ?_;rintro e f ⟨s,rfl,d1,d2,d3,d4⟩;obtain⟨a,d,rfl⟩:=gP d1;let⟨a1,t,a3,O,C,u⟩:=h.p.sc;let⟨l1,H,z,l4⟩:=h.p.eE;let⟨J,K,r3,r4,r5,r6,L,N,r9⟩:=h.sc;have r:=(d2.3 c l1 a3).E h.p.1;have mf:∀b,b≠c->(kB f (F c 16)<|ζ a (mS k.H m k.H.size).size d).1[b]? =f.1[b]? :=λb D=>bC D;have nv:∀b,rW (fM a (mS k.H m k.H.size).size d)=Z b->b≠c:=λb e o=>a3 (by rw[<-o,<-d3,e]);exact⟨a,_,d,U,⟨h.of ⟨bG r 16 _,eF h.p.2 λb e=>(mf b λo=>t (by rw[e,o])).E (d2.3 b (z b e)<|u b e),eF d1 λb e=>mf b (nv b e),h.p.4.ri λb e=>(mf b λo=>t (by rw[e,o])).E (d2.3 b (z b e)<|u b e),d4.ri λb e=>mf b (nv b e),(mf ch<|dB a1).E<|(d2.3 ch H C).E h.p.6⟩ ((mf rb J).E<|d2.3 rb h.eE.1 L) ((mf mb K).E<|d2.3 mb h.eE.2 N) U λ_=>U,((d2.V λb _ h=>(az h:b=c\/Z b=rW (fM j k.H.size i))).set (p:=F c 16) (aA U)<|ζ a (mS k.H m k.H.size).size d),d3⟩,aD r U,bp r 16⟩
 have S:(m:Int)<=(pC k.H:Int):=Y;have V:(m:Int)<=(i:Int):=Y;have T:m<=i:=Y
 let⟨Q,G⟩:=E
 rw[cP]at G;clear h hm;go_enter func69,ntmps69;go_wp2_with (go_at_call 113;apply B.H.V;rintro e w2 ⟨a,l,d,rfl,d1,d2,d3⟩;have A:=aX d1;clear d1)
 go_ret2
 exact⟨U,_,A.H⟩
def Ck.fresh(no wt a:Int):Ck:=⟨no,wt,0,⟨#[]⟩,[],0,0,⟨#[]⟩,a,0,0,[]⟩
def aed(g no wt w):ax ai 73 #[TN g,I no,I wt] w λe f=>
  ∃c d b a,e=aG (jp c)/\cg f c d b a (ζ aj 0 0) (ζ aj 0 0) g (Ck.fresh no wt g.7)/\aK w f/\pB w.1<=c/\pB w.1<=d/\pB w.1<=b/\pB w.1<=a:=by
 apply(U9 g.1 g.2 g.3 g.4 g.5 g.6 g.7 g.8 g.9 no wt w).V;rintro e f ⟨c,d,b,a,rfl,h,i,j⟩;exact⟨c,d,b,a,U,⟨⟨i,qH _ _ _ _,qH _ _ _ _,Et _,Et _,h.3⟩,h.2⟩,j⟩
end Go.Proofs.YtpobhljcainmdaaGreat
