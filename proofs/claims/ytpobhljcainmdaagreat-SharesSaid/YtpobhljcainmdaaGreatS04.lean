/- Parts of the proof. -/
import Derived.Conc.AppendEvents3
import Derived.Laws.OwnMore
import Derived.Lib.Builder
import Derived.Lib.Repeat
import Derived.Shelf.Strings.Repeat
import Derived.Test.YtpobhljcainmdaaGreatS03
set_option maxRecDepth 100000
set_option maxHeartbeats 8000000
set_option linter.all false
namespace Go.Proofs.YtpobhljcainmdaaGreat
open Go renaming World->az,heap_alloc_new->cG,Value->aD,wp_region_noPanic->iD,FuncId->bC,bodyPost_ret->gn,callsIn_wide->gy,below_drewN->iU,execOp_congr->wZ,run_takeDeferred->qP,grownBy_putObj'->Ee,Operand->gY,Code->gN,Program->aY,Oper->dK,maxLen->cC,TypeId->aQ,info_parts->qO,comesIn_wide->Om,Func->kZ,Frame->aV
open Go.Value renaming slice->gF,ownBlock->sE,oneCell'->za,pointer->Bh
open Go.World renaming putObj_heap_other->fS,cell?_of_block->jE,size_alloc->wV,news_of_block->Bi,ownsRow_nil->qM
open Go.Region renaming ready->eD,wanted->dg,schedule->WL,binds->tQ
open Go.NoPanic renaming normal->gE
open Go.Lib renaming byteCells->lP,IsBuilder->rR,strCells->jh,BuilderAt->DI,repeatL->AM,byteCells_length->Wf,strCells_length->Wk
open _root_.List renaming range->dH,replicate->mU,count_pos_iff->Wm,filter_map->Wo
open Go.IntKind renaming i64->dJ,signed->Ik,bits->Ij
open Go.CallsIn renaming inRound->mR
open Go.Fence renaming wide->iS
open Go.Calls renaming quiet_of_same->Hu
open _root_.Array renaming getD->pQ,replicate->oF,getElem_mem->Vy,mem_filter->Vz
open Go.Maps renaming setOf->yQ,int_keyed->AX,keyOf_int_mk->IB
open Go.RowKit renaming intOf->eY
open _root_.Nat renaming beq->uZ,reduceAdd->lR,reduceSub->DW
open Go.WideAt renaming IsKeyLit->Oe
open Go.Lit renaming int->AW
open _root_.Int renaming toNat_natCast->Wb
open Go.Conc renaming mem_seen->qb,enter_at->vg,events_call_body->On
open _root_.Prod renaming fst->DY
open Go.Frame renaming atR_of_none->VN,finish_at->wN
open Go.ComesIn renaming of_steps->VG
open Go.Instr renaming makeSlice->Dy
open Go.Ending renaming returned->yF
open Go.Code renaming wp->Dr
open Go.Machine renaming fenced->Wx
open Go.DataW renaming insert->VH
open Go.Sem renaming runT_fst->ji
open Go.Operand renaming tmp->IK
open Go renaming undef->au
open Go.Ending renaming returned->aM
open Go.Obj renaming cells->aA
open _root_.Bool renaming false->av,true->aq
open _root_.Option renaming none->ay,some->aa
open _root_.Or renaming inl->aF,inr->aE
section
attribute [local go_sem ↓] Go.wp_at_zero Go.wp_at_succ
attribute [local go_sem] bV bQ
open Go.ChangeMaps Go.Conc Go.Maps Go.RowKit Go.WideElems
open Go.Proofs.Tryz
def acT{H:Type}{Kd}(O:OneKind Kd)(u:DataW H):∀acc:aB Lit,(∀x∈acc,Kd x)->(∀x∈acc,Oe x)->acc.Nodup->yQ u acc.reverse=.map ((acc.map λx=>(x,u)).foldr VH []):=by
 intro acc;induction acc with
 |nil=>intros;rfl
 |cons x t k=>
  intro b f j;have c:=List.nodup_cons.1 j;rw[List.reverse_cons,Maps.setOf_snoc,k (λy a=>b y (by simp[a])) (λy a=>f y (by simp[a])) c.2]
  have g:Keys Kd (t.map λx=>(x,u)):=λp d=>by obtain⟨y,a,rfl⟩:=ku.1 d;exact b y (by simp[a])
  have h:(t.map λx=>(x,u)).Pairwise (λp q=>p.1≠q.1):=by rw[DT];exact c.2
  have i:(t.map λx=>(x,u)).filter (notKey x)=t.map λx=>(x,u):=by rw[List.filter_eq_self];intro p d;obtain⟨y,a,rfl⟩:=ku.1 d;rw[notKey_iff (f x aC)];exact λe=>c.1 (by rw[<-e];exact a)
  have:=Maps.sorted_put (E':=(x,u)::t.map λx=>(x,u)) O (b x aC) g h (by rw[i]);show DataW.map (putKey x u _)=_;rw[<-this];rfl
def SS{α:Type}{l:aB α}(h:l.Nodup):l.reverse.Nodup:=by show l.reverse.Pairwise _;rw[List.pairwise_reverse];exact h.imp dc
def acS{H:Type}{b:Lit->Prop}(O:OneKind b)(u:DataW H)(acc)(k:Lit)(p:Lit->Bool)(d:∀x∈acc,(p x=aq↔x≠k))(e:∀x∈acc,b x)(o:∀x∈acc,Oe x)(n:Oe k)(c:acc.Nodup):
  (yQ u acc).del k=yQ u (acc.filter p)/\Maps.size (yQ u (acc.filter p))=(acc.filter p).length:=by
 have hr:∀l:aB Lit,(∀x∈l,x∈acc)->l.Nodup->yQ u l=.map ((l.reverse.map λx=>(x,u)).foldr VH []):=λl hm r=>by have:=acT O u l.reverse (λx a=>e x (hm x (by simpa using a))) (λx a=>o x (hm x (by simpa using a))) (SS r);rw[List.reverse_reverse]at this;exact this
 have s:∀x∈acc.filter p,x∈acc:=λx a=>(AV.1 a).1;have g:=hr _ s (c.filter _);rw[g,hr acc (λ_ h=>h) c]
 have i:Keys b (acc.reverse.map λx=>(x,u)):=λp d=>by obtain⟨y,t,rfl⟩:=ku.1 d;exact e y (by simpa using t)
 have j:(acc.reverse.map λx=>(x,u)).Pairwise (λp q=>p.1≠q.1):=by rw[DT];exact SS c
 have m:((acc.filter p).reverse.map λx=>(x,u))=(acc.reverse.map λx=>(x,u)).filter (notKey k):=by
  rw[<-List.filter_reverse,Wo]
  congr 1
  apply List.filter_congr;intro x a;have f:notKey k (x,u)=aq↔x≠k:=notKey_iff n;exact yE.2 ((d x (by simpa using a)).trans f.symm)
 refine⟨?_,?_⟩
 ·show DataW.map (delKey k _)=_;rw[Maps.sorted_del (E':=(acc.filter p).reverse.map λx=>(x,u)) O i j (by rw[m])]
 ·rw[Maps.size_eq,length_sorted];simp
def aaE{H:Type}{w:az}{P:aY}{k:aQ}{R:aD->aZ (DataW H×aB MemPlace)}{b n:Nat}{D:DataW H}(h:w.ownsMap P k R b n D):w.ownsMap P k R b (Maps.size D) D:=by obtain⟨d,c,e,f,g,a⟩:=h;refine⟨d,c,e,f,?_,a⟩;rw[a,Maps.size_eq,length_read];exact bD _
def agd{w:az}{mb:Nat}{us:aB Int}(h:Uses w mb us)(l:us.Nodup)(hr:∀x∈us,0<=x/\x<=65535)(ck)(i:0<=ck/\ck<=65535){w':az}(d:w'.ownsMap prog 3 (unitElem (H:=Unit)) mb us.length ((yQ (.agg []) (us.map (AW .i64))).del (.int .i64 ck))):
  Uses w' mb (us.filter λx=>decide (x≠ck)):=by
 have c:∀x:Int,0<=x/\x<=65535->keyOf prog 3 (.int .i64 x)=aa (.int .i64 x):=λx a=>IB underlying3 (by simp[Lit.wf,IntKind.min,IntKind.max,Ik,Ij];omega)
 have k:(us.map (AW .i64)).Nodup:=by rw[List.nodup_iff_pairwise_ne,DT];exact l.imp λh e=>h (by injection e)
 obtain⟨f,g⟩:=acS (AX underlying3).one (.agg []) (us.map (AW .i64)) (.int .i64 ck) (λx=>match x with|.int _ y=>decide (y≠ck)|_=>aq) (λx a=>by
  obtain⟨y,b,rfl⟩:=ku.1 a;simp) (λx a=>by
  obtain⟨y,b,rfl⟩:=ku.1 a;exact⟨_,c y (hr y b)⟩) (λx a=>by
  obtain⟨y,b,rfl⟩:=ku.1 a;exact(AX underlying3).key (c y (hr y b))) ((AX underlying3).key (c ck i)) k
 have j:(us.map (AW .i64)).filter (λx=>match x with|.int _ y=>decide (y≠ck)|_=>aq)=(us.filter λx=>decide (x≠ck)).map (AW .i64):=by rw[Wo];rfl
 rw[f]at d;have:=aaE d;rw[g,j,nQ]at this;unfold Uses;exact this
end
section
attribute [local go_sem ↓] Go.wp_at_zero Go.wp_at_succ
attribute [local go_sem] bV bQ
open Go.Conc Go.RowKit
open Go.Proofs.Tryz
def zl(W:az)(g:Nat):Prop:=∃x T,W.heap[g]? =aa (aA x T (0,0))/\∀u∈x.toList,lz u
def zl.sets{g}:∀(b:aB aD) (o:Nat) (W:az),zl W g->(∀u∈b,lz u)->zl (W.setCells g o b) g
 |[],_,_,h,_=>h
 |u::b,o,W,⟨x,T,d,e⟩,hv=>by
  refine zl.sets b (o+1) (W.setCell (aj g o) u) ⟨_,T,dF d o u,λy a=>?_⟩ λy a=>hv y (by simp[a]);rw[Hr]at a;rcases Iv a with a|rfl
  ·exact e y a
  ·exact hv y aC
def JW(r):∀u∈(aO r).toList,lz u:=λu a=>by simp at a;rcases a with rfl|rfl|rfl|rfl|rfl|rfl|rfl|rfl|rfl|rfl<;>trivial
def x8(l:aB Rq):∀u∈l.flatMap (λr=>(aO r).toList),lz u:=λu a=>by obtain⟨r,_,hr⟩:=DQ.1 a;exact JW r u hr
def aav(l:aB Rq):∀u∈l.flatMap (λr=>(aO r).toList),u.oneCell'=aq:=λu a=>by obtain⟨r,_,hr⟩:=DQ.1 a;simp at hr;rcases hr with rfl|rfl|rfl|rfl|rfl|rfl|rfl|rfl|rfl|rfl<;>rfl
def Zc{v r l}(w:az)(h:iX w v (r::l))(x:ng w v):
  Calls prog 269 #[v,an 0,an 1] w λe f=>∃d,e=aM d/\iX f d l/\bh (λb=>aa b=v.ownBlock) w f/\d.ownBlock=v.ownBlock/\ng f d:=by
 have n:(l.flatMap (λr=>(aO r).toList)).length=l.length*10:=by have:=h.1;rw[DL,gW]at this;have e:(aO r).toList.length=10:=rfl;have A:(r::l).length=l.length+1:=rfl;omega
 rcases h.2 with⟨_,h0⟩|⟨g,p,s,rfl,C,m,o,i,j,y⟩
 ·simp at h0
 ·refine(Zd g (l.length+1) p (l.flatMap λr=>(aO r).toList) s w ak o i n (aav l) m j (take_at y rfl)).mono ?_;rintro e f ⟨rfl,rfl⟩;obtain⟨a,b⟩:=PZ (zs:=zsQ) m j o i n rfl;refine⟨_,rfl,a,⟨b.os,b.size,λk u z=>b.block k u λe=>z (by rw[e];rfl)⟩,rfl,λB t=>?_⟩;cases t;have h0:zl w.drew g:=x g rfl;exact(h0.sets _ 0 _ (x8 l)).sets zsQ _ _ (JW ⟨⟨0,⟨#[]⟩,0,0,0,0,0,⟨#[]⟩,0⟩,0⟩)
def Ck.bz(k:Ck)(r:Rq)(l:aB Rq):Ck:={k with q:=l,tok:=k.tok-1,de:=k.de-bY r.m,sv:=k.sv+bY r.m,bE:=k.bE+1,prom:=k.prom+sizeOf' r.m}
structure kG(w W:az)(c rb ch:Nat)(q0 q v:aD)(g:Cf)(k:Ck)(r:Rq)(b0 b1:Nat):Prop where
 p:cH W c rb ch q v g k
 z:lC W b0
 b:W.heap[b1]? =aa (aA (aO r) 134 (0,0))
 t:bh (λb=>b=c\/aa b=q0.ownBlock) w W
section
variable {w W W':az} {c rb ch b0 b1:Nat} {q0 q v:aD} {g:Cf} {k k':Ck} {r:Rq}
def kG.drew(h:kG w W c rb ch q0 q v g k r b0 b1):kG w W.drew c rb ch q0 q v g k r b0 b1:=⟨h.p.drew,h.z,h.b,h.t.drew⟩
def kG.old(h:kG w W c rb ch q0 q v g k r b0 b1)(a:aN W W'):kG w W' c rb ch q0 q v g k r b0 b1:=⟨h.p.old a,bW a h.z,bW a h.b,h.t.trans (bh.below a)⟩
def kG.put(h:kG w W c rb ch q0 q v g k r b0 b1)(i u)(a:(jI g k rb q v ch).setIfInBounds i u=jI g k' rb q v ch)(f:k'.q=k.q)(d:k'.out=k.out)(e:k'.ph=k.ph):kG w (W.setCell (aj c i) u) c rb ch q0 q v g k' r b0 b1:=
 ⟨h.p.put i u a f d e,nY h.z (jH h.z h.p.box aC) _ _,nY h.b (jH h.b h.p.box aC) _ _,h.t.set (aF rfl) _⟩
abbrev DsS(c b1:Nat)(k:Ck)(r:Rq)(W:az):Prop:=(W.cell? (aj c 18)=aa (an k.de)/\W.cell? (aj c 19)=aa (an k.sv)/\W.cell? (aj c 15)=aa (an k.prom))/\cu W b1 r
def kG.s(h:kG w W c rb ch q0 q v g k r b0 b1):DsS c b1 k r W:=⟨⟨aI h.p.box rfl,aI h.p.box rfl,aI h.p.box rfl⟩,cu.of h.b⟩
def afD(W B u0 u1 u2 u3 u4 u5 u6 u7 u8 u9):bh (λb=>b=B) W ((((((((((W.setCell (aj B 0) u0).setCell (aj B 1) u1).setCell (aj B 2) u2).setCell (aj B 3) u3).setCell (aj B 4) u4).setCell (aj B 5) u5).setCell (aj B 6) u6).setCell (aj B 7) u7).setCell (aj B 8) u8).setCell (aj B 9) u9):=
 (((((((((((bh.refl (λb=>b=B) W).set (p:=aj B 0) rfl u0).set (p:=aj B 1) rfl u1).set (p:=aj B 2) rfl u2).set (p:=aj B 3) rfl u3).set (p:=aj B 4) rfl u4).set (p:=aj B 5) rfl u5).set (p:=aj B 6) rfl u6).set (p:=aj B 7) rfl u7).set (p:=aj B 8) rfl u8).set (p:=aj B 9) rfl u9)
def kG.fin{mb gb L qc a}(h:kG w W c rb ch (.slice (aa (aj gb 0)) L qc) a v g k r w.heap.size b1){k0}(h0:cj w c rb mb ch (.slice (aa (aj gb 0)) L qc) v g k0)(n:k.us=k0.us)(l:k.ph=k0.ph)(m:a.ownBlock=aa gb)(f:bh (λb=>b=w.heap.size) W W'):
  ∃a,cj W' c rb mb ch a v g k/\bh (λb=>b=c\/aa b=(gF (aa (aj gb 0)) L qc).ownBlock) w W'/\a.ownBlock=(gF (aa (aj gb 0)) L qc).ownBlock:=by
 have d:=h.t;obtain⟨a1,z,a3,A,B,C,D,E,F⟩:=h0.apart;obtain⟨l1,j⟩:=h0.eH;obtain⟨s,u,x,y⟩:=h0.p.eH;have G:=x gb rfl;have sz:=d.size;have off:∀b,b<w.heap.size->W'.heap[b]? =W.heap[b]? :=λb i=>f.block b ak ak;refine⟨a,h0.of (h.p.keep (off c s) (off ch u) (λb e=>off b (by grind)) λb e=>off b (y b e)) ?_ ?_ n λ_=>l,⟨f.os.trans d.os,dM sz f.size,λb i o=>(off b i).trans (d.block b i o)⟩,m⟩
 ·exact(off rb l1).trans (d.block rb l1 (by grind))
 ·exact(off mb j).trans (d.block mb j (by grind))
end
def Qf(c rb mb ch q v g k r l w)(h:cj w c rb mb ch q v g k)(hq:k.q=r::l)(hr:r.Ok)(ht:0<=k.tok/\k.tok<=65535)(hd:0<=k.de/\k.de<=1048576)(hs:0<=k.sv/\k.sv<=281474976710656)(hf:0<=k.bE/\k.bE<=1048576)(hp:0<=k.prom/\k.prom<=4194304):
  Calls prog 242 #[jp c] w λe y=>e=aM (.agg (aO r))/\∃E,cj y c rb mb ch E v g (k.bz r l)/\bh (λb=>b=c\/aa b=q.ownBlock) w y/\E.ownBlock=q.ownBlock:=by
 have G:=h.p.row;rw[hq]at G;obtain⟨qa,t,rfl,_⟩:=G.form;have cK:=aS w c 13 (.slice qa (r::l).length t) h.p.box;obtain⟨d,rfl,k0,k1,k2,k3,k4,k5,k6,k7,k8,k9⟩:=G.at (i:=0) rfl;simp at k0 k1 k2 k3 k4 k5 k6 k7 k8 k9;have hc:c<w.heap.size:=h.p.eH.1;have hg:d<w.heap.size:=lF k0;have cR:(0:Int)<((r::l).length:Int):=by simp only[eM];omega
 have e0:bY r.m=r.m.ln\/bY r.m=4:=by unfold bY;split;exact aE rfl;exact aF rfl
 have e1:sizeOf' r.m=4+r.m.ln\/sizeOf' r.m=4:=by unfold sizeOf';split;exact aF rfl;exact aE rfl
 have cO:0<=bY r.m/\bY r.m<=65535:=by have:=hr.mL;have:=hr.qx;omega
 have cU:0<=sizeOf' r.m/\sizeOf' r.m<=65539:=by have:=hr.mL;have:=hr.qx;omega
 have T:aN w ((w.alloc (aA kV 134)).alloc (aA (aO r) 134)):=bp.alloc aC _;have aI:((w.alloc (aA kV 134)).alloc (aA (aO r) 134)).heap[w.heap.size]? =aa (aA kV 134 (0,0)):=(Below.heap_alloc _ _ _ aC).trans (cG w _)
 have Rn:((w.alloc (aA kV 134)).alloc (aA (aO r) 134)).heap[w.heap.size+1]? =aa (aA (aO r) 134 (0,0)):=by have:=cG (w.alloc (aA kV 134)) (aA (aO r) 134);rw[wV]at this;exact this
 have HD:Hid (Calls prog 269 #[.slice (aa (aj d 0)) (r::l).length t,an 0,an 1] ((w.alloc (aA kV 134)).alloc (aA (aO r) 134)) λe y=>∃f x j,e=aM (.slice f x j)/\kG w (y.setCell (aj c 13) (.slice f x j)) c rb ch (.slice (aa (aj d 0)) (r::l).length t) (.slice f x j) v g {k with q:=l} r w.heap.size (w.heap.size+1)/\(gF f x j).ownBlock=aa d/\y.heap[c]? =aa (aA (jI g k rb (.slice (aa (aj d 0)) (r::l).length t) v ch) 168 (0,0))):=by
  have P:=h.p.old T;have bB:iX _ _ (r::l):=hq▸P.row;obtain⟨a1,a2,a3,a4,a5,a6⟩:=P.apart;refine(Zc _ bB P.tq).mono ?_;rintro e y ⟨v',rfl,d1,d2,d3,d4⟩;obtain⟨f,j,rfl,_⟩:=d1.form;have H:=P.eH;have off:∀b,b≠c->(y.setCell (aj c 13) (.slice f l.length j)).heap[b]? =y.heap[b]? :=λb hb=>cw hb;have zK:=(d2.block c H.1 a2).trans P.box;have nq:∀b,(gF f l.length j).ownBlock=aa b->b≠c:=λb e A=>a2 (by rw[<-A,<-d3,e]);have nv:∀b,v.ownBlock=aa b->aa b≠(gF (aa (aj d 0)) (r::l).length t).ownBlock:=λb e A=>a6 b A.symm e.symm;have I:w.heap.size≠d/\w.heap.size+1≠d/\w.heap.size≠c/\w.heap.size+1≠c:=ak;refine⟨_,_,_,rfl,⟨⟨dF zK 13 _,eL d1 λb e=>off b (nq b e),eL P.out λb e=>(off b λA=>a3 (by rw[e,A])).trans (d2.block b (H.2.2.2 b e) (nv b e)),d4.keep λb e=>off b (nq b e),P.tv.keep λb e=>(off b λA=>a3 (by rw[e,A])).trans (d2.block b (H.2.2.2 b e) (nv b e)),(off ch (dc a1)).trans ((d2.block ch H.2.1 a4).trans P.chan)⟩,?_,?_,?_⟩,d3,zK⟩
  ·exact(off _ I.2.2.1).trans ((d2.block _ cq (λe=>I.1 (by injection e))).trans aI)
  ·exact(off _ I.2.2.2).trans ((d2.block _ aC (λe=>I.2.1 (by injection e))).trans Rn)
  ·exact((bh.below T).trans (d2.mono λb _ h=>.inr h)).set (p:=aj c 13) (.inl rfl) _
 have Z:=bf h;have Q:Hid (∀W,bN 206 #[.agg (aO r)] W (an (bY r.m))):=λW=>Tm r W;have HZ:Hid (∀W,bN 201 #[.agg (jX r.m.wh r.m.nm r.m.kd r.m.fl r.m.ck r.m.of r.m.ln r.m.dt r.m.er)] W (an (sizeOf' r.m))):=λW=>Gs r.m W hr.mL hr.qx;have HE:Hid (k.bz r l={k with q:=l,tok:=k.tok-1,de:=k.de-bY r.m,sv:=k.sv+bY r.m,bE:=k.bE+1,prom:=k.prom+sizeOf' r.m}):=rfl;clear h G T aI Rn e0 e1;generalize k.bz r l=kd at*;generalize bY r.m=o at*;generalize sizeOf' r.m=U at*;generalize (r::l).length=L at*;go_enter func242,ntmps242
 go_upto_region 4 with(go_at_call 269;refine HD.out.mono ?_;rintro e J ⟨f,x,j,rfl,d1,d2,d3⟩;have H1:=bf d1;have bT:=aS J c 13 (.slice (aa (aj d 0)) L t) d3;have f13:=bF d3 13;have bW:=aS J c 17 (an k.tok) d3;have f17:=bF d3 17;clear d1 d3)
 have M:Hid (kG w ((J.setCell (aj c 13) (.slice f x j)).setCell (aj c 17) (an (k.tok-1))) c rb ch (.slice (aa (aj d 0)) L t) (.slice f x j) v g {k with q:=l,tok:=k.tok-1} r w.heap.size (w.heap.size+1)):=H1.out.put 17 _ rfl rfl rfl rfl;clear bT f13 bW f17 H1;generalize (J.setCell (aj c 13) (.slice f x j)).setCell (aj c 17) (an (k.tok-1))=W2 at*;refine iD ?_;refine dY (S:=DsS c (w.heap.size+1) {k with q:=l,tok:=k.tok-1} r) 9 aT M.out.drew.s ?_;intro hS;refine gk 0 ?_;refine gk 1 ?_;refine gk 2 ?_;refine gs 3 ?_;refine gs 4 ?_;refine gr 5 λK a=>?_;go_simp;go_at_call 206;refine(Q.out _).mono ?_;rintro e V ⟨rfl,Kl⟩;have B:=M.out.drew.old Kl;refine a.out _ _ B.s (λRw=>?_);clear a K;refine gk 6 ?_;refine gk 7 ?_;refine gk 8 ?_;have bX:=aS V c 18 (an k.de) B.p.box;have f18:=bF B.p.box 18;refine gz λK a=>?_;go_simp;refine a.out _ _ ?_
 have N:Hid (kG w (V.setCell (aj c 18) (an (dJ.wrap (k.de-o)))) c rb ch (.slice (aa (aj d 0)) L t) (.slice f x j) v g {k with q:=l,tok:=k.tok-1,de:=k.de-o} r w.heap.size (w.heap.size+1)):=by rw[gV ak ak];exact B.put 18 _ rfl rfl rfl rfl
 clear hS Rw B bX f18 a K Kl M;generalize V.setCell (aj c 18) (an (dJ.wrap (k.de-o)))=W4 at*;refine ef aT ?_ _;refine gE ?_
 go_upto_region 5 with fail
 refine iD ?_;refine dY (S:=DsS c (w.heap.size+1) {k with q:=l,tok:=k.tok-1,de:=k.de-o} r) 9 aT N.out.drew.s ?_;intro hS;refine gk 0 ?_;refine gk 1 ?_;refine gk 2 ?_;refine gs 3 ?_;refine gs 4 ?_;refine gr 5 λK a=>?_;go_simp;go_at_call 206;refine(Q.out _).mono ?_;rintro e X ⟨rfl,Rz⟩;have C:=N.out.drew.old Rz;refine a.out _ _ C.s (λbt=>?_);clear a K;refine gk 6 ?_;refine gk 7 ?_;refine gk 8 ?_;have b7:=aS X c 19 (an k.sv) C.p.box;have f19:=bF C.p.box 19;refine gz λK a=>?_;go_simp;refine a.out _ _ ?_
 have F:Hid (kG w (X.setCell (aj c 19) (an (dJ.wrap (k.sv+o)))) c rb ch (.slice (aa (aj d 0)) L t) (.slice f x j) v g {k with q:=l,tok:=k.tok-1,de:=k.de-o,sv:=k.sv+o} r w.heap.size (w.heap.size+1)):=by rw[gV ak ak];exact C.put 19 _ rfl rfl rfl rfl
 clear hS bt C b7 f19 a K Rz N;generalize X.setCell (aj c 19) (an (dJ.wrap (k.sv+o)))=R at*;refine ef aT ?_ _;refine gE ?_;have bU:=aS R c 14 (an k.bE) F.out.p.box;have f14:=bF F.out.p.box 14
 go_upto_region 7 with fail
 have O:Hid (kG w (R.setCell (aj c 14) (an (k.bE+1))) c rb ch (.slice (aa (aj d 0)) L t) (.slice f x j) v g {k with q:=l,tok:=k.tok-1,de:=k.de-o,sv:=k.sv+o,bE:=k.bE+1} r w.heap.size (w.heap.size+1)):=F.out.put 14 _ rfl rfl rfl rfl;clear bU f14 F;generalize R.setCell (aj c 14) (an (k.bE+1))=W7 at*;refine iD ?_;refine dY (S:=DsS c (w.heap.size+1) {k with q:=l,tok:=k.tok-1,de:=k.de-o,sv:=k.sv+o,bE:=k.bE+1} r) 10 aT O.out.drew.s ?_;intro hS;refine gk 0 ?_;refine gk 1 ?_;refine gk 2 ?_;refine gs 3 ?_;refine gk 4 ?_;refine gs 5 ?_;refine gr 6 λK a=>?_;go_simp;go_at_call 201;refine(HZ.out _).mono ?_;rintro e Y ⟨rfl,aL⟩;have D:=O.out.drew.old aL;refine a.out _ _ D.s (λbu=>?_);clear a K;refine gk 7 ?_;refine gk 8 ?_;refine gk 9 ?_;have bV:=aS Y c 15 (an k.prom) D.p.box;have f15:=bF D.p.box 15;refine gz λK a=>?_;go_simp;refine a.out _ _ ?_
 have n:Hid (kG w (Y.setCell (aj c 15) (an (dJ.wrap (k.prom+U)))) c rb ch (.slice (aa (aj d 0)) L t) (.slice f x j) v g {k with q:=l,tok:=k.tok-1,de:=k.de-o,sv:=k.sv+o,bE:=k.bE+1,prom:=k.prom+U} r w.heap.size (w.heap.size+1)):=by rw[gV ak ak];exact D.put 15 _ rfl rfl rfl rfl
 clear hS bu D bV f15 a K aL O;generalize Y.setCell (aj c 15) (an (dJ.wrap (k.prom+U)))=u at*;refine ef aT ?_ _;refine gE ?_;obtain⟨m0,m1,m2,m3,m4,m5,m6,m7,m8,m9⟩:=cu.of n.out.b;have z0:=aS u w.heap.size 0 (an 0) n.out.z;have z1:=aS u w.heap.size 1 (.string ⟨#[]⟩) n.out.z;have z2:=aS u w.heap.size 2 (an 0) n.out.z;have z3:=aS u w.heap.size 3 (an 0) n.out.z;have z4:=aS u w.heap.size 4 (an 0) n.out.z;have z5:=aS u w.heap.size 5 (an 0) n.out.z;have z6:=aS u w.heap.size 6 (an 0) n.out.z;have z7:=aS u w.heap.size 7 (.string ⟨#[]⟩) n.out.z;have z8:=aS u w.heap.size 8 (an 0) n.out.z;have z9:=aS u w.heap.size 9 (an 0) n.out.z;have fz:∀i,u.frozen? (aj w.heap.size i)=av:=λi=>bF n.out.z i
 have Xh:Hid (∀W',bh (λb=>b=w.heap.size) u W'->∃E,cj W' c rb mb ch E v g kd/\bh (λb=>b=c\/aa b=(gF (aa (aj d 0)) L t).ownBlock) w W'/\E.ownBlock=(gF (aa (aj d 0)) L t).ownBlock):=λW' hT=>by rw[HE.out];exact n.out.fin Z.out rfl rfl d2 hT
 clear n Z HE Q HZ;go_wp2;refine gn (v:=.agg (aO r)) (by simp[results,results242,go_sem,z0,z1,z2,z3,z4,z5,z6,z7,z8,z9]) rfl ⟨rfl,?_⟩;exact Xh.out _ (afD _ _ _ _ _ _ _ _ _ _ _ _)
abbrev freed(us:aB Int)(a:Int):aB Int:=us.filter λx=>decide (x≠a)
def qX(us:aB Int):Prop:=us.Nodup/\∀x∈us,0<=x/\x<=65535
def B4(rb mb sz mx ph us ck w)(h:dU w rb mb sz mx ph us)(j:qX us)(o:0<=ck/\ck<=65535):
  Calls prog 203 #[jp rb,an ck] w λe l=>e=aM (.tuple #[])/\dU l rb mb sz mx ph (freed us ck)/\bh (λb=>b=mb) w l:=by
 have y:=aS w rb 3 (.map (aa mb)) h.box;have p:=IB (P:=prog) underlying3 (a:=ck) (by simp[Lit.wf,IntKind.min,IntKind.max,Ik,Ij];omega);have d:Hid (dU w rb mb sz mx ph us/\qX us):=⟨h,j⟩;have i:=bf h.uses;clear h j;go_enter func203,ntmps203;go_wp2_with (at_delete;refine wpList_delete_own _ rfl _ _ 226 3 rfl 169 (AX underlying3) underlying226 _ mb us.length (yQ (.agg []) (us.map (AW .i64))) rfl i.out _ _ rfl p ?_;intro B t u);have f:=u.grown
 have s:rb≠mb:=by obtain⟨A,z,m,_⟩:=i.out;exact jH d.out.1.box m aC
 refine fI rfl rfl ⟨rfl,⟨(f.block rb (bq.1 d.out.1.box).1 (λe=>s (by injection e))).trans d.out.1.box,agd i.out d.out.2.1 d.out.2.2 ck o t⟩,⟨f.os,f.size,λb n x=>f.block b n λe=>x (by injection e)⟩⟩
def Ck.uf(k:Ck)(r:Rq)(er:UInt8)(d:ByteArray):Ck:=
 if k.ph=4 then{k with bE:=k.bE-1,prom:=k.prom-sizeOf' r.m}
 else{k with bE:=k.bE-1,prom:=k.prom-sizeOf' r.m,out:=k.out++nG er r.m.ck d,us:=freed k.us r.m.ck}
structure mZ(w W:az)(c rb ch:Nat)(v0 q v:aD)(g:Cf)(k:Ck)(r:Rq)(b1:Nat):Prop where
 p:cH W c rb ch q v g k
 b:W.heap[b1]? =aa (aA (aO r) 134 (0,0))
 t:bh (λb=>b=c\/aa b=v0.ownBlock) w W
section
variable {w W W':az} {c rb ch b1:Nat} {v0 q v:aD} {g:Cf} {k k':Ck} {r:Rq}
def mZ.drew(h:mZ w W c rb ch v0 q v g k r b1):mZ w W.drew c rb ch v0 q v g k r b1:=⟨h.p.drew,h.b,h.t.drew⟩
def mZ.old(h:mZ w W c rb ch v0 q v g k r b1)(a:aN W W'):mZ w W' c rb ch v0 q v g k r b1:=⟨h.p.old a,bW a h.b,h.t.trans (bh.below a)⟩
def mZ.put(h:mZ w W c rb ch v0 q v g k r b1)(i u)(a:(jI g k rb q v ch).setIfInBounds i u=jI g k' rb q v ch)(f:k'.q=k.q)(d:k'.out=k.out)(e:k'.ph=k.ph):mZ w (W.setCell (aj c i) u) c rb ch v0 q v g k' r b1:=
 ⟨h.p.put i u a f d e,nY h.b (jH h.b h.p.box aC) _ _,h.t.set (aF rfl) _⟩
abbrev BB(c b1 rb:Nat)(v:aD)(k:Ck)(r:Rq)(W:az):Prop:=(W.cell? (aj c 11)=aa (aR rb)/\W.cell? (aj c 15)=aa (an k.prom)/\W.cell? (aj c 16)=aa v)/\cu W b1 r
def mZ.s(h:mZ w W c rb ch v0 q v g k r b1):BB c b1 rb v k r W:=⟨⟨aI h.p.box rfl,aI h.p.box rfl,aI h.p.box rfl⟩,cu.of h.b⟩
end
def XB(c rb mb ch q v g k r)(er:UInt8)(d w)(h:cj w c rb mb ch q v g k)(hr:r.Ok)(V:0<=r.m.ck/\r.m.ck<=65535)(hd:d.size<=65535)(hu:qX k.us)(hf:0<=k.bE/\k.bE<=1048576)(hp:0<=k.prom/\k.prom<=4194304)(ho:k.out.size<=1048576):
  Calls prog 163 #[jp c,.agg (aO r),an (er.toNat:Int),.string d] w λe o=>e=aM (.tuple #[])/\∃x,cj o c rb mb ch q x g (k.uf r er d)/\bh (λb=>b=c\/b=mb\/aa b=v.ownBlock) w o/\(x.ownBlock=v.ownBlock\/∀b,x.ownBlock=aa b->w.heap.size<=b):=by
 obtain⟨i0,bO,nC,bR,nD⟩:=qO infoByte;have e1:sizeOf' r.m=4+r.m.ln\/sizeOf' r.m=4:=by unfold sizeOf';split;exact aF rfl;exact aE rfl
 have cy:0<=sizeOf' r.m/\sizeOf' r.m<=65539:=by have:=hr.mL;have:=hr.qx;omega
 have cx:(nG er r.m.ck d).size<=131072:=by unfold nG;rw[qI,qI,qI];have:(⟨#[82]⟩:ByteArray).size+(⟨#[er]⟩:ByteArray).size+(⟨(eG r.m.ck).toArray⟩:ByteArray).size=4:=rfl;omega
 have R:aN w (w.alloc (aA (aO r) 134)):=bp;have F:mZ w (w.alloc (aA (aO r) 134)) c rb ch v q v g k r w.heap.size:=⟨h.p.old R,cG w _,bh.below R⟩;have i:=bf h;have aP:=bf F;have HZ:Hid (∀W,bN 201 #[.agg (jX r.m.wh r.m.nm r.m.kd r.m.fl r.m.ck r.m.of r.m.ln r.m.dt r.m.er)] W (an (sizeOf' r.m))):=λW=>Gs r.m W hr.mL hr.qx;have HR:Hid (∀W,bN 202 #[an (er.toNat:Int),an r.m.ck,.string d] W (.string (nG er r.m.ck d))):=λW=>Ts er r.m.ck d W V.1 V.2 hd;have G:Hid (k.uf r er d=if k.ph=4 then{k with bE:=k.bE-1,prom:=k.prom-sizeOf' r.m}else{k with bE:=k.bE-1,prom:=k.prom-sizeOf' r.m,out:=k.out++nG er r.m.ck d,us:=freed k.us r.m.ck}):=rfl;have bV:=aS (w.alloc (aA (aO r) 134)) c 14 (an k.bE) F.p.box;have f14:=bF F.p.box 14;clear h F R e1;generalize k.uf r er d=kd at*;generalize sizeOf' r.m=j at*;generalize nG er r.m.ck d=f at*;generalize (er.toNat:Int)=en at*;go_enter func163,ntmps163
 go_upto_region 2 with fail
 have N:Hid (mZ w ((w.alloc (aA (aO r) 134)).setCell (aj c 14) (an (k.bE-1))) c rb ch v q v g {k with bE:=k.bE-1} r w.heap.size):=aP.out.put 14 _ rfl rfl rfl rfl;clear bV f14 aP;generalize (w.alloc (aA (aO r) 134)).setCell (aj c 14) (an (k.bE-1))=W1 at*;refine iD ?_;refine dY (S:=BB c w.heap.size rb v {k with bE:=k.bE-1} r) 10 aT N.out.drew.s ?_;intro hS;refine gk 0 ?_;refine gk 1 ?_;refine gk 2 ?_;refine gs 3 ?_;refine gk 4 ?_;refine gs 5 ?_;refine gr 6 λK a=>?_;go_simp;go_at_call 201;refine(HZ.out _).mono ?_;rintro e w2 ⟨rfl,lZ⟩;have D:=N.out.drew.old lZ;refine a.out _ _ D.s (λFu=>?_);clear a K;refine gk 7 ?_;refine gk 8 ?_;refine gk 9 ?_;have bW:=aS w2 c 15 (an k.prom) D.p.box;have f15:=bF D.p.box 15;refine gz λK a=>?_;go_simp;refine a.out _ _ ?_
 have z:Hid (mZ w (w2.setCell (aj c 15) (an (dJ.wrap (k.prom-j)))) c rb ch v q v g {k with bE:=k.bE-1,prom:=k.prom-j} r w.heap.size):=by rw[gV ak ak];exact D.put 15 _ rfl rfl rfl rfl
 clear hS Fu D bW f15 a K lZ N;generalize w2.setCell (aj c 15) (an (dJ.wrap (k.prom-j)))=O at*;refine ef aT ?_ _;refine gE ?_;have aL:=aS O c 20 (.chan (aa ch)) z.out.p.box;have C:=z.out.p.chan
 by_cases A:k.ph=4
 ·have M:O.heap[ch]? =aa (.chan 0 #[] aq 0 0 av):=by rw[iC (show(_:Int)=4 from A)]at C;exact C
  have E:Hid (kd={k with bE:=k.bE-1,prom:=k.prom-j}):=by show _=_;rw[G.out,aW A]
  clear C A G;go_wp2_with (go_at_call 116;refine(FI c ch _ aL M).mono ?_;rintro e w3 ⟨rfl,rfl⟩);obtain⟨a1,J,a3,a4,a5,a6,Q,L,a9⟩:=i.out.apart;have T:=z.out.t;refine Vb rfl rfl ⟨rfl,v,?_,T.mono (λb _ h=>h.imp id aE),aF rfl⟩;rw[E.out];exact i.out.of z.out.p (T.block rb i.out.eH.1 (by rintro(e|e);exact a1 e;exact Q e)) (T.block mb i.out.eH.2 (by rintro(e|e);exact J e;exact L e)) rfl λ_=>rfl
 ·have M:O.heap[ch]? =aa (.chan 0 #[] av 0 0 av):=by rw[iB (show ¬(_:Int)=4 from A)]at C;exact C
  have E:Hid (kd={k with bE:=k.bE-1,prom:=k.prom-j,out:=k.out++f,us:=freed k.us r.m.ck}/\k.ph≠4):=⟨by rw[G.out,aK A],A⟩;clear C A G
  go_upto_region 4 with(go_at_call 116;refine(zM c ch _ aL M).mono ?_;rintro e w3 ⟨rfl,rfl⟩)
  refine iD ?_;refine dY (S:=BB c w.heap.size rb v {k with bE:=k.bE-1,prom:=k.prom-j} r) 14 aT z.out.drew.s ?_;intro hS;refine gk 0 ?_;refine gk 1 ?_;refine gk 2 ?_;refine gk 3 ?_;refine gs 4 ?_;refine gk 5 ?_;refine gk 6 ?_;refine gk 7 ?_;refine gs 8 ?_;refine gk 9 ?_;refine gr 10 λK a=>?_;go_simp;go_at_call 202;refine(HR.out _).mono ?_;rintro e w4 ⟨rfl,Ry⟩;have u:=z.out.drew.old Ry;refine a.out _ _ u.s (λbI=>?_);clear a K;obtain⟨x,w5,FC,Y,X,Z⟩:=Pn (P:=prog) w4 158 9 158 5 i0 underlying158 underlying9 bO nC bR nD v k.out.size (jh k.out) u.p.out f ak;obtain⟨l,n,rfl⟩:=mO Y;obtain⟨P5,T5,y⟩:=u.p.tell Y X Z;have bK:aa w.heap.size≠v.ownBlock:=λe=>by have:=i.out.p.eH.2.2.2 _ e.symm;omega
  have H:=(X.block _ (bq.1 u.b).1 bK).trans u.b;refine gr 11 λK a=>?_;refine Tq rfl rfl rfl rfl FC ?_;refine a.out _ _ ⟨⟨aI y rfl,aI y rfl,aI y rfl⟩,cu.of H⟩ (λbJ=>?_);clear a K;refine gk 12 ?_;refine gk 13 ?_;have bX:=aS w5 c 16 v y;have f16:=bF y 16;refine gz λK a=>?_;go_simp;refine a.out _ _ ?_
  have B:Hid (mZ w (w5.setCell (aj c 16) (.slice l (k.out.size+f.size) n)) c rb ch v q (.slice l (k.out.size+f.size) n) g {k with bE:=k.bE-1,prom:=k.prom-j,out:=k.out++f} r w.heap.size/\((gF l (k.out.size+f.size) n).ownBlock=v.ownBlock\/∀b,(gF l (k.out.size+f.size) n).ownBlock=aa b->w.heap.size<=b)):=by refine⟨⟨P5,nY H (jH H y aC) _ _,u.t.trans (T5.mono λb _ h=>h)⟩,Z.at_.imp id λh b e=>?_⟩;have:=h b e;have:=u.t.size;omega
  clear hS bI bJ u bX f16 a K Ry z P5 T5 y H Z X Y aL M FC;generalize w5.setCell (aj c 16) (.slice l (k.out.size+f.size) n)=W6 at*;refine ef aT ?_ _;refine gE ?_
  have HF:Hid (Calls prog 203 #[jp rb,an r.m.ck] W6.drew λe o=>e=aM (.tuple #[])/\(∃x,cj o c rb mb ch q x g kd/\bh (λb=>b=c\/b=mb\/aa b=v.ownBlock) w o/\(x.ownBlock=v.ownBlock\/∀b,x.ownBlock=aa b->w.heap.size<=b))/\BB c w.heap.size rb (.slice l (k.out.size+f.size) n) {k with bE:=k.bE-1,prom:=k.prom-j,out:=k.out++f} r o):=by
   obtain⟨a1,J,a3,a4,a5,a6,Q,L,a9⟩:=i.out.apart;obtain⟨ah,h3,h4⟩:=i.out.rd;have T:=B.out.1.t;have hrd:dU W6.drew rb mb g.sz g.mx ah k.us:=h3.keep (T.block rb i.out.eH.1 (by rintro(e|e);exact a1 e;exact Q e)) (T.block mb i.out.eH.2 (by rintro(e|e);exact J e;exact L e));refine(B4 rb mb g.sz g.mx ah k.us r.m.ck _ hrd hu V).mono ?_;rintro e o ⟨rfl,f1,f2⟩;have P6:=B.out.1.p;obtain⟨b1,b2,b3,b4⟩:=P6.eH
   have bP:∀b,(gF l (k.out.size+f.size) n).ownBlock=aa b->b≠mb:=λb e U=>by
    rcases B.out.2 with h|h
    ·exact L (by rw[<-h,e,U])
    ·have:=h b e;have:=i.out.eH.2;omega
   have I:cH o c rb ch q (.slice l (k.out.size+f.size) n) g {k with bE:=k.bE-1,prom:=k.prom-j,out:=k.out++f}:=P6.drew.cI f2 (dc J) (dc a4) (λb e U=>a6 (by rw[e,U])) bP;have B7:o.heap[w.heap.size]? =aa (aA (aO r) 134 (0,0)):=yu f2 B.out.1.drew.b (by have:=i.out.eH.2;omega);refine⟨rfl,⟨_,⟨?_,ah,?_,?_⟩,(T.drew.mono λb _ h=>h.imp id aE).trans (f2.mono λb _ h=>aE (aF h)),B.out.2⟩,⟨aI I.box rfl,aI I.box rfl,aI I.box rfl⟩,cu.of B7⟩
   ·rw[E.out.1];exact I.like rfl rfl rfl oI
   ·rw[E.out.1];exact f1
   ·rw[E.out.1];exact h4
  go_upto_region 5 with fail
  refine fq (S:=BB c w.heap.size rb (.slice l (k.out.size+f.size) n) {k with bE:=k.bE-1,prom:=k.prom-j,out:=k.out++f} r) B.out.1.drew.s λcr=>?_;refine tk 0 ?_;refine tk 1 ?_;refine tk 2 ?_;refine tk 3 ?_;refine tk 4 ?_;refine tk 5 ?_;refine tk 6 ?_;refine rH 7 λK a=>?_;go_simp;go_at_call 203;refine HF.out.mono ?_;rintro e w7 ⟨rfl,f1,f2⟩;refine a.out _ _ f2 (λhH=>?_);clear a K;refine dL ?_;go_wp2;exact fI rfl rfl ⟨rfl,f1⟩
def acQ(c rb mb ch q v g k s w)(h:cj w c rb mb ch q v g k)(d:k.ph=4):
  fK 74 #[jp c,.string s] w (an 2):=by
 have a:=h.p.chan;rw[iC d]at a;have b:=aS w c 20 (.chan (aa ch)) h.p.box;go_enter func74,ntmps74;go_wp2_with (go_at_call 116;refine(FI c ch _ b a).mono ?_;rintro e f ⟨rfl,rfl⟩);go_ret;exact⟨rfl,rfl⟩
def acP(c rb mb ch q v g k s w)(h:cj w c rb mb ch q v g k)(b:k.ph≠4)(j:k.aU.size<=1024)(l:1024<k.aU.size+s.size):
  fK 74 #[jp c,.string s] w (an 6):=by
 have a:=h.p.chan;rw[iB b]at a;have d:=aS w c 20 (.chan (aa ch)) h.p.box;have f:=aS w c 12 (.string k.aU) h.p.box;have i:decide ((1024:Int)-(k.aU.size:Int)<(s.size:Int))=aq:=cq;clear h b;go_enter func74,ntmps74;go_wp2_with (go_at_call 116;refine(zM c ch _ d a).mono ?_;rintro e m ⟨rfl,rfl⟩);go_ret;exact⟨rfl,rfl⟩
def Ck.send(s:ByteArray)(k:Ck):Ck:={k with aU:=k.aU++s}
def acO(c rb mb ch q v g k s w)(h:cj w c rb mb ch q v g k)(j:k.ph≠4)(A:k.aU.size+s.size<=1024):
  Calls prog 74 #[jp c,.string s] w λe l=>e=aM (an 0)/\cj l c rb mb ch q v g (k.send s)/\bh (λi=>i=c) w l:=by
 have f:=h.p.chan;rw[iB j]at f;have r:=aS w c 20 (.chan (aa ch)) h.p.box;have o:=aS w c 12 (.string k.aU) h.p.box;have z:decide ((1024:Int)-(k.aU.size:Int)<(s.size:Int))=av:=cq;have y:¬9223372036854775807<k.aU.size+s.size:=ak;have n:=bf h;clear h j;go_enter func74,ntmps74
 go_upto_region 5 with(go_at_call 116;refine(zM c ch _ r f).mono ?_;rintro e t ⟨rfl,rfl⟩)
 refine iD ?_;refine dY (S:=λW=>W.cell? (aj c 12)=aa (.string k.aU)) 9 aT o ?_;intro hS;refine gk 0 ?_;refine gk 1 ?_;refine gk 2 ?_;refine gs 3 ?_;refine gk 4 ?_;refine gr 5 λK b=>?_;go_simp;go_at_call 117;refine(JD s _ ak).mono ?_;rintro e m ⟨rfl,a⟩;have d:=n.out.drew.old a;have u:=aS m c 12 (.string k.aU) d.p.box;have f12:=bF d.p.box 12;refine b.out _ _ u (λx=>?_);clear b K;refine gk 6 ?_;refine gk 7 ?_;refine gk 8 ?_;refine gz λK b=>?_;go_simp;refine b.out _ _ ?_;refine ef aT ?_ _;refine gE ?_;go_wp2;go_ret;exact⟨rfl,d.put 12 _ rfl rfl rfl rfl rfl,(bh.below (X:=λi=>i=c) (⟨a.os,a.tape,a.output,a.size,a.block⟩:aN t m)).set (p:=aj c 12) rfl _⟩
abbrev stG(k:Ck):aJ aD:=#[an k.ph,an k.aU.size,an k.q.length,an k.bE,an k.tok,an k.de,an k.out.size,an k.sv]
abbrev SgS(c b:Nat)(k:Ck)(e:aZ Addr)(f:Nat)(a:aZ Addr)(d:Nat)(W:az):Prop:=W.cell? (aj c 12)=aa (.string k.aU)/\W.cell? (aj c 13)=aa (.slice e k.q.length f)/\W.cell? (aj c 14)=aa (an k.bE)/\W.cell? (aj c 16)=aa (.slice a k.out.size d)/\W.cell? (aj c 17)=aa (an k.tok)/\W.cell? (aj c 18)=aa (an k.de)/\W.cell? (aj c 19)=aa (an k.sv)
abbrev yp:aJ aD:=#[an 0,an 0,an 0,an 0,an 0,an 0,an 0,an 0]
def XW{w W}(h:aN w W)(v0 v1 v2 v3 v4 v5 v6 v7):aN w ((((((((W.setCell (aj w.heap.size 0) v0).setCell (aj w.heap.size 1) v1).setCell (aj w.heap.size 2) v2).setCell (aj w.heap.size 3) v3).setCell (aj w.heap.size 4) v4).setCell (aj w.heap.size 5) v5).setCell (aj w.heap.size 6) v6).setCell (aj w.heap.size 7) v7):=
 cZ (cZ (cZ (cZ (cZ (cZ (cZ (cZ h _ _) _ _) _ _) _ _) _ _) _ _) _ _) _ _
def afk(c rb mb ch q v g k w)(h:cj w c rb mb ch q v g k):
  bN 70 #[jp c] w (.agg (stG k)):=by
 obtain⟨o,r,rfl,_⟩:=h.p.row.form;obtain⟨l,m,rfl⟩:=mO h.p.out;have f:aN w (w.alloc (aA yp 68)):=bp;have A:=h.old f;have a:(w.alloc (aA yp 68)).heap[w.heap.size]? =aa (aA yp 68 (0,0)):=cG w _;have t:Hid (∀n,Calls prog 114 #[jp c] ((w.alloc (aA yp 68)).drewN n) λe u=>e=aM (an k.ph)/\u=(w.alloc (aA yp 68)).drewN n):=λn=>Tc _ _ _ _ _ _ _ _ _ (A.drewN n);have j:SgS c w.heap.size k o r l m (w.alloc (aA yp 68)):=⟨aI A.p.box rfl,aI A.p.box rfl,aI A.p.box rfl,aI A.p.box rfl,aI A.p.box rfl,aI A.p.box rfl,aI A.p.box rfl⟩;have s:=bf f;clear h A f;generalize k.q.length=ql at*;go_enter func70,ntmps70
 go_upto_region 1 with fail
 generalize w.alloc (aA yp 68)=b at*;have x:=aS b w.heap.size 0 (an 0) a;have y:=aS b w.heap.size 1 (an 0) a;have z:=aS b w.heap.size 2 (an 0) a;have B:=aS b w.heap.size 3 (an 0) a;have C:=aS b w.heap.size 4 (an 0) a;have D:=aS b w.heap.size 5 (an 0) a;have E:=aS b w.heap.size 6 (an 0) a;have F:=aS b w.heap.size 7 (an 0) a;have G:∀i,b.frozen? (aj w.heap.size i)=av:=λi=>bF a i;clear a;refine iD ?_;refine dY (S:=SgS c w.heap.size k o r l m) 34 aT j ?_;intro hS;refine gk 0 ?_;refine gk 2 ?_;refine gk 3 ?_;refine gk 4 ?_;refine gs 5 ?_;refine gk 6 ?_;refine gk 7 ?_;refine gk 8 ?_;refine gk 9 ?_;refine gs 10 ?_;refine gk 11 ?_;refine gk 12 ?_;refine gk 13 ?_;refine gk 14 ?_;refine gs 15 ?_;refine gk 16 ?_;refine gk 17 ?_;refine gk 18 ?_;refine gs 19 ?_;refine gk 20 ?_;refine gk 21 ?_;refine gk 22 ?_;refine gs 23 ?_;refine gk 24 ?_;refine gk 25 ?_;refine gk 26 ?_;refine gs 27 ?_;refine gk 28 ?_;refine gk 29 ?_;refine gk 30 ?_;refine gk 31 ?_;refine gs 32 ?_;refine gr 1 λK d=>?_;go_simp;go_at_call 114;refine(t.out 1).mono ?_;rintro e I ⟨rfl,rfl⟩;refine d.out _ _ j (λH=>?_);clear d K;refine gk 33 ?_;refine gz λK d=>?_;go_simp;refine d.out _ _ ?_;refine ef aT ?_ _;refine gE ?_;go_wp2;refine gn (v:=.agg (stG k)) (by simp[results,results70,go_sem,x,y,z,B,C,D,E,F]) rfl ⟨rfl,?_⟩;exact iU (XW s.out _ _ _ _ _ _ _ _) 1
def SZ{w v o}(h:ud w v o):∃f a,v=.slice f o.size a/\o.size<=a/\a<=cC:=by
 rcases h.2 with⟨e,b⟩|⟨g,i,j,e,_,_,c,d,_⟩
 ·exact⟨ay,0,by rw[e,b],ak,by unfold cC;omega⟩
 ·exact⟨_,_,e,c,d⟩
def aaz{w oa cap m o}(h:ud w (.slice oa o.size cap) o)(hm:m<=o.size):(convert 158 9 (.slice oa m cap)).run prog w=.ok (.string (o.extract 0 m)) w:=by
 have f:(o.data.toList.take m).length=m:=by rw[yM];exact wR (by simpa using hm)
 have b:(⟨(o.data.toList.take m).toArray⟩:ByteArray)=o.extract 0 m:=by apply wK;apply Au;simp[uM]
 rcases h.2 with⟨e,h0⟩|⟨g,r,d,e,_,p,_,_,_,q⟩
 ·have n:m=0:=ak;subst n;rw[YI];have:o.extract 0 0=⟨#[]⟩:=by rw[<-b];rfl
  rw[this]
 ·cases e
  have i:∀(j:Nat) u,(jh o)[j]? =aa u->d[j]? =aa u:=λj u a=>by
   rw[<-q,qK]at a;split at a
   ·rw[<-oC];exact a
   ·cases a
  have c:=run_convert_bytes_back w 158 9 5 ⟨g,0,ay⟩ cap (o.data.toList.take m) underlying158 underlying5 underlying9 (λj k=>by
   rw[Addr.add_lit,fX];refine aI p (i j _ ?_);have s:o.data.size=o.size:=rfl;rw[yM]at k;have l:j<o.data.size:=ak
   have e:(jh o)[j]? =aa (.int .u8 (o.data[j].toNat:Int)):=by unfold jh;rw[jA,oC,cX l];rfl
   rw[e];simp)
  rw[f,b]at c;exact c
def YY{v o}(w)(h:ud w v o)(y:ng w v)(m)(hm:m<=o.size)(X:o.size<=cC):
  Calls prog 113 #[v,an 0,an m] w λe f=>∃l,e=aM l/\ud f l (o.extract m o.size)/\bh (λb=>aa b=v.ownBlock) w f/\l.ownBlock=v.ownBlock/\ng f l:=by
 by_cases h0:m=0
 ·subst h0;obtain⟨T,U,rfl,s⟩:=SZ h;refine(Ze _ T o.size U rfl s.1 s.2 w).mono ?_;rintro e f ⟨rfl,rfl⟩;have n:o.extract 0 o.size=o:=aC;exact⟨_,rfl,by rw[n];exact h,bh.refl _ _,rfl,y⟩
 ·rcases h.2 with⟨_,e⟩|⟨g,q,k,rfl,_,x,M,t,p,z⟩
  ·omega
  ·rw[Nat.mul_one]at p z;have S:(jh o).length=o.size:=Wk o
   have O:∀(j:Nat) u,(jh o)[j]? =aa u->k[j]? =aa u:=λj u a=>by
    rw[<-z,qK]at a;split at a
    ·rw[<-oC];exact a
    ·cases a
   obtain⟨news,d⟩:∃news,news=(jh o).drop m:=⟨_,rfl⟩;have Q:news.length=o.size-m:=by rw[d,List.length_drop,S]
   have R:∀u∈news,u.oneCell'=aq:=λu a=>Lib.strCells_oneCell o u (uV (d▸a));have P:∀(j:Nat) u,news[j]? =aa u->k[m+j]? =aa u:=λj u a=>O (m+j) u (by rw[d,Ir]at a;exact a);obtain⟨K,a1,A,a3,B,C,D,E⟩:=uD news 0 w.drew k x;obtain⟨L,b1,F,G,V,H,I,J⟩:=uD (mU m (.int .u8 0)) (o.size-m) (w.drew.setCells g 0 news) K a1;refine(Zf g o.size q m news k w ak hm M t Q R x p P).mono ?_;rintro e f ⟨rfl,rfl⟩;have r:(o.extract m o.size).size=o.size-m:=by simp[mQ]
   refine⟨_,rfl,?_,⟨J.trans E,by rw[I,D];exact bD _,λi _ c=>(H i λe=>c (by rw[e];rfl)).trans (C i λe=>c (by rw[e];rfl))⟩,rfl,λW N=>?_⟩
   ·show World.ownsRow _ 0 5 1 _ (o.extract m o.size).size _;rw[r];refine⟨by rw[Wk,r];omega,aE ⟨g,q,L,rfl,eZ _,b1,ak,t,by rw[F,A,p];omega,?_⟩⟩;rw[Nat.mul_one]
    have n:jh (o.extract m o.size)=news:=by rw[d];unfold jh;rw[uM,Hq,List.extract_eq_take_drop,uX aC,List.map_drop]
    rw[n];apply yJ;intro i;rw[qK];split
    ·rename_i c;rw[oC,G i (aF c)];have:=B i news[i] (eI ak) ak;rw[fX]at this;rw[this,eI]
    ·rename_i c;rw[AQ ak]
   ·cases N;have h0:zl w.drew g:=y g rfl;refine(h0.sets _ 0 _ λu a=>QM o u (uV (d▸a))).sets _ _ _ λu a=>?_;rw[List.eq_of_mem_replicate a];trivial
def Ck.take(m:Nat)(k:Ck):Ck:={k with out:=k.out.extract m k.out.size}
def afA(c rb mb ch:Nat)(q v:aD)(g:Cf)(k:Ck)(n:Int)(m:Nat)(w:az)(h:cj w c rb mb ch q v g k)(hm:(m:Int)=min n k.out.size)(U:k.out.size<=1048576):
  Calls prog 69 #[jp c,an n] w λe f=>e=aM (.tuple #[.string (k.out.extract 0 m),an 0])/\∃s,cj f c rb mb ch q s g (k.take m)/\bh (λb=>b=c\/aa b=v.ownBlock) w f/\s.ownBlock=v.ownBlock:=by
 have x:m<=k.out.size:=ak;have T:decide (n<0)=av:=cq;have S:=hm.symm;obtain⟨j,i,rfl,E⟩:=SZ h.p.out;have O:=aaz h.p.out x;have M:=aS w c 16 (.slice j k.out.size i) h.p.box
 have B:Hid (Calls prog 113 #[.slice j k.out.size i,an 0,an m] w λe f=>∃a l d,e=aM (.slice a l d)/\(cj (f.setCell (aj c 16) (.slice a l d)) c rb mb ch q (.slice a l d) g (k.take m)/\bh (λb=>b=c\/aa b=(gF j k.out.size i).ownBlock) w (f.setCell (aj c 16) (.slice a l d))/\(gF a l d).ownBlock=(gF j k.out.size i).ownBlock)/\f.cell? (aj c 16)=aa (.slice j k.out.size i)/\f.frozen? (aj c 16)=av):=by
  refine(YY w h.p.out h.p.tv m x (by unfold cC;omega)).mono ?_;rintro e f ⟨s,rfl,d1,d2,d3,d4⟩;obtain⟨a,d,rfl⟩:=mO d1;obtain⟨a1,t,a3,L,C,u⟩:=h.p.apart;obtain⟨l1,G,y,V⟩:=h.p.eH;obtain⟨H,I,W,X,Y,Z,J,K,r9⟩:=h.apart;have r:=(d2.block c l1 a3).trans h.p.box;have off:∀b,b≠c->(f.setCell (aj c 16) (.slice a (k.out.extract m k.out.size).size d)).heap[b]? =f.heap[b]? :=λb D=>cw D;have z:∀b,(gF a (k.out.extract m k.out.size).size d).ownBlock=aa b->b≠c:=λb e o=>a3 (by rw[<-o,<-d3,e]);refine⟨a,_,d,rfl,⟨h.of ⟨dF r 16 _,eL h.p.row λb e=>(off b λo=>t (by rw[e,o])).trans (d2.block b (y b e) (u b e)),eL d1 λb e=>off b (z b e),h.p.tq.keep λb e=>(off b λo=>t (by rw[e,o])).trans (d2.block b (y b e) (u b e)),d4.keep λb e=>off b (z b e),(off ch (dc a1)).trans ((d2.block ch G C).trans h.p.chan)⟩ ?_ ?_ rfl λ_=>rfl,((d2.mono λb _ h=>(aE h:b=c\/aa b=(gF j k.out.size i).ownBlock)).set (p:=aj c 16) (aF rfl) (.slice a (k.out.extract m k.out.size).size d)),d3⟩,aI r rfl,bF r 16⟩
  ·exact(off rb H).trans (d2.block rb h.eH.1 J)
  ·exact(off mb I).trans (d2.block mb h.eH.2 K)
 have P:(m:Int)<=(k.out.size:Int):=ak;have R:(m:Int)<=(i:Int):=ak;have Q:m<=i:=ak;obtain⟨N,F⟩:=E;unfold cC at F;clear h hm;go_enter func69,ntmps69;go_wp2_with (go_at_call 113;refine B.out.mono ?_;rintro e w2 ⟨a,l,d,rfl,d1,d2,d3⟩;have A:=bf d1;clear d1)
 go_ret2
 exact⟨rfl,_,A.out⟩
def Ck.fresh(no wt bu:Int):Ck:=⟨no,wt,0,⟨#[]⟩,[],0,0,⟨#[]⟩,bu,0,0,[]⟩
def Y3(g no wt w):Calls prog 73 #[cfV g,an no,an wt] w λe f=>
  ∃c d b a,e=aM (jp c)/\cj f c d b a (.slice ay 0 0) (.slice ay 0 0) g (Ck.fresh no wt g.bu)/\aN w f/\w.heap.size<=c/\w.heap.size<=d/\w.heap.size<=b/\w.heap.size<=a:=by
 refine(Yx g.sz g.cl g.qu g.mx g.qn g.rt g.bu g.wk g.ou no wt w).mono ?_;rintro e f ⟨c,d,b,a,rfl,h,i,j⟩;exact⟨c,d,b,a,rfl,⟨⟨i,qM _ _ _ _,qM _ _ _ _,Ah _,Ah _,h.chan⟩,h.rd⟩,j⟩
structure Ck.BC(k:Ck):Prop where
 tok:0<=k.tok/\k.tok<=65535
 de:0<=k.de/\k.de<=1048576
 sv:0<=k.sv/\k.sv<=281474976710656
 bE:0<=k.bE/\k.bE<=1048576
 prom:0<=k.prom/\k.prom<=4194304
 q:∀r∈k.q,r.Ok
def Ck.BC.head{k:Ck}{r:Rq}{l:aB Rq}(h:k.BC)(a:k.q=r::l):r.Ok:=h.q r (by rw[a];simp)
def row_one{W:az}{b T k:Nat}{xs:aB aD}(h:W.heap[b]? =aa (aA xs.toArray T (0,0)))(a:xs.length=k):W.ownsRow 0 T k (.slice (aa (aj b 0)) 1 1) 1 xs:=
 ⟨by rw[a];omega,aE ⟨b,1,_,rfl,eZ _,h,bD _,by unfold cC;omega,by simp[a],(by grind)⟩⟩
def Y4(c rb mb ch q v g k r l w)(h:cj w c rb mb ch q v g k)(n:k.q=r::l)(d:k.BC):
  Calls prog 207 #[jp c] w λe i=>∃j rv,e=aM (jp j)/\eP i j c rv [r] ⟨0,av,0⟩ 0 0/\(∃f,cj i c rb mb ch f v g (k.bz r l)/\f.ownBlock=q.ownBlock)/\bh (λb=>b=c\/aa b=q.ownBlock) w i/\w.heap.size<=j/\∀b,rv.ownBlock=aa b->w.heap.size<=b:=by
 have t:=bf (Qf c rb mb ch q v g k r l w h n (d.head n) d.tok d.de d.sv d.bE d.prom);go_enter func207,ntmps207;go_wp2_with (go_at_call 242;refine t.out.mono ?_;rintro e a ⟨rfl,o⟩;have s:=bf o;clear o);go_ret;obtain⟨f,p1,p,y⟩:=s.out;have b1:aN a (a.alloc (aA (aO r) 134)):=bp;have m:aN a ((a.alloc (aA (aO r) 134)).alloc (aA (Cp c (.slice (aa (aj a.heap.size 0)) 1 1) ⟨0,av,0⟩ 0 0) 217)):=b1.alloc aC _;have u:((a.alloc (aA (aO r) 134)).alloc (aA (Cp c (.slice (aa (aj a.heap.size 0)) 1 1) ⟨0,av,0⟩ 0 0) 217)).heap[a.heap.size]? =aa (aA (aO r) 134 (0,0)):=(Below.heap_alloc _ _ _ aC).trans (cG a _);have x:=p.size;refine⟨a.heap.size+1,.slice (aa (aj a.heap.size 0)) 1 1,rfl,⟨?_,?_⟩,⟨f,p1.old m,y⟩,p.trans (bh.below m),ak,λb e=>by cases e;exact x⟩
 ·have:=cG (a.alloc (aA (aO r) 134)) (aA (Cp c (.slice (aa (aj a.heap.size 0)) 1 1) ⟨0,av,0⟩ 0 0) 217);rw[wV]at this;exact this
 ·exact row_one (xs:=(aO r).toList) u rfl
def Xx(j c rb mb ch rv q v g k rs r l)(f:Ft)(due order w)(s:eP w j c rv rs f due order)(h:cj w c rb mb ch q v g k)(O:k.q=r::l)(z:k.BC)(hn:rs.length<=1048576)(J:∀b,rv.ownBlock=aa b->aa b≠q.ownBlock):
  Calls prog 209 #[jp j] w λe x=>e=aM (.tuple #[])/\(∃tA,eP x j c tA (rs++[r]) f due order/\(tA.ownBlock=rv.ownBlock\/∀b,tA.ownBlock=aa b->w.heap.size<=b))/\(∃d,cj x c rb mb ch d v g (k.bz r l)/\d.ownBlock=q.ownBlock)/\bh (λb=>b=c\/b=j\/aa b=q.ownBlock\/aa b=rv.ownBlock) w x:=by
 obtain⟨i1,aR,bl,bn,bt⟩:=qO RY
 have Z:Hid (∀n,Calls prog 242 #[jp c] (w.drewN n) λe x=>e=aM (.agg (aO r))/\(∃d,cj x c rb mb ch d v g (k.bz r l)/\d.ownBlock=q.ownBlock)/\eP x j c rv rs f due order/\bh (λb=>b=c\/aa b=q.ownBlock) w x):=λn=>by
  refine(Qf c rb mb ch q v g k r l _ (h.drewN n) O (z.head O) z.tok z.de z.sv z.bE z.prom).mono ?_;rintro e x ⟨rfl,d,p1,E,F⟩;have M:bh (λb=>b=c\/aa b=q.ownBlock) w x:=⟨E.os,E.size,E.block⟩
  have aU:aa j≠q.ownBlock:=λe=>by
   rcases h.p.row.2 with⟨rfl,_⟩|⟨D,C,u,rfl,_,a,_⟩
   ·cases e
   ·cases e;exact jH s.box a aC rfl
  refine⟨rfl,⟨d,p1,F⟩,⟨yu M s.box ?_,eL s.row λb e=>M.block b (zV s.row e) ?_⟩,M⟩
  ·rintro(e|e)
   ·exact jH s.box h.p.box aC e
   ·exact aU e
  ·rintro(e'|e')
   ·rcases s.row.2 with⟨rfl,_⟩|⟨D,C,u,rfl,_,a,_⟩
    ·cases e
    ·cases e;exact jH a h.p.box aC e'
   ·exact J b e e'
 have c0:=aS w j 0 (jp c) s.box;have c1:=aS w j 1 rv s.box;have HJ:=bf ((jH s.box h.p.box aC:j≠c));have HQ:=bf h;have Y:=bf J;clear h z s J;go_enter func209,ntmps209
 go_upto_region 0 with fail
 refine iD ?_;refine dY (S:=λW=>W.cell? (aj j 0)=aa (jp c)/\W.cell? (aj j 1)=aa rv) 14 aT ⟨c0,c1⟩ ?_;intro hS;refine gk 0 ?_;refine gk 1 ?_;refine gk 2 ?_;refine gk 3 ?_;refine gs 4 ?_;refine gk 5 ?_;refine gk 6 ?_;refine gk 7 ?_;refine gs 8 ?_;refine gr 9 λK m=>?_;go_simp;go_at_call 242;refine(Z.out 1).mono ?_;rintro e A ⟨rfl,⟨d,p1,E⟩,F,R⟩;refine m.out _ _ ⟨aI F.box rfl,aI F.box rfl⟩ (λbI=>?_);clear m K;have H:aN A (A.alloc (aA (aO r) 134)):=bp;have i:=F.below H;have t:=p1.old H;have N6:=cG A (aA (aO r) 134);refine gr 10 λK m=>?_;go_simp;refine m.out _ _ ⟨aI i.box rfl,aI i.box rfl⟩ (λbJ=>?_);clear m K;obtain⟨tA,X,FC,L,I,FF⟩:=ED (P:=prog) (A.alloc (aA (aO r) 134)) 165 165 134 i1 _ 10 96 underlying165 aR bl bn bt rfl ak (JW ⟨⟨0,⟨#[]⟩,0,0,0,0,0,⟨#[]⟩,0⟩,0⟩) rv rs.length _ i.row ⟨A.heap.size,0,ay⟩ 1 1 (aO r).toList rfl (Bi N6) (by simp[za]) ak (by unfold cC;omega) ak;obtain⟨U,V,rfl⟩:=mO L
 have aX:aa j≠rv.ownBlock:=λe=>by
  rcases i.row.2 with⟨rfl,_⟩|⟨D,C,u,rfl,_,a,_⟩
  ·cases e
  ·cases e;exact jH i.box a aC rfl
 have B:=(I.block j (bq.1 i.box).1 aX).trans i.box;refine gr 11 λK m=>?_;refine ya rfl rfl rfl rfl FC ?_;refine m.out _ _ ⟨aI B rfl,aI B rfl⟩ (λbK=>?_);clear m K;refine gk 12 ?_;refine gk 13 ?_;have x1:=aS X j 1 rv B;have f1:=bF B 1;refine gz λK m=>?_;go_simp;refine m.out _ _ ?_;refine ef aT ?_ _;refine gE ?_;go_wp2;have bO:=R.size;have bN:=H.size;have G:bh (λb=>b=j\/aa b=rv.ownBlock) (A.alloc (aA (aO r) 134)) (X.setCell (aj j 1) (.slice U (rs.length+1) V)):=⟨I.os,by simpa using I.size,λb hb Q=>(cw λe=>Q (aF e)).trans (I.block b hb λe=>Q (aE e))⟩
 have bg:∀b,(gF U (rs.length+1) V).ownBlock=aa b->b≠j:=λb e e'=>by
  rcases L.2 with⟨y,_⟩|⟨D,C,u,y,_,a,_⟩
  ·cases y
  ·cases y;cases e;exact jH a B aC e'
 have bk:d.ownBlock=q.ownBlock:=E;refine fI rfl rfl ⟨rfl,⟨_,⟨dF B 1 _,?_⟩,FF.at_.imp id λh b e=>?_⟩,⟨d,?_,E⟩,?_⟩
 ·show iX _ _ (rs++[r]);unfold iX;rw[gW,yK];simp;exact eL L λb e=>cw (bg b e)
 ·have:=h b e;omega
 ·have aL:∀b,d.ownBlock=aa b->¬(b=j\/aa b=rv.ownBlock):=λb e=>by
   rintro(e'|e')
   ·rcases t.p.row.2 with⟨rfl,_⟩|⟨D,C,u,rfl,_,a,_⟩
    ·cases e
    ·cases e;exact jH a i.box aC e'
   ·exact Y.out b e'.symm (by rw[<-bk,e])
  have key:∀b o,(A.alloc (aA (aO r) 134)).heap[b]? =aa o->(∀u,o≠aA u 134 (0,0))->o≠aA (Cp c rv f due order) 217 (0,0)->¬(b=j\/aa b=rv.ownBlock):=λb o N h1 h2=>by
   rintro(e'|e')
   ·subst e';exact h2 (dP (N.symm.trans i.box))
   ·rcases i.row.2 with⟨y,_⟩|⟨D,C,u,y,_,a,_⟩
    ·rw[y]at e';cases e'
    ·rw[y]at e';cases e';exact h1 u (dP (N.symm.trans a))
  obtain⟨rp,T,r2⟩:=t.rd;obtain⟨es,cl,r3,_⟩:=T.uses;refine t.of (t.p.cI G (key c _ t.p.box aC aC) (key ch _ t.p.chan aC aC) aL λb e=>?_) (G.block rb t.eH.1 (key rb _ T.box aC aC)) (G.block mb t.eH.2 (key mb _ r3 aC aC)) rfl λ_=>rfl;rcases t.p.out.2 with⟨rfl,_⟩|⟨D,C,u,rfl,_,a,_⟩
  ·cases e
  ·cases e;exact key _ _ a aC aC
 ·refine((R.mono λb _ h=>?_).trans (bh.below H)).trans (G.mono λb _ h=>?_)
  ·rcases h with h|h
   ·exact aF h
   ·exact aE (aE (aF h))
  ·rcases h with h|h
   ·exact aE (aF h)
   ·exact aE (aE (aE h))
def pz(f l r:Rq)(a:Int):Bool:=(r.m.kd !=2)&&((r.m.kd==l.m.kd)&&((r.m.fl==l.m.fl)&&((r.m.of==l.m.of+l.m.ln)&&decide (r.m.of+r.m.ln-f.m.of<=a))))
abbrev vq(a b c:Nat)(r f l:Rq)(W:az):Prop:=cu W a r/\cu W b f/\cu W c l
def cu.old{W W' b r}(h:cu W b r)(a:aN W W'):cu W' b r:=by obtain⟨c,a1,d,a3,e,f,g,i,j,k⟩:=h;exact⟨bO a c,bO a a1,bO a d,bO a a3,bO a e,bO a f,bO a g,bO a i,bO a j,bO a k⟩
def vq.old{b4 b7 b8 r f l W W'}(h:vq b4 b7 b8 r f l W)(a:aN W W'):vq b4 b7 b8 r f l W':=⟨h.1.old a,h.2.1.old a,h.2.2.old a⟩
def EI{B w w' n}(h:aN (w.drewN n) w')(a:B<=w.heap.size):Below B w w':=⟨h.os,h.tape,h.output,h.size,λk b=>h.block k (dI b a)⟩
def MK(W x y):aN W ((W.alloc x).alloc y).drew:=(((Below.refl _ W).alloc (bD _) _).alloc aC _).drew
def CW(W:az)(x y:Obj):((W.alloc x).alloc y).drew.heap[W.heap.size]? =aa x:=(Below.heap_alloc _ _ _ aC).trans (cG W _)
def CV(W:az)(x y:Obj):((W.alloc x).alloc y).drew.heap[W.heap.size+1]? =aa y:=by have:=cG (W.alloc x) y;rw[wV]at this;exact this
abbrev vm(j:Nat)(rv:aD)(a n:Nat)(f l:Rq)(W:az):Prop:=W.cell? (aj j 1)=aa rv/\(W.cell? (aj a 0)=aa (an f.m.wh)/\W.cell? (aj a 1)=aa (.string f.m.nm)/\W.cell? (aj a 2)=aa (an f.m.kd)/\W.cell? (aj a 3)=aa (an f.m.fl)/\W.cell? (aj a 4)=aa (an f.m.ck)/\W.cell? (aj a 5)=aa (an f.m.of)/\W.cell? (aj a 6)=aa (an f.m.ln)/\W.cell? (aj a 7)=aa (.string f.m.dt)/\W.cell? (aj a 8)=aa (an f.m.er)/\W.cell? (aj a 9)=aa (an f.no))/\
 (W.cell? (aj a (n*10))=aa (an l.m.wh)/\W.cell? (aj a (n*10+1))=aa (.string l.m.nm)/\W.cell? (aj a (n*10+2))=aa (an l.m.kd)/\W.cell? (aj a (n*10+3))=aa (an l.m.fl)/\W.cell? (aj a (n*10+4))=aa (an l.m.ck)/\W.cell? (aj a (n*10+5))=aa (an l.m.of)/\W.cell? (aj a (n*10+6))=aa (an l.m.ln)/\W.cell? (aj a (n*10+7))=aa (.string l.m.dt)/\W.cell? (aj a (n*10+8))=aa (an l.m.er)/\W.cell? (aj a (n*10+9))=aa (an l.no))
def vm.cI{j gb n B rv f l W W'}(h:vm j rv gb n f l W)(F:bh (λb=>B<=b) W W')(E:j<B)(c:gb<B):vm j rv gb n f l W':=by have e:∀{a o:Nat} {v:aD},a<B->W.cell? (aj a o)=aa v->W'.cell? (aj a o)=aa v:=λ{a o v} G d=>(jE (F.block a (lF d) ak)).trans d;obtain⟨a,⟨g,a1,i,a3,k,m,p,q,r,s⟩,t,b1,u,w,x,y,z,A,C,D⟩:=h;exact⟨e E a,⟨e c g,e c a1,e c i,e c a3,e c k,e c m,e c p,e c q,e c r,e c s⟩,e c t,e c b1,e c u,e c w,e c x,e c y,e c z,e c A,e c C,e c D⟩
def l8(j c:Nat)(rv:aD)(i:aB Rq)(f l r:Rq)(ft:Ft)(due bF P:Int)(w:az)(h:eP w j c rv i ft due bF)(hf:i[0]? =aa f)(hl:i[i.length-1]? =aa l)(hr:r.Ok)(ah:f.Ok)(aG:l.Ok)(bQ:i.length<=1048576):
  bN 243 #[jp j,.agg (aO r),an P] w (.bool (pz f l r P)):=by
 have bP:0<i.length:=(dS.1 hf).1;obtain⟨n,hn⟩:∃n,i.length=n+1:=⟨i.length-1,ak⟩;obtain⟨ra,B,rfl,bB⟩:=h.row.form;obtain⟨g,rfl,u⟩:=h.row.at hf;obtain⟨bL,e,Q⟩:=h.row.at hl;cases e;have M:j<w.heap.size:=(bq.1 h.box).1;have I:g<w.heap.size:=lF u.1
 have U:vm j (.slice (aa (aj g 0)) i.length B) g n f l w:=by rw[show i.length-1=n by omega]at Q;simp at u;exact⟨aI h.box rfl,u,Q⟩
 have E:aN w (w.alloc (aA (aO r) 134)):=bp;have Y:=U.cI (bh.below (X:=λb=>w.heap.size<=b) E) M I;have T:(w.alloc (aA (aO r) 134)).heap[w.heap.size]? =aa (aA (aO r) 134 (0,0)):=cG w _;have k:Hid (vm j (.slice (aa (aj g 0)) i.length B) g n f l (w.alloc (aA (aO r) 134))/\(w.alloc (aA (aO r) 134)).heap[w.heap.size]? =aa (aA (aO r) 134 (0,0))/\aN w (w.alloc (aA (aO r) 134))):=⟨Y,T,E⟩;obtain⟨V,H⟩:∃V,V=pz f l r P:=⟨_,rfl⟩;rw[<-H];have t:=bf H;clear H;have o:Hid (r.Ok/\l.Ok/\f.Ok):=⟨hr,aG,ah⟩;have D:Hid (∀x:Rq,x.Ok->∀W,bN 268 #[.agg (aO x)] W (an (x.m.of+x.m.ln))):=λx hx W=>rE x W hx;clear h u Q hf hl hr ah aG U Y T E;generalize i.length=L at*;subst hn;have bz:(n:Int)<=1048576:=ak;have bA:(n:Int)<(n:Int)+1:=ak;go_enter func243,ntmps243
 go_upto_region 1 with fail
 generalize w.alloc (aA (aO r) 134)=d at*;have N:j<d.heap.size:=dI M k.out.2.2.size;have J:g<d.heap.size:=dI I k.out.2.2.size
 go_cut [4,7,8] (λp4 p7 p8 R=>∃v z,p4=aR w.heap.size/\p7=aR v/\p8=aR z/\R.heap[v]? =aa (aA (aO f) 134 (0,0))/\R.heap[z]? =aa (aA (aO l) 134 (0,0))/\aN d R)
 case first=>
  refine fq (S:=vm j (.slice (aa (aj g 0)) (n+1) B) g n f l) k.out.1 λG=>?_;refine tk 0 ?_;refine tk 1 ?_;refine tk 2 ?_;refine tk 3 ?_;refine tk 4 ?_;refine tk 5 ?_;refine tk 6 ?_;refine tk 7 ?_;refine tk 8 ?_;refine tk 9 ?_;refine tk 10 ?_;refine tk 11 ?_;refine tk 12 ?_;refine tk 13 ?_;refine tk 14 ?_;refine tk 15 ?_;rw[show dJ.wrap ((n:Nat):Int)=(n:Int) from gV ak ak];refine tk 16 ?_;refine tk 17 ?_
  have q:Hid (∀x y,vm j (.slice (aa (aj g 0)) (n+1) B) g n f l (d.alloc x).drew/\vm j (.slice (aa (aj g 0)) (n+1) B) g n f l ((d.alloc x).alloc y).drew):=λx y=>
   ⟨k.out.1.cI (bh.below (X:=λb=>d.heap.size<=b) ((Below.refl _ d).alloc (bD _) x).drew) N J,k.out.1.cI (bh.below (X:=λb=>d.heap.size<=b) (MK d x y)) N J⟩
  refine aH [18,19] (.cons rfl (λK a=>?_) ?_)
  ·(skip)
   go_simp;refine a.out _ _ (q.out _ (aA #[] 0)).1 (λbl=>?_);clear a K;refine rH 19 λK a=>?_;go_simp;refine a.out _ _ (q.out _ _).2 (λbn=>?_);clear a K;refine rH 20 λK a=>?_;go_simp;refine a.out _ _ (q.out _ _).2 (λbt=>?_);clear a K;refine rH 21 λK a=>?_;go_simp;refine a.out _ _ (q.out _ _).2 (λbu=>?_);clear a K;refine dL ?_;go_wp2_with fail
   go_meet
   case rel=>exact⟨d.heap.size,d.heap.size+1,rfl,rfl,rfl,CW d _ _,CV d _ _,MK d _ _⟩
  refine .cons rfl (λK a=>?_) .nil;go_simp;refine a.out _ _ (q.out _ (aA #[] 0)).1 (λbl=>?_);clear a K;refine rH 18 λK a=>?_;go_simp;refine a.out _ _ (q.out _ _).2 (λbn=>?_);clear a K;refine rH 20 λK a=>?_;go_simp;refine a.out _ _ (q.out _ _).2 (λbt=>?_);clear a K;refine rH 21 λK a=>?_;go_simp;refine a.out _ _ (q.out _ _).2 (λbu=>?_);clear a K;refine dL ?_;go_wp2_with fail
  go_meet
  case rel=>exact⟨d.heap.size+1,d.heap.size,rfl,rfl,rfl,CV d _ _,CW d _ _,MK d _ _⟩
 case rest=>
  obtain⟨v,z,rfl,rfl,rfl,k7,k8,O⟩:=hcut;have k4:wc.heap[w.heap.size]? =aa (aA (aO r) 134 (0,0)):=bW O k.out.2.1;have p:=bf (k.out.2.2.trans (O.mono k.out.2.2.size));have S2:vq w.heap.size v z r f l wc:=⟨cu.of k4,cu.of k7,cu.of k8⟩;have aU:r.m.of+r.m.ln-f.m.of<=131071∧-131071<=r.m.of+r.m.ln-f.m.of:=by have:=o.out.1.of0;have:=o.out.1.of1;have:=o.out.1.mL;have:=o.out.1.qx;have:=o.out.2.2.of0;have:=o.out.2.2.of1;omega
  clear k7 k8 O k4 k N J M I bB bz bA;have aT:Hid (dJ.wrap (r.m.of+r.m.ln-f.m.of)=r.m.of+r.m.ln-f.m.of):=gV ak ak;clear aU
  go_upto_region 2 with fail
  refine fq (S:=vq w.heap.size v z r f l) S2 λG=>?_;cases A:(r.m.kd !=2)with
  |false=>
   refine tk 0 ?_;refine tk 1 ?_;refine tk 2 ?_;refine tk 3 ?_;refine tk 4 ?_;refine bH 5 ?_;refine bH 6 ?_;refine bH 7 ?_;refine bH 8 ?_;refine bH 9 ?_;refine bH 10 ?_;refine bH 11 ?_;refine tk 12 ?_;refine tk 13 ?_;refine bH 14 ?_;refine bH 15 ?_;refine bH 16 ?_;refine bH 17 ?_;refine bH 18 ?_;refine bH 19 ?_;refine bH 20 ?_;refine tk 21 ?_;refine tk 22 ?_;refine bH 23 ?_;refine bH 24 ?_;refine bH 25 ?_;refine bH 26 ?_;refine bH 27 ?_;refine bH 28 ?_;refine tk 29 ?_;refine tk 30 ?_;refine bH 31 ?_;refine bH 32 ?_;refine bH 33 ?_;refine bH 34 ?_;refine bH 35 ?_;refine bH 36 ?_;refine bH 37 ?_;refine bH 38 ?_;refine tk 39 ?_;refine tk 40 ?_;refine dL ?_;go_wp2;go_ret;exact⟨by rw[t.out];simp[pz,A],p.out.trans (iU (Below.refl _ _) _)⟩
  |true=>
   cases C:(r.m.kd==l.m.kd)with
   |false=>
    refine tk 0 ?_;refine tk 1 ?_;refine tk 2 ?_;refine tk 3 ?_;refine tk 4 ?_;refine tk 5 ?_;refine tk 6 ?_;refine tk 7 ?_;refine tk 8 ?_;refine tk 9 ?_;refine tk 10 ?_;refine tk 11 ?_;refine tk 12 ?_;refine tk 13 ?_;refine bH 14 ?_;refine bH 15 ?_;refine bH 16 ?_;refine bH 17 ?_;refine bH 18 ?_;refine bH 19 ?_;refine bH 20 ?_;refine tk 21 ?_;refine tk 22 ?_;refine bH 23 ?_;refine bH 24 ?_;refine bH 25 ?_;refine bH 26 ?_;refine bH 27 ?_;refine bH 28 ?_;refine tk 29 ?_;refine tk 30 ?_;refine bH 31 ?_;refine bH 32 ?_;refine bH 33 ?_;refine bH 34 ?_;refine bH 35 ?_;refine bH 36 ?_;refine bH 37 ?_;refine bH 38 ?_;refine tk 39 ?_;refine tk 40 ?_;refine dL ?_;go_wp2;go_ret;exact⟨by rw[t.out];simp[pz,A,C],p.out.trans (iU (Below.refl _ _) _)⟩
   |true=>
    cases F:(r.m.fl==l.m.fl)with
    |false=>
     refine tk 0 ?_;refine tk 1 ?_;refine tk 2 ?_;refine tk 3 ?_;refine tk 4 ?_;refine tk 5 ?_;refine tk 6 ?_;refine tk 7 ?_;refine tk 8 ?_;refine tk 9 ?_;refine tk 10 ?_;refine tk 11 ?_;refine tk 12 ?_;refine tk 13 ?_;refine tk 14 ?_;refine tk 15 ?_;refine tk 16 ?_;refine tk 17 ?_;refine tk 18 ?_;refine tk 19 ?_;refine tk 20 ?_;refine tk 21 ?_;refine tk 22 ?_;refine bH 23 ?_;refine bH 24 ?_;refine bH 25 ?_;refine bH 26 ?_;refine bH 27 ?_;refine bH 28 ?_;refine tk 29 ?_;refine tk 30 ?_;refine bH 31 ?_;refine bH 32 ?_;refine bH 33 ?_;refine bH 34 ?_;refine bH 35 ?_;refine bH 36 ?_;refine bH 37 ?_;refine bH 38 ?_;refine tk 39 ?_;refine tk 40 ?_;refine dL ?_;go_wp2;go_ret;exact⟨by rw[t.out];simp[pz,A,C,F],p.out.trans (iU (Below.refl _ _) _)⟩
    |true=>
     cases Z:(r.m.of==l.m.of+l.m.ln)with
     |false=>
      refine tk 0 ?_;refine tk 1 ?_;refine tk 2 ?_;refine tk 3 ?_;refine tk 4 ?_;refine tk 5 ?_;refine tk 6 ?_;refine tk 7 ?_;refine tk 8 ?_;refine tk 9 ?_;refine tk 10 ?_;refine tk 11 ?_;refine tk 12 ?_;refine tk 13 ?_;refine tk 14 ?_;refine tk 15 ?_;refine tk 16 ?_;refine tk 17 ?_;refine tk 18 ?_;refine tk 19 ?_;refine tk 20 ?_;refine tk 21 ?_;refine tk 22 ?_;refine tk 23 ?_;refine tk 24 ?_;refine tk 25 ?_;refine tk 26 ?_;refine rH 27 λK a=>?_;go_simp;go_at_call 268;refine(D.out l o.out.2.1 _).mono ?_;rintro e bK ⟨rfl,s⟩;have bk:=vq.old G s;refine a.out _ _ bk (λRs=>?_);clear a K;refine tk 28 ?_;refine tk 29 ?_;refine tk 30 ?_;refine bH 31 ?_;refine bH 32 ?_;refine bH 33 ?_;refine bH 34 ?_;refine bH 35 ?_;refine bH 36 ?_;refine bH 37 ?_;refine bH 38 ?_;refine tk 39 ?_;refine tk 40 ?_;refine dL ?_;go_wp2;go_ret;exact⟨by rw[t.out];simp[pz,A,C,F,Z],p.out.trans (EI s p.out.size)⟩
     |true=>
      refine tk 0 ?_;refine tk 1 ?_;refine tk 2 ?_;refine tk 3 ?_;refine tk 4 ?_;refine tk 5 ?_;refine tk 6 ?_;refine tk 7 ?_;refine tk 8 ?_;refine tk 9 ?_;refine tk 10 ?_;refine tk 11 ?_;refine tk 12 ?_;refine tk 13 ?_;refine tk 14 ?_;refine tk 15 ?_;refine tk 16 ?_;refine tk 17 ?_;refine tk 18 ?_;refine tk 19 ?_;refine tk 20 ?_;refine tk 21 ?_;refine tk 22 ?_;refine tk 23 ?_;refine tk 24 ?_;refine tk 25 ?_;refine tk 26 ?_;refine rH 27 λK a=>?_;go_simp;go_at_call 268;refine(D.out l o.out.2.1 _).mono ?_;rintro e bK ⟨rfl,s⟩;refine a.out _ _ (vq.old G s) (λRs=>?_);clear a K;refine tk 28 ?_;refine tk 29 ?_;refine tk 30 ?_;refine tk 31 ?_;refine tk 33 ?_;refine tk 34 ?_;refine tk 35 ?_;refine tk 37 ?_;refine rH 32 λK a=>?_;go_simp;go_at_call 268;refine(D.out r o.out.1 _).mono ?_;rintro e bS ⟨rfl,af⟩;refine a.out _ _ (vq.old Rs af) (λbO=>?_);clear a K;refine tk 36 ?_;refine tk 38 ?_;refine tk 39 ?_;refine tk 40 ?_;refine dL ?_;go_wp2;go_ret;refine⟨?_,p.out.trans ((EI s p.out.size).trans (af.mono (dM p.out.size s.size)))⟩;rw[t.out];rw[aT.out];simp[pz,A,C,F,Z]
def Ck.fst(k:Ck):Rq:=match k.q with
 |[]=>⟨bg.zero,0⟩
 |r::_=>r
def Ck.fB(g:Cf)(k:Ck):Bool:=match k.q with
 |[]=>av
 |r::_=>decide (0<k.tok)&&decide ((k.out.size:Int)+k.prom+sizeOf' r.m<=g.ou)
def abx(c cap a w)(h:w.cell? (aj c 13)=aa (.slice a 0 cap)):
  bN 204 #[jp c] w (.tuple #[.agg (aO ⟨bg.zero,0⟩),.bool av]):=by
 have u:c<w.heap.size:=lF h;have g:aN w (w.alloc (aA kV 134)):=bp;have p:lC (w.alloc (aA kV 134)) w.heap.size:=cG w _
 have t:Hid (Calls prog 78 #[jp c] (w.alloc (aA kV 134)) λe i=>e=aM (.tuple #[.agg (aO ⟨bg.zero,0⟩),.bool av])/\aN w i/\lC i w.heap.size/\w.heap.size<i.heap.size):=by refine(QH c cap a _ ((jE (a:=aj c 13) (g.block c u)).trans h)).mono ?_;rintro e i ⟨rfl,l⟩;exact⟨rfl,g.trans (l.mono g.size),bW l p,by have:=l.size;simp at this;omega⟩
 clear h g p;go_enter func204,ntmps204
 go_upto_region 2 with(go_at_call 78;refine t.out.mono ?_;rintro e f ⟨rfl,m,q,I⟩)
 have j:aN f (f.alloc (aA (aO ⟨bg.zero,0⟩) 134)):=bp;have n:(f.alloc (aA (aO ⟨bg.zero,0⟩) 134)).heap[f.heap.size]? =aa (aA (aO ⟨bg.zero,0⟩) 134 (0,0)):=cG f _;have s:=bf (m.trans (j.mono m.size));have r:cu (f.alloc (aA (aO ⟨bg.zero,0⟩) 134)) f.heap.size ⟨bg.zero,0⟩:=cu.of n;have b:lC (f.alloc (aA (aO ⟨bg.zero,0⟩) 134)) w.heap.size:=bW j q;clear j n q m;show Dr _ _ _ _ (f.alloc (aA (aO ⟨bg.zero,0⟩) 134));generalize f.alloc (aA (aO ⟨bg.zero,0⟩) 134)=d at*;have x:=aS d w.heap.size 0 (an 0) b;have y:=aS d w.heap.size 1 (.string ⟨#[]⟩) b;have z:=aS d w.heap.size 2 (an 0) b;have A:=aS d w.heap.size 3 (an 0) b;have B:=aS d w.heap.size 4 (an 0) b;have C:=aS d w.heap.size 5 (an 0) b;have D:=aS d w.heap.size 6 (an 0) b;have E:=aS d w.heap.size 7 (.string ⟨#[]⟩) b;have F:=aS d w.heap.size 8 (an 0) b;have G:=aS d w.heap.size 9 (an 0) b;have H:∀k,d.frozen? (aj w.heap.size k)=av:=λk=>bF b k;refine iD ?_;refine dY (S:=λW=>cu W f.heap.size ⟨bg.zero,0⟩) 16 aT r ?_;intro hS;clear b;simp only[bg.zero]at r hS;refine gs 0 ?_;refine gk 1 ?_;refine gk 2 ?_;refine g0 3 ?_;refine g0 4 ?_;refine g0 5 ?_;refine g0 6 ?_;refine g0 7 ?_;refine gk 8 ?_;refine gk 9 ?_;refine g0 10 ?_;refine g0 11 ?_;refine g0 12 ?_;refine g0 13 ?_;refine g0 14 ?_;refine gk 15 ?_;refine gz λK o=>?_;go_simp;refine o.out _ _ ?_;clear o K;refine ga 17 ?_;refine ef aT ?_ _;refine gE ?_;go_wp2;refine gn (v:=.tuple #[.agg (aO ⟨bg.zero,0⟩),.bool av]) (by simp[results,results204,go_sem,x,y,z,A,B,C,D,E,F,G]) rfl ⟨rfl,?_⟩;exact EL s.out _ _ _ _ _ _ _ _ _ _
def Tp(c rb ch q v g k w)(h:cH w c rb ch q v g k)(m:∀r∈k.q,r.Ok)(j:k.out.size<=4194304)(l:0<=k.prom/\k.prom<=4194304):
  bN 204 #[jp c] w (.tuple #[.agg (aO k.fst),.bool (k.fB g)]):=by
 obtain⟨n,o,rfl⟩:=mO h.out;unfold Ck.fst Ck.fB;cases d:k.q with
 |nil=>
  obtain⟨a,f,rfl,_⟩:=h.row.form;have:=aI (i:=13) h.box rfl;rw[d]at this;exact abx c f a w this
 |cons r rest=>
  have hr:=h.row;rw[d]at hr
  by_cases h0:0<k.tok
  ·refine(abz c k.out.size o n k.prom g.ou q r rest k.tok w (aI h.box rfl) hr (aI h.box rfl) h0 (m r (by rw[d];simp)) j l (aI h.box rfl) (aI h.box rfl) (aI h.box rfl)).mono ?_;rintro e p ⟨rfl,b⟩;exact⟨by simp[h0],b⟩
  ·refine(aby c q r rest k.tok w (aI h.box rfl) hr (aI h.box rfl) h0).mono ?_;rintro e p ⟨rfl,b⟩;exact⟨by simp[h0],b⟩
def agj(a n cap w):Calls prog 266 #[.slice a n cap] w λe b=>e=aM (.func (.func 281) #[] #[aR w.heap.size])/\b=w.alloc (aA #[.slice a n cap] 107):=by go_enter func266,ntmps266;go_wp2;go_ret;exact⟨rfl,rfl⟩
def Xu(hb ho n a cap w)(h:w.cell? (aj hb ho)=aa (.slice a n cap)):Calls prog 239 #[.pointer (aa (aj hb ho))] w λe b=>e=aM (.func (.func 281) #[] #[aR w.heap.size])/\b=w.alloc (aA #[.slice a n cap] 107):=by go_enter func239,ntmps239;go_wp2_with (go_at_call 266;refine(agj a n cap _).mono ?_;rintro e c ⟨rfl,rfl⟩);go_ret;exact⟨rfl,rfl⟩
end
section
attribute [local go_sem] Oper.semAt_some
attribute [local go_sem] bV bQ
open Go.Proofs.Tryz
open Go.RowKit Go.Shelf
def UG{α:Type}{l:aB α}{j:Nat}{x:α}(h:l[j]? =aa x):l.take (j+1)=l.take j++[x]:=by rw[tN,h];rfl
def agi(n)(Q:1<=n)(cb a N cap l W)(K:W.cell? (aj cb 0)=aa (.slice a N cap))(O:l.length=N)(H:N<=65535)(y:∀(j:Nat) x,l[j]? =aa x->∃g,a=aa ⟨g,0,ay⟩/\W.cell? (aj g j)=aa (jp x)):
  Iter iS n prog 281 #[aR cb] yd (λ_=>False) (λA B=>∀g,(gF a N cap).ownBlock=aa g->B.heap[g]? =A.heap[g]?) (λh=>∃r,l=h++r)
   (λh _=>h=l) (λpre _=>∃r,l=pre++r) W:=by
 intro lp J D F G w s;refine callsIn_of_wp func281 rfl trivial ?_ rfl;simp only[ntmps281,jB,eM,gX,lR,DW,uJ,uK,uW,uQ,pV,ld]
 gi_wp2
 gi_loopw [7] (λi wr=>∃j:Nat,j<=N/\i=an j/\Hid (J (l.take j) wr/\∀g,(gF a N cap).ownBlock=aa g->wr.heap[g]? =W.heap[g]?)) (λi _=>N-(eY i).toNat)
 case atStart=>exact⟨0,eZ _,rfl,s,λ_ _=>rfl⟩
 case round=>
  obtain⟨j,L,rfl,c⟩:=hrel
  by_cases P:j<N
  ·have C:decide ((j:Int)<(N:Int))=aq:=cq;obtain⟨x,f⟩:∃x,l[j]? =aa x:=⟨l[j],by rw[eI]⟩;obtain⟨g,rfl,z⟩:=y j x f
   have I:wr.cell? (aj g j)=aa (jp x):=by rw[jE (c.out.2 g rfl)];exact z
   have k:Hid (∃r,l=(l.take j++[x])++r):=⟨l.drop (j+1),by rw[<-UG f,rZ]⟩;obtain⟨E,S,assign,body,R,v⟩:=w (l.take j) x wr c.out.1 k.out;have p:=bf c.out.2
   gi_wp2
   refine v.mono ?_;rintro e m (⟨rfl,t,o⟩|⟨rfl,u,o⟩)
   ·have d:Hid (J (l.take (j+1)) m/\∀b,(gF (aa (aj g 0)) N cap).ownBlock=aa b->m.heap[b]? =W.heap[b]?):=⟨by rw[(bf (UG f)).out];exact t,λb e=>(o b e).trans (p.out b e)⟩
    gi_wp2
    go_roundw
    case rel=>exact⟨j+1,ak,by go_num,d.out⟩
    case measure=>simp[eY];omega
   ·have d:=bf u
    gi_wp2
    refine gn (results_none rfl _ _ _) rfl ?_;exact⟨⟨_,rfl⟩,aE ⟨_,k.out,d.out⟩⟩
  ·have C:decide ((j:Int)<(N:Int))=av:=cq;have M:j=N:=ak
   have q:Hid (J l wr):=by have:=c.out.1;rw[uX ak]at this;exact this
   gi_wp2
   exact fI rfl rfl ⟨⟨_,rfl⟩,aF ⟨_,rfl,q.out⟩⟩
structure OS(w:az)(xb sb M:Nat)(cs:aB (aZ Nat))(a:aZ Addr)(N cap:Nat)(l:aB Nat)(r:Rq)(b:Nat->Bool)(fr:Nat->Rq)(rd:Nat->Bool):Prop where
 head:w.cell? (aj xb 18)=aa (.slice a N cap)
 len:l.length=N
 small:N<=65535
 row:∀(j:Nat) x,l[j]? =aa x->∃g,a=aa ⟨g,0,ay⟩/\w.cell? (aj g j)=aa (jp x)
 Gv:∀g,(gF a N cap).ownBlock=aa g->g<w.heap.size
 touch:∀j∈l,∀W,aN w W->bN 240 #[jp j,.agg (aO r)] W (.bool (b j))
 dX:vC w xb sb M cs
 ready:∀c∈cP cs,∀W,aN w W->bN 204 #[jp c] W (.tuple #[.agg (aO (fr c)),.bool (rd c)])
 ok:r.Ok/\∀c∈cP cs,rd c=aq->(fr c).Ok
def ahead(r:Rq)(fr:Nat->Rq)(rd:Nat->Bool)(c:Nat):Bool:=rd c&&(decide ((fr c).no<r.no)&&(fr c).touch r)
def nS(w:az)(r:Rq)(p:Nat->Bool)(pre:aB Nat)(W:az):Prop:=
 aN w W/\W.heap[w.heap.size]? =aa (aA (aO r) 134 (0,0))/\W.heap[w.heap.size+1]? =aa (aA #[.bool av] 4 (0,0))/\(∀c∈pre,p c=av)/\w.heap.size+2<=W.heap.size
def tY(w:az)(p:Nat->Bool)(pre:aB Nat)(W:az):Prop:=
 aN w W/\W.heap[w.heap.size+1]? =aa (aA #[.bool aq] 4 (0,0))/\(∃c∈pre,p c=aq)/\w.heap.size+2<=W.heap.size
def nS.bears{w r p B}(j:w.heap.size+2<=B):Bears (λx=>False\/x=B+1) (nS w r p):=by
 rintro pre W i row ⟨c,d,f,g,h⟩ a hr;have b:∀x,row=aa x->x=B+1:=λx e=>by grind
 exact⟨c.grown a c.size (λk e=>by have:=b k e;omega),nk d a (λe=>by have:=b _ e;omega),nk f a (λe=>by have:=b _ e;omega),g,dM h a.size⟩
def tY.bears{w p B}(i:w.heap.size+2<=B):Bears (λx=>False\/x=B+1) (tY w p):=by
 rintro pre W h row ⟨b,d,f,g⟩ a hr;have c:∀x,row=aa x->x=B+1:=λx e=>by grind
 exact⟨b.grown a b.size (λk e=>by have:=c k e;omega),nk d a (λe=>by have:=c _ e;omega),f,dM g a.size⟩
abbrev ihA(xb:Nat)(r:Rq)(B j:Nat):Act:=
 {tmps:=#[jp xb,.agg (aO r),au,aR B,aR (B+1),jp j,au,au,au,jp xb,aR xb,.pointer (aa (aj xb 18)),.func (.func 281) #[] #[aR (B+1+1)],jp j,au,au,au,au,au,au,au,au,au,au,au,au,au,au,au,au,au,au,au,au,au,au,au,au],defers:=[]}
abbrev ihB(xb:Nat)(r:Rq)(B a c:Nat):Act:=
 {tmps:=#[jp xb,.agg (aO r),au,aR B,aR (B+1),au,jp c,au,au,jp xb,aR xb,.pointer (aa (aj xb 18)),.func (.func 281) #[] #[aR (B+1+1)],au,au,au,au,jp xb,.func (.func 96) #[] #[aR a],jp c,au,au,au,au,au,au,au,au,au,au,au,au,au,au,au,au,au,au],defers:=[]}
abbrev xR(w:az)(r:Rq)(v:aD):az:=((w.alloc (aA (aO r) 134)).alloc (aA #[.bool av] 4)).alloc (aA #[v] 107)
def Q2(xb sb M cs a N cap l r tj fr rd w)(h:OS w xb sb M cs a N cap l r tj fr rd):
  bN 205 #[jp xb,.agg (aO r)] w (.bool (l.any tj||(cP cs).any (ahead r fr rd))):=by
 refine gy.1 (?_:CallsIn iS 3 prog _ _ w _);have bu:=h.head;have dB:xb<w.heap.size:=lF bu;have b8:((w.alloc (aA (aO r) 134)).alloc (aA #[.bool av] 4)).cell? (aj xb 18)=aa (.slice a N cap):=bO (bp.alloc aC _) bu;have q:=bf h;clear h bu;refine callsIn_of_wp_marks func205 rfl trivial ?_ rfl;simp only[ntmps205,jB,eM,gX,lR,DW,uJ,uK,uW,uQ,pV,ld]
 gi_wp2_with (first|(refine⟨trivial,?_⟩;gi_at_call 239;refine(gy.2 (Xu xb 18 N a cap _ b8)).mono ?_;rintro e f ⟨rfl,rfl⟩))
 have aH:aN w (xR w r (.slice a N cap)):=(bp.alloc aC _).alloc cq _;have aX:(xR w r (.slice a N cap)).heap.size=w.heap.size+3:=aC;have e1:(xR w r (.slice a N cap)).heap[w.heap.size]? =aa (aA (aO r) 134 (0,0)):=gi (gi (new1 rfl));have e2:(xR w r (.slice a N cap)).heap[w.heap.size+1]? =aa (aA #[.bool av] 4 (0,0)):=gi (new1 aC);have e3:(xR w r (.slice a N cap)).heap[w.heap.size+1+1]? =aa (aA #[.slice a N cap] 107 (0,0)):=new1 aC;show Code.wpIn iS 3 prog _ _ _ (xR w r (.slice a N cap));generalize xR w r (.slice a N cap)=W0 at*;have cr:nS w r tj [] W0:=⟨aH,e1,e2,λc h=>(by cases h),ak⟩
 refine zS (w:=W0) rfl bL (gf:=281) (lb:=#[aR (w.heap.size+1+1)]) rfl trivial (enters_of func281 aT rfl) (encs:=yd) (λ_=>rfl)
  (R:=λ_=>False) (Kp:=λA B=>∀g,(gF a N cap).ownBlock=aa g->B.heap[g]? =A.heap[g]?) (V:=λt=>∃r,l=t++r) (S:=λt _=>t=l) (Sp:=λpre _=>∃r,l=pre++r)
  (λW hW=>?seq) (λr h=>h.elim) (λh k g e=>(k g e).trans (h g e)) (λW o g e=>fS (by have:=q.out.Gv g e;omega)) (λt W X row h _ _=>h) (λt W X row h _ _=>h)
  (nS w r tj) (tY w tj) (nS.bears ak) (tY.bears ak) cr (λj a _=>a=ihA xb r w.heap.size j) (λc a W X row h _ _=>h) ?assign ?body ?done ?stop
 case seq=>
  have bB:aN w W:=aH.grown hW aH.size (λk e=>by cases e);have xB:=nk e3 hW aC;refine agi 2 bL (w.heap.size+1+1) a N cap l W (aI xB rfl) q.out.len q.out.small λj x P=>?_;obtain⟨g,e,L⟩:=q.out.row j x P;exact⟨g,e,bO bB L⟩
 case assign=>
  rintro lp pre c W K d hv iN hK
  gi_wp2
  exact hK _ W ⟨rfl,rfl⟩ (λ_ _=>rfl) d rfl
 case body=>
  rintro lp pre j a' W d rfl ⟨rr,hv⟩ iN;have C:j∈l:=by rw[hv];simp
  obtain⟨k0,k1,k2,k3,k4,k5,k6,k7,k8,k9⟩:=cu.of d.2.1;have cR:=aS W (w.heap.size+1) 0 (.bool av) d.2.2.1;have E:=bf (q.out.touch j C W d.1);have s:=bf d;have af:w.heap.size+2<=W.heap.size:=d.2.2.2.2;clear d;cases FD:tj j with
  |true=>
   rw[FD]at E
   gi_wp2_with (first|(refine⟨trivial,?_⟩;gi_at_call 240;refine(mR lp (gy.2 E.out)).mono ?_;rintro e f ⟨rfl,b⟩;have d2:=bW b s.out.2.2.1;have an:=aS f (w.heap.size+1) 0 (.bool av) d2;have aG:=bF d2 0))
   obtain⟨m,y,G,D,Q⟩:=s.out;have O:=b.size;rw[aX];refine⟨⟨(cw ak).trans (b.block _ ak),(cw ak).trans (b.block _ ak)⟩,λg e=>(cw (by have:=q.out.Gv g e;omega)).trans (b.block _ (by have:=q.out.Gv g e;omega)),(m.trans (b.mono m.size)).setCell (p:=aj (w.heap.size+1) 0) (kB _) _,dF d2 0 _,⟨j,aC,FD⟩,by simpa using dM af O⟩
  |false=>
   rw[FD]at E
   gi_wp2_with (first|(refine⟨trivial,?_⟩;gi_at_call 240;refine(mR lp (gy.2 E.out)).mono ?_;rintro e f ⟨rfl,b⟩))
   obtain⟨m,y,G,D,Q⟩:=s.out;have O:=b.size;rw[aX];refine⟨⟨b.block _ ak,b.block _ ak⟩,λg e=>b.block _ (by have:=q.out.Gv g e;omega),m.trans (b.mono m.size),bW b y,bW b G,λc hc=>?_,dM af O⟩;rcases iT.1 hc with h|h
   ·exact D c h
   ·rw[iA.1 h];exact FD
 case stop=>
  rintro pre W ⟨rr,hv⟩ P Y;have HX:=bf P;clear P
  gi_wp2
  obtain⟨m,y,⟨j,C,bE⟩,D⟩:=HX.out;have J:=aI (w:=W.putObj W0.heap.size (.deferred ay)) ((fS ak).trans y) (i:=0) (v:=.bool aq) rfl;refine⟨aC,aF ⟨_,_,rfl,qP Y,.bool aq,by simp[results,results205,go_sem,J],?_,?_⟩⟩
  ·have:l.any tj=aq:=rS.2 ⟨j,by rw[hv];simp[C],bE⟩;rw[this];rfl
  ·exact m.grown (Ee _ _ _) m.size (λk e=>by cases e;omega)
 case done=>
  rintro t W rfl d Y
  have cz:t.any tj=av:=by rw[AO];intro j C;rw[d.2.2.2.1 j C];simp
  have s:Hid (nS w r (ahead r fr rd) [] W):=⟨d.1,d.2.1,d.2.2.1,λc h=>(by cases h),d.2.2.2.2⟩;have dA:W.heap.size≥w.heap.size+2:=d.2.2.2.2;rw[aX]at Y⊢;have H9:w.heap.size+3<W.heap.size:=(bq.1 Y).1;have HN:=bf cz;clear d cr aH e1 e2 e3 b8 cz aX
  gi_wp2_with (first|(refine⟨trivial,?_⟩;gi_at_call 59;refine(gy.2 (Gx xb _)).mono ?_;rintro e f ⟨rfl,rfl⟩))
  have g1:=World.grownBy_alloc W (aA #[aR xb] 36) ay;have bz:nS w r (ahead r fr rd) [] (W.alloc (aA #[aR xb] 36)):=nS.bears (B:=w.heap.size+3) ak _ _ _ ay s.out g1 (λr e=>by cases e);have cN:(W.alloc (aA #[aR xb] 36)).heap[W.heap.size]? =aa (aA #[aR xb] 36 (0,0)):=cG W _;have cK:(W.alloc (aA #[aR xb] 36)).heap[(w.heap.size+3)]? =aa (.deferred (aa [])):=(Below.heap_alloc _ _ _ H9).trans Y;have dz:(W.alloc (aA #[aR xb] 36)).heap.size=W.heap.size+1:=aC;generalize W.alloc (aA #[aR xb] 36)=u at*;have aP:sb<w.heap.size:=by obtain⟨o,ho⟩:=q.out.dX.row;exact(bq.1 ho).1
  refine zS (w:=u) rfl bL (gf:=96) (lb:=#[aR W.heap.size]) rfl trivial (enters_of func96 aT rfl) (encs:=yd) (λ_=>rfl)
   (R:=λ_=>False) (Kp:=λA B=>B.heap[sb]? =A.heap[sb]?) (V:=λt=>∃r,cP cs=t++r) (S:=λt _=>t=cP cs) (Sp:=λpre _=>∃r,cP cs=pre++r)
   (λV hV=>?seq) (λr h=>h.elim) (λh k=>k.trans h) (λV o=>fS ak) (λt W X row h _ _=>h) (λt W X row h _ _=>h)
   (λpre W=>nS w r (ahead r fr rd) pre W/\W.heap[(w.heap.size+3)]? =aa (.deferred (aa []))) (λpre W=>tY w (ahead r fr rd) pre W/\W.heap[(w.heap.size+3)]? =aa (.deferred (aa [])))
   (λpre A B row h L hr=>⟨nS.bears (B:=u.heap.size) ak pre A B row h.1 L hr,nk h.2 L (λe=>by rcases hr _ e with h|h;exact h;omega)⟩) (λpre A B row h L hr=>⟨tY.bears (B:=u.heap.size) ak pre A B row h.1 L hr,nk h.2 L (λe=>by rcases hr _ e with h|h;exact h;omega)⟩)
   ⟨bz,cK⟩ (λc a _=>a=ihB xb r w.heap.size W.heap.size c) (λc a W X row h _ _=>h) ?assign ?body ?done ?stop
  case seq=>
   have bB:aN w V:=bz.1.grown hV bz.1.size (λk e=>by cases e);have sW:=q.out.dX.old bB;exact Gz 2 bL W.heap.size xb sb M cs V (aI (nk cN hV aC) rfl) sW.sl sW.len sW.small sW.at_
  case assign=>
   rintro lp pre c A K d hv iN hK
   gi_wp2
   exact hK _ A ⟨rfl,rfl⟩ rfl d rfl
  case body=>
   rintro lp pre c a' A ⟨d,F⟩ rfl ⟨rr,hv⟩ iN;have hc:c∈cP cs:=by rw[hv];simp
   obtain⟨k0,k1,k2,k3,k4,k5,k6,k7,k8,k9⟩:=cu.of d.2.1;have cR:=aS A (w.heap.size+1) 0 (.bool av) d.2.2.1;have T:=bf (q.out.ready c hc A d.1);have s:Hid (nS w r (ahead r fr rd) pre A/\A.heap[(w.heap.size+3)]? =aa (.deferred (aa []))):=⟨d,F⟩;have af:w.heap.size+2<=A.heap.size:=d.2.2.2.2;have dy:u.heap.size+2<=A.heap.size:=iN;have E:Hid (rd c=aq->∀V,bN 241 #[.agg (aO (fr c)),.agg (aO r)] V (.bool ((fr c).touch r))):=λe V=>UQ (fr c) r V (q.out.ok.2 c hc e) q.out.ok.1;have HH:Hid (ahead r fr rd c=(rd c&&(decide ((fr c).no<r.no)&&(fr c).touch r))):=rfl;clear d F;have aU:∀V,aN A V->Two u.heap.size A V/\V.heap[sb]? =A.heap[sb]? :=λV n=>⟨⟨n.block _ ak,n.block _ ak⟩,n.block _ ak⟩
   have bk:Hid (∀V,aN A V->ahead r fr rd c=av->roundEnd u.heap.size (λA B=>B.heap[sb]? =A.heap[sb]?) (λpre W=>nS w r (ahead r fr rd) pre W/\W.heap[w.heap.size+3]? =aa (.deferred (aa []))) (λpre W=>tY w (ahead r fr rd) pre W/\W.heap[w.heap.size+3]? =aa (.deferred (aa []))) (pre++[c]) A .normal (ihB xb r w.heap.size W.heap.size c) V):=λV n hn=>by
    obtain⟨⟨m,y,G,D,Q⟩,i6⟩:=s.out;refine⟨(aU V n).1,(aU V n).2,⟨m.trans (n.mono m.size),bW n y,bW n G,λc' J=>?_,dM af n.size⟩,bW n i6⟩;rcases iT.1 J with h|h
    ·exact D c' h
    ·rw[iA.1 h];exact hn
   have cD:Hid (∀V,aN A V->ahead r fr rd c=aq->roundEnd u.heap.size (λA B=>B.heap[sb]? =A.heap[sb]?) (λpre W=>nS w r (ahead r fr rd) pre W/\W.heap[w.heap.size+3]? =aa (.deferred (aa []))) (λpre W=>tY w (ahead r fr rd) pre W/\W.heap[w.heap.size+3]? =aa (.deferred (aa []))) (pre++[c]) A .ret (ihB xb r w.heap.size W.heap.size c) (V.setCell (aj (w.heap.size+1) 0) (.bool aq))):=λV n hn=>by obtain⟨⟨m,y,G,D,Q⟩,i6⟩:=s.out;have aP:=aU V n;have hs:=n.size;exact⟨⟨(cw ak).trans aP.1.1,(cw ak).trans aP.1.2⟩,(cw ak).trans aP.2,⟨(m.trans (n.mono m.size)).setCell (p:=aj (w.heap.size+1) 0) (kB _) _,dF (bW n G) 0 _,⟨c,aC,hn⟩,by simpa using dM af hs⟩,nY (bW n i6) ak _ _⟩
   have z:Hid (A.heap[w.heap.size]? =aa (aA (aO r) 134 (0,0))/\A.heap[w.heap.size+1]? =aa (aA #[.bool av] 4 (0,0))):=⟨s.out.1.2.1,s.out.1.2.2.1⟩;clear aU s;generalize ahead r fr rd c=ah at*;cases hrd:rd c with
   |false=>
    rw[hrd]at T
    gi_wp2_with (first|(refine⟨trivial,?_⟩;gi_at_call 204;refine(mR lp (gy.2 T.out)).mono ?_;rintro e f ⟨rfl,b⟩;have I:aN A (f.alloc (aA (aO (fr c)) 134)):=b.alloc b.size _;have H:=cu.of (bW I z.out.1);obtain⟨q0,q1,q2,q3,q4,q5,q6,q7,q8,q9⟩:=H;have O:=b.size;have Kz:w.heap.size≠f.heap.size:=ak;have d2:=bW b z.out.2;have an:=aS f (w.heap.size+1) 0 (.bool av) d2;have aG:=bF d2 0)|(refine⟨trivial,?_⟩))
    exact bk.out _ (b.alloc b.size _) (by rw[HH.out,hrd];rfl)
   |true=>
    rw[hrd]at T;cases bH:decide ((fr c).no<r.no)with
    |false=>
     gi_wp2_with (first|(refine⟨trivial,?_⟩;gi_at_call 204;refine(mR lp (gy.2 T.out)).mono ?_;rintro e f ⟨rfl,b⟩;have I:aN A (f.alloc (aA (aO (fr c)) 134)):=b.alloc b.size _;have H:=cu.of (bW I z.out.1);obtain⟨q0,q1,q2,q3,q4,q5,q6,q7,q8,q9⟩:=H;have O:=b.size;have Kz:w.heap.size≠f.heap.size:=ak;have d2:=bW b z.out.2;have an:=aS f (w.heap.size+1) 0 (.bool av) d2;have aG:=bF d2 0)|(refine⟨trivial,?_⟩))
     exact bk.out _ (b.alloc b.size _) (by rw[HH.out,hrd,bH];rfl)
    |true=>
     have U:=E.out hrd;cases bg:(fr c).touch r with
     |false=>
      rw[bg]at U;have bl:=bf U;clear E U
      gi_wp2_with (first|(refine⟨trivial,?_⟩;gi_at_call 204;refine(mR lp (gy.2 T.out)).mono ?_;rintro e f ⟨rfl,b⟩;have I:aN A (f.alloc (aA (aO (fr c)) 134)):=b.alloc b.size _;have H:=cu.of (bW I z.out.1);obtain⟨q0,q1,q2,q3,q4,q5,q6,q7,q8,q9⟩:=H;have O:=b.size;have Kz:w.heap.size≠f.heap.size:=ak;have d2:=bW b z.out.2;have an:=aS f (w.heap.size+1) 0 (.bool av) d2;have aG:=bF d2 0)|(refine⟨trivial,?_⟩;gi_at_call 241;refine(mR lp (gy.2 (bl.out _))).mono ?_;rintro e w2 ⟨rfl,lZ⟩))
      have Z:aN A (f.alloc (aA (aO (fr c)) 134)):=b.alloc b.size _;exact bk.out _ (Z.trans (lZ.mono Z.size)) (by rw[HH.out,hrd,bH,bg];rfl)
     |true=>
      rw[bg]at U;have bl:=bf U;clear E U
      gi_wp2_with (first|(refine⟨trivial,?_⟩;gi_at_call 204;refine(mR lp (gy.2 T.out)).mono ?_;rintro e f ⟨rfl,b⟩;have I:aN A (f.alloc (aA (aO (fr c)) 134)):=b.alloc b.size _;have H:=cu.of (bW I z.out.1);obtain⟨q0,q1,q2,q3,q4,q5,q6,q7,q8,q9⟩:=H;have O:=b.size;have Kz:w.heap.size≠f.heap.size:=ak;have d2:=bW b z.out.2;have an:=aS f (w.heap.size+1) 0 (.bool av) d2;have aG:=bF d2 0)|(refine⟨trivial,?_⟩;gi_at_call 241;refine(mR lp (gy.2 (bl.out _))).mono ?_;rintro e w2 ⟨rfl,lZ⟩;have Z:aN A (f.alloc (aA (aO (fr c)) 134)):=b.alloc b.size _;have cy:=Z.trans (lZ.mono Z.size);have d3:=bW cy z.out.2;have dm:=aS w2 (w.heap.size+1) 0 (.bool av) d3;have dr:=bF d3 0))
      exact cD.out _ cy (by rw[HH.out,hrd,bH,bg];rfl)
  case stop=>
   rintro pre A ⟨rr,hv⟩ ⟨P,F⟩ bw;have HX:Hid (tY w (ahead r fr rd) pre A/\A.heap[(w.heap.size+3)]? =aa (.deferred (aa []))):=⟨P,F⟩;clear P F
   gi_wp2
   obtain⟨⟨m,y,⟨j,C,bE⟩,D⟩,Q⟩:=HX.out;have bJ:(A.putObj u.heap.size (.deferred ay)).heap[(w.heap.size+3)]? =aa (.deferred (aa [])):=(fS ak).trans Q;have J:=aI (w:=(A.putObj u.heap.size (.deferred ay)).putObj (w.heap.size+3) (.deferred ay)) ((fS ak).trans ((fS ak).trans y)) (i:=0) (v:=.bool aq) rfl;refine⟨aC,aF ⟨_,_,rfl,qP bw,aC,aF ⟨_,_,rfl,qP bJ,.bool aq,by simp[results,results205,go_sem,J],?_,?_⟩⟩⟩
   ·have:(cP cs).any (ahead r fr rd)=aq:=rS.2 ⟨j,by rw[hv];simp[C],bE⟩;rw[this,Bool.or_true]
   ·exact(m.grown (Ee _ _ _) m.size (λk e=>by cases e;omega)).grown (Ee _ _ _) (by have:=m.size;simpa using this) (λk e=>by cases e;omega)
  case done=>
   rintro ys A rfl ⟨d,F⟩ bw;have cR:=aS A (w.heap.size+1) 0 (.bool av) d.2.2.1;have fR:=bF d.2.2.1 0;have s:Hid (nS w r (ahead r fr rd) (cP cs) A/\A.heap[(w.heap.size+3)]? =aa (.deferred (aa []))):=⟨d,F⟩;clear d F
   gi_wp2
   obtain⟨⟨m,y,G,D,i6⟩,Q⟩:=s.out;have cM:(A.setCell (aj (w.heap.size+1) 0) (.bool av)).heap[u.heap.size]? =aa (.deferred (aa [])):=nY bw ak _ _;have bJ:((A.setCell (aj (w.heap.size+1) 0) (.bool av)).putObj u.heap.size (.deferred ay)).heap[(w.heap.size+3)]? =aa (.deferred (aa [])):=(fS ak).trans (nY Q ak _ _);have Kj:(A.setCell (aj (w.heap.size+1) 0) (.bool av)).heap[w.heap.size+1]? =aa (aA #[.bool av] 4 (0,0)):=dF G 0 _;have J:=aI (w:=((A.setCell (aj (w.heap.size+1) 0) (.bool av)).putObj u.heap.size (.deferred ay)).putObj (w.heap.size+3) (.deferred ay)) ((fS ak).trans ((fS ak).trans Kj)) (i:=0) (v:=.bool av) rfl;refine⟨aC,aF ⟨_,_,rfl,qP cM,aC,aF ⟨_,_,rfl,qP bJ,.bool av,by simp[results,results205,go_sem,J],?_,?_⟩⟩⟩
   ·have:(cP cs).any (ahead r fr rd)=av:=by
     rw[AO];intro j C;rw[D j C];simp
    rw[this,HN.out];rfl
   ·have bI:=m.setCell (p:=aj (w.heap.size+1) 0) (kB _) (.bool av);exact(bI.grown (Ee _ _ _) bI.size (λk e=>by cases e;omega)).grown (Ee _ _ _) (by have:=bI.size;simpa using this) (λk e=>by cases e;omega)
end
section
attribute [local go_sem ↓] Go.wp_at_zero Go.wp_at_succ
attribute [local go_sem] bV bQ
open Go.Conc Go.RowKit
open Go.Proofs.Tryz
def afE{w W}(h:aN w W)(u0 u1 u2 u3 u4 u5 u6 u7 u8 u9):aN w ((((((((((W.setCell (aj w.heap.size 0) u0).setCell (aj w.heap.size 1) u1).setCell (aj w.heap.size 2) u2).setCell (aj w.heap.size 3) u3).setCell (aj w.heap.size 4) u4).setCell (aj w.heap.size 5) u5).setCell (aj w.heap.size 6) u6).setCell (aj w.heap.size 7) u7).setCell (aj w.heap.size 8) u8).setCell (aj w.heap.size 9) u9):=
 cZ (cZ (cZ (cZ (cZ (cZ (cZ (cZ (cZ (cZ h _ _) _ _) _ _) _ _) _ _) _ _) _ _) _ _) _ _) _ _
def lC.cells{W B}(h:lC W B):(W.cell? (aj B 0)=aa (an 0)/\W.cell? (aj B 1)=aa (.string ⟨#[]⟩)/\W.cell? (aj B 2)=aa (an 0)/\W.cell? (aj B 3)=aa (an 0)/\W.cell? (aj B 4)=aa (an 0)/\W.cell? (aj B 5)=aa (an 0)/\W.cell? (aj B 6)=aa (an 0)/\W.cell? (aj B 7)=aa (.string ⟨#[]⟩)/\W.cell? (aj B 8)=aa (an 0)/\W.cell? (aj B 9)=aa (an 0))/\∀i,W.frozen? (aj B i)=av:=
 ⟨⟨aI h rfl,aI h rfl,aI h rfl,aI h rfl,aI h rfl,aI h rfl,aI h rfl,aI h rfl,aI h rfl,aI h rfl⟩,λi=>bF h i⟩
def j6(xb c f rd hd w)(hR:∀W,aN w W->bN 204 #[jp c] W (.tuple #[.agg (aO f),.bool rd]))(C:rd=aq->∀W,aN w W->bN 205 #[jp xb,.agg (aO f)] W (.bool hd)):
  bN 166 #[jp xb,jp c] w (.tuple #[.agg (aO f),.bool (rd&&!hd)]):=by
 have j:aN w (w.alloc (aA kV 134)):=bp;have D:lC (w.alloc (aA kV 134)) w.heap.size:=cG w _
 have B:Hid (Calls prog 204 #[jp c] (w.alloc (aA kV 134)) λe b=>e=aM (.tuple #[.agg (aO f),.bool rd])/\aN w b/\lC b w.heap.size/\w.heap.size<b.heap.size):=by refine(hR _ j).mono ?_;rintro e b ⟨rfl,g⟩;exact⟨rfl,j.trans (g.mono j.size),bW g D,by have:=g.size;simp at this;omega⟩
 have m:=bf C;clear hR C j D;go_enter func166,ntmps166
 go_upto_region 2 with(go_at_call 204;refine B.out.mono ?_;rintro e a ⟨rfl,o,E,M⟩)
 have n:aN a (a.alloc (aA (aO f) 134)):=bp;have k:(a.alloc (aA (aO f) 134)).heap[a.heap.size]? =aa (aA (aO f) 134 (0,0)):=cG a _;have i:=bf (o.trans (n.mono o.size));have h:lC (a.alloc (aA (aO f) 134)) w.heap.size:=bW n E;clear n E o B;show Dr _ _ _ _ (a.alloc (aA (aO f) 134));generalize a.alloc (aA (aO f) 134)=l at*;have F:cu l a.heap.size f:=cu.of k;cases rd with
 |false=>
  obtain⟨⟨p,q,r,s,t,u,x,y,z,A⟩,H⟩:=lC.cells h;refine iD ?_;refine dY (S:=λW=>cu W a.heap.size f) 8 aT F ?_;intro hS;clear h k m;refine gs 0 ?_;refine gk 1 ?_;refine gk 2 ?_;refine g0 3 ?_;refine g0 4 ?_;refine g0 5 ?_;refine g0 6 ?_;refine gk 7 ?_;refine gz λK d=>?_;go_simp;refine d.out _ _ ?_;clear d K;refine ga 9 ?_;refine ef aT ?_ _;refine gE ?_;go_wp2;refine gn (v:=.tuple #[.agg (aO f),.bool av]) (by simp[results,results166,go_sem,p,q,r,s,t,u,x,y,z,A]) rfl ⟨rfl,?_⟩;exact EL i.out _ _ _ _ _ _ _ _ _ _
 |true=>
  have G:Hid (Calls prog 205 #[jp xb,.agg (aO f)] l.drew λe b=>e=aM (.bool hd)/\aN w b/\lC b w.heap.size/\b.heap[a.heap.size]? =aa (aA (aO f) 134 (0,0))):=by refine(m.out rfl l.drew i.out.drew).mono ?_;rintro e b ⟨rfl,g⟩;exact⟨rfl,i.out.drew.trans (g.mono i.out.size),bW g h,bW g k⟩
  refine iD ?_;refine dY (S:=λW=>cu W a.heap.size f) 8 aT F ?_;intro hS;clear h k m;refine gs 0 ?_;refine gk 1 ?_;refine gk 2 ?_;refine gk 3 ?_;refine gs 4 ?_;refine gr 5 λK d=>?_;go_simp;go_at_call 205;refine G.out.mono ?_;rintro e N ⟨rfl,J,h,I⟩;refine d.out _ _ (cu.of I) (λL=>?_);clear d K;obtain⟨⟨p,q,r,s,t,u,x,y,z,A⟩,H⟩:=lC.cells h;refine gk 6 ?_;refine gk 7 ?_;refine gz λK d=>?_;go_simp;refine d.out _ _ ?_;clear d K;refine ga 9 ?_;refine ef aT ?_ _;refine gE ?_;go_wp2;refine gn (v:=.tuple #[.agg (aO f),.bool (!hd)]) (by simp[results,results166,go_sem,p,q,r,s,t,u,x,y,z,A]) rfl ⟨aC,?_⟩;exact(afE J _ _ _ _ _ _ _ _ _ _)
abbrev vr(xb b:Nat)(a:Int)(f:Rq)(W:az):Prop:=W.cell? (aj xb 3)=aa (an a)/\cu W b f
def vr.old{xb b mx f W W'}(h:vr xb b mx f W)(a:aN W W'):vr xb b mx f W':=⟨bO a h.1,h.2.old a⟩
def G3(xb c j f fr h ft mx w)(v:w.cell? (aj xb 3)=aa (an mx))(hF:bN 166 #[jp xb,jp c] w (.tuple #[.agg (aO f),.bool fr]))(s:∀W,aN w W->bN 168 #[jp c,.agg (aO f)] W (.bool h))(t:fr=aq->h=aq->∀W,aN w W->bN 243 #[jp j,.agg (aO f),an mx] W (.bool ft)):
  bN 208 #[jp xb,jp c,jp j] w (.bool (fr&&(h&&ft))):=by
 have m:=bf hF;have n:=bf s;have z:=bf t;have A:=bf v;clear hF s t v;go_enter func208,ntmps208
 go_upto_region 2 with(go_at_call 166;refine m.out.mono ?_;rintro e a ⟨rfl,l⟩)
 have o:aN a (a.alloc (aA (aO f) 134)):=bp;have p:(a.alloc (aA (aO f) 134)).heap[a.heap.size]? =aa (aA (aO f) 134 (0,0)):=cG a _;have b:=bf (l.trans (o.mono l.size));clear o l m;show Dr _ _ _ _ (a.alloc (aA (aO f) 134));generalize a.alloc (aA (aO f) 134)=y at*;have C:vr xb a.heap.size mx f y:=⟨bO b.out A.out,cu.of p⟩;clear p;refine fq (S:=vr xb a.heap.size mx f) C λr=>?_;cases fr with
 |false=>
  refine tk 0 ?_;refine tk 1 ?_;refine bH 2 ?_;refine bH 3 ?_;refine bH 4 ?_;refine tk 5 ?_;refine tk 6 ?_;refine bH 7 ?_;refine bH 8 ?_;refine bH 9 ?_;refine bH 10 ?_;refine bH 11 ?_;refine bH 12 ?_;refine bH 13 ?_;refine bH 14 ?_;refine tk 15 ?_;refine tk 16 ?_;refine dL ?_;go_wp2;go_ret;exact⟨rfl,b.out.trans (iU (Below.refl _ _) _)⟩
 |true=>
  cases h with
  |false=>
   refine tk 0 ?_;refine tk 1 ?_;refine tk 2 ?_;refine tk 3 ?_;refine rH 4 λK d=>?_;go_simp;go_at_call 168;refine(n.out _ (b.out.trans (iU (Below.refl _ _) _))).mono ?_;rintro e x ⟨rfl,g⟩;have k:=vr.old r g;refine d.out _ _ k (λq=>?_);clear d K;refine tk 5 ?_;refine tk 6 ?_;refine bH 7 ?_;refine bH 8 ?_;refine bH 9 ?_;refine bH 10 ?_;refine bH 11 ?_;refine bH 12 ?_;refine bH 13 ?_;refine bH 14 ?_;refine tk 15 ?_;refine tk 16 ?_;refine dL ?_;go_wp2;go_ret;exact⟨rfl,b.out.trans (EI g b.out.size)⟩
  |true=>
   refine tk 0 ?_;refine tk 1 ?_;refine tk 2 ?_;refine tk 3 ?_;refine rH 4 λK d=>?_;go_simp;go_at_call 168;refine(n.out _ (b.out.trans (iU (Below.refl _ _) _))).mono ?_;rintro e x ⟨rfl,g⟩;have k:=vr.old r g;refine d.out _ _ k (λq=>?_);clear d K;refine tk 5 ?_;refine tk 6 ?_;refine tk 7 ?_;refine tk 8 ?_;refine tk 9 ?_;refine tk 10 ?_;refine tk 11 ?_;refine tk 12 ?_;refine tk 13 ?_;refine rH 14 λK d=>?_;go_simp;go_at_call 243;have i:aN w x:=b.out.trans (EI g b.out.size);refine(z.out rfl rfl _ i).mono ?_;rintro e E ⟨rfl,u⟩;have B:=vr.old q u;refine d.out _ _ B (λD=>?_);clear d K;refine tk 15 ?_;refine tk 16 ?_;refine dL ?_;go_wp2;go_ret;exact⟨aC,i.trans (u.mono i.size)⟩
end
section
open Go.Conc Go.RowKit
open Go.Proofs.Tryz
structure Jb where
 s:Nat
 rs:aB Rq
 ft:Ft
 due:Int
 order:Nat
abbrev Jb.key(b:Jb):Key:=(b.due,(b.order:Int))
structure En where
 no:Int
 ck:Int
 kd:Int
 fl:Int
 of:Int
 ln:Int
 er:Int
abbrev mI(e:En):aB aD:=[an e.no,an e.ck,an e.kd,an e.fl,an e.of,an e.ln,an e.er]
structure Fx where
 g:Cf
 K:aB (aZ Ck)
 cM:Int
 acc:Int
 bz:Nat
 clock:Int
 stop:Bool
 aG:Nat
 opn:Bool
 bP:aB Ft
 fl:aB Jb
 B:aJ UInt8
 D:aJ UInt8
 C:aB (Nat×aB UInt8)
 log:aB En
structure Lc where
 c:Nat
 rb:Nat
 mb:Nat
 ch:Nat
 q:aD
 v:aD
def Lc.ij(l:Lc)(P:Nat->Prop):Prop:=P l.c/\P l.rb/\P l.mb/\P l.ch/\(∀b,l.q.ownBlock=aa b->P b)/\∀b,l.v.ownBlock=aa b->P b
def Lc.ij.mono{l:Lc}{P Q:Nat->Prop}(h:l.ij P)(hm:∀b,P b->Q b):l.ij Q:=⟨hm _ h.1,hm _ h.2.1,hm _ h.2.2.1,hm _ h.2.2.2.1,λb a=>hm _ (h.2.2.2.2.1 b a),λb a=>hm _ (h.2.2.2.2.2 b a)⟩
structure Lj where
 j:Nat
 rv:aD
def Lj.ij(l:Lj)(P:Nat->Prop):Prop:=P l.j/\∀b,l.rv.ownBlock=aa b->P b
structure dy where
 sb:Nat
 cs:aB (aZ Lc)
 js:aB Lj
 hv:aD
 hf:Nat->Nat
 key:Nat->Key
 fv:aD
 lv:aD
 d:Nat
 bb:Nat
 db:Nat
 cv:aD
 own:Nat->Nat
abbrev lJ(f:Fx)(L:dy):aJ aD:=
 #[an f.g.sz,an f.g.cl,an f.g.qu,an f.g.mx,an f.g.qn,an f.g.rt,an f.g.bu,an f.g.wk,an f.g.ou,.slice (aa (aj L.sb 0)) f.K.length f.K.length,an f.cM,an f.acc,an f.bz,an f.clock,.bool f.stop,an f.aG,.bool f.opn,L.fv,L.hv,aR L.d,L.lv]
abbrev Lc.At(l:Lc)(W:az)(g:Cf)(k:Ck):Prop:=cj W l.c l.rb l.mb l.ch l.q l.v g k
def Lc.At.eH{l:Lc}{W:az}{g:Cf}{k:Ck}(h:l.At W g k):l.ij (·<W.heap.size):=
 ⟨h.p.eH.1,(cj.eH h).1,(cj.eH h).2,h.p.eH.2.1,h.p.eH.2.2.1,h.p.eH.2.2.2⟩
def oW(W:az)(own:Nat->Nat)(g:Cf)(s:Nat):aZ Ck->aZ Lc->Prop
 |none,ay=>True
 |some k,aa l=>l.At W g k/\l.ij λb=>own b=7+2*s
 |_,_=>False
structure xj(W:az)(own:Nat->Nat)(g:Cf)(K:aB (aZ Ck))(cs:aB (aZ Lc)):Prop where
 len:cs.length=K.length
 at_:∀(s:Nat) a b,K[s]? =aa a->cs[s]? =aa b->oW W own g s a b
def fj(W:az)(own:Nat->Nat)(cs:aB (aZ Lc))(b:Jb)(l:Lj):Prop:=
 ∃lc,cs[b.s]? =aa (aa lc)/\eP W l.j lc.c l.rv b.rs b.ft b.due b.order/\l.ij λx=>own x=8+2*b.order
structure BI(W:az)(own:Nat->Nat)(cs:aB (aZ Lc))(fl:aB Jb)(js:aB Lj):Prop where
 len:js.length=fl.length
 at_:∀(i:Nat) b l,fl[i]? =aa b->js[i]? =aa l->fj W own cs b l
structure Jl(W:az)(own:Nat->Nat)(xb:Nat)(hv:aD)(hf:Nat->Nat)(key:Nat->Key)(fl:aB Jb)(js:aB Lj):Prop where
 row:W.ownsRow 0 130 1 hv fl.length (jN fl.length hf)
 own:∀b,hv.ownBlock=aa b->own b=3
 aU:∀x,x<fl.length->∃(i:Nat) (l:Lj),js[i]? =aa l/\hf x=l.j
 all:∀(i:Nat) (l:Lj),js[i]? =aa l->∃x,x<fl.length/\hf x=l.j
 one:∀x y,x<fl.length->y<fl.length->hf x=hf y->x=y
 keys:∀(i:Nat) b l,fl[i]? =aa b->js[i]? =aa l->key l.j=b.key
 heap:Hp fl.length λx=>key (hf x)
structure aL(W:az)(f:Fx)(xb:Nat)(L:dy):Prop where
 box:W.heap[xb]? =aa (aA (lJ f L) 112 (0,0))
 eR:L.own xb=1
 dX:xw W L.sb (L.cs.map λl=>l.map Lc.c)
 jd:L.own L.sb=2
 cs:xj W L.own f.g f.K L.cs
 js:BI W L.own L.cs f.fl L.js
 fl:Jl W L.own xb L.hv L.hf L.key f.fl L.js
 bP:W.ownsRow 0 188 3 L.fv f.bP.length (f.bP.flatMap λt=>(ep t).toList)
 lY:∀b,L.fv.ownBlock=aa b->L.own b=4
 log:W.ownsRow 0 96 7 L.lv f.log.length (f.log.flatMap mI)
 mM:∀b,L.lv.ownBlock=aa b->L.own b=5
 fO:jF W L.d L.bb L.db L.cv f.B.size f.B f.D f.C
 oo:L.own L.d=6/\L.own L.bb=6/\L.own L.db=6/\∀b,L.cv.ownBlock=aa b->L.own b=6
def gu(own:Nat->Nat)(n t:Nat):Nat->Nat:=λb=>if b<n then own b else t
def iO{own n t b}(h:b<n):gu own n t b=own b:=by simp[gu,h]
def uw{own n t b}(h:n<=b):gu own n t b=t:=by simp[gu];omega
structure fE(W W':az)(own cA:Nat->Nat)(T:Nat->Prop):Prop where
 keep:∀b,b<W.heap.size->¬T (own b)->W'.heap[b]? =W.heap[b]?
 own:∀b,b<W.heap.size->cA b=own b
section
variable {W W':az} {own cA:Nat->Nat} {T:Nat->Prop}
def nH{S k n v xs}(h:W.ownsRow 0 S k v n xs):∀b,v.ownBlock=aa b->b<W.heap.size:=λb a=>(h.lt b a).2
def fE.row{S k n o v xs}(a:fE W W' own cA T)(h:W.ownsRow 0 S k v n xs)(d:∀b,v.ownBlock=aa b->own b=o)(e:¬T o):W'.ownsRow 0 S k v n xs/\∀b,v.ownBlock=aa b->cA b=o:=
 ⟨eL h λb c=>a.keep b (nH h b c) (by grind),λb c=>(a.own b (nH h b c)).trans (d b c)⟩
def fE.blk{b o x}(a:fE W W' own cA T)(h:W.heap[b]? =aa x)(d:own b=o)(e:¬T o):W'.heap[b]? =aa x/\cA b=o:=
 have c:=(bq.1 h).1
 ⟨(a.keep b c (by grind)).trans h,(a.own b c).trans d⟩
def fE.aG{g:Cf}{s:Nat}{k:aZ Ck}{l:aZ Lc}(a:fE W W' own cA T)(h:oW W own g s k l)(n:¬T (7+2*s)):oW W' cA g s k l:=by cases k<;>cases l<;>simp only[oW]at h⊢;rename_i k l;obtain⟨i,d⟩:=h;have e:=i.eH;have j:l.ij λb=>own b=7+2*s/\b<W.heap.size:=⟨⟨d.1,e.1⟩,⟨d.2.1,e.2.1⟩,⟨d.2.2.1,e.2.2.1⟩,⟨d.2.2.2.1,e.2.2.2.1⟩,λb c=>⟨d.2.2.2.2.1 b c,e.2.2.2.2.1 b c⟩,λb c=>⟨d.2.2.2.2.2 b c,e.2.2.2.2.2 b c⟩⟩;refine⟨cj.keep i (O:=λb=>own b=7+2*s) d λb c m=>a.keep b m (by grind),j.mono λb c=>(a.own b c.2).trans c.1⟩
def fj.aside{cs cs' b l}(a:fE W W' own cA T)(h:fj W own cs b l)(hc:∀lc,cs[b.s]? =aa (aa lc)->∃i,cs'[b.s]? =aa (aa i)/\i.c=lc.c)(k:¬T (8+2*b.order)):fj W' cA cs' b l:=by obtain⟨lc,m,e,g⟩:=h;obtain⟨i,n,o⟩:=hc lc m;have j:=(bq.1 e.box).1;have hr:=nH e.row;refine⟨i,n,?_,(a.own _ j).trans g.1,λx d=>(a.own x (hr x d)).trans (g.2 x d)⟩;rw[o];exact⟨(a.keep _ j (by rw[g.1];exact k)).trans e.box,eL e.row λx d=>a.keep x (hr x d) (by rw[g.2 x d];exact k)⟩
def fE.fO{d bb db n cv B D C}(a:fE W W' own cA T)(h:jF W d bb db cv n B D C)(c:own d=6/\own bb=6/\own db=6/\∀b,cv.ownBlock=aa b->own b=6)(e:¬T 6):jF W' d bb db cv n B D C/\cA d=6/\cA bb=6/\cA db=6/\∀b,cv.ownBlock=aa b->cA b=6:=by have b1:=a.blk h.box c.1 e;have g:=a.blk h.bytes c.2.1 e;have i:=a.blk h.zF c.2.2.1 e;have j:=a.row h.cache c.2.2.2 e;exact⟨⟨b1.1,g.1,i.1,j.1,h.sizes,h.fits,h.apart,h.small⟩,b1.2,g.2,i.2,j.2⟩
def fE.cs{g K cs}(a:fE W W' own cA T)(h:xj W own g K cs)(b:∀s,¬T (7+2*s)):xj W' cA g K cs:=⟨h.len,λs x y c d=>a.aG (h.at_ s x y c d) (b s)⟩
def fE.EX{g K cs s k l}(a:fE W W' own cA T)(h:xj W own g K cs)(i:∀x,x≠s->¬T (7+2*x))(d:oW W' cA g s k l):xj W' cA g (K.set s k) (cs.set s l):=by
 refine⟨by simp[h.len],λx y z b c=>?_⟩
 by_cases e:x=s
 ·subst e;have j:x<K.length:=by grind
  rw[qJ j]at b;rw[qJ (by grind)]at c;cases b;cases c;exact d
 ·rw[tL (dc e)]at b c;exact a.aG (h.at_ x y z b c) (i x e)
def fE.js{cs cs' fl js}(a:fE W W' own cA T)(h:BI W own cs fl js)(hc:∀(s:Nat) lc,cs[s]? =aa (aa lc)->∃d,cs'[s]? =aa (aa d)/\d.c=lc.c)(j:∀n,¬T (8+2*n)):BI W' cA cs' fl js:=
 ⟨h.len,λi b l e g=>(h.at_ i b l e g).aside a (hc b.s) (j _)⟩
def fE.qp{xb hv hf key fl js}(a:fE W W' own cA T)(h:Jl W own xb hv hf key fl js)(c:¬T 3):Jl W' cA xb hv hf key fl js:=
 have b:=a.row h.row h.own c
 ⟨b.1,b.2,h.aU,h.all,h.one,h.keys,h.heap⟩
def pN{cs:aB (aZ Lc)}:∀(s:Nat) lc,cs[s]? =aa (aa lc)->∃a,cs[s]? =aa (aa a)/\a.c=lc.c:=λs lc h=>⟨lc,h,rfl⟩
def Md{cs:aB (aZ Lc)}{t:Nat}{l l':Lc}(b:cs[t]? =aa (aa l))(hc:l'.c=l.c):∀(s:Nat) lc,cs[s]? =aa (aa lc)->∃a,(cs.set t (aa l'))[s]? =aa (aa a)/\a.c=lc.c:=λs lc h=>by grind
def Sw{cs:aB (aZ Lc)}{t:Nat}{l l':Lc}(a:cs[t]? =aa (aa l))(hc:l'.c=l.c):(cs.set t (aa l')).map (λl=>l.map Lc.c)=cs.map λl=>l.map Lc.c:=by
 refine yJ λs=>?_;rw[jA,jA]
 by_cases e:s=t
 ·subst e;rw[qJ (dS.1 a).1,a];simp[hc]
 ·rw[tL (dc e)]
end
section
variable {W W':az} {f:Fx} {xb:Nat} {L:dy}
def aL.old(h:aL W f xb L)(j:∀b,b<W.heap.size->W'.heap[b]? =W.heap[b]?):aL W' f xb L:=by have a:fE W W' L.own L.own λ_=>False:=⟨λb i _=>j b i,λb _=>rfl⟩;have n:∀{p:Prop},¬(False/\p):=λh=>h.1;have b1:=a.blk h.box h.eR id;have c:=a.blk h.dX h.jd id;have d:=a.row h.bP h.lY id;have e:=a.row h.log h.mM id;have g:=a.fO h.fO h.oo id;exact⟨b1.1,b1.2,c.1,c.2,a.cs h.cs (λ_=>id),a.js h.js pN (λ_=>id),a.qp h.fl id,d.1,d.2,e.1,e.2,g.1,g.2⟩
def aL.below(h:aL W f xb L)(a:aN W W'):aL W' f xb L:=h.old λb c=>a.block b c
def aL.drewN(h:aL W f xb L)(n):aL (W.drewN n) f xb L:=h.old λb a=>rfl
def aL.drew(h:aL W f xb L):aL W.drew f xb L:=h.old λb a=>rfl
def aL.client(h:aL W f xb L){s:Nat}{k k':Ck}{l l':Lc}{cA:Nat->Nat}(q:L.cs[s]? =aa (aa l))(hc:l'.c=l.c)(y:f.K[s]? =aa (aa k)){X:Nat->Prop}(w:bh X W W')(v:∀b,b<W.heap.size->X b->L.own b=7+2*s)(hr:l'.At W' f.g k')(u:∀b,b<W.heap.size->cA b=L.own b)(d:l'.ij λb=>cA b=7+2*s):
  aL W' {f with K:=f.K.set s (aa k')} xb {L with cs:=L.cs.set s (aa l'),own:=cA}:=by
 have a:fE W W' L.own cA λt=>t=7+2*s:=⟨λb p d=>w.block b p λr=>d (v b p r),u⟩;have b1:=a.blk h.box h.eR ak;have i:=a.blk h.dX h.jd ak;have j:=a.row h.bP h.lY ak;have m:=a.row h.log h.mM ak;have o:=a.fO h.fO h.oo ak;refine⟨?_,b1.2,?_,i.2,a.EX h.cs (λx r=>by omega) ⟨hr,d⟩,a.js h.js (Md q hc) (λn=>by omega),a.qp h.fl ak,j.1,j.2,m.1,m.2,o.1,o.2⟩
 ·have e:=b1.1;simpa[lJ]using e
 ·have e:=i.1;show xw W' L.sb ((L.cs.set s (aa l')).map λl=>l.map Lc.c);rw[Sw q hc];exact e
def aL.put(h:aL W f xb L)(i u f')(d:(lJ f L).setIfInBounds i u=lJ f' L)(o:f'.g=f.g)(p:f'.K=f.K)(n:f'.fl=f.fl)(q:f'.bP=f.bP)(r:f'.log=f.log)(c:f'.B=f.B/\f'.D=f.D/\f'.C=f.C):aL (W.setCell (aj xb i) u) f' xb L:=by
 have a:fE W (W.setCell (aj xb i) u) L.own L.own λt=>t=1:=⟨λb d v=>cw (λe=>v (by rw[e];exact h.eR)),λb d=>rfl⟩;have j:=a.blk h.dX h.jd ak;have k:=a.row h.bP h.lY ak;have l:=a.row h.log h.mM ak;have m:=a.fO h.fO h.oo ak;refine⟨?_,h.eR,j.1,j.2,?_,?_,?_,?_,k.2,?_,l.2,?_,m.2⟩
 ·rw[<-d];exact dF h.box i u
 ·rw[o,p];exact a.cs h.cs (λs=>by omega)
 ·rw[n];exact a.js h.js pN (λs=>by omega)
 ·rw[n];exact a.qp h.fl ak
 ·rw[q];exact k.1
 ·rw[r];exact l.1
 ·rw[c.1,c.2.1,c.2.2];exact m.1
end
end
section
attribute [local go_sem ↓] Go.wp_at_zero Go.wp_at_succ
attribute [local go_sem] bV bQ
open Go.Conc Go.RowKit
open Go.Proofs.Tryz
section
variable {W W1:az} {f:Fx} {xb:Nat} {L:dy} {X:Nat->Prop}
def bh.asd{t cA}(g:bh X W W1)(d:∀b,b<W.heap.size->X b->L.own b=t)(c:∀b,b<W.heap.size->cA b=L.own b):fE W W1 L.own cA λx=>x=t:=⟨λb a e=>g.block b a λh=>e (d b a h),c⟩
def aL.TD(h:aL W f xb L){i t v' cA}(q:bh X W W1)(l:∀b,b<W.heap.size->X b->L.own b=t)(c:t≠1){S k n xs}(hr:W1.ownsRow 0 S k v' n xs)(d:∀b,b<W.heap.size->cA b=L.own b)(j:∀b,v'.ownBlock=aa b->cA b=t):
  fE W (W1.setCell (aj xb i) v') L.own cA (λx=>x=t\/x=1)/\(W1.setCell (aj xb i) v').ownsRow 0 S k v' n xs/\(W1.setCell (aj xb i) v').heap[xb]? =aa (aA ((lJ f L).setIfInBounds i v') 112 (0,0)):=by
 have a:=q.asd l d;have m:=a.blk h.box h.eR (dc c);have r:xb<W.heap.size:=(bq.1 h.box).1;refine⟨?_,eL hr λb o=>cw λe=>?_,dF m.1 i v'⟩
 ·refine⟨λb p g=>?_,a.own⟩;rw[cw λe=>g (aE (by grind))];exact a.keep b p λe=>g (aF e)
 ·have:=j b o;rw[e,d xb r,h.eR]at this;exact c this.symm
def aL.eo(h:aL W f xb L){c l cA}(m:bh X W W1)(k:∀b,b<W.heap.size->X b->L.own b=4)(hr:W1.ownsRow 0 188 3 c l.length (l.flatMap λt=>(ep t).toList))(j:∀b,b<W.heap.size->cA b=L.own b)(i:∀b,c.ownBlock=aa b->cA b=4):
  aL (W1.setCell (aj xb 17) c) {f with bP:=l} xb {L with fv:=c,own:=cA}:=by
 obtain⟨a,n,o⟩:=h.TD m k ak hr j i;have d:=a.blk h.dX h.jd ak;have e:=a.row h.log h.mM ak;have g:=a.fO h.fO h.oo ak;exact⟨o,(j xb ((bq.1 h.box).1)).trans h.eR,d.1,d.2,a.cs h.cs (λs=>by omega),a.js h.js pN (λs=>by omega),a.qp h.fl ak,n,i,e.1,e.2,g.1,g.2⟩
def aL.logs(h:aL W f xb L){c l cA}(m:bh X W W1)(k:∀b,b<W.heap.size->X b->L.own b=5)(hr:W1.ownsRow 0 96 7 c l.length (l.flatMap mI))(j:∀b,b<W.heap.size->cA b=L.own b)(i:∀b,c.ownBlock=aa b->cA b=5):
  aL (W1.setCell (aj xb 20) c) {f with log:=l} xb {L with lv:=c,own:=cA}:=by
 obtain⟨a,n,o⟩:=h.TD m k ak hr j i;have d:=a.blk h.dX h.jd ak;have e:=a.row h.bP h.lY ak;have g:=a.fO h.fO h.oo ak;exact⟨o,(j xb ((bq.1 h.box).1)).trans h.eR,d.1,d.2,a.cs h.cs (λs=>by omega),a.js h.js pN (λs=>by omega),a.qp h.fl ak,e.1,e.2,n,i,g.1,g.2⟩
def aL.owns(h:aL W f xb L)(cA)(i:∀b,b<W.heap.size->cA b=L.own b):aL W f xb {L with own:=cA}:=by have a:fE W W L.own cA λ_=>False:=⟨λb j _=>rfl,i⟩;have b1:=a.blk h.box h.eR id;have c:=a.blk h.dX h.jd id;have d:=a.row h.bP h.lY id;have e:=a.row h.log h.mM id;have g:=a.fO h.fO h.oo id;exact⟨b1.1,b1.2,c.1,c.2,a.cs h.cs (λ_=>id),a.js h.js pN (λ_=>id),a.qp h.fl id,d.1,d.2,e.1,e.2,g.1,g.2⟩
def aL.uo(h:aL W f xb L)(j:∀b,b<W.heap.size->L.own b≠0->W1.heap[b]? =W.heap[b]?):aL W1 f xb L:=by have a:fE W W1 L.own L.own λt=>t=0:=⟨λb i k=>j b i k,λb _=>rfl⟩;have b1:=a.blk h.box h.eR ak;have c:=a.blk h.dX h.jd ak;have d:=a.row h.bP h.lY ak;have e:=a.row h.log h.mM ak;have g:=a.fO h.fO h.oo ak;exact⟨b1.1,b1.2,c.1,c.2,a.cs h.cs (λ_=>by omega),a.js h.js pN (λ_=>by omega),a.qp h.fl ak,d.1,d.2,e.1,e.2,g.1,g.2⟩
end
def Fx.eo(f:Fx):Ft:=match f.bP with
 |[]=>⟨1,av,0⟩
 |t::_=>t
def C3(t:Ft):(ep t).toList.length=3:=rfl
def C4(l:aB Ft):∀u∈l.flatMap (λt=>(ep t).toList),u.oneCell'=aq:=λu a=>by obtain⟨t,_,h⟩:=DQ.1 a;simp[ep]at h;rcases h with rfl|rfl|rfl<;>rfl
def LP{w:az}{T k n:Nat}{v:aD}{xs:aB aD}(h:w.ownsRow 0 T k v n xs):∃a b,v=.slice a n b/\n<=b/\b<=cC:=by
 rcases h.2 with⟨c,d⟩|⟨g,b,i,c,_,_,e,f,_⟩
 ·exact⟨ay,0,by rw[c,d],ak,by unfold cC;omega⟩
 ·exact⟨_,b,c,e,f⟩
def yc{w:az}{T k n:Nat}{v:aD}{xs:aB aD}(h:w.ownsRow 0 T k v n xs)(h0:0<n):∃g b,v=.slice (aa (aj g 0)) n b/\∀j u,xs[j]? =aa u->w.cell? (aj g j)=aa u:=by
 rcases h.2 with⟨c,d⟩|⟨g,b,f,c,_,d,_,_,i,e⟩
 ·omega
 ·refine⟨g,b,c,λj u a=>aI d ?_⟩;rw[<-e,qK]at a;split at a
  ·rw[oC]at a;exact a
  ·cases a
def Z0(xb f L w)(h:aL w f xb L)(hf:f.bP=[]):
  bN 211 #[jp xb] w (.agg (ep f.eo)):=by
 obtain⟨a,b,e,_⟩:=LP h.bP
 have c:w.cell? (aj xb 17)=aa (.slice a 0 b):=by have:=aI h.box (i:=17) (v:=L.fv) rfl;rw[this,e,hf];rfl
 have d:xb<w.heap.size:=(bq.1 h.box).1;have d17:(w.alloc (aA #[an 0,.bool av,an 0] 188)).cell? (aj xb 17)=aa (.slice a 0 b):=bO (bp) c;have hF:f.eo=⟨1,av,0⟩:=by simp[Fx.eo,hf]
 rw[hF];clear h e hF hf;go_enter func211,ntmps211;go_wp2;refine gn (v:=.agg (ep ⟨1,av,0⟩)) (by simp[results,results211,go_sem]) rfl ⟨rfl,?_⟩;exact bp
def Z1(xb:Nat)(f:Fx)(L:dy)(t:Ft)(l:aB Ft)(w:az)(h:aL w f xb L)(hf:f.bP=t::l)(hm:l.length<=1048576):
  Calls prog 211 #[jp xb] w λe Y=>e=aM (.agg (ep f.eo))/\∃v,aL Y {f with bP:=l} xb {L with fv:=v,own:=gu L.own w.heap.size 0}/\v.ownBlock=L.fv.ownBlock/\bh (λb=>b=xb\/aa b=L.fv.ownBlock) w Y:=by
 have p:=h.bP;rw[hf]at p;obtain⟨g,q,e,A⟩:=yc p aC
 have M:w.cell? (aj xb 17)=aa (.slice (aa (aj g 0)) (l.length+1) q):=by have:=aI h.box (i:=17) (v:=L.fv) rfl;rw[this,e];rfl
 have g0:w.cell? (aj g 0)=aa (an t.delay):=A 0 _ rfl;have g1:w.cell? (aj g 1)=aa (.bool t.eU):=A 1 _ rfl;have g2:w.cell? (aj g 2)=aa (an t.part):=A 2 _ rfl;have P:xb<w.heap.size:=(bq.1 h.box).1;have hg:g<w.heap.size:=nH p g (by rw[e];rfl);have m:aN w (w.alloc (aA #[an 0,.bool av,an 0] 188)):=bp;have d17:=bO m M;have d0:=bO m g0;have d1:=bO m g1;have d2:=bO m g2;have K:aN w ((w.alloc (aA #[an 0,.bool av,an 0] 188)).alloc (aA (ep t) 188)):=m.alloc m.size _;have W:((w.alloc (aA #[an 0,.bool av,an 0] 188)).alloc (aA (ep t) 188)).heap[w.heap.size]? =aa (aA #[an 0,.bool av,an 0] 188 (0,0)):=CW w _ _;have X:((w.alloc (aA #[an 0,.bool av,an 0] 188)).alloc (aA (ep t) 188)).heap[w.heap.size+1]? =aa (aA (ep t) 188 (0,0)):=CV w _ _;have C:Hid (aL w f xb L/\L.fv=.slice (aa (aj g 0)) (l.length+1) q/\f.eo=t/\g<w.heap.size/\xb<w.heap.size):=⟨h,by rw[e];rfl,by simp[Fx.eo,hf],hg,P⟩;have J:Hid (w.ownsRow 0 188 3 (.slice (aa (aj g 0)) (l.length+1) q) (l.length+1) ((ep t).toList++l.flatMap λt=>(ep t).toList)):=by rw[e]at p;exact p
 have aO:g≠xb:=λe'=>by have h1:=h.lY g (by rw[e];rfl);rw[e',h.eR]at h1;omega
 have n:=bf K;have I:Hid (((w.alloc (aA #[an 0,.bool av,an 0] 188)).alloc (aA (ep t) 188)).heap[w.heap.size]? =aa (aA #[an 0,.bool av,an 0] 188 (0,0))/\((w.alloc (aA #[an 0,.bool av,an 0] 188)).alloc (aA (ep t) 188)).heap[w.heap.size+1]? =aa (aA (ep t) 188 (0,0))):=⟨W,X⟩;have G:f.eo=t:=C.out.2.2.1;rw[G];clear h p e A hf G W X K m;go_enter func211,ntmps211
 go_upto_region 4 with fail
 clear d17 d0 d1 d2;show Dr _ _ _ _ ((w.alloc (aA #[an 0,.bool av,an 0] 188)).alloc (aA (ep t) 188));generalize (w.alloc (aA #[an 0,.bool av,an 0] 188)).alloc (aA (ep t) 188)=B at*;have d17:=bO n.out M
 have Z:Hid (Calls prog 244 #[.slice (aa (aj g 0)) (l.length+1) q,an 0,an 1] B λe c=>∃d,(∃j k,d=.slice j l.length k)/\e=aM d/\aL (c.setCell (aj xb 17) d) {f with bP:=l} xb {L with fv:=d,own:=gu L.own w.heap.size 0}/\d.ownBlock=L.fv.ownBlock/\bh (λb=>b=xb\/aa b=L.fv.ownBlock) w c/\c.heap[xb]? =B.heap[xb]? /\c.heap[w.heap.size]? =aa (aA #[an 0,.bool av,an 0] 188 (0,0))/\c.heap[w.heap.size+1]? =aa (aA (ep t) 188 (0,0))):=by
  obtain⟨u,hv,_,_,_⟩:=C.out;refine(Za B (zW J.out n.out) (C3 t) (C4 l)).mono ?_;rintro e c ⟨d,rfl,hr,x,ho⟩;have O:d.ownBlock=L.fv.ownBlock:=by rw[ho,hv]
  have hn:∀b,d.ownBlock=aa b->gu L.own w.heap.size 0 b=4:=λb a=>by
   have s:L.fv.ownBlock=aa b:=by rw[<-O];exact a
   rw[iO (nH u.bP b s)];exact u.lY b s
  have r:∀b,aa b=(gF (aa (aj g 0)) (l.length+1) q).ownBlock->b=g:=λb a=>by simpa[sE]using a
  obtain⟨j,k,E,_⟩:=LP hr;refine⟨d,⟨j,k,E⟩,rfl,((u.owns (gu L.own w.heap.size 0) λb a=>iO a).below n.out).eo x (λb _ a=>by have s:L.fv.ownBlock=aa b:=(by rw[hv];exact a.symm);exact(iO (nH u.bP b s)).trans (u.lY b s)) hr (λ_ _=>rfl) hn,O,(bh.below n.out).trans (x.mono λb _ a=>aE (by rw[hv];exact a)),x.block _ (dI P n.out.size) (λa=>aO (r _ a).symm),yu x I.out.1 (λa=>by have:=r _ a;omega),yu x I.out.2 (λa=>by have:=r _ a;omega)⟩
 clear J;have aT:=bf (bW n.out C.out.1.box)
 go_upto_region 5 with(go_at_call 244;refine Z.out.mono ?_;rintro e c ⟨d,⟨j,k,E⟩,rfl,Q,R,S,T,U,V⟩;have F:=T.trans aT.out;have aU:=aI F (i:=17) (v:=L.fv) rfl;have xf:=bF F 17;have o:Hid (aL (c.setCell (aj xb 17) d) {f with bP:=l} xb {L with fv:=d,own:=gu L.own w.heap.size 0}/\d.ownBlock=L.fv.ownBlock/\bh (λb=>b=xb\/aa b=L.fv.ownBlock) w c/\c.heap[w.heap.size]? =aa (aA #[an 0,.bool av,an 0] 188 (0,0))/\c.heap[w.heap.size+1]? =aa (aA (ep t) 188 (0,0))):=⟨Q,R,S,U,V⟩;clear Q R S T U V F;subst E)
 have y:(c.setCell (aj xb 17) (.slice j l.length k)).heap[w.heap.size]? =aa (aA #[an 0,.bool av,an 0] 188 (0,0)):=(cw ak).trans o.out.2.2.2.1;have m1:(c.setCell (aj xb 17) (.slice j l.length k)).heap[w.heap.size+1]? =aa (aA (ep t) 188 (0,0)):=(cw ak).trans o.out.2.2.2.2;have D:Hid (bh (λb=>b=xb\/aa b=L.fv.ownBlock) w (c.setCell (aj xb 17) (.slice j l.length k))):=o.out.2.2.1.set (aF rfl) _;have H:Hid (aL (c.setCell (aj xb 17) (.slice j l.length k)) {f with bP:=l} xb {L with fv:=.slice j l.length k,own:=gu L.own w.heap.size 0}/\(gF j l.length k).ownBlock=L.fv.ownBlock):=⟨o.out.1,o.out.2.1⟩;clear o aU xf;generalize c.setCell (aj xb 17) (.slice j l.length k)=z at*;have z0:=aI y (i:=0) rfl;have z1:=aI y (i:=1) rfl;have z2:=aI y (i:=2) rfl;have y0:=aI m1 (i:=0) rfl;have y1:=aI m1 (i:=1) rfl;have y2:=aI m1 (i:=2) rfl;have fz:=λi=>bF y i;clear y m1;go_wp2;refine gn (v:=.agg (ep t)) (by simp[results,results211,go_sem,z0,z1,z2]) rfl ⟨rfl,?_⟩;have N:∀b,b≠w.heap.size->(((z.setCell (aj w.heap.size 0) (an t.delay)).setCell (aj w.heap.size 1) (.bool t.eU)).setCell (aj w.heap.size 2) (an t.part)).heap[b]? =z.heap[b]? :=λb a=>(cw a).trans ((cw a).trans (cw a));have hs:(((z.setCell (aj w.heap.size 0) (an t.delay)).setCell (aj w.heap.size 1) (.bool t.eU)).setCell (aj w.heap.size 2) (an t.part)).heap.size=z.heap.size:=aC;refine⟨_,H.out.1.uo λb _ a=>N b λe=>a ?_,H.out.2,⟨D.out.os,by rw[hs];exact D.out.size,λb a r=>(N b ak).trans (D.out.block b a r)⟩⟩;show gu _ _ _ _=0;rw[e];exact uw (bD _)
end
section
open Go.Conc Go.RowKit
open Go.Proofs.Tryz
def Fx.held(f:Fx)(r:Rq):Bool:=f.fl.any (λb=>b.rs.any (r.touch ·))||f.K.any λo=>match o with
 |none=>av
 |some k=>k.fB f.g&&(decide (k.fst.no<r.no)&&k.fst.touch r)
def Fx.free(f:Fx)(k:Ck):Bool:=k.fB f.g&&!f.held k.fst
structure Ck.kH(k:Ck):Prop where
 out:k.out.size<=4194304
 prom:0<=k.prom/\k.prom<=4194304
 q:∀r∈k.q,r.Ok
structure Fx.kH(f:Fx):Prop where
 cl:∀k,aa k∈f.K->k.kH
 jb:∀b∈f.fl,(∀x∈b.rs,x.Ok)/\b.rs.length<=1048576
 dX:f.K.length<=65535
 jW:f.fl.length<=65535
 pK:∀(i j:Nat) (b c:Jb),f.fl[i]? =aa b->f.fl[j]? =aa c->b.order=c.order->i=j
def Ly{α:Type}(R:Nat->α->Prop)(d:α)(e:∀x a b,R x a->R x b->a=b):∃F:Nat->α,∀x a,R x a->F x=a:=by
 classical
 refine⟨λx=>if h:∃a,R x a then h.choose else d,λx a c=>?_⟩;have h:∃a,R x a:=⟨a,c⟩;simp only[h,tS];exact e x _ _ h.choose_spec c
section
variable {w W:az} {f:Fx} {xb:Nat} {L:dy}
def aL.aG(h:aL w f xb L){s}{l:Lc}(c:L.cs[s]? =aa (aa l)):∃k,f.K[s]? =aa (aa k)/\l.At w f.g k/\l.ij λb=>L.own b=7+2*s:=by
 have d:s<f.K.length:=by rw[<-h.cs.len];exact(dS.1 c).1
 have a:=eI d;have:=h.cs.at_ s _ _ a c;cases e:f.K[s]with
 |none=>rw[e]at this;exact absurd this (by simp[oW])
 |some k=>rw[e]at this a;exact⟨k,a,this.1,this.2⟩
def aL.sat(h:aL w f xb L){s:Nat}{k:Ck}(c:f.K[s]? =aa (aa k)):∃l,L.cs[s]? =aa (aa l)/\l.At w f.g k/\l.ij λb=>L.own b=7+2*s:=by
 have d:s<L.cs.length:=by rw[h.cs.len];exact(dS.1 c).1
 have a:=eI d;have:=h.cs.at_ s _ _ c a;cases e:L.cs[s]with
 |none=>rw[e]at this;exact absurd this (by simp[oW])
 |some l=>rw[e]at this a;exact⟨l,a,this.1,this.2⟩
def yf{cs:aB (aZ Lc)}{c:Nat}:c∈cP (cs.map λl=>l.map Lc.c)↔∃(s:Nat) (l:Lc),cs[s]? =aa (aa l)/\l.c=c:=by
 simp only[cP,Iu,ku,id];constructor
 ·rintro⟨o,⟨l,a,rfl⟩,h⟩;cases l with
  |none=>simp at h
  |some l=>
   obtain⟨s,b⟩:=It a;exact⟨s,l,b,by simpa using h⟩
 ·rintro⟨s,l,a,rfl⟩;exact⟨_,⟨aa l,lf a,rfl⟩,rfl⟩
def aL.acD(h:aL w f xb L)(hf:f.kH):vC w xb L.sb f.K.length (L.cs.map λl=>l.map Lc.c):=
 ⟨aI h.box rfl,by simp[h.cs.len],hf.dX,λj v a=>aI h.dX (wo a),⟨_,h.dX⟩⟩
def CE{g}{k:Ck}(a:k.kH)(hr:k.fB g=aq):k.fst.Ok:=by
 cases e:k.q with
 |nil=>simp[Ck.fB,e]at hr
 |cons r l=>simp only[Ck.fst,e];exact a.q r (by rw[e];simp)
def aL.held(h:aL w f xb L)(hf:f.kH)(r)(hr:r.Ok):bN 205 #[jp xb,.agg (aO r)] w (.bool (f.held r)):=by
 obtain⟨H,G⟩:=Ly (λx (k:Ck)=>∃(s:Nat) (l:Lc),f.K[s]? =aa (aa k)/\L.cs[s]? =aa (aa l)/\l.c=x) ⟨0,0,0,⟨#[]⟩,[],0,0,⟨#[]⟩,0,0,0,[]⟩ (by rintro x a b ⟨s,l,d,m,n⟩ ⟨R,l',v,I,J⟩;obtain⟨_,_,_,P⟩:=h.aG m;obtain⟨_,_,_,Q⟩:=h.aG I;have C:=P.1;have D:=Q.1;rw[n]at C;rw[J]at D;have:s=R:=ak;subst this;rw[d]at v;simpa using v)
 obtain⟨U,N⟩:=Ly (λx (b:Jb)=>∃(i:Nat) (l:Lj),f.fl[i]? =aa b/\L.js[i]? =aa l/\l.j=x) ⟨0,[],⟨0,av,0⟩,0,0⟩ (by rintro x a b ⟨s,l,d,m,n⟩ ⟨R,l',v,I,J⟩;obtain⟨_,_,_,P⟩:=h.js.at_ _ _ _ d m;obtain⟨_,_,_,Q⟩:=h.js.at_ _ _ _ v I;have C:=P.1;have D:=Q.1;rw[n]at C;rw[J]at D;have:s=R:=hf.pK _ _ _ _ d v ak;subst this;rw[d]at v;simpa using v)
 obtain⟨a,X,hv,_,_⟩:=LP h.fl.row
 have V:∀x,x<f.fl.length->∃(i:Nat) (b:Jb) (l:Lj),f.fl[i]? =aa b/\L.js[i]? =aa l/\l.j=L.hf x:=λx t=>by
  obtain⟨i,l,d,m⟩:=h.fl.aU x t;have E:i<f.fl.length:=by rw[<-h.js.len];exact(dS.1 d).1
  exact⟨i,f.fl[i],l,eI E,d,m.symm⟩
 have A:OS w xb L.sb f.K.length (L.cs.map λl=>l.map Lc.c) a f.fl.length X ((dH f.fl.length).map L.hf) r (λx=>(U x).rs.any (r.touch ·)) (λx=>(H x).fst) (λx=>(H x).fB f.g):=by
  refine⟨?_,aC,hf.jW,?_,?_,?_,h.acD hf,?_,hr,?_⟩
  ·rw[<-hv];exact aI h.box rfl
  ·intro j x t;have F:j<f.fl.length:=by have:=(dS.1 t).1;simpa using this
   obtain⟨g,c,e,z⟩:=yc h.fl.row ak;rw[hv]at e;cases e;refine⟨g,rfl,z j _ ?_⟩;rw[Gj F];simp[F]at t;rw[t]
  ·intro g Y;exact nH h.fl.row g (by rw[hv];exact Y)
  ·intro j F W M;obtain⟨x,t,rfl⟩:=ku.1 F;obtain⟨i,b,l,d,m,n⟩:=V x (lQ.1 t);obtain⟨lc,_,v,_⟩:=h.js.at_ _ _ _ d m;have B:=hf.jb b (lf d);have:=Q4 l.j lc.c l.rv b.rs b.ft b.due b.order r W (v.below M) hr B.1 B.2;rw[N (L.hf x) b ⟨i,l,d,m,n⟩,<-n];exact this
  ·intro c z W M;obtain⟨s,l,d,rfl⟩:=yf.1 z;obtain⟨k,m,n,_⟩:=h.aG d;rw[G l.c k ⟨s,l,m,d,rfl⟩];have O:=hf.cl k (lf m);exact Tp _ _ _ _ _ _ _ W (n.p.old M) O.q O.out O.prom
  ·intro c z hrd;obtain⟨s,l,d,rfl⟩:=yf.1 z;obtain⟨k,m,n,_⟩:=h.aG d;rw[G l.c k ⟨s,l,m,d,rfl⟩]at hrd⊢;exact CE (hf.cl k (lf m)) hrd
 refine(Q2 _ _ _ _ _ _ _ _ _ _ _ _ w A).mono ?_;rintro e w' ⟨rfl,B⟩;refine⟨?_,B⟩
 have C:((dH f.fl.length).map L.hf).any (λx=>(U x).rs.any (r.touch ·))=f.fl.any λb=>b.rs.any (r.touch ·):=by
  rw[yE,rS,rS];constructor
  ·rintro⟨y,hy,u⟩;obtain⟨x,t,rfl⟩:=ku.1 hy;obtain⟨i,b,l,d,m,n⟩:=V x (lQ.1 t);rw[N (L.hf x) b ⟨i,l,d,m,n⟩]at u;exact⟨b,lf d,u⟩
  ·rintro⟨b,B,u⟩;obtain⟨i,E⟩:=It B;have S:i<L.js.length:=by rw[h.js.len];exact(dS.1 E).1
   obtain⟨x,t,n⟩:=h.fl.all i _ (eI S);refine⟨L.hf x,ku.2 ⟨x,lQ.2 t,rfl⟩,?_⟩;rw[N (L.hf x) b ⟨i,_,E,eI S,n.symm⟩];exact u
 have D:(cP (L.cs.map λl=>l.map Lc.c)).any (ahead r (λx=>(H x).fst) λx=>(H x).fB f.g)=f.K.any λo=>match o with
   |none=>av
   |some k=>k.fB f.g&&(decide (k.fst.no<r.no)&&k.fst.touch r):=by
  rw[yE,rS,rS];constructor
  ·rintro⟨c,z,u⟩;obtain⟨s,l,d,rfl⟩:=yf.1 z;obtain⟨k,m,n,_⟩:=h.aG d;refine⟨aa k,lf m,?_⟩;simp only[ahead,G l.c k ⟨s,l,m,d,rfl⟩]at u;exact u
  ·rintro⟨o,Z,u⟩;cases o with
   |none=>simp at u
   |some k=>
    obtain⟨s,T⟩:=It Z;obtain⟨l,d,m,_⟩:=h.sat T;refine⟨l.c,yf.2 ⟨s,l,d,rfl⟩,?_⟩;simp only[ahead,G l.c k ⟨s,l,T,d,rfl⟩];exact u
 rw[C,D];rfl
def aL.firstFree(h:aL w f xb L)(hf:f.kH){s:Nat}{k:Ck}{l:Lc}(d:f.K[s]? =aa (aa k))(i:L.cs[s]? =aa (aa l)):bN 166 #[jp xb,jp l.c] w (.tuple #[.agg (aO k.fst),.bool (f.free k)]):=by obtain⟨j,b,e,_⟩:=h.aG i;rw[d]at b;cases b;have hF:=hf.cl k (lf d);exact j6 xb l.c k.fst (k.fB f.g) (f.held k.fst) w (λW a=>Tp _ _ _ _ _ _ _ W (e.p.old a) hF.q hF.out hF.prom) λhr W a=>(h.below a).held hf _ (CE hF hr)
end
abbrev Fx.at (f:Fx)(s:Nat)(k:Ck):Fx:={f with K:=f.K.set s (aa k)}
abbrev qC:Rq:=⟨bg.zero,0⟩
def Fx.along(f:Fx)(s:Nat)(k:Ck)(a:aB Rq):Bool:=(f.at s k).free k&&(decide (bY k.fst.m<=k.de)&&pz (a[0]?.getD qC) (a[a.length-1]?.getD qC) k.fst f.g.mx)
def Ck.next(k:Ck):Ck:=k.bz k.fst k.q.tail
def Fx.jK(f:Fx)(s:Nat):Nat->Ck->aB Rq->Ck×aB Rq
 |0,k,a=>(k,a)
 |n+1,k,a=>if f.along s k a then f.jK s n k.next (a++[k.fst])else(k,a)
def oz(b:Jb)(fl:aB Jb):Nat:=(fl.takeWhile λx=>dW x.key b.key).length
def iZ{α:Type}(p:Nat)(x:α)(l:aB α):aB α:=l.take p++x::l.drop p
def fo(b:Jb)(fl:aB Jb):aB Jb:=iZ (oz b fl) b fl
def Fx.iJ(f:Fx)(s:Nat)(k:Ck):Fx:=
 let p:=f.jK s k.next.q.length k.next [k.fst]
 {f.at s p.1 with bP:=f.bP.tail,bz:=f.bz+1,fl:=fo ⟨s,p.2,f.eo,f.clock+f.eo.delay,f.bz⟩ f.fl}
structure Ck.Go(k:Ck):Prop where
 out:k.out.size<=4194304
 prom:0<=k.prom/\k.prom<=4194304
 q:∀r∈k.q,r.Ok
 tok:0<=k.tok/\k.tok<=65535
 de:0<=k.de/\k.de<=1048576
 sv:0<=k.sv/\k.sv+k.de<=281474976710656
 bE:0<=k.bE/\k.bE+k.q.length<=1048576
def Ck.Go.fine{k:Ck}(h:k.Go):k.kH:=⟨h.out,h.prom,h.q⟩
def Ck.Go.gh{k:Ck}(h:k.Go):k.BC:=⟨h.tok,h.de,⟨h.sv.1,by have:=h.sv;have:=h.de;omega⟩,⟨h.bE.1,by have:=h.bE;omega⟩,h.prom,h.q⟩
def YK{r:Rq}(h:r.Ok):0<=bY r.m:=by unfold bY;have:=h.mL;split<;>omega
def size_pos{r:Rq}(h:r.Ok):0<=sizeOf' r.m:=by unfold sizeOf';have:=h.mL;split<;>omega
def zT{g}{k:Ck}(h:k.fB g=aq):∃r l,k.q=r::l/\k.fst=r/\k.q.tail=l/\0<k.tok/\(k.out.size:Int)+k.prom+sizeOf' r.m<=g.ou:=by
 cases e:k.q with
 |nil=>simp[Ck.fB,e]at h
 |cons r l=>
  simp[Ck.fB,e]at h;exact⟨r,l,rfl,by simp[Ck.fst,e],aC,h.1,h.2⟩
def Ck.Go.next{k:Ck}{g:Cf}(h:k.Go)(w:g.ou<=65535)(hr:k.fB g=aq)(j:bY k.fst.m<=k.de):k.next.Go/\k.next.q.length+1=k.q.length:=by
 obtain⟨r,l,a,c,e,o,p⟩:=zT hr;have d:=h.q r (by rw[a];simp);have:=YK d;have:=size_pos d;rw[c]at j;have i:k.next=k.bz r l:=by rw[Ck.next,c,e]
 rw[i];have s:=h.tok;have t:=h.de;have u:=h.sv;have b:=h.bE;have v:=h.prom;rw[a]at b;simp at b;refine⟨⟨h.out,⟨by show 0<=k.prom+sizeOf' r.m;omega,by show k.prom+sizeOf' r.m<=4194304;omega⟩,λx n=>h.q x (by rw[a];exact eJ _ n),⟨by show 0<=k.tok-1;omega,by show k.tok-1<=65535;omega⟩,⟨by show 0<=k.de-bY r.m;omega,by show k.de-bY r.m<=1048576;omega⟩,⟨by show 0<=k.sv+bY r.m;omega,by show k.sv+bY r.m+(k.de-bY r.m)<=281474976710656;omega⟩,by show 0<=k.bE+1;omega,?_⟩,by rw[a];rfl⟩;show k.bE+1+(l.length:Int)<=1048576
 push_cast at b
 omega
def Fl{f:Fx}{k:Ck}(h:f.free k=aq):k.fB f.g=aq:=by simp[Fx.free]at h;exact h.1
def Fx.Xz{f:Fx}{s:Nat}{k:Ck}{a:aB Rq}(h:f.along s k a=aq):k.fB f.g=aq/\bY k.fst.m<=k.de:=by simp only[Fx.along,cE,pZ]at h;exact⟨Fl (f:=f.at s k) h.1,h.2.1⟩
def Fx.kH.at {f:Fx}{s:Nat}{k:Ck}(h:f.kH)(a:k.kH):(f.at s k).kH:=by
 refine⟨λx hx=>?_,h.jb,by show(f.K.set s (aa k)).length<=_;rw[kr];exact h.dX,h.jW,h.pK⟩;rcases Iv hx with hx|hx
 ·exact h.cl x hx
 ·cases hx;exact a
section
variable {W W':az} {f:Fx} {xb:Nat} {L:dy}
def fE.js'{own cA T cs cs' fl js}(a:fE W W' own cA T)(h:BI W own cs fl js)(hc:∀(s:Nat) lc,cs[s]? =aa (aa lc)->∃e,cs'[s]? =aa (aa e)/\e.c=lc.c)(j:∀b∈fl,¬T (8+2*b.order)):BI W' cA cs' fl js:=
 ⟨h.len,λi b l d g=>(h.at_ i b l d g).aside a (hc b.s) (j b (lf d))⟩
def aL.PK(h:aL W f xb L){s n:Nat}{k k':Ck}{l l':Lc}{cA:Nat->Nat}(o:L.cs[s]? =aa (aa l))(hc:l'.c=l.c)(a:fE W W' L.own cA λt=>t=7+2*s\/t=8+2*n)(hf:∀b∈f.fl,b.order≠n)(hr:l'.At W' f.g k')(q:l'.ij λb=>cA b=7+2*s):
  aL W' (f.at s k') xb {L with cs:=L.cs.set s (aa l'),own:=cA}:=by
 have b1:=a.blk h.box h.eR ak;have d:=a.blk h.dX h.jd ak;have i:=a.row h.bP h.lY ak;have j:=a.row h.log h.mM ak;have m:=a.fO h.fO h.oo ak;refine⟨?_,b1.2,?_,d.2,a.EX h.cs (λx r=>by omega) ⟨hr,q⟩,a.js' h.js (Md o hc) (λb p=>by have:=hf b p;omega),a.qp h.fl ak,i.1,i.2,j.1,j.2,m.1,m.2⟩
 ·have e:=b1.1;simpa[lJ]using e
 ·have e:=d.1;show xw W' L.sb ((L.cs.set s (aa l')).map λl=>l.map Lc.c);rw[Sw o hc];exact e
end
structure mF(W:az)(f:Fx)(xb:Nat)(L:dy)(s n j:Nat)(l:Lc)(k:Ck)(rv:aD)(rs:aB Rq):Prop where
 fx:aL W (f.at s k) xb L
 aG:L.cs[s]? =aa (aa l)
 nE:eP W j l.c rv rs ⟨0,av,0⟩ 0 0
 tag:L.own j=8+2*n/\∀b,rv.ownBlock=aa b->L.own b=8+2*n
structure bJ(w:az)(L:dy)(w':az)(a:dy):Prop where
 own:∀b,b<w.heap.size->a.own b=L.own b
 cI:bh (λb=>L.own b≠0) w w'
def bJ.refl(w L):bJ w L w L:=⟨λ_ _=>rfl,bh.refl _ _⟩
def bJ.trans{a b c L M N}(h:bJ a L b M)(k:bJ b M c N):bJ a L c N:=
 ⟨λx d=>(k.own x (dI d h.cI.size)).trans (h.own x d),⟨k.cI.os.trans h.cI.os,dM h.cI.size k.cI.size,λx d e=>(k.cI.block x (dI d h.cI.size) (by rw[h.own x d];exact e)).trans (h.cI.block x d e)⟩⟩
section
variable {w W:az} {f:Fx} {xb s n:Nat} {L:dy} {k:Ck} {l:Lc}
def next_eq{r t}(a:k.fst=r)(b:k.q.tail=t):k.next=k.bz r t:=by rw[Ck.next,a,b]
def uC{α:Type}{l:aB α}{i:Nat}{x y:α}(h:l[i]? =aa x):(l.set i y)[i]? =aa y:=qJ (dS.1 h).1
def aaN(h:aL w f xb L)(O:f.K[s]? =aa (aa k))(p:L.cs[s]? =aa (aa l))(J:k.Go)(hr:k.fB f.g=aq)(P:∀b∈f.fl,b.order≠n):
  Calls prog 207 #[jp l.c] w λe x=>∃j rv y E,e=aM (jp j)/\mF x f xb y s n j E k.next rv [k.fst]/\bJ w L x y/\E.c=l.c:=by
 obtain⟨T,z,B,d⟩:=h.aG p;rw[O]at z;cases z;obtain⟨r,t,F,A,G,_⟩:=zT hr;have m:=B.eH;refine(Y4 _ _ _ _ _ _ _ _ r t w B F J.gh).mono ?_;rintro e x ⟨j,rv,rfl,M,⟨o,I,R⟩,D,N,S⟩;rw[next_eq A G,A];have C:∀b,b<w.heap.size->(b=l.c\/aa b=l.q.ownBlock)->L.own b=7+2*s:=λb _ a=>a.elim (λe=>by rw[e];exact d.1) λe=>d.2.2.2.2.1 b e.symm;have i:∀b,b<w.heap.size->gu L.own w.heap.size (8+2*n) b=L.own b:=λb a=>iO a
 have H:Lc.ij ⟨l.c,l.rb,l.mb,l.ch,o,l.v⟩ λb=>gu L.own w.heap.size (8+2*n) b=7+2*s:=
  ⟨(i _ m.1).trans d.1,(i _ m.2.1).trans d.2.1,(i _ m.2.2.1).trans d.2.2.1,(i _ m.2.2.2.1).trans d.2.2.2.1,λb a=>by rw[show(Lc.mk l.c l.rb l.mb l.ch o l.v).q=o from rfl,R]at a;exact(i _ (m.2.2.2.2.1 b a)).trans (d.2.2.2.2.1 b a),λb a=>(i _ (m.2.2.2.2.2 b a)).trans (d.2.2.2.2.2 b a)⟩
 refine⟨j,rv,{L with cs:=L.cs.set s (aa ⟨l.c,l.rb,l.mb,l.ch,o,l.v⟩),own:=gu L.own w.heap.size (8+2*n)},⟨l.c,l.rb,l.mb,l.ch,o,l.v⟩,rfl,⟨h.PK (k:=k) p rfl ⟨λb a Q=>D.block b a λu=>Q (aF (C b a u)),i⟩ P I H,uC p,M,uw N,λb a=>uw (S b a)⟩,⟨i,D.mono λb a u=>by rw[C b a u];omega⟩,rfl⟩
def at_at(f:Fx)(s:Nat)(k k':Ck):(f.at s k).at s k'=f.at s k':=by simp[Fx.at]
def aaK{j:Nat}{rv:aD}{o:aB Rq}(h:mF W f xb L s n j l k rv o)(S:s<f.K.length)(J:k.Go)(hr:k.fB f.g=aq)(O:∀b∈f.fl,b.order≠n)(hm:o.length<=1048576):
  Calls prog 209 #[jp j] W λe u=>e=aM (.tuple #[])/\∃tA x l',mF u f xb x s n j l' k.next tA (o++[k.fst])/\bJ W L u x/\l'.c=l.c:=by
 obtain⟨T,C,z,d⟩:=h.fx.aG h.aG;have D:(f.K.set s (aa k))[s]? =aa (aa k):=qJ S;have E:aa (aa T)=aa (aa k):=C.symm.trans D;cases E;obtain⟨r,t,F,y,G,_⟩:=zT hr;have i:=z.eH;have N:j<W.heap.size:=(bq.1 h.nE.box).1;refine(Xx _ _ _ _ _ _ _ _ _ _ o r t _ _ _ W h.nE z F J.gh hm λb hb e=>?_).mono ?_
 ·have U:=h.tag.2 b hb;have V:=d.2.2.2.2.1 b e.symm;omega
 rintro e u ⟨rfl,⟨tA,M,R⟩,⟨m,I,Q⟩,B⟩;rw[next_eq y G,y];refine⟨rfl,tA,{L with cs:=L.cs.set s (aa ⟨l.c,l.rb,l.mb,l.ch,m,l.v⟩),own:=gu L.own W.heap.size (8+2*n)},⟨l.c,l.rb,l.mb,l.ch,m,l.v⟩,?_,?_,rfl⟩
 all_goals
  have A:∀b,b<W.heap.size->(b=l.c\/b=j\/aa b=l.q.ownBlock\/aa b=rv.ownBlock)->L.own b=7+2*s\/L.own b=8+2*n:=λb _ hb=>by
   rcases hb with rfl|rfl|hb|hb
   ·exact aF d.1
   ·exact aE h.tag.1
   ·exact aF (d.2.2.2.2.1 b hb.symm)
   ·exact aE (h.tag.2 b hb.symm)
  have a:∀b,b<W.heap.size->gu L.own W.heap.size (8+2*n) b=L.own b:=λb hb=>iO hb
 ·have H:Lc.ij ⟨l.c,l.rb,l.mb,l.ch,m,l.v⟩ λb=>gu L.own W.heap.size (8+2*n) b=7+2*s:=
   ⟨(a _ i.1).trans d.1,(a _ i.2.1).trans d.2.1,(a _ i.2.2.1).trans d.2.2.1,(a _ i.2.2.2.1).trans d.2.2.2.1,λb hb=>by rw[show(Lc.mk l.c l.rb l.mb l.ch m l.v).q=m from rfl,Q]at hb;exact(a _ (i.2.2.2.2.1 b hb)).trans (d.2.2.2.2.1 b hb),λb hb=>(a _ (i.2.2.2.2.2 b hb)).trans (d.2.2.2.2.2 b hb)⟩
  have hF:=h.fx.PK (k:=k) (n:=n) (l':=⟨l.c,l.rb,l.mb,l.ch,m,l.v⟩) (k':=k.bz r t) (cA:=gu L.own W.heap.size (8+2*n)) h.aG rfl ⟨λb hb P=>B.block b hb λp=>P (A b hb p),a⟩ O I H;rw[at_at]at hF;refine⟨hF,uC h.aG,M,(a _ N).trans h.tag.1,λb hb=>?_⟩;rcases R with hv|hv
  ·rw[hv]at hb;exact(a _ ((nH h.nE.row) b hb)).trans (h.tag.2 b hb)
  ·exact uw (hv b hb)
 ·exact⟨a,B.mono λb hb p=>by rcases A b hb p with e|e<;>rw[e]<;>omega⟩
def mF.below{W' j rv rs}(h:mF W f xb L s n j l k rv rs)(a:aN W W'):mF W' f xb L s n j l k rv rs:=
 ⟨h.fx.below a,h.aG,h.nE.below a,h.tag⟩
def aaM{j rv a}(h:mF W f xb L s n j l k rv a)(A:s<f.K.length)(hf:f.kH)(o:k.Go)(h0:0<a.length)(hm:a.length<=1048576)(q:∀r∈a,r.Ok):
  bN 208 #[jp xb,jp l.c,jp j] W (.bool (f.along s k a)):=by
 obtain⟨B,i,y,C⟩:=h.fx.aG h.aG;have v:(f.K.set s (aa k))[s]? =aa (aa k):=qJ A;have x:aa (aa B)=aa (aa k):=i.symm.trans v;cases x;have t:a[0]? =aa a[0]:=eI h0;have u:a[a.length-1]? =aa a[a.length-1]:=eI ak;have e:f.along s k a=((f.at s k).free k&&(decide (bY k.fst.m<=k.de)&&pz a[0] a[a.length-1] k.fst f.g.mx)):=by rw[Fx.along,t,u];rfl
 rw[e];refine G3 xb l.c j k.fst _ _ _ f.g.mx W (aI h.fx.box rfl) (h.fx.firstFree (hf.at (s:=s) o.fine) i h.aG) (λb d=>PG l.c k.fst k.de b (bO d (aI y.p.box rfl))) λz _ b d=>?_;exact l8 j l.c rv a _ _ k.fst _ _ _ _ b (h.nE.below d) t u (CE o.fine (Fl z)) (q _ (Wq _)) (q _ (Wq _)) hm
end
def LB(b fl):oz b fl<=fl.length:=(List.takeWhile_sublist _).length_le
def Gm{α:Type}{p}{x:α}{l:aB α}(a:p<=l.length):(iZ p x l).length=l.length+1:=by simp[iZ];omega
def LK{α:Type}{p i}{x:α}{l:aB α}(a:p<=l.length)(h:i<p):(iZ p x l)[i]? =l[i]? :=by rw[iZ,List.getElem?_append_left cq,qK,aW h]
def LH{α:Type}{p}{x:α}{l:aB α}(a:p<=l.length):(iZ p x l)[p]? =aa x:=by rw[iZ,uR cq];simp[wR a]
def LI{α:Type}{p i}{x:α}{l:aB α}(a:p<=l.length)(h:p<=i):(iZ p x l)[i+1]? =l[i]? :=by
 rw[iZ,uR cq];simp only[yM,wR a];rw[show i+1-p=(i-p)+1 by omega,List.getElem?_cons_succ,Ir]
 congr 1;omega
def abe{α:Type}{p i}{x y:α}{l:aB α}(a:p<=l.length)(h:l[i]? =aa y):(iZ p x l)[if i<p then i else i+1]? =aa y:=by
 by_cases e:i<p
 ·rw[aW e,LK a e];exact h
 ·rw[aK e,LI a ak];exact h
def LJ{α g:Type}{p i:Nat}{x y:α}{u v:g}{l:aB α}{m:aB g}(d:p<=l.length)(hm:m.length=l.length)(a:(iZ p x l)[i]? =aa y)(c:(iZ p u m)[i]? =aa v):(y=x/\v=u)\/∃j:Nat,l[j]? =aa y/\m[j]? =aa v:=by
 rcases ID i p with e|e|e
 ·rw[LK d e]at a;rw[LK ak e]at c;exact aE ⟨i,a,c⟩
 ·subst e;rw[LH d]at a;rw[LH ak]at c;cases a;cases c;exact aF ⟨rfl,rfl⟩
 ·obtain⟨i,rfl⟩:∃j,i=j+1:=⟨i-1,ak⟩;rw[LI d ak]at a;rw[LI ak ak]at c;exact aE ⟨i,a,c⟩
section
variable {W:az} {f:Fx} {xb:Nat} {L:dy} {b:Jb} {lj:Lj}
def E5(h:aL W f xb L)(hj:fj W L.own L.cs b lj)(hn:∀x∈f.fl,x.order≠b.order)(hm:f.fl.length<1048576):
  Calls prog 212 #[.pointer (aa (aj xb 18)),jp lj.j] W λe D=>e=aM (.tuple #[])/\∃Q,aL D {f with fl:=fo b f.fl} xb Q/\bJ W L D Q:=by
 obtain⟨lc,aP,Z,H⟩:=hj
 have old:∀(i:Nat) l,L.js[i]? =aa l->∃x,f.fl[i]? =aa x/\(∃lc,eP W l.j lc l.rv x.rs x.ft x.due x.order)/\L.own l.j=8+2*x.order/\l.j≠lj.j/\L.key l.j=x.key:=λi l o=>by
  have hi:i<f.fl.length:=by rw[<-h.js.len];exact(dS.1 o).1
  have d:f.fl[i]? =aa f.fl[i]:=eI hi;obtain⟨c,g,k,n⟩:=h.js.at_ i _ _ d o;refine⟨_,d,⟨_,k⟩,n.1,λe=>?_,h.fl.keys i _ _ d o⟩;have K:=n.1;rw[e,H.1]at K;exact hn _ (lf d) ak
 have C:∀x,x<f.fl.length->∃(i:Nat) (l:Lj),L.js[i]? =aa l/\L.hf x=l.j:=h.fl.aU
 let w:Nat->Key:=λx=>if x=lj.j then b.key else L.key x
 have P:∀x,x<f.fl.length->w (L.hf x)=L.key (L.hf x):=λx d=>by obtain⟨i,l,g,k⟩:=C x d;obtain⟨_,_,_,_,n,_⟩:=old i l g;show(if _ then _ else _)=_;rw[aK (by rw[k];exact n)]
 have aC:w lj.j=b.key:=aW rfl
 have ah:∀x,x<f.fl.length->L.hf x≠lj.j:=λx d=>by obtain⟨i,l,g,k⟩:=C x d;obtain⟨_,_,_,_,n,_⟩:=old i l g;rw[k];exact n
 refine(abc xb 18 f.fl.length lj.j L.hv L.hf w _ _ W h.box rfl bL h.fl.row hm (λx d=>?_) (λx d e=>?_) ?_ (λe=>?_) (λe=>?_) ?_).mono ?_
 ·obtain⟨i,l,g,k⟩:=C x d;obtain⟨y,n,⟨c,K⟩,G,X,h7⟩:=old i l g;rw[P x d,k,h7];refine⟨K.key,λe=>?_⟩;have:=h.fl.own l.j e.symm;omega
 ·obtain⟨i,l,g,k⟩:=C x d;obtain⟨y,n,_,G,_⟩:=old i l g;rw[<-k,e,h.eR]at G;omega
 ·rw[aC];exact Z.key
 ·have:=h.fl.own lj.j e.symm;have:=H.1;omega
 ·have:=H.1;rw[e,h.eR]at this;omega
 ·intro x h0 d;have:=h.fl.heap x h0 d;simp only[P x d,P (par x) (by unfold par;omega)];exact this
 rintro e D ⟨rfl,v',A,g1,g2,F,g4,V,g6⟩;have O:=LB b f.fl;have Y:∀x,x<W.heap.size->(x=xb\/aa x=L.hv.ownBlock)->L.own x=1\/L.own x=3:=λx _ d=>d.elim (λe=>aF (by rw[e];exact h.eR)) λe=>aE (h.fl.own x e.symm);have a:fE W D L.own (gu L.own W.heap.size 3) λt=>t=1\/t=3:=⟨λx d zL=>V.block x d λN=>zL (Y x d N),λx d=>iO d⟩;have R:=a.blk h.dX h.jd ak;have S:=a.row h.bP h.lY ak;have T:=a.row h.log h.mM ak;have U:=a.fO h.fO h.oo ak;have p:(fo b f.fl).length=f.fl.length+1:=Gm O;have af:L.js.length=f.fl.length:=h.js.len;have I:oz b f.fl<=L.js.length:=ak;have aX:xb<W.heap.size:=(bq.1 h.box).1;refine⟨rfl,{L with js:=iZ (oz b f.fl) lj L.js,hv:=v',hf:=A,key:=w,own:=gu L.own W.heap.size 3},⟨g1,(iO aX).trans h.eR,R.1,R.2,a.cs h.cs (λs=>by omega),⟨?_,?_⟩,⟨?_,?_,?_,?_,?_,?_,?_⟩,S.1,S.2,T.1,T.2,U.1,U.2⟩,⟨λx d=>iO d,V.mono λx d N=>by rcases Y x d N with e|e<;>rw[e]<;>omega⟩⟩
 ·show(iZ _ _ _).length=(fo b f.fl).length;rw[Gm I,p];omega
 ·intro i x l d o;rcases LJ O af d o with⟨rfl,rfl⟩|⟨B,g,k⟩
  ·exact fj.aside a ⟨lc,aP,Z,H⟩ (λc M=>⟨c,M,rfl⟩) ak
  ·exact fj.aside a (h.js.at_ B x l g k) (λc M=>⟨c,M,rfl⟩) ak
 ·show D.ownsRow 0 _ 1 v' (fo b f.fl).length (jN (fo b f.fl).length A);rw[p];exact g2
 ·intro x d;show gu _ _ _ _=3;rcases g6 with e|e
  ·have r:L.hv.ownBlock=aa x:=by rw[<-e];exact d
   rw[iO (nH h.fl.row x r)];exact h.fl.own x r
  ·exact uw (e x d)
 ·intro x d;have r:x<f.fl.length+1:=by rw[<-p];exact d
  obtain⟨y,J,e⟩:=F.aU x r;show ∃(i:Nat) (l:Lj),(iZ (oz b f.fl) lj L.js)[i]? =aa l/\A x=l.j
  by_cases an:y=f.fl.length
  ·exact⟨_,lj,LH I,by rw[e];simp[more,an]⟩
  ·obtain⟨i,l,g,k⟩:=C y ak;exact⟨_,l,abe I g,by rw[e];simp[more,an,k]⟩
 ·intro i l o;show ∃x,x<(fo b f.fl).length/\A x=l.j;rw[p];rcases LJ (l:=L.js) (m:=L.js) I rfl o o with⟨rfl,_⟩|⟨B,g,_⟩
  ·obtain⟨x,d,e⟩:=F.all f.fl.length ak;exact⟨x,d,by rw[e];simp[more]⟩
  ·obtain⟨y,J,z⟩:=h.fl.all B l g;obtain⟨x,d,e⟩:=F.all y ak;exact⟨x,d,by rw[e];simp[more,Nat.ne_of_lt J,z]⟩
 ·intro x y d J e;have r:x<f.fl.length+1:=by rw[<-p];exact d
  have bf:y<f.fl.length+1:=by rw[<-p];exact J
  refine F.one (λu v hu hv q=>?_) x y r bf e
  by_cases z:u=f.fl.length
  ·by_cases E:v=f.fl.length
   ·omega
   ·simp[more,z,E]at q;exact absurd q.symm (ah v ak)
  ·by_cases E:v=f.fl.length
   ·simp[more,z,E]at q;exact absurd q (ah u ak)
   ·simp[more,z,E]at q;exact h.fl.one u v ak ak q
 ·intro i x l d o;show w l.j=x.key;rcases LJ O af d o with⟨rfl,rfl⟩|⟨B,g,k⟩
  ·exact aC
  ·obtain⟨y,n,_,_,G,X⟩:=old B l k;rw[g]at n;cases n;show(if _ then _ else _)=_;rw[aK G];exact X
 ·show Hp (fo b f.fl).length λx=>w (A x);rw[p];exact g4
end
end
section
attribute [local go_sem ↓] Go.wp_at_zero Go.wp_at_succ
attribute [local go_sem] bV bQ
open Go.Conc Go.RowKit
open Go.Proofs.Tryz
def rz:aZ aD->Nat
 |some (.slice _ n _)=>n
 |_=>0
def F5{f:Fx}{s n:Nat}{k:Ck}{rs:aB Rq}(h:f.along s k rs=av):f.jK s n k rs=(k,rs):=by cases n<;>simp[Fx.jK,h]
def F3{f:Fx}{s n:Nat}{k:Ck}{rs:aB Rq}(h:f.along s k rs=aq)(a:n+1=k.q.length):f.jK s k.q.length k rs=f.jK s n k.next (rs++[k.fst]):=by rw[<-a,Fx.jK,aW h]
section
variable {w W W':az} {f:Fx} {xb s n j:Nat} {L:dy} {k:Ck} {l:Lc} {rv:aD} {rs:aB Rq}
def mF.len(h:mF W f xb L s n j l k rv rs)(o:s<f.K.length):rz (W.cell? (aj l.c 13))=k.q.length:=by obtain⟨r,d,b,u⟩:=h.fx.aG h.aG;have g:(f.K.set s (aa k))[s]? =aa (aa k):=qJ o;have m:aa (aa r)=aa (aa k):=d.symm.trans g;cases m;obtain⟨a,t,e,_⟩:=b.p.row.form;have:=aI b.p.box (i:=13) (v:=l.q) rfl;rw[this,e];rfl
structure xk(w:az)(L:dy)(f:Fx)(xb s n j c:Nat)(G:Ck×aB Rq)(W:az)(b:dy)(l1:Lc)(a:Ck)(rv:aD)(rs:aB Rq):Prop where
 p:mF W f xb b s n j l1 a rv rs
 gJ:bJ w L W b
 c:l1.c=c
 go:a.Go
 gat:f.jK s a.q.length a rs=G
 pos:0<rs.length
 len:rs.length+a.q.length<=1048576
 ok:∀r∈rs,r.Ok
def xk.below{c G L1 l1 k1}(h:xk w L f xb s n j c G W L1 l1 k1 rv rs)(a:aN W W'):xk w L f xb s n j c G W' L1 l1 k1 rv rs:=
 ⟨h.p.below a,⟨h.gJ.own,h.gJ.cI.trans (.below a)⟩,h.c,h.go,h.gat,h.pos,h.len,h.ok⟩
def aL.aaJ(h:aL W f xb L){cA}(a:fE W W' L.own cA λt=>t=8+2*n)(hf:∀b∈f.fl,b.order≠n):aL W' f xb {L with own:=cA}:=by have b1:=a.blk h.box h.eR ak;have c:=a.blk h.dX h.jd ak;have d:=a.row h.bP h.lY ak;have e:=a.row h.log h.mM ak;have g:=a.fO h.fO h.oo ak;exact⟨b1.1,b1.2,c.1,c.2,a.cs h.cs (λ_=>by omega),a.js' h.js pN (λb i=>by have:=hf b i;omega),a.qp h.fl ak,d.1,d.2,e.1,e.2,g.1,g.2⟩
def aaL(h:mF W f xb L s n j l k rv rs)(hm:f.bP.length<=1048576):
  Calls prog 211 #[jp xb] W λe d=>e=aM (.agg (ep f.eo))/\∃m,mF d {f with bP:=f.bP.tail} xb m s n j l k rv rs/\bJ W L d m:=by
 cases e:f.bP with
 |nil=>
  refine(Z0 xb (f.at s k) L W h.fx e).mono ?_;rintro p d ⟨rfl,a⟩;refine⟨rfl,L,?_,⟨λ_ _=>rfl,.below a⟩⟩;have:({f with bP:=([]:aB Ft).tail}:Fx)=f:=by cases f;cases e;rfl
  rw[this];exact h.below a
 |cons t r=>
  refine(Z1 xb (f.at s k) L t r W h.fx e (by rw[e]at hm;simp at hm;omega)).mono ?_;rintro p d ⟨rfl,v,q,x,g⟩;have u:j<W.heap.size:=(bq.1 h.nE.box).1;have o:=nH h.nE.row;have i:∀b,(b=xb\/aa b=L.fv.ownBlock)->L.own b=1\/L.own b=4:=λb a=>a.elim (λe=>aF (by rw[e];exact h.fx.eR)) λe=>aE (h.fx.lY b e.symm);refine⟨rfl,_,⟨q,h.aG,⟨yu g h.nE.box λc=>?_,eL h.nE.row λb a=>g.block b (o b a) λc=>?_⟩,(iO u).trans h.tag.1,λb a=>(iO (o b a)).trans (h.tag.2 b a)⟩,⟨λb a=>iO a,g.mono λb _ c=>by rcases i b c with e|e<;>rw[e]<;>omega⟩⟩
  ·have:=i _ c;have:=h.tag.1;omega
  ·have:=i _ c;have:=h.tag.2 b a;omega
def aaO(h:mF W f xb L s n j l k rv rs)(t:Ft)(now)(q:∀b∈f.fl,b.order≠n)(h0:0<=now)(g:now<=281474976710656)(i:0<=t.delay)(m:t.delay<=65535):
  Calls prog 210 #[jp j,an now,an n,.agg (ep t)] W λe a=>e=aM (.tuple #[])/\aL a (f.at s k) xb L/\fj a L.own L.cs ⟨s,rs,t,now+t.delay,n⟩ ⟨j,rv⟩/\bJ W L a L:=by
 refine(afj j l.c rv rs _ t 0 0 now n W h.nE h0 g i m).mono ?_;rintro e a ⟨rfl,p,d⟩;exact⟨rfl,h.fx.aaJ (n:=n) ⟨λb o r=>d.block b o λe=>r (by rw[e];exact h.tag.1),λb _=>rfl⟩ q,⟨l,h.aG,p,h.tag⟩,⟨λ_ _=>rfl,d.mono λb _ e=>by rw[e,h.tag.1];omega⟩⟩
end
structure Fx.May(f:Fx):Prop where
 fine:f.kH
 ou:f.g.ou<=65535
 fresh:∀b∈f.fl,b.order<f.bz
 clock:0<=f.clock/\f.clock<=281474976710656
 bz:f.bz<=281474976710656
 bP:f.bP.length<=1048576
 eo:0<=f.eo.delay/\f.eo.delay<=65535
 jW:f.fl.length<1048576
abbrev ClS(xb:Nat)(c d:Int)(W:az):Prop:=W.cell? (aj xb 13)=aa (an c)/\W.cell? (aj xb 12)=aa (an d)
def aL.clS{W f xb L}(h:aL W f xb L):ClS xb f.clock f.bz W:=⟨aI h.box rfl,aI h.box rfl⟩
def Zh{W f xb L}(h:aL W f xb L):aL (W.setCell (aj xb 12) (an ((f.bz:Int)+1))) {f with bz:=f.bz+1} xb L:=
 h.put 12 _ {f with bz:=f.bz+1} (by simp[lJ]) rfl rfl rfl rfl rfl ⟨rfl,rfl,rfl⟩
def fj.put{W f xb i L b lj u}(h:aL W f xb L)(d:fj W L.own L.cs b lj):fj (W.setCell (aj xb i) u) L.own L.cs b lj:=
 d.aside (T:=λt=>t=1) ⟨λb _ g=>cw λe=>g (by rw[e];exact h.eR),λ_ _=>rfl⟩ (λc a=>⟨c,a,rfl⟩) ak
def D6(w f xb s L k)(l:Lc)(h:aL w f xb L)(hk:f.K[s]? =aa (aa k))(hl:L.cs[s]? =aa (aa l))(hm:f.May)(P:k.Go)(hr:k.fB f.g=aq)(hp:bY k.fst.m<=k.de)(hq:k.q.length<=1048576):
  Calls prog 169 #[jp xb,jp l.c] w λe a=>e=aM (.tuple #[])/\∃t,aL a (f.iJ s k) xb t/\bJ w L a t:=by
 have hs:=(dS.1 hk).1;have hn:∀b∈f.fl,b.order≠f.bz:=λb hb=>Nat.ne_of_lt (hm.fresh b hb);have y:=P.next hm.ou hr hp
 have HJ:Hid (Calls prog 207 #[jp l.c] w λe a=>∃j,e=aM (jp j)/\∃x l1 i rv n,xk w L f xb s f.bz j l.c (f.jK s k.next.q.length k.next [k.fst]) a x l1 i rv n):=by
  refine(aaN h hk hl P hr hn).mono ?_;rintro e a ⟨j,rv,t,Q,rfl,u,v,o⟩;refine⟨j,rfl,t,Q,k.next,rv,[k.fst],u,v,o,y.1,rfl,aC,by have:=y.2;simp;omega,λr aI=>?_⟩
  ·simp at aI;rw[aI];exact CE P.fine hr
 have HM:Hid (f.May/\s<f.K.length/\∀b∈f.fl,b.order≠f.bz):=⟨hm,hs,hn⟩;have HG:Hid (f.iJ s k={f.at s (f.jK s k.next.q.length k.next [k.fst]).1 with bP:=f.bP.tail,bz:=f.bz+1,fl:=fo ⟨s,(f.jK s k.next.q.length k.next [k.fst]).2,f.eo,f.clock+f.eo.delay,f.bz⟩ f.fl}):=rfl;generalize f.jK s k.next.q.length k.next [k.fst]=G at*
 generalize f.iJ s k=F' at*;generalize l.c=c at*;go_enter func169,ntmps169;go_wp2_with (go_at_call 207;refine HJ.out.mono ?_;rintro e w1 ⟨j,rfl,hD⟩;have HD:=bf hD)
 go_loopw [] (λwr=>Hid (∃x l1 i rv n,xk w L f xb s f.bz j c G wr x l1 i rv n)) (λW=>rz (W.cell? (aj c 13)))
 case atStart=>exact HD
 case round=>
  have hR:=hrel;clear hrel;obtain⟨x,l1,i,rv,n,D⟩:=hR.out;have z:=bf D
  have B:Hid (bN 208 #[jp xb,jp c,jp j] wr (.bool (f.along s i n))):=by rw[<-D.c];exact aaM D.p HM.out.2.1 HM.out.1.fine D.go D.pos (by have:=D.len;omega) D.ok
  clear D hR;cases F:f.along s i n with
  |false=>
   rw[F]at B;have hG:G=(i,n):=by rw[<-z.out.gat,F5 F]
   have V:Hid (∀W,aN wr W->Calls prog 211 #[jp xb] W λe a=>e=aM (.agg (ep f.eo))/\∃d,mF a {f with bP:=f.bP.tail} xb d s f.bz j l1 i rv n/\bJ w L a d):=λW O=>by have D:=z.out.below O;refine(aaL D.p HM.out.1.bP).mono ?_;rintro e a ⟨rfl,d,u,v⟩;exact⟨rfl,d,u,D.gJ.trans v⟩
   have X:Hid (∀W d,mF W {f with bP:=f.bP.tail} xb d s f.bz j l1 i rv n->bJ w L W d->Calls prog 210 #[jp j,an f.clock,an f.bz,.agg (ep f.eo)] W λe a=>e=aM (.tuple #[])/\aL a (({f with bP:=f.bP.tail}:Fx).at s i) xb d/\fj a d.own d.cs ⟨s,n,f.eo,f.clock+f.eo.delay,f.bz⟩ ⟨j,rv⟩/\bJ w L a d):=λW d hP hT=>by refine(aaO hP f.eo f.clock HM.out.2.2 HM.out.1.clock.1 HM.out.1.clock.2 HM.out.1.eo.1 HM.out.1.eo.2).mono ?_;rintro e a ⟨rfl,u,v,o⟩;exact⟨rfl,u,v,hT.trans o⟩
   have U:=bf z.out.p.fx.clS;have HE:=bf hG;clear hG
   go_upto_region 3 with(go_at_call 208;refine B.out.mono ?_;rintro e w2 ⟨rfl,H⟩)
   have s0:ClS xb f.clock f.bz w2:=⟨bO H U.out.1,bO H U.out.2⟩;refine fq (S:=ClS xb f.clock f.bz) s0 λbL=>?_;refine tk 0 ?_;refine tk 1 ?_;refine tk 2 ?_;refine tk 3 ?_;refine tk 4 ?_;refine tk 5 ?_;refine tk 6 ?_;refine tk 7 ?_;refine tk 8 ?_;refine tk 9 ?_;refine rH 10 λK E=>?_;go_simp;go_at_call 211;refine(V.out _ (H.trans (iU (Below.refl _ _) _))).mono ?_;rintro e A ⟨rfl,d,o,C⟩;have I2:ClS xb f.clock f.bz A:=o.fx.clS;have J:Hid (mF A {f with bP:=f.bP.tail} xb d s f.bz j l1 i rv n/\bJ w L A d):=⟨o,C⟩;clear o C;refine E.out _ _ I2 (λbI=>?_);clear E K;refine rH 11 λK E=>?_;go_simp;go_at_call 210;refine(X.out _ d J.out.1 J.out.2).mono ?_;rintro e I ⟨rfl,N,h6,h7⟩;have Rr:ClS xb f.clock f.bz I:=N.clS;have M:Hid (aL I (({f with bP:=f.bP.tail}:Fx).at s i) xb d/\fj I d.own d.cs ⟨s,n,f.eo,f.clock+f.eo.delay,f.bz⟩ ⟨j,rv⟩/\bJ w L I d):=⟨N,h6,h7⟩;clear N h6 h7;refine E.out _ _ Rr (λbK=>?_);clear E K;refine dL ?_;have bU:=Rr.2;have xf:=bF M.out.1.box 12;have hd:(f.bz:Int)<=281474976710656:=by have:=HM.out.1.bz;omega
   have HU:Hid (Calls prog 212 #[.pointer (aa (aj xb 18)),jp j] (I.setCell (aj xb 12) (an ((f.bz:Int)+1))) λe a=>e=aM (.tuple #[])/\∃t,aL a F' xb t/\bJ w L a t):=by obtain⟨R,q2,q3⟩:=M.out;refine(E5 (Zh R) (fj.put R q2) HM.out.2.2 HM.out.1.jW).mono ?_;rintro e a ⟨rfl,t,u,v⟩;refine⟨rfl,t,?_,(q3.trans ⟨λ_ _=>rfl,(bh.refl _ _).set (by show d.own xb≠0;rw[R.eR];omega) _⟩).trans v⟩;rw[HG.out,HE.out];exact u
   clear M V X z B J;go_wp2_with (go_at_call 212;refine HU.out.mono ?_;rintro e w5 ⟨rfl,h8⟩);exact fI rfl rfl ⟨rfl,h8⟩
  |true=>
   rw[F]at B
   have HT:Hid (∀W,aN wr W->Calls prog 209 #[jp j] W λe a=>e=aM (.tuple #[])/\(∃x l1 i rv n,xk w L f xb s f.bz j c G a x l1 i rv n)/\rz (a.cell? (aj c 13))<rz (wr.cell? (aj c 13))):=λW O=>by
    have D:=z.out.below O;obtain⟨a1,a2⟩:=Fx.Xz F;refine(aaK D.p HM.out.2.1 D.go a1 HM.out.2.2 (by have:=D.len;omega)).mono ?_;rintro e a ⟨rfl,tA,t,Q,u,v,o⟩;have y:=D.go.next HM.out.1.ou a1 a2
    refine⟨rfl,⟨t,Q,i.next,tA,n++[i.fst],u,D.gJ.trans v,o.trans D.c,y.1,?_,aC,by have:=D.len;have:=y.2;simp;omega,λr hr=>?_⟩,?_⟩
    ·rw[<-D.gat,F3 F y.2]
    ·rcases iT.1 hr with hr|hr
     ·exact D.ok r hr
     ·simp at hr;rw[hr];exact CE D.go.fine a1
    ·have Y:=u.len HM.out.2.1;have Z:=z.out.p.len HM.out.2.1;rw[o,D.c]at Y;rw[D.c]at Z;rw[Y,Z];have:=y.2;omega
   go_wp2_with (first
    |(go_at_call 208;refine B.out.mono ?_;rintro e w2 ⟨rfl,H⟩)
    |(go_at_call 209;refine(HT.out _ H).mono ?_;rintro e A ⟨rfl,o,C⟩;have T:Hid ((∃x l1 i rv n,xk w L f xb s f.bz j c G A x l1 i rv n)/\rz (A.cell? (aj c 13))<rz (wr.cell? (aj c 13))):=⟨o,C⟩;clear o C))
   exact⟨T.out.1,T.out.2⟩
def Fx.aX(f:Fx)(k:Ck):Ck:=if f.opn then k else k.open f.g
def Fx.turned(f:Fx)(k:Ck):Fx:={f.at f.aG (f.aX k)with opn:=aq}
def Fx.bR(f:Fx):Fx×Bool:=match f.K[f.aG]? with
 |some (aa k)=>
  if(f.turned k).free (f.aX k)then(if bY (f.aX k).fst.m<=(f.aX k).de then((f.turned k).iJ f.aG (f.aX k),aq)else(f.turned k,av))
  else((f.turned k).at f.aG (f.aX k).lose,av)
 |_=>(f,av)
section
variable {w W W':az} {f:Fx} {xb s c:Nat} {L:dy} {k:Ck}
def cK(w:az)(L:dy)(f:Fx)(xb s c:Nat)(W:az):Prop:=∃a l1,aL W f xb a/\a.cs[s]? =aa (aa l1)/\l1.c=c/\bJ w L W a
def cK.below(h:cK w L f xb s c W)(b:aN W W'):cK w L f xb s c W':=by obtain⟨d,l1,e,g,i,a⟩:=h;exact⟨d,l1,e.below b,g,i,⟨a.own,a.cI.trans (.below b)⟩⟩
def cK.put(h:cK w L f xb s c W):cK w L {f with opn:=aq} xb s c (W.setCell (aj xb 16) (.bool aq))/\W.cell? (aj xb 16)=aa (.bool f.opn)/\W.frozen? (aj xb 16)=av:=by obtain⟨b,l1,a,d,e,g⟩:=h;refine⟨⟨b,l1,a.put 16 _ {f with opn:=aq} (by simp[lJ]) rfl rfl rfl rfl rfl ⟨rfl,rfl,rfl⟩,d,e,g.trans ⟨λ_ _=>rfl,(bh.refl _ _).set (by show b.own xb≠0;rw[a.eR];omega) _⟩⟩,aI a.box rfl,bF a.box 16⟩
def cK.client(h:cK w L f xb s c W)(p:f.K[s]? =aa (aa k))(n k' v)(hc:∀l1:Lc,l1.c=c->l1.At W f.g k->Calls prog n #[jp c] W λe a=>e=aM v/\l1.At a f.g k'/\bh (λi=>i=c) W a):
  Calls prog n #[jp c] W λe a=>e=aM v/\cK w L (f.at s k') xb s c a:=by
 obtain⟨q,l1,o,j,d,t⟩:=h;obtain⟨x,m,u,l⟩:=o.aG j;rw[p]at m;cases m;refine(hc l1 d u).mono ?_;rintro e a ⟨rfl,r,g2⟩;exact⟨rfl,_,l1,o.client (cA:=q.own) j rfl p g2 (λb _ e=>by rw[e,<-d];exact l.1) r (λ_ _=>rfl) l,uC j,d,t.trans ⟨λ_ _=>rfl,g2.mono λb _ e=>by rw[e,<-d,l.1];omega⟩⟩
def cK.open(h:cK w L f xb s c W)(d:f.K[s]? =aa (aa k))(i:0<=f.g.qn/\f.g.qn<=65535)(j:0<=k.wt/\k.wt<=65535)(b:0<=k.de/\k.de<=1048576):
  Calls prog 165 #[jp c] W λe l=>e=aM (.tuple #[])/\cK w L (f.at s (k.open f.g)) xb s c l:=
 h.client d _ _ _ λl1 e a=>by subst e;exact aaw _ _ _ _ _ _ _ _ W a i j b
def cK.lose(h:cK w L f xb s c W)(b:f.K[s]? =aa (aa k)):
  Calls prog 167 #[jp c] W λe d=>e=aM (.tuple #[])/\cK w L (f.at s k.lose) xb s c d:=
 h.client b _ _ _ λl1 e a=>by subst e;exact U0 _ _ _ _ _ _ _ _ W a
def cK.free(h:cK w L f xb s c W)(m:f.K[s]? =aa (aa k))(hf:f.kH):
  Calls prog 166 #[jp xb,jp c] W λe a=>e=aM (.tuple #[.agg (aO k.fst),.bool (f.free k)])/\cK w L f xb s c a/\aN W a:=by
 obtain⟨i,l1,b,d,j,l⟩:=h;subst j;refine(b.firstFree hf m d).mono ?_;rintro e a ⟨rfl,g⟩;exact⟨rfl,cK.below ⟨i,l1,b,d,rfl,l⟩ g,g⟩
def cK.pay(h:cK w L f xb s c W)(o:f.K[s]? =aa (aa k)):
  Calls prog 168 #[jp c,.agg (aO k.fst)] W λe b=>e=aM (.bool (decide (bY k.fst.m<=k.de)))/\cK w L f xb s c b:=by
 have d:=h;obtain⟨q,l1,g,i,j,r⟩:=h;subst j;obtain⟨u,a,l,t⟩:=g.aG i;rw[o]at a;cases a;refine(PG l1.c k.fst k.de W (aI l.p.box rfl)).mono ?_;rintro e b ⟨rfl,n⟩;exact⟨rfl,d.below n⟩
def cK.iJ(h:cK w L f xb s c W)(r:f.K[s]? =aa (aa k))(hm:f.May)(p:k.Go)(hr:k.fB f.g=aq)(t:bY k.fst.m<=k.de)(u:k.q.length<=1048576):
  Calls prog 169 #[jp xb,jp c] W λe b=>e=aM (.tuple #[])/\∃a,aL b (f.iJ s k) xb a/\bJ w L b a:=by
 obtain⟨d,l1,j,l,n,o⟩:=h;subst n;refine(D6 W f xb s d k l1 j r l hm p hr t u).mono ?_;rintro e b ⟨rfl,a,i,g2⟩;exact⟨rfl,a,i,o.trans g2⟩
end
def Ak{f:Fx}{k:Ck}(a:f.K[f.aG]? =aa (aa k)):(f.turned k).K[f.aG]? =aa (aa (f.aX k)):=uC a
def MI{f:Fx}{k:Ck}(b:f.K[f.aG]? =aa (aa k))(a:f.opn=aq):f.turned k=f:=by unfold Fx.turned Fx.aX;rw[aW a];unfold Fx.at;rw[(wu b)];cases f;cases a;rfl
structure Fx.zx(f:Fx):Prop where
 may:f.May
 aG:f.aG<f.K.length
 qn:0<=f.g.qn/\f.g.qn<=65535
 who:∀k,f.K[f.aG]? =aa (aa k)->(0<=k.wt/\k.wt<=65535)/\(0<=k.de/\k.de<=1048576)/\(f.aX k).Go
def Fx.zx.vZ{f:Fx}{k:Ck}(h:f.zx)(a:f.K[f.aG]? =aa (aa k)):(f.turned k).May:=
 have hF:=h.may.fine.at (h.who k a).2.2.fine
 ⟨⟨hF.cl,hF.jb,hF.dX,hF.jW,hF.pK⟩,h.may.ou,h.may.fresh,h.may.clock,h.may.bz,h.may.bP,h.may.eo,h.may.jW⟩
structure qW(w:az)(f:Fx)(xb:Nat)(L:dy)(k:Ck)(l:Lc):Prop where
 at_:aL w f xb L
 kk:f.K[f.aG]? =aa (aa k)
 ll:L.cs[f.aG]? =aa (aa l)
 t:f.zx
 qq:k.q.length<=1048576
def qW.cells{w f xb L k l}(h:qW w f xb L k l):w.cell? (aj xb 9)=aa (.slice (aa (aj L.sb 0)) f.K.length f.K.length)/\w.cell? (aj xb 15)=aa (an f.aG)/\w.cell? (aj xb 16)=aa (.bool f.opn)/\w.cell? (aj L.sb f.aG)=aa (jp l.c)/\(f.aG:Int)<(f.K.length:Int):=by
 refine⟨aI h.at_.box rfl,aI h.at_.box rfl,aI h.at_.box rfl,?_,by have:=h.t.aG;omega⟩;have e:(L.cs.map λl=>l.map Lc.c)[f.aG]? =aa (aa l.c):=by rw[jA,h.ll];rfl
 exact aI h.at_.dX (wo e)
def qW.tu{w f xb L k l}(h:qW w f xb L k l)(n):cK w L f xb f.aG l.c (w.drewN n):=⟨L,l,h.at_.drewN n,h.ll,rfl,⟨λ_ _=>rfl,(bh.below (iU (Below.refl _ _) n))⟩⟩
def UT{f:Fx}{k:Ck}:(f.aX k).q=k.q:=by unfold Fx.aX;split<;>rfl
def agb(w f xb L k)(l:Lc)(h:qW w f xb L k l)(m:f.opn=av)(E:(f.turned k).free (f.aX k)=av):
  Calls prog 107 #[jp xb] w λe a=>e=aM (.bool av)/\∃b,aL a ((f.turned k).at f.aG (f.aX k).lose) xb b/\bJ w L a b:=by
 obtain⟨I,H,A,K,M⟩:=h.cells;have N:=h.t.aG;rw[m]at A;have o:=Ak h.kk
 have v:Hid (∀n,Calls prog 165 #[jp l.c] (w.drewN n) λe a=>e=aM (.tuple #[])/\cK w L (f.turned k) xb f.aG l.c (a.setCell (aj xb 16) (.bool aq))/\a.cell? (aj xb 16)=aa (.bool av)/\a.frozen? (aj xb 16)=av):=λn=>by
  refine((h.tu n).open h.kk h.t.qn (h.t.who k h.kk).1 (h.t.who k h.kk).2.1).mono ?_;rintro e a ⟨rfl,d⟩;have i:=d.put;refine⟨rfl,?_,i.2.1.trans (by rw[show(f.at f.aG (k.open f.g)).opn=f.opn from rfl,m]),i.2.2⟩;have e:f.turned k={f.at f.aG (k.open f.g)with opn:=aq}:=by unfold Fx.turned Fx.aX;rw[aK (by rw[m];decide)]
  rw[e];exact i.1
 have s:Hid (∀W,cK w L (f.turned k) xb f.aG l.c W->Calls prog 166 #[jp xb,jp l.c] W λe a=>e=aM (.tuple #[.agg (aO (f.aX k).fst),.bool av])/\cK w L (f.turned k) xb f.aG l.c a):=λW j=>by refine(j.free o (h.t.vZ h.kk).fine).mono ?_;rintro e a ⟨rfl,d,_⟩;rw[E];exact⟨rfl,d⟩
 have u:Hid (∀W,cK w L (f.turned k) xb f.aG l.c W->Calls prog 167 #[jp l.c] W λe a=>e=aM (.tuple #[])/\∃b,aL a ((f.turned k).at f.aG (f.aX k).lose) xb b/\bJ w L a b):=λW j=>by refine(j.lose o).mono ?_;rintro e a ⟨rfl,z,l1,d,_,_,i⟩;exact⟨rfl,z,d,i⟩
 have y:Hid (∀W,cK w L (f.turned k) xb f.aG l.c W->cK w L (f.turned k) xb f.aG l.c (W.alloc (aA (aO (f.aX k).fst) 134))):=λW j=>j.below (bp);have x:Hid (∀W:az,cu (W.alloc (aA (aO (f.aX k).fst) 134)) W.heap.size (f.aX k).fst):=λW=>cu.of (cG W _);generalize (f.aX k).fst=r at*;generalize ((f.turned k).at f.aG (f.aX k).lose)=F' at*;generalize f.turned k=G at*;generalize l.c=c at*;go_enter func107,ntmps107;go_wp2
 go_quiet (fail)
 go_wp2_with (first
  |(go_at_call 165;refine(v.out _).mono ?_;rintro e Z ⟨rfl,B,d16,J⟩;have p:=bf B)
  |(go_at_call 166;refine(s.out _ p.out).mono ?_;rintro e F ⟨rfl,C⟩;have q:=bf (y.out _ C);obtain⟨O,P,Q,R,S,T,U,V,X,Y⟩:=x.out F)
  |(go_at_call 167;refine(u.out _ q.out).mono ?_;rintro e w3 ⟨rfl,D⟩))
 go_ret;exact⟨rfl,D⟩
def afW(w f xb L k)(l:Lc)(h:qW w f xb L k l)(o:f.opn=av)(I:(f.turned k).free (f.aX k)=aq)(H:¬bY (f.aX k).fst.m<=(f.aX k).de):
  Calls prog 107 #[jp xb] w λe a=>e=aM (.bool av)/\∃i,aL a (f.turned k) xb i/\bJ w L a i:=by
 obtain⟨N,M,D,P,Q⟩:=h.cells;have R:=h.t.aG;rw[o]at D;have p:=Ak h.kk
 have y:Hid (∀n,Calls prog 165 #[jp l.c] (w.drewN n) λe a=>e=aM (.tuple #[])/\cK w L (f.turned k) xb f.aG l.c (a.setCell (aj xb 16) (.bool aq))/\a.cell? (aj xb 16)=aa (.bool av)/\a.frozen? (aj xb 16)=av):=λn=>by
  refine((h.tu n).open h.kk h.t.qn (h.t.who k h.kk).1 (h.t.who k h.kk).2.1).mono ?_;rintro e a ⟨rfl,b⟩;have j:=b.put;refine⟨rfl,?_,j.2.1.trans (by rw[show(f.at f.aG (k.open f.g)).opn=f.opn from rfl,o]),j.2.2⟩;have e:f.turned k={f.at f.aG (k.open f.g)with opn:=aq}:=by unfold Fx.turned Fx.aX;rw[aK (by rw[o];decide)]
  rw[e];exact j.1
 have x:Hid (∀W,cK w L (f.turned k) xb f.aG l.c W->Calls prog 166 #[jp xb,jp l.c] W λe a=>e=aM (.tuple #[.agg (aO (f.aX k).fst),.bool aq])/\cK w L (f.turned k) xb f.aG l.c a):=λW d=>by refine(d.free p (h.t.vZ h.kk).fine).mono ?_;rintro e a ⟨rfl,b,_⟩;rw[I];exact⟨rfl,b⟩
 have z:Hid (∀W,cK w L (f.turned k) xb f.aG l.c W->Calls prog 168 #[jp l.c,.agg (aO (f.aX k).fst)] W λe a=>e=aM (.bool av)/\cK w L (f.turned k) xb f.aG l.c a):=λW d=>by refine(d.pay p).mono ?_;rintro e a ⟨rfl,b⟩;rw[iB H];exact⟨rfl,b⟩
 have v:Hid (∀W,cK w L (f.turned k) xb f.aG l.c W->∃i,aL W (f.turned k) xb i/\bJ w L W i):=λW d=>by obtain⟨C,l1,b,_,_,j⟩:=d;exact⟨C,b,j⟩
 have B:Hid (∀W,cK w L (f.turned k) xb f.aG l.c W->cK w L (f.turned k) xb f.aG l.c (W.alloc (aA (aO (f.aX k).fst) 134))):=λW d=>d.below (bp);have A:Hid (∀W:az,cu (W.alloc (aA (aO (f.aX k).fst) 134)) W.heap.size (f.aX k).fst):=λW=>cu.of (cG W _);generalize (f.aX k).fst=r at*;generalize f.turned k=K at*;generalize l.c=c at*;go_enter func107,ntmps107;go_wp2
 go_quiet (fail)
 go_wp2_with (first
  |(go_at_call 165;refine(y.out _).mono ?_;rintro e w1 ⟨rfl,E,d16,O⟩;have q:=bf E)
  |(go_at_call 166;refine(x.out _ q.out).mono ?_;rintro e J ⟨rfl,F⟩;have s:=bf (B.out _ F);obtain⟨S,T,U,V,X,Y,Z,s7,s8,s9⟩:=A.out J)
  |(go_at_call 168;refine(z.out _ s.out).mono ?_;rintro e w3 ⟨rfl,G⟩;have u:=bf G))
 go_ret;exact⟨rfl,(v.out _ u.out)⟩
def afZ(w f xb L k)(l:Lc)(h:qW w f xb L k l)(p:f.opn=av)(s:(f.turned k).free (f.aX k)=aq)(q:bY (f.aX k).fst.m<=(f.aX k).de):
  Calls prog 107 #[jp xb] w λe a=>e=aM (.bool aq)/\∃d,aL a ((f.turned k).iJ f.aG (f.aX k)) xb d/\bJ w L a d:=by
 obtain⟨O,N,E,Q,R⟩:=h.cells;have S:=h.t.aG;rw[p]at E;have o:=Ak h.kk
 have A:Hid (∀n,Calls prog 165 #[jp l.c] (w.drewN n) λe a=>e=aM (.tuple #[])/\cK w L (f.turned k) xb f.aG l.c (a.setCell (aj xb 16) (.bool aq))/\a.cell? (aj xb 16)=aa (.bool av)/\a.frozen? (aj xb 16)=av):=λn=>by
  refine((h.tu n).open h.kk h.t.qn (h.t.who k h.kk).1 (h.t.who k h.kk).2.1).mono ?_;rintro e a ⟨rfl,i⟩;have j:=i.put;refine⟨rfl,?_,j.2.1.trans (by rw[show(f.at f.aG (k.open f.g)).opn=f.opn from rfl,p]),j.2.2⟩;have e:f.turned k={f.at f.aG (k.open f.g)with opn:=aq}:=by unfold Fx.turned Fx.aX;rw[aK (by rw[p];decide)]
  rw[e];exact j.1
 have z:Hid (∀W,cK w L (f.turned k) xb f.aG l.c W->Calls prog 166 #[jp xb,jp l.c] W λe a=>e=aM (.tuple #[.agg (aO (f.aX k).fst),.bool aq])/\cK w L (f.turned k) xb f.aG l.c a):=λW b=>by refine(b.free o (h.t.vZ h.kk).fine).mono ?_;rintro e a ⟨rfl,i,_⟩;rw[s];exact⟨rfl,i⟩
 have B:Hid (∀W,cK w L (f.turned k) xb f.aG l.c W->Calls prog 168 #[jp l.c,.agg (aO (f.aX k).fst)] W λe a=>e=aM (.bool aq)/\cK w L (f.turned k) xb f.aG l.c a):=λW b=>by refine(b.pay o).mono ?_;rintro e a ⟨rfl,i⟩;rw[iC q];exact⟨rfl,i⟩
 have y:Hid (∀W,cK w L (f.turned k) xb f.aG l.c W->Calls prog 169 #[jp xb,jp l.c] W λe a=>e=aM (.tuple #[])/\∃d,aL a ((f.turned k).iJ f.aG (f.aX k)) xb d/\bJ w L a d):=λW b=>
  b.iJ o (h.t.vZ h.kk) (h.t.who k h.kk).2.2 (Fl s) q (by rw[UT];exact h.qq)
 have D:Hid (∀W,cK w L (f.turned k) xb f.aG l.c W->cK w L (f.turned k) xb f.aG l.c (W.alloc (aA (aO (f.aX k).fst) 134))):=λW b=>b.below (bp);have C:Hid (∀W:az,cu (W.alloc (aA (aO (f.aX k).fst) 134)) W.heap.size (f.aX k).fst):=λW=>cu.of (cG W _);generalize (f.aX k).fst=r at*;generalize ((f.turned k).iJ f.aG (f.aX k))=K at*;generalize f.turned k=M at*;generalize l.c=c at*;go_enter func107,ntmps107;go_wp2
 go_quiet (fail)
 go_wp2_with (first
  |(go_at_call 165;refine(A.out _).mono ?_;rintro e w1 ⟨rfl,F,d16,P⟩;have u:=bf F)
  |(go_at_call 166;refine(z.out _ u.out).mono ?_;rintro e J ⟨rfl,G⟩;have v:=bf (D.out _ G);obtain⟨T,U,V,X,Y,Z,s6,s7,s8,s9⟩:=C.out J)
  |(go_at_call 168;refine(B.out _ v.out).mono ?_;rintro e w3 ⟨rfl,I⟩;have x:=bf I)
  |(go_at_call 169;refine(y.out _ x.out).mono ?_;rintro e w4 ⟨rfl,H⟩))
 go_ret;exact⟨rfl,H⟩
def aga(w f xb L k)(l:Lc)(h:qW w f xb L k l)(j:f.opn=aq)(B:(f.turned k).free (f.aX k)=av):
  Calls prog 107 #[jp xb] w λe a=>e=aM (.bool av)/\∃b,aL a ((f.turned k).at f.aG (f.aX k).lose) xb b/\bJ w L a b:=by
 obtain⟨F,E,x,G,H⟩:=h.cells;have I:=h.t.aG;rw[j]at x;have i:=Ak h.kk
 have q:Hid (∀n,cK w L (f.turned k) xb f.aG l.c (w.drewN n)):=λn=>by rw[MI h.kk j];exact h.tu n
 have o:Hid (∀W,cK w L (f.turned k) xb f.aG l.c W->Calls prog 166 #[jp xb,jp l.c] W λe a=>e=aM (.tuple #[.agg (aO (f.aX k).fst),.bool av])/\cK w L (f.turned k) xb f.aG l.c a):=λW d=>by refine(d.free i (h.t.vZ h.kk).fine).mono ?_;rintro e a ⟨rfl,g,_⟩;rw[B];exact⟨rfl,g⟩
 have p:Hid (∀W,cK w L (f.turned k) xb f.aG l.c W->Calls prog 167 #[jp l.c] W λe a=>e=aM (.tuple #[])/\∃b,aL a ((f.turned k).at f.aG (f.aX k).lose) xb b/\bJ w L a b):=λW d=>by refine(d.lose i).mono ?_;rintro e a ⟨rfl,v,l1,g,_,_,y⟩;exact⟨rfl,v,g,y⟩
 have u:Hid (∀W,cK w L (f.turned k) xb f.aG l.c W->cK w L (f.turned k) xb f.aG l.c (W.alloc (aA (aO (f.aX k).fst) 134))):=λW d=>d.below (bp);have s:Hid (∀W:az,cu (W.alloc (aA (aO (f.aX k).fst) 134)) W.heap.size (f.aX k).fst):=λW=>cu.of (cG W _);generalize (f.aX k).fst=r at*;generalize ((f.turned k).at f.aG (f.aX k).lose)=F' at*;generalize f.turned k=D at*;generalize l.c=c at*;go_enter func107,ntmps107;go_wp2
 go_quiet (fail)
 go_wp2_with (first
  |(go_at_call 166;refine(o.out _ (q.out _)).mono ?_;rintro e C ⟨rfl,z⟩;have m:=bf (u.out _ z);obtain⟨J,K,M,N,O,P,Q,R,S,T⟩:=s.out C)
  |(go_at_call 167;refine(p.out _ m.out).mono ?_;rintro e U ⟨rfl,A⟩))
 go_ret;exact⟨rfl,A⟩
def afV(w f xb L k)(l:Lc)(h:qW w f xb L k l)(j:f.opn=aq)(F:(f.turned k).free (f.aX k)=aq)(E:¬bY (f.aX k).fst.m<=(f.aX k).de):
  Calls prog 107 #[jp xb] w λe a=>e=aM (.bool av)/\∃d,aL a (f.turned k) xb d/\bJ w L a d:=by
 obtain⟨J,I,A,K,M⟩:=h.cells;have N:=h.t.aG;rw[j]at A;have i:=Ak h.kk
 have u:Hid (∀n,cK w L (f.turned k) xb f.aG l.c (w.drewN n)):=λn=>by rw[MI h.kk j];exact h.tu n
 have s:Hid (∀W,cK w L (f.turned k) xb f.aG l.c W->Calls prog 166 #[jp xb,jp l.c] W λe a=>e=aM (.tuple #[.agg (aO (f.aX k).fst),.bool aq])/\cK w L (f.turned k) xb f.aG l.c a):=λW b=>by refine(b.free i (h.t.vZ h.kk).fine).mono ?_;rintro e a ⟨rfl,g,_⟩;rw[F];exact⟨rfl,g⟩
 have v:Hid (∀W,cK w L (f.turned k) xb f.aG l.c W->Calls prog 168 #[jp l.c,.agg (aO (f.aX k).fst)] W λe a=>e=aM (.bool av)/\cK w L (f.turned k) xb f.aG l.c a):=λW b=>by refine(b.pay i).mono ?_;rintro e a ⟨rfl,g⟩;rw[iB E];exact⟨rfl,g⟩
 have q:Hid (∀W,cK w L (f.turned k) xb f.aG l.c W->∃d,aL W (f.turned k) xb d/\bJ w L W d):=λW b=>by obtain⟨z,l1,g,_,_,B⟩:=b;exact⟨z,g,B⟩
 have y:Hid (∀W,cK w L (f.turned k) xb f.aG l.c W->cK w L (f.turned k) xb f.aG l.c (W.alloc (aA (aO (f.aX k).fst) 134))):=λW b=>b.below (bp);have x:Hid (∀W:az,cu (W.alloc (aA (aO (f.aX k).fst) 134)) W.heap.size (f.aX k).fst):=λW=>cu.of (cG W _);generalize (f.aX k).fst=r at*;generalize f.turned k=H at*;generalize l.c=c at*;go_enter func107,ntmps107;go_wp2
 go_quiet (fail)
 go_wp2_with (first
  |(go_at_call 166;refine(s.out _ (u.out _)).mono ?_;rintro e G ⟨rfl,C⟩;have o:=bf (y.out _ C);obtain⟨O,P,Q,R,S,T,U,V,X,Y⟩:=x.out G)
  |(go_at_call 168;refine(v.out _ o.out).mono ?_;rintro e Z ⟨rfl,D⟩;have p:=bf D))
 go_ret;exact⟨rfl,(q.out _ p.out)⟩
def afY(w f xb L k)(l:Lc)(h:qW w f xb L k l)(j:f.opn=aq)(p:(f.turned k).free (f.aX k)=aq)(o:bY (f.aX k).fst.m<=(f.aX k).de):
  Calls prog 107 #[jp xb] w λe a=>e=aM (.bool aq)/\∃d,aL a ((f.turned k).iJ f.aG (f.aX k)) xb d/\bJ w L a d:=by
 obtain⟨J,I,B,K,M⟩:=h.cells;have N:=h.t.aG;rw[j]at B;have i:=Ak h.kk
 have x:Hid (∀n,cK w L (f.turned k) xb f.aG l.c (w.drewN n)):=λn=>by rw[MI h.kk j];exact h.tu n
 have v:Hid (∀W,cK w L (f.turned k) xb f.aG l.c W->Calls prog 166 #[jp xb,jp l.c] W λe a=>e=aM (.tuple #[.agg (aO (f.aX k).fst),.bool aq])/\cK w L (f.turned k) xb f.aG l.c a):=λW b=>by refine(b.free i (h.t.vZ h.kk).fine).mono ?_;rintro e a ⟨rfl,g,_⟩;rw[p];exact⟨rfl,g⟩
 have y:Hid (∀W,cK w L (f.turned k) xb f.aG l.c W->Calls prog 168 #[jp l.c,.agg (aO (f.aX k).fst)] W λe a=>e=aM (.bool aq)/\cK w L (f.turned k) xb f.aG l.c a):=λW b=>by refine(b.pay i).mono ?_;rintro e a ⟨rfl,g⟩;rw[iC o];exact⟨rfl,g⟩
 have u:Hid (∀W,cK w L (f.turned k) xb f.aG l.c W->Calls prog 169 #[jp xb,jp l.c] W λe a=>e=aM (.tuple #[])/\∃d,aL a ((f.turned k).iJ f.aG (f.aX k)) xb d/\bJ w L a d):=λW b=>
  b.iJ i (h.t.vZ h.kk) (h.t.who k h.kk).2.2 (Fl p) o (by rw[UT];exact h.qq)
 have A:Hid (∀W,cK w L (f.turned k) xb f.aG l.c W->cK w L (f.turned k) xb f.aG l.c (W.alloc (aA (aO (f.aX k).fst) 134))):=λW b=>b.below (bp);have z:Hid (∀W:az,cu (W.alloc (aA (aO (f.aX k).fst) 134)) W.heap.size (f.aX k).fst):=λW=>cu.of (cG W _);generalize (f.aX k).fst=r at*;generalize ((f.turned k).iJ f.aG (f.aX k))=G at*;generalize f.turned k=H at*;generalize l.c=c at*;go_enter func107,ntmps107;go_wp2
 go_quiet (fail)
 go_wp2_with (first
  |(go_at_call 166;refine(v.out _ (x.out _)).mono ?_;rintro e F ⟨rfl,C⟩;have q:=bf (A.out _ C);obtain⟨O,P,Q,R,S,T,U,V,X,Y⟩:=z.out F)
  |(go_at_call 168;refine(y.out _ q.out).mono ?_;rintro e Z ⟨rfl,E⟩;have s:=bf E)
  |(go_at_call 169;refine(u.out _ s.out).mono ?_;rintro e w4 ⟨rfl,D⟩))
 go_ret;exact⟨rfl,D⟩
def afX(w f xb L)(h:aL w f xb L)(k:f.aG<f.K.length)(a:L.cs[f.aG]? =aa ay):
  Calls prog 107 #[jp xb] w λe b=>e=aM (.bool av)/\∃m,b=w.drewN m:=by
 have g:=aS w xb 9 (.slice (aa (aj L.sb 0)) f.K.length f.K.length) h.box;have d:=aS w xb 15 (an f.aG) h.box
 have i:w.cell? (aj L.sb f.aG)=aa (.pointer ay):=by
  have e:(L.cs.map λl=>l.map Lc.c)[f.aG]? =aa ay:=by rw[jA,a];rfl
  exact aI h.dX (wo e)
 have j:(f.aG:Int)<(f.K.length:Int):=ak;clear h;go_enter func107,ntmps107;go_wp2
 go_quiet (fail)
 go_wp2;go_ret;exact⟨rfl,_,rfl⟩
def F0(w f xb L)(h:aL w f xb L)(g:f.zx)(t:∀k,f.K[f.aG]? =aa (aa k)->k.q.length<=1048576):
  Calls prog 107 #[jp xb] w λe o=>e=aM (.bool f.bR.2)/\∃p,aL o f.bR.1 xb p/\bJ w L o p:=by
 have v:=g.aG;have b:=eI g.aG;cases e:f.K[f.aG]with
 |none=>
  rw[e]at b;have u:f.aG<L.cs.length:=by rw[h.cs.len];exact g.aG
  have n:L.cs[f.aG]? =aa ay:=by
   have j:=eI u;have s:=h.cs.at_ _ _ _ b j;cases r:L.cs[f.aG]with
   |none=>rw[r]at j;exact j
   |some l=>rw[r]at s;exact absurd s (by simp[oW])
  have i:f.bR=(f,av):=by unfold Fx.bR;rw[b]
  rw[i];refine(afX w f xb L h g.aG n).mono ?_;rintro e o ⟨rfl,m,rfl⟩;exact⟨rfl,L,h.drewN m,⟨λ_ _=>rfl,bh.below (iU (Below.refl _ _) m)⟩⟩
 |some k=>
  rw[e]at b;obtain⟨l,n,_⟩:=h.sat b;have hI:qW w f xb L k l:=⟨h,b,n,g,t k b⟩;have i:f.bR=if(f.turned k).free (f.aX k)then(if bY (f.aX k).fst.m<=(f.aX k).de then((f.turned k).iJ f.aG (f.aX k),aq)else(f.turned k,av))else((f.turned k).at f.aG (f.aX k).lose,av):=by unfold Fx.bR;rw[b]
  rw[i];cases c:f.opn<;>cases d:(f.turned k).free (f.aX k)
  ·simp;exact agb w f xb L k l hI c d
  ·by_cases a:bY (f.aX k).fst.m<=(f.aX k).de
   ·simp only[cV,a];exact afZ w f xb L k l hI c d a
   ·simp only[cV,a,dQ];exact afW w f xb L k l hI c d a
  ·simp only[eX,dQ];exact aga w f xb L k l hI c d
  ·by_cases a:bY (f.aX k).fst.m<=(f.aX k).de
   ·simp only[cV,a];exact afY w f xb L k l hI c d a
   ·simp only[cV,a,dQ];exact afV w f xb L k l hI c d a
def Fx.pass(f:Fx):Fx:={f with aG:=(f.aG+1)%f.K.length,opn:=av}
def aaG{w f xb L}(h:aL w f xb L):aL ((w.setCell (aj xb 15) (an (((f.aG+1)%f.K.length:Nat):Int))).setCell (aj xb 16) (.bool av)) f.pass xb L:=by have a:aL (w.setCell (aj xb 15) (an (((f.aG+1)%f.K.length:Nat):Int))) {f with aG:=(f.aG+1)%f.K.length} xb L:=h.put 15 _ {f with aG:=(f.aG+1)%f.K.length} (by simp[lJ]) rfl rfl rfl rfl rfl ⟨rfl,rfl,rfl⟩;exact a.put 16 _ f.pass (by simp[lJ,Fx.pass]) rfl rfl rfl rfl rfl ⟨rfl,rfl,rfl⟩
def E2(w f xb L)(h:aL w f xb L)(l:f.aG<f.K.length)(hc:f.g.cl=f.K.length)(n:f.K.length<=65535):
  Calls prog 108 #[jp xb] w λe m=>e=aM (.tuple #[])/\aL m f.pass xb L/\bJ w L m L:=by
 have b:w.cell? (aj xb 1)=aa (an f.K.length):=by rw[<-hc];exact aI h.box rfl
 have c:=aS w xb 15 (an f.aG) h.box;have o:=aS w xb 16 (.bool f.opn) h.box;have f15:=bF h.box 15;have f16:=bF h.box 16;have a:Hid (aL ((w.setCell (aj xb 15) (an (((f.aG+1)%f.K.length:Nat):Int))).setCell (aj xb 16) (.bool av)) f.pass xb L/\L.own xb≠0):=⟨aaG h,by rw[h.eR];omega⟩;obtain⟨N,i⟩:∃N,f.K.length=N:=⟨_,rfl⟩;obtain⟨j,k⟩:∃j,f.aG=j:=⟨_,rfl⟩;rw[i]at l n b a;rw[k]at l c a;have p:¬N=0:=ak
 have q:(dJ.wrap ((j:Int)+1)).tmod (N:Int)=(((j+1)%N:Nat):Int):=by rw[gV ak ak,show((j:Int)+1)=((j+1:Nat):Int) by omega];rfl
 clear h hc i k;generalize f.opn=op at*;go_enter func108,ntmps108
 go_upto_region 0 with fail
 refine iD ?_;refine dY (S:=λW=>W.cell? (aj xb 1)=aa (an N)/\W.cell? (aj xb 15)=aa (an j)) 16 aT ⟨b,c⟩ ?_;intro hS;refine gk 0 ?_;refine gk 1 ?_;refine gk 2 ?_;refine gk 3 ?_;refine gk 4 ?_;refine gs 5 ?_;refine gk 6 ?_;refine gk 7 ?_;refine gk 8 ?_;refine gk 9 ?_;refine gk 10 ?_;refine gs 11 ?_;refine gk 12 ?_;refine gk 13 ?_;refine gk 14 ?_;refine gk 15 ?_;refine gz λK d=>?_;go_simp;refine d.out _ _ ?_;clear d K;refine ef aT ?_ _;refine gE ?_;go_wp2_with fail;exact fI rfl rfl ⟨rfl,a.out.1.drew,⟨λ_ _=>rfl,(((bh.refl _ _).set a.out.2 _).set a.out.2 _).drew⟩⟩
def Fx.turns:Nat->Nat->Fx->Fx
 |0,_,f=>f
 |n+1,p,f=>if(f.fl.length:Int)<f.g.wk/\(p:Int)<=f.g.cl then(if f.bR.2 then Fx.turns n 0 f.bR.1 else Fx.turns n (p+1) f.bR.1.pass)else f
def Fx.fuel(f:Fx)(p:Nat):Nat:=(f.g.wk.toNat-f.fl.length) *(f.g.cl.toNat+2)+(f.g.cl.toNat+1-p)
structure Abides(P:Fx->Prop):Prop where
 Aj:∀f,P f->f.zx/\(∀k,f.K[f.aG]? =aa (aa k)->k.q.length<=1048576)/\f.g.cl=f.K.length/\f.K.length<=65535/\1<=f.g.wk
 used:∀f,P f->(f.fl.length:Int)<f.g.wk->f.bR.2=aq->P f.bR.1
 pass:∀f,P f->f.bR.2=av->P f.bR.1.pass
def CX(f:Fx):f.bR.1.g=f.g/\f.bR.1.K.length=f.K.length/\f.bR.1.aG=f.aG/\(f.bR.2=aq->f.bR.1.fl.length=f.fl.length+1)/\(f.bR.2=av->f.bR.1.fl=f.fl):=by
 unfold Fx.bR;split
 ·split
  ·split
   ·refine⟨rfl,by simp[Fx.iJ,Fx.turned],rfl,λ_=>?_,λh=>by simp at h⟩;simp only[Fx.iJ];exact Gm (LB _ _)
   ·exact⟨rfl,by simp[Fx.turned],rfl,λh=>by simp at h,λ_=>rfl⟩
  ·exact⟨rfl,by simp[Fx.turned],rfl,λh=>by simp at h,λ_=>rfl⟩
 ·exact⟨rfl,rfl,rfl,λh=>by simp at h,λ_=>rfl⟩
def Ka{f:Fx}{p:Nat}(h:(f.fl.length:Int)<f.g.wk)(e:f.bR.2=aq):f.bR.1.fuel 0<f.fuel p:=by obtain⟨a,_,_,b,_⟩:=CX f;unfold Fx.fuel;rw[a,b e];obtain⟨d,c⟩:∃d,f.g.wk.toNat-f.fl.length=d+1:=⟨f.g.wk.toNat-f.fl.length-1,ak⟩;rw[c,show f.g.wk.toNat-(f.fl.length+1)=d by omega,Nat.add_mul,Nat.one_mul];omega
def JZ{f:Fx}{p:Nat}(d:(p:Int)<=f.g.cl)(c:f.bR.2=av):f.bR.1.pass.fuel (p+1)<f.fuel p:=by obtain⟨a,_,_,_,b⟩:=CX f;unfold Fx.fuel;show(f.bR.1.g.wk.toNat-f.bR.1.fl.length) *(f.bR.1.g.cl.toNat+2)+(f.bR.1.g.cl.toNat+1-(p+1))<_;rw[a,b c];omega
def UU:∀(n m p:Nat) (f:Fx),f.fuel p<=n->f.fuel p<=m->Fx.turns n p f=Fx.turns m p f:=by
 intro n;induction n with
 |zero=>
  intro m p f b hm;cases m with
  |zero=>rfl
  |succ m=>
   rw[Fx.turns,Fx.turns]
   by_cases a:(f.fl.length:Int)<f.g.wk/\(p:Int)<=f.g.cl
   ·exfalso;unfold Fx.fuel at b;have:f.g.cl.toNat+1-p=0:=ak;omega
   ·rw[aK a]
 |succ n d=>
  intro m p f b hm;cases m with
  |zero=>
   rw[Fx.turns,Fx.turns]
   by_cases a:(f.fl.length:Int)<f.g.wk/\(p:Int)<=f.g.cl
   ·exfalso;unfold Fx.fuel at hm;have:f.g.cl.toNat+1-p=0:=ak;omega
   ·rw[aK a]
  |succ m=>
   rw[Fx.turns,Fx.turns]
   by_cases a:(f.fl.length:Int)<f.g.wk/\(p:Int)<=f.g.cl
   ·rw[aW a,aW a];cases c:f.bR.2 with
    |true=>
     simp only[cV];have:=Ka (p:=p) a.1 c;exact d m 0 _ ak ak
    |false=>
     simp;have:=JZ (p:=p) a.2 c;exact d m (p+1) _ ak ak
   ·rw[aK a,aK a]
def aL.Fy{w f xb L}(h:aL w f xb L):fZ w xb 18 L.hv f.fl.length L.hf:=
 ⟨aI h.box rfl,h.fl.row,λe=>by have:=h.fl.own xb e.symm;rw[h.eR]at this;omega⟩
def bJ.drewN{w W L M}(h:bJ w L W M)(n):bJ w L (W.drewN n) M:=⟨h.own,h.cI.trans (.below (iU (Below.refl _ _) n))⟩
structure vH(P:Fx->Prop)(w:az)(L:dy)(g:Cf)(F:Fx)(xb p:Nat)(wr:az)(f1:Fx)(a:dy):Prop where
 at_:aL wr f1 xb a
 gJ:bJ w L wr a
 pp:P f1
 gg:f1.g=g
 end_:Fx.turns (f1.fuel p) p f1=F
def vH.len{P w wr L L1 g F f1 xb p}(h:vH P w L g F xb p wr f1 L1):(g.wk.toNat-rz (wr.cell? (aj xb 18))) *(g.cl.toNat+2)+(g.cl.toNat+1-p)=f1.fuel p:=by obtain⟨a,b,e,_⟩:=h.at_.Fy.form;rw[h.at_.Fy.head,e];unfold Fx.fuel;rw[h.gg];rfl
def afP{f1 F}{g:Cf}{p:Nat}(d:f1.g=g)(a:(f1.fl.length:Int)<g.wk)(c:(p:Int)<=g.cl)(b:f1.bR.2=aq)(he:Fx.turns (f1.fuel p) p f1=F):Fx.turns (f1.bR.1.fuel 0) 0 f1.bR.1=F:=by subst d;have hm:=Ka (p:=p) a b;obtain⟨m,e⟩:∃m,f1.fuel p=m+1:=⟨f1.fuel p-1,ak⟩;rw[e,Fx.turns,aW ⟨a,c⟩,aW b]at he;rw[<-he];exact UU _ _ _ _ (bD _) ak
def afO{f1 F}{g:Cf}{p:Nat}(c:f1.g=g)(b:(f1.fl.length:Int)<g.wk)(a:(p:Int)<=g.cl)(d:f1.bR.2=av)(he:Fx.turns (f1.fuel p) p f1=F):Fx.turns (f1.bR.1.pass.fuel (p+1)) (p+1) f1.bR.1.pass=F:=by subst c;have hm:=JZ a d;obtain⟨m,e⟩:∃m,f1.fuel p=m+1:=⟨f1.fuel p-1,ak⟩;rw[e,Fx.turns,aW ⟨b,a⟩,aK (by grind)]at he;rw[<-he];exact UU _ _ _ _ (bD _) ak
def E7(P:Fx->Prop)(C:Abides P)(w f xb L)(h:aL w f xb L)(D:P f):
  Calls prog 63 #[jp xb] w λe c=>e=aM (.tuple #[])/\P (Fx.turns (f.fuel 0) 0 f)/\∃b,aL c (Fx.turns (f.fuel 0) 0 f) xb b/\bJ w L c b:=by
 have I:Hid (vH P w L f.g (Fx.turns (f.fuel 0) 0 f) xb 0 w f L):=⟨h,bJ.refl _ _,D,rfl,rfl⟩;have r:=bf C;have V:f.g.cl<=65535:=by have:=(C.Aj f D).2.2;omega
 generalize Fx.turns (f.fuel 0) 0 f=F at*;go_enter func63,ntmps63;go_wp2
 go_loopw [2] (λA wr=>∃p:Nat,A=an p/\p<=65536/\Hid (∃f1 j,vH P w L f.g F xb p wr f1 j)) (λA W=>(f.g.wk.toNat-rz (W.cell? (aj xb 18))) *(f.g.cl.toNat+2)+(f.g.cl.toNat+1-(eY A).toNat))
 case atStart=>exact⟨0,rfl,ak,f,L,I.out⟩
 case round=>
  obtain⟨p,rfl,X,hR⟩:=hrel;obtain⟨f1,j,T⟩:=hR.out;have U:wr.cell? (aj xb 7)=aa (an f.g.wk):=by rw[<-T.gg];exact aI T.at_.box rfl
  have S:wr.cell? (aj xb 1)=aa (an f.g.cl):=by rw[<-T.gg];exact aI T.at_.box rfl
  have q:Hid (∀n,Calls prog 77 #[.pointer (aa (aj xb 18))] (wr.drewN n) λe c=>e=aM (an f1.fl.length)/\c=wr.drewN n):=λn=>J9 xb 18 _ j.hv j.hf (wr.drewN n) (T.at_.drewN n).Fy;have d:=bf T;have B:Hid (∀n,F=f1->P F/\∃b,aL (wr.drewN n) F xb b/\bJ w L (wr.drewN n) b):=λn e=>by rw[e];exact⟨T.pp,j,T.at_.drewN n,T.gJ.drewN n⟩
  by_cases k:(f1.fl.length:Int)<f.g.wk
  ·have d1:=iC k
   by_cases o:(p:Int)<=f.g.cl
   ·have d2:=iC o
    have s:Hid (∀n,Calls prog 107 #[jp xb] (wr.drewN n) λe c=>e=aM (.bool f1.bR.2)/\∃b,aL c f1.bR.1 xb b/\bJ w L c b):=λn=>by have T:=d.out;have a:=r.out.Aj f1 T.pp;refine(F0 (wr.drewN n) f1 xb j (T.at_.drewN n) a.1 a.2.1).mono ?_;rintro e c ⟨rfl,b,b1,m⟩;exact⟨rfl,b,b1,(T.gJ.drewN n).trans m⟩
    cases i:f1.bR.2 with
    |true=>
     rw[i]at s
     have y:Hid (∀c,(∃b,aL c f1.bR.1 xb b/\bJ w L c b)->∃b,vH P w L f.g F xb 0 c f1.bR.1 b):=λc ⟨b,b1,m⟩=>by have T:=d.out;refine⟨b,b1,m,r.out.used f1 T.pp (by rw[T.gg];exact k) i,(CX f1).1.trans T.gg,?_⟩;exact afP T.gg k o i T.end_
     have HM:Hid (f1.bR.1.fuel 0<f1.fuel p):=Ka (by rw[d.out.gg];exact k) i;go_wp2
     go_quiet ((go_at_call 77;exact Hu (q.out _)))
     go_wp2_with (go_at_call 107;refine(s.out _).mono ?_;rintro e t ⟨rfl,z⟩;have v:Hid (∃b,vH P w L f.g F xb 0 t f1.bR.1 b):=y.out _ z);obtain⟨b,l⟩:=v.out;refine⟨⟨0,rfl,ak,f1.bR.1,b,l⟩,?_⟩;have M:=l.len;have N:=d.out.len;have:=HM.out;simp only[eY,Int.toNat_zero,Wb]at*;omega
    |false=>
     rw[i]at s
     have y:Hid (∀c,(∃b,aL c f1.bR.1 xb b/\bJ w L c b)->Calls prog 108 #[jp xb] c λe E=>e=aM (.tuple #[])/\∃b,vH P w L f.g F xb (p+1) E f1.bR.1.pass b):=λc ⟨b,b1,m⟩=>by have T:=d.out;have a:=r.out.Aj f1 T.pp;have u:=CX f1;refine(E2 c _ xb b b1 (by rw[u.2.2.1,u.2.1];exact a.1.aG) (by rw[u.1,u.2.1];exact a.2.2.1) (by rw[u.2.1];exact a.2.2.2.1)).mono ?_;rintro e E ⟨rfl,J,K⟩;refine⟨rfl,b,J,m.trans K,r.out.pass f1 T.pp i,u.1.trans T.gg,?_⟩;exact afO T.gg k o i T.end_
     have HM:Hid (f1.bR.1.pass.fuel (p+1)<f1.fuel p):=JZ (by rw[d.out.gg];exact o) i;have Y:p<=65535:=ak;go_wp2
     go_quiet ((go_at_call 77;exact Hu (q.out _)))
     go_wp2_with (first
      |(go_at_call 107;refine(s.out _).mono ?_;rintro e t ⟨rfl,z⟩;have v:Hid (∃b,aL t f1.bR.1 xb b/\bJ w L t b):=z)
      |(go_at_call 108;refine(y.out _ v.out).mono ?_;rintro e R ⟨rfl,Q⟩;have G:Hid (∃b,vH P w L f.g F xb (p+1) R f1.bR.1.pass b):=Q))
     obtain⟨b,l⟩:=G.out;refine⟨⟨p+1,by go_num,ak,f1.bR.1.pass,b,l⟩,?_⟩;have M:=l.len;have N:=d.out.len;have:=HM.out;have O:((p:Int)+1).toNat=p+1:=ak;simp only[eY,Wb,O]at*;omega
   ·have d2:=iB o
    have hF:F=f1:=by
     rw[<-d.out.end_];cases f1.fuel p with
     |zero=>rfl
     |succ n=>rw[Fx.turns,aK (by rw[d.out.gg];omega)]
    have H:=λn=>B.out n hF;have x:Hid (∀n,P F/\∃b,aL (wr.drewN n) F xb b/\bJ w L (wr.drewN n) b):=H;go_wp2
    go_quiet ((go_at_call 77;exact Hu (q.out _)))
    go_wp2;exact fI rfl rfl ⟨rfl,x.out _⟩
  ·have d1:=iB k
   have hF:F=f1:=by
    rw[<-d.out.end_];cases f1.fuel p with
    |zero=>rfl
    |succ n=>rw[Fx.turns,aK (by rw[d.out.gg];omega)]
   have x:Hid (∀n,P F/\∃b,aL (wr.drewN n) F xb b/\bJ w L (wr.drewN n) b):=λn=>B.out n hF;go_wp2
   go_quiet ((go_at_call 77;exact Hu (q.out _)))
   go_wp2;exact fI rfl rfl ⟨rfl,x.out _⟩
def Fx.gL(f:Fx)(j:Nat):Fx:=match f.K[j]? with
 |some (aa k)=>if k.gone then{f with K:=f.K.set j ay,opn:=if f.aG=j then av else f.opn}else f
 |_=>f
def Fx.dj(f:Fx)(j:Nat):Fx:=(dH j).foldl Fx.gL f
def zJ(f:Fx)(j:Nat):f.dj (j+1)=(f.dj j).gL j:=by simp[Fx.dj,yP]
def Fx.vF(f:Fx):Prop:=∀b∈f.fl,∀k,f.K[b.s]? =aa (aa k)->k.gone=av
def G1{f:Fx}(h:f.vF)(j):(f.gL j).vF/\(f.gL j).K.length=f.K.length:=by
 unfold Fx.gL;split
 ·split
  ·refine⟨λb c k d=>?_,aC⟩;have a:=d;rw[ko]at a;split at a
   ·split at a
    ·simp at a
    ·simp at a
   ·exact h b c k a
  ·exact⟨h,rfl⟩
 ·exact⟨h,rfl⟩
section
variable {W:az} {f:Fx} {xb j:Nat} {L:dy}
def aL.leave(h:aL W f xb L)(m:∀b∈f.fl,b.s≠j):aL (W.setCell (aj L.sb j) (.pointer ay)) {f with K:=f.K.set j ay} xb {L with cs:=L.cs.set j ay}:=by
 have a:fE W (W.setCell (aj L.sb j) (.pointer ay)) L.own L.own λt=>t=2:=⟨λb c p=>cw λe=>p (by rw[e];exact h.jd),λ_ _=>rfl⟩;have b1:=a.blk h.box h.eR ak;have d:=a.row h.bP h.lY ak;have g:=a.row h.log h.mM ak;have k:=a.fO h.fO h.oo ak;refine⟨?_,b1.2,?_,h.jd,a.EX h.cs (λx _=>by omega) trivial,⟨h.js.len,λi b l c n=>?_⟩,a.qp h.fl ak,d.1,d.2,g.1,g.2,k.1,k.2⟩
 ·have e:=b1.1;simpa[lJ]using e
 ·have e:=dF h.dX j (kW ay);rw[TE]at e;rw[DO];exact e
 ·refine(h.js.at_ i b l c n).aside a (λlc o=>⟨lc,?_,rfl⟩) ak;rw[tL (dc (m b (lf c)))];exact o
end
structure oP(w:az)(L:dy)(f:Fx)(xb j:Nat)(wr:az)(a:dy):Prop where
 at_:aL wr (f.dj j) xb a
 gJ:bJ w L wr a
 sb:a.sb=L.sb
 len:(f.dj j).K.length=f.K.length
 stay:(f.dj j).vF
def oP.same{w wr L L1 f xb j}(h:oP w L f xb j wr L1)(e:(f.dj j).gL j=f.dj j):oP w L f xb (j+1) wr L1:=by
 refine⟨?_,h.gJ,h.sb,?_,?_⟩<;>rw[zJ,e]
 ·exact h.at_
 ·exact h.len
 ·exact h.stay
def oP.next{w wr L c}{f:Fx}{xb j:Nat}{k:Ck}(h:oP w L f xb j wr c)(i:(f.dj j).K[j]? =aa (aa k))(g:k.gone=aq):
  oP w L f xb (j+1) (if(f.dj j).aG=j then(wr.setCell (aj L.sb j) (.pointer ay)).setCell (aj xb 16) (.bool av)else wr.setCell (aj L.sb j) (.pointer ay)) {c with cs:=c.cs.set j ay}:=by
 have o:∀b∈(f.dj j).fl,b.s≠j:=λb n e=>by have:=h.stay b n k (by rw[e];exact i);rw[g]at this;cases this
 have d:=h.at_.leave o;have m:wr.setCell (aj c.sb j) (.pointer ay)=wr.setCell (aj L.sb j) (.pointer ay):=by rw[h.sb]
 rw[m]at d;have l:c.own L.sb≠0:=by rw[<-h.sb,h.at_.jd];omega
 have p:c.own xb≠0:=by rw[h.at_.eR];omega
 have e:(f.dj j).gL j={f.dj j with K:=(f.dj j).K.set j ay,opn:=if(f.dj j).aG=j then av else(f.dj j).opn}:=by unfold Fx.gL;rw[i];simp only[g,cV]
 obtain⟨q,r⟩:=G1 h.stay j;refine⟨?_,?_,h.sb,by rw[zJ,r];exact h.len,by rw[zJ];exact q⟩
 ·rw[zJ,e]
  by_cases a:(f.dj j).aG=j
  ·rw[aW a,aW a];exact d.put 16 (.bool av) {f.dj j with K:=(f.dj j).K.set j ay,opn:=av} (by simp[lJ]) rfl rfl rfl rfl rfl ⟨rfl,rfl,rfl⟩
  ·rw[aK a,aK a];exact d
 ·refine h.gJ.trans ⟨λ_ _=>rfl,?_⟩
  by_cases a:(f.dj j).aG=j
  ·rw[aW a];exact((bh.refl _ _).set l _).set p _
  ·rw[aK a];exact(bh.refl _ _).set l _
def oP.cells{w wr L L1 f xb j}(h:oP w L f xb j wr L1):wr.cell? (aj xb 9)=aa (.slice (aa (aj L.sb 0)) f.K.length f.K.length)/\wr.cell? (aj xb 15)=aa (an (f.dj j).aG)/\wr.cell? (aj xb 16)=aa (.bool (f.dj j).opn)/\wr.frozen? (aj xb 16)=av/\wr.frozen? (aj L.sb j)=av/\L.sb≠xb:=by
 refine⟨?_,aI h.at_.box rfl,aI h.at_.box rfl,bF h.at_.box 16,?_,λe=>?_⟩
 ·have:=aI h.at_.box (i:=9) (v:=.slice (aa (aj L1.sb 0)) (f.dj j).K.length (f.dj j).K.length) rfl;rw[h.sb,h.len]at this;exact this
 ·rw[<-h.sb];exact bF h.at_.dX j
 ·have:=h.at_.jd;rw[h.sb,e,h.at_.eR]at this;omega
def oP.aG{w wr L L1 f xb j v}(h:oP w L f xb j wr L1)(hv:(f.dj j).K[j]? =aa v):∃u:aZ Nat,wr.cell? (aj L.sb j)=aa (kW u)/\(v=ay->u=ay)/\∀k,v=aa k->∃c,u=aa c/\fK 109 #[jp c] wr (.bool k.gone):=by
 have g:j<L1.cs.length:=by rw[h.at_.cs.len];exact(dS.1 hv).1
 have b:=eI g;have hr:=h.at_.cs.at_ j _ _ hv b;have d:(L1.cs.map λl=>l.map Lc.c)[j]? =aa (L1.cs[j].map Lc.c):=by rw[jA,b];rfl
 refine⟨L1.cs[j].map Lc.c,?_,λe=>?_,λk e=>?_⟩
 ·rw[<-h.sb];exact aI h.at_.dX (wo d)
 ·subst e;cases a:L1.cs[j]with
  |none=>rfl
  |some l=>rw[a]at hr;exact absurd hr (by simp[oW])
 ·subst e;cases a:L1.cs[j]with
  |none=>rw[a]at hr;exact absurd hr (by simp[oW])
  |some l=>
   rw[a]at hr;exact⟨l.c,rfl,Q1 _ _ _ _ _ _ _ _ wr hr.1⟩
def QZ(w f xb L)(h:aL w f xb L)(q:f.vF)(I:f.K.length<=65535):
  Calls prog 64 #[jp xb] w λe B=>e=aM (.tuple #[])/\∃g,aL B (f.dj f.K.length) xb g/\bJ w L B g:=by
 have G:=aS w xb 9 (.slice (aa (aj L.sb 0)) f.K.length f.K.length) h.box;have E:Hid (oP w L f xb 0 w L):=⟨h,bJ.refl _ _,rfl,rfl,q⟩;obtain⟨N,r⟩:∃N,f.K.length=N:=⟨_,rfl⟩;have x:=bf r;rw[r]at G I⊢;clear h q r;go_enter func64,ntmps64;go_wp2
 go_loopw [9] (λi wr=>∃j:Nat,j<=N/\i=an j/\Hid (∃l,oP w L f xb j wr l)) (λi _=>N-(eY i).toNat)
 case atStart=>exact⟨0,eZ _,rfl,L,E.out⟩
 case round=>
  obtain⟨j,S,rfl,y⟩:=hrel;obtain⟨l,A⟩:=y.out;obtain⟨H,P,Q,f16,R,O⟩:=A.cells;rw[x.out]at H
  by_cases M:j<N
  ·have J:decide ((j:Int)<(N:Int))=aq:=cq;obtain⟨v,hv⟩:∃v,(f.dj j).K[j]? =aa v:=⟨(f.dj j).K[j]'(by rw[A.len,x.out];exact M),by rw[eI]⟩;obtain⟨u,s,p,o⟩:=A.aG hv;cases v with
   |none=>
    rw[p rfl]at s;have a:=bf (A.same (by unfold Fx.gL;rw[hv]));simp only[kW,WI]at s;clear A hv p o;go_wp2;refine⟨⟨j+1,ak,by go_num,l,a.out⟩,?_⟩;simp[eY];omega
   |some k=>
    obtain⟨c,rfl,b⟩:=o k rfl;simp only[kW,tP]at s;cases d:k.gone with
    |false=>
     have a:=bf (A.same (by unfold Fx.gL;rw[hv];simp[d]));have n:Hid (fK 109 #[jp c] wr (.bool av)):=by rw[d]at b;exact b
     clear A hv p o b d;go_wp2_with (go_at_call 109;refine n.out.mono ?_;rintro e C ⟨rfl,rfl⟩);refine⟨⟨j+1,ak,by go_num,l,a.out⟩,?_⟩;simp[eY];omega
    |true=>
     have a:Hid (∃F,oP w L f xb (j+1) (if(f.dj j).aG=j then(wr.setCell (aj L.sb j) (.pointer ay)).setCell (aj xb 16) (.bool av)else wr.setCell (aj L.sb j) (.pointer ay)) F):=⟨_,A.next hv d⟩;have n:Hid (fK 109 #[jp c] wr (.bool aq)):=by rw[d]at b;exact b
     have T:¬xb=L.sb:=λe=>O e.symm;clear A hv p o b d y;generalize (f.dj j).aG=t at*;generalize (f.dj j).opn=op at*
     by_cases m:t=j
     ·have q:((t:Int)==(j:Int))=aq:=by simp[m]
      rw[aW m]at a;clear m;go_wp2_with (go_at_call 109;refine n.out.mono ?_;rintro e C ⟨rfl,rfl⟩);refine⟨⟨j+1,ak,by go_num,a.out⟩,?_⟩;simp[eY];omega
     ·have q:((t:Int)==(j:Int))=av:=cq;rw[aK m]at a;clear m;go_wp2_with (go_at_call 109;refine n.out.mono ?_;rintro e C ⟨rfl,rfl⟩);refine⟨⟨j+1,ak,by go_num,a.out⟩,?_⟩;simp[eY];omega
  ·have J:decide ((j:Int)<(N:Int))=av:=cq;have z:j=N:=ak;have D:Hid (∃g,aL wr (f.dj N) xb g/\bJ w L wr g):=⟨l,by rw[<-z];exact A.at_,A.gJ⟩;clear A z;go_wp2;exact fI rfl rfl ⟨rfl,D.out⟩
structure Fx.Is(f:Fx)(u:Int)(s:Nat)(k:Ck):Prop where
 at_:f.K[s]? =aa (aa k)
 no:k.no=u
 one:∀(t:Nat) a,f.K[t]? =aa (aa a)->a.no=u->t=s
section
variable {w:az} {f:Fx} {xb:Nat} {L:dy}
def aL.names(h:aL w f xb L):∃no:Nat->Int,∀(s:Nat) l k,L.cs[s]? =aa (aa l)->f.K[s]? =aa (aa k)->no l.c=k.no/\w.cell? (aj l.c 0)=aa (an (no l.c)):=by
 obtain⟨no,z⟩:=Ly (λx (n:Int)=>∃(s:Nat) (l:Lc) (k:Ck),f.K[s]? =aa (aa k)/\L.cs[s]? =aa (aa l)/\l.c=x/\n=k.no) 0 (by rintro x a b ⟨s,l,k,q,r,t,rfl⟩ ⟨C,F,D,g,u,v,rfl⟩;obtain⟨_,_,_,A⟩:=h.aG r;obtain⟨_,_,_,B⟩:=h.aG u;have m:=A.1;have o:=B.1;rw[t]at m;rw[v]at o;have:s=C:=ak;subst this;rw[q]at g;cases g;rfl)
 refine⟨no,λs l k j i=>?_⟩;have e:=z l.c k.no ⟨s,l,k,i,j,rfl,rfl⟩;obtain⟨E,d,y,_⟩:=h.aG j;rw[i]at d;cases d;exact⟨e,by rw[e];exact aI y.p.box rfl⟩
def Kc(h:aL w f xb L)(hf:f.K.length<=65535){u s k l}(m:f.Is u s k)(g:L.cs[s]? =aa (aa l)):bN 68 #[jp xb,an u] w (jp l.c):=by
 obtain⟨no,i⟩:=h.names;have hS:vC w xb L.sb f.K.length (L.cs.map λl=>l.map Lc.c):=⟨aI h.box rfl,by simp[h.cs.len],hf,λj v r=>aI h.dX (wo r),⟨_,h.dX⟩⟩;refine(ZY xb L.sb f.K.length _ u no w hS λc q=>?_).mono ?_
 ·obtain⟨t,n,a,rfl⟩:=yf.1 q;obtain⟨d,b,_⟩:=h.aG a;exact(i t n d a b).2
 ·rintro e z ⟨rfl,p⟩;refine⟨?_,p⟩;have o:=(i s l k g m.at_).1;have hm:=yf.2 ⟨s,l,g,rfl⟩;cases e:(cP (L.cs.map λl=>l.map Lc.c)).find? λc=>decide (no c=u)with
  |none=>
   have:=Iq.1 e l.c hm;simp[o,m.no]at this
  |some c=>
   have x:no c=u:=by grind
   obtain⟨t,n,a,rfl⟩:=yf.1 (List.mem_of_find?_eq_some e);obtain⟨d,b,_⟩:=h.aG a;have y:=m.one t d b ((i t n d a b).1.symm.trans x);subst y;rw[g]at a;cases a;rfl
end
def Fx.send(f:Fx)(s:Nat)(k:Ck)(x:ByteArray):Fx×Int:=if k.ph=4 then(f,2)else if 1024<k.aU.size+x.size then(f,6)else(f.at s (k.send x),0)
def Ra(w f xb L)(h:aL w f xb L)(hf:f.K.length<=65535)(u x s k)(o:f.Is u s k)(A:k.aU.size<=1024):Calls prog 37 #[jp xb,an u,.string x] w λe a=>e=aM (an (f.send s k x).2)/\∃i,aL a (f.send s k x).1 xb i/\bJ w L a i:=by
 obtain⟨l,r,m,n⟩:=h.sat o.at_;have t:=bf (Kc h hf o r)
 have v:Hid (∀W,aN w W->Calls prog 74 #[jp l.c,.string x] W λe a=>e=aM (an (f.send s k x).2)/\∃i,aL a (f.send s k x).1 xb i/\bJ w L a i):=λW d=>by
  have j:=h.below d;have q:bJ w L W L:=⟨λ_ _=>rfl,.below d⟩
  by_cases g:k.ph=4
  ·have e:f.send s k x=(f,2):=by unfold Fx.send;rw[aW g]
   rw[e];refine(acQ _ _ _ _ _ _ _ _ x W (cj.old m d) g).mono ?_;rintro e a ⟨rfl,rfl⟩;exact⟨rfl,L,j,q⟩
  ·by_cases p:1024<k.aU.size+x.size
   ·have e:f.send s k x=(f,6):=by unfold Fx.send;rw[aK g,aW p]
    rw[e];refine(acP _ _ _ _ _ _ _ _ x W (cj.old m d) g A p).mono ?_;rintro e a ⟨rfl,rfl⟩;exact⟨rfl,L,j,q⟩
   ·have e:f.send s k x=(f.at s (k.send x),0):=by unfold Fx.send;rw[aK g,aK p]
    rw[e];refine(acO _ _ _ _ _ _ _ _ x W (cj.old m d) g ak).mono ?_;rintro e a ⟨rfl,y,g2⟩;exact⟨rfl,_,j.client r rfl o.at_ g2 (λb _ e=>by rw[e];exact n.1) y (λ_ _=>rfl) n,q.trans ⟨λ_ _=>rfl,g2.mono λb _ e=>by rw[e,n.1];omega⟩⟩
 generalize f.send s k x=R at*;generalize l.c=c at*;go_enter func37,ntmps37;go_wp2_with (first|(go_at_call 68;refine t.out.mono ?_;rintro e B ⟨rfl,d⟩)|(go_at_call 74;refine(v.out _ d).mono ?_;rintro e C ⟨rfl,z⟩));go_ret;exact⟨rfl,z⟩
def Ck.much(k:Ck)(n:Int):Nat:=(min n k.out.size).toNat
def Ck.takes(k:Ck)(n:Int):Ck:=if n<0 then k else k.take (k.much n)
def Ck.vR(k:Ck)(n:Int):ByteArray:=if n<0 then⟨#[]⟩else k.out.extract 0 (k.much n)
def Ag(n:Int):Int:=if n<0 then 5 else 0
def Fx.take(f:Fx)(s:Nat)(k:Ck)(n:Int):Fx:=(f.at s (k.takes n)).dj f.K.length
def C9{W f xb s L k l}(h:aL W f xb L)(j:f.K[s]? =aa (aa k))(r:L.cs[s]? =aa (aa l))(n)(y:k.out.size<=1048576):Calls prog 69 #[jp l.c,an n] W λe i=>e=aM (.tuple #[.string (k.vR n),an (Ag n)])/\∃m,aL i (f.at s (k.takes n)) xb m/\bJ W L i m:=by
 obtain⟨B,o,x,a⟩:=h.aG r;rw[j]at o;cases o
 by_cases d:n<0
 ·have t:f.at s (k.takes n)=f:=by
   unfold Ck.takes;rw[aW d];unfold Fx.at;rw[wu j]
  rw[t,Ck.vR,Ag,aW d,aW d];refine(afB l.c n W (iC d)).mono ?_;rintro e i ⟨rfl,rfl⟩;exact⟨rfl,L,h,bJ.refl _ _⟩
 ·rw[Ck.takes,Ck.vR,Ag,aK d,aK d,aK d];refine(afA _ _ _ _ _ _ _ _ n (k.much n) W x (by unfold Ck.much;omega) y).mono ?_;rintro e i ⟨rfl,A,u,g2,w⟩;have p:∀b,b<W.heap.size->(b=l.c\/aa b=l.v.ownBlock)->L.own b=7+2*s:=λb _ g=>g.elim (λe=>by rw[e];exact a.1) λe=>a.2.2.2.2.2 b e.symm;exact⟨rfl,_,h.client (l':=⟨l.c,l.rb,l.mb,l.ch,l.q,A⟩) r rfl j g2 p u (λ_ _=>rfl) ⟨a.1,a.2.1,a.2.2.1,a.2.2.2.1,a.2.2.2.2.1,λb g=>a.2.2.2.2.2 b (by rw[<-w];exact g)⟩,⟨λ_ _=>rfl,g2.mono λb g z=>by rw[p b g z];omega⟩⟩
def E6(w f xb L)(h:aL w f xb L)(hf:f.K.length<=65535)(u n s k)(i:f.Is u s k)(y:k.out.size<=1048576)(z:(f.at s (k.takes n)).vF):Calls prog 33 #[jp xb,an u,an n] w λe b=>e=aM (.tuple #[.string (k.vR n),an (Ag n)])/\∃a,aL b (f.take s k n) xb a/\bJ w L b a:=by
 obtain⟨l,j,D,E⟩:=h.sat i.at_;have p:=bf (Kc h hf i j)
 have q:Hid (∀W,aN w W->Calls prog 69 #[jp l.c,an n] W λe b=>e=aM (.tuple #[.string (k.vR n),an (Ag n)])/\∃a,aL b (f.at s (k.takes n)) xb a/\bJ w L b a):=λW g=>by refine(C9 (h.below g) i.at_ j n y).mono ?_;rintro e b ⟨rfl,a,d,g2⟩;exact⟨rfl,a,d,bJ.trans ⟨λ_ _=>rfl,.below g⟩ g2⟩
 have o:Hid (∀W,(∃a,aL W (f.at s (k.takes n)) xb a/\bJ w L W a)->Calls prog 64 #[jp xb] W λe b=>e=aM (.tuple #[])/\∃a,aL b (f.take s k n) xb a/\bJ w L b a):=λW ⟨r,b1,t⟩=>by
  have e:(f.at s (k.takes n)).K.length=f.K.length:=by simp[Fx.at]
  refine(QZ W _ xb r b1 z (by rw[e];exact hf)).mono ?_;rintro C b ⟨rfl,a,d,g2⟩;rw[e]at d;exact⟨rfl,a,d,t.trans g2⟩
 generalize f.take s k n=R at*;generalize f.at s (k.takes n)=R1 at*;generalize k.vR n=A at*;generalize Ag n=B at*;generalize l.c=c at*;go_enter func33,ntmps33;go_wp2_with (first|(go_at_call 68;refine p.out.mono ?_;rintro e F ⟨rfl,g⟩)|(go_at_call 69;refine(q.out _ g).mono ?_;rintro e G ⟨rfl,v⟩;have m:=bf v)|(go_at_call 64;refine(o.out _ m.out).mono ?_;rintro e H ⟨rfl,x⟩))
 go_ret2
 exact⟨rfl,x⟩
end
section
attribute [local go_sem ↓] Go.wp_at_zero Go.wp_at_succ
open Go.Conc Go.RowKit
open Go.ConcN (sumTo)
section
variable [aP] {a:Act} {ops:aJ dK} {o:dK}
def EA(ops:aJ dK)(a:Act)(o:dK):Prop:=dg o (yielded ops a.tmps)=aq
end
end
section
attribute [local go_sem ↓] Go.wp_at_zero Go.wp_at_succ
open Go.Conc Go.RowKit
open Go.ConcN (sumTo)
open Go.Proofs.Tryz
structure iq(a a':Act)(d:Nat)(v:aD):Prop where
 size:a'.tmps.size=a.tmps.size
 defers:a'.defers=a.defers
 same:∀k,k≠d->a'.eval (.tmp k)=a.eval (.tmp k)
 new:d<a.tmps.size->a'.eval (.tmp d)=v
def we(a d v):iq a (a.put (aa d) v) d v:=⟨Ti _ _ _,put_defers _ _ _,λ_ h=>Qp v h,λh=>Qq v h⟩
section
variable [aP] {P:aY} {l:aB bC} {Q:Exit->Act->az->Prop} {a:Act} {u:az} {ops:aJ dK} {i k:Nat} {o:dK} {Lf:bC->aB Nat} {f0:bC} {dn:Nat} {v:aD} {x:Int}
def cQ(Lf:bC->aB Nat)(f0:bC)(dn:Nat)(P:aY)(b:Region.Mode)(ops:aJ dK)(Q:Exit->Act->az->Prop):Nat->aJ Bool->Act->az->Prop
 |0,listed,a,u=>eD b ops listed=[]/\FO Lf f0 dn P ops Q [] a u
 |n+1,listed,a,u=>(eD b ops listed=[]->FO Lf f0 dn P ops Q [] a u)/\
  ∀i∈eD b ops listed,∀is,(∀c d,cQ Lf f0 dn P b ops Q n (listed.setIfInBounds i aq) c d->FO Lf f0 dn P ops Q is c d)->FO Lf f0 dn P ops Q (i::is) a u
def cQ.sound{md}:∀(fuel t:Nat) (listed:aJ Bool) (a:Act) (u:az),cQ Lf f0 dn P md ops Q fuel listed a u->FO Lf f0 dn P ops Q (Region.linearise.go md ops fuel t listed []) a u:=by
 intro fuel;induction fuel with
 |zero=>intro t listed a u h;simpa[Region.linearise.go]using h.2
 |succ fuel n=>
  intro t listed a u h;obtain⟨j,m⟩:=h;simp only[Region.linearise.go]
  change FO Lf f0 dn P ops Q (match(eD md ops listed)[t %(eD md ops listed).length]? with
   |some i=>Region.linearise.go md ops fuel (t / (eD md ops listed).length) (listed.setIfInBounds i aq) [i]
   |none=>[].reverse) a u
  cases b:(eD md ops listed)[t %(eD md ops listed).length]? with
  |none=>
   have g:eD md ops listed=[]:=by
    cases hr:eD md ops listed with
    |nil=>rfl
    |cons x c=>
     rw[hr]at b;have f:t %(x::c).length<(x::c).length:=AZ _ aC;simp at b;simp at f;omega
   simpa using j g
  |some i=>
   simp only[];rw[linearise_go_acc,List.reverse_singleton,List.singleton_append];exact m i (lf b) _ λd p e=>n _ _ d p e
def FX.abG{id}(h:∀x,FO Lf f0 dn P ops Q (WL (P.follows .mixedOrders) ops x) a {u with drawn:=u.drawn+1}):FX Lf f0 dn P (.region id ops aq) Q a u:=λb k cs d e f g=>by
 haveI:bw:=bU []
 exact .one λm S j gs w t q c _=>⟨_,cs,{u with drawn:=u.drawn+1},j,{w with drawn:=w.drawn+1},#[],stepG_region_draw,⟨⟨Ren.le_refl _,bD _,λ_ _ _=>rfl,λ_ _ h=>aF h,rfl,rfl,rfl⟩,⟨c.world.one,c.world.lt,c.world.obj,c.world.low,c.world.base,c.world.calm,c.world.os⟩,c.whole,c.same,c.size,aC,⟨c.top.tmps,c.top.kind,c.top.known⟩,c.low,c.full⟩,h _ b k cs d e f g⟩
def FX.abF{id}(hm:P.follows .mixedOrders=aq)(h:cQ Lf f0 dn P .any ops Q ops.size (oF ops.size av) a {u with drawn:=u.drawn+1}):FX Lf f0 dn P (.region id ops aq) Q a u:=
 FX.abG λt=>by simp only[WL,hm,Bool.true_or,cV];exact cQ.sound ops.size t _ a _ h
def nu(ops:aJ dK)(i:Nat):aB Nat:=match ops[i]? with
 |none=>[]
 |some o=>(o.after.filter λe=>tQ .any e).toList.map (·.on)
def gG(ops:aJ dK)(i:Nat):Nat:=((ops[i]?).bind (·.dst)).getD 0
def ny(n k:Nat):aJ Bool:=(Array.range n).map λi=>decide (i<k)
def abA{listed}(h:i∈eD .any ops listed):i<ops.size/\listed.getD i aq=av/\∀j∈nu ops i,listed.getD j av=aq:=by unfold eD at h;obtain⟨p,b⟩:=AV.1 h;have g:=lQ.1 p;simp only[cE,rP]at b;refine⟨g,b.1,λj d=>?_⟩;have n:=cX g;have c:=b.2;rw[n]at c;simp at c;unfold nu at d;rw[n]at d;obtain⟨e,q,rfl⟩:=ku.1 d;have f:=Vz.1 (tE.1 q);obtain⟨m,hm,r⟩:=wJ.1 f.1;have:=c m hm;rw[r,f.2]at this;simpa using this
def abB{listed}(c:i<ops.size)(e:listed.getD i aq=av)(f:∀j∈nu ops i,listed.getD j av=aq):i∈eD .any ops listed:=by
 unfold eD;refine AV.2 ⟨lQ.2 c,?_⟩;have d:=cX c;simp only[cE,rP];refine⟨e,?_⟩;rw[d];simp only[tP,mY,Array.all_eq_true];intro m hm
 by_cases b:tQ .any ops[i].after[m]=aq
 ·have:=f ops[i].after[m].on (by
   unfold nu;rw[d];exact ku.2 ⟨_,tE.2 (Vz.2 ⟨Vy hm,b⟩),rfl⟩)
  simp[this]
 ·simp[Bool.not_eq_true _▸b]
def PU(ops:aJ dK)(k z:Nat):Bool:=(dH k).all λi=>decide (i=z)||(dH (k+1)).any λj=>decide (i<j)&&(!decide (j=z)&&(nu ops j).contains i)
def CB(ops:aJ dK)(n k0 z b:Nat)(ks:aB Nat):Bool:=
 decide (ops.size=n)&&(decide (k0<n)&&(PU ops k0 z&&(((dH n).all λi=>(nu ops i).all λj=>decide (j<i))&&(((dH k0).all λi=>decide (gG ops i<b)&&(!ks.contains (gG ops i)&&(dH k0).all λj=>decide (i=j)||!decide (gG ops i=gG ops j)))&&(dH n).all λi=>decide (i<=k0)||(dH i).any λj=>decide (k0<=j)&&(nu ops i).contains j))))
def Qh(n k0:Nat)(h:k0<=n):(ny n k0).toList.count av=n-k0:=by
 have d:∀m,k0<=m->((dH m).map λi=>decide (i<k0)).count av=m-k0:=by
  intro m;induction m with
  |zero=>intro _;simp
  |succ m f=>
   intro hm;rw[yP,AT,List.count_append]
   by_cases h:k0<=m
   ·rw[f h];have:¬m<k0:=ak;simp[this];omega
   ·have g:m+1=k0:=ak
    have:((dH m).map λi=>decide (i<k0)).count av=0:=by refine List.count_eq_zero.2 λe=>?_;obtain⟨j,b,c⟩:=ku.1 e;have:=lQ.1 b;simp at c;omega
    rw[this];have:m<k0:=ak;simp[this];omega
 have:=d n h;simp only[ny,gx,Array.toList_range];omega
def PS{l:aJ Bool}{i:Nat}(h:i<l.size)(b:Bool):(l.setIfInBounds i b).toList.count av+(if l[i]=av then 1 else 0)=l.toList.count av+(if b=av then 1 else 0):=by
 have f:(l.setIfInBounds i b).toList=l.toList.set i b:=aC;have g:l.toList[i]'(by simpa using h)=l[i]:=aC;rw[f,List.count_set (by simpa using h),g];have d:l[i]=av->0<l.toList.count av:=λe=>Wm.2 (tE.2 (e▸Vy h));cases c:l[i]<;>cases b<;>simp
 all_goals (have:=d c;rw[Array.count_toList]at this;omega)
def cQ.W8{n k0 z:Nat}(hn:ops.size=n)(Kv:k0<n)(aO:PU ops k0 z=aq)(bk:((dH n).all λi=>(nu ops i).all λj=>decide (j<i))=aq)(aP:∀i j,i<k0->j<k0->gG ops i=gG ops j->i=j)(Base:Act->Prop)(A:Nat->aD->az->Prop)(S:az->Prop)(Mv:az->az->Prop)(bl:∀u r j w,Mv u r->A j w u->A j w r)
  (hb:∀a s i v,i<k0->iq a s (gG ops i) v->Base a->Base s) (bf:∀i,k0<i->i<n->∃j,k0<=j/\j<i/\j∈nu ops i)
  (bn:∀a i,i<k0->Base a->gG ops i<a.tmps.size)
  (step:∀i,i<k0->∀a u is,Base a->S u->(∀j∈nu ops i,j<k0->A j (a.eval (.tmp (gG ops j))) u)->(∀s v r,A i v r->S r->Mv u r->iq a s (gG ops i) v->FO Lf f0 dn P ops Q is s r)->FO Lf f0 dn P ops Q (i::is) a u)
  (bz:∀a u,Base a->S u->(∀i,i<k0->A i (a.eval (.tmp (gG ops i))) u)->cQ Lf f0 dn P .any ops Q (n-k0) (ny n k0) a u)
  (bA:z<k0->∀a u,Base a->S u->(∀i,i<k0->i≠z->A i (a.eval (.tmp (gG ops i))) u)->cQ Lf f0 dn P .any ops Q (n-k0+1) ((ny n k0).setIfInBounds z av) a u) (D:Base a) (hS:S u):cQ Lf f0 dn P .any ops Q n (oF n av) a u:=by
 suffices H:∀(c:Nat) (listed:aJ Bool) (a:Act) (u:az),listed.size=n->listed.toList.count av=c->(∀i,k0<=i->i<n->listed[i]? =aa av)->(∀i,i<k0->listed[i]? =aa aq->(∀j∈nu ops i,listed.getD j av=aq)/\A i (a.eval (.tmp (gG ops i))) u)->Base a->S u->cQ Lf f0 dn P .any ops Q c listed a u by refine H n _ a u aC aC (λi _ b=>by simp[b]) (λi b h=>?_) D hS;rw[Dg]at h;split at h<;>cases h
 intro c;induction c with
 |zero=>
  intro listed a u hs O F _ _ _
  have g:av∈listed.toList:=by have:=F k0 (bD _) Kv;exact tE.2 (mw this)
  have:=Wm.2 g;omega
 |succ c ih=>
  intro listed a u hs O F L D hS
  by_cases J:∀i,i<k0->i≠z->listed[i]? =aa aq
  ·have bB:(ny n k0).size=n:=by simp[ny]
   have N:∀i,i<n->(ny n k0)[i]? =aa (decide (i<k0)):=λi b=>by simp[ny,b]
   by_cases hz:k0<=z\/listed[z]? =aa aq
   ·have e:listed=ny n k0:=by
     refine yC λi=>?_
     by_cases p:i<n
     ·rw[N i p]
      by_cases b:i<k0
      ·rw[iC b]
       by_cases q:i=z
       ·subst q;exact hz.elim (λh=>by omega) id
       ·exact J i b q
      ·rw[iB b];exact F i ak p
     ·rw[lN ak,lN ak]
    have X:n-k0=c+1:=by rw[<-O,e,Qh n k0 ak]
    rw[e,<-X];refine bz a u D hS λi b=>(L i b ?_).2;rw[e,N i ak,iC b]
   ·have aG:z<k0:=Nat.lt_of_not_le λh=>hz (aF h)
    have bp:listed[z]? =aa av:=by
     have V:listed[z]? =aa listed[z]:=cX ak;cases h:listed[z]with
     |false=>rw[V,h]
     |true=>exact absurd (aE (by rw[V,h])) hz
    have e:listed=(ny n k0).setIfInBounds z av:=by
     refine yC λi=>?_
     by_cases q:z=i
     ·subst q;rw[bp,wI ak]
     ·rw[dO q]
      by_cases p:i<n
      ·rw[N i p]
       by_cases b:i<k0
       ·rw[iC b];exact J i b (dc q)
       ·rw[iB b];exact F i ak p
      ·rw[lN ak,lN ak]
    have X:n-k0+1=c+1:=by
     have g:=PS (l:=ny n k0) (i:=z) ak av
     have B:(ny n k0)[z]'ak=aq:=by have:=N z ak;rw[cX ak,iC aG]at this;exact dP this
     rw[<-e,O,Qh n k0 ak,B]at g;simp at g;omega
    rw[e,<-X];refine bA aG a u D hS λi b bh=>(L i b (J i b bh)).2
  ·have bg:∃i,i<k0/\listed[i]? ≠aa aq:=by
    refine pS λh=>J λi b _=>pS λB=>h ⟨i,b,B⟩
   have aN:(∀j∈nu ops k0,listed.getD j av=aq)->False:=by
    intro hk;refine J λi b q=>?_
    have aS:∀m i,i<k0->i≠z->k0-i<=m->listed[i]? =aa aq:=by
     intro m;induction m with
     |zero=>intro i b _ h;omega
     |succ m bw=>
      intro i b q h;have g:=mz.1 aO i (lQ.2 b);rw[pR,pZ]at g;obtain⟨j,y,d⟩:=rS.1 (g.resolve_left q);simp only[cE,pZ,wO,rP,decide_eq_false_iff_not]at d;have aj:=lQ.1 y
      have E:listed.getD i av=aq:=by
       rcases mX j k0 with I|hge
       ·exact(L j I (bw j I d.2.1 ak)).1 i d.2.2
       ·have:j=k0:=ak;subst this;exact hk i d.2.2
      have K:i<listed.size:=ak;rw[cX K];simpa[pQ,K]using E
    exact aS (k0-i) i b q (bD _)
   refine⟨λh=>?_,λi b is hK=>?_⟩
   ·exfalso
    have J8:∃i,i<k0/\listed[i]? ≠aa aq/\∀j,j<i->listed[j]? =aa aq:=by
     obtain⟨i,g,B⟩:=bg;induction i using Nat.strongRecOn with
     |_ i bu=>
      by_cases E:∀j,j<i->listed[j]? =aa aq
      ·exact⟨i,g,B,E⟩
      ·have:∃j,j<i/\listed[j]? ≠aa aq:=pS λf=>E λj y=>pS λt=>f ⟨j,y,t⟩;obtain⟨j,y,d⟩:=this;exact bu j y ak d
    obtain⟨i,g,B,E⟩:=J8;have K:i<listed.size:=ak
    have Y:listed[i]=av:=by
     rw[cX K]at B;cases V:listed[i]with
     |false=>rfl
     |true=>exact absurd (by rw[V]) B
    have p:i∈eD .any ops listed:=abB ak (by simp[pQ,K,Y]) λj y=>by
     have I:j<i:=by have f:=mz.1 bk i (lQ.2 ak);exact sH (mz.1 f j y)
     have t:=E j I;have C:j<listed.size:=ak;rw[cX C]at t;simp[pQ,C,dP t]
    rw[h]at p;cases p
   ·obtain⟨bE,aT,R⟩:=abA b;have p:i<n:=ak
    have T:i<k0:=by
     refine pS λhge=>?_;rcases mX k0 i with I|hle
     ·obtain⟨j,G,d,aU⟩:=bf i I p;have f:=R j aU;have t:=F j G ak;have C:j<listed.size:=ak;rw[cX C]at t;simp[pQ,C,dP t]at f
     ·have:i=k0:=ak;subst this;exact aN R
    have aR:∀j∈nu ops i,j<k0->A j (a.eval (.tmp (gG ops j))) u:=λj y aj=>by have f:=R j y;have C:j<listed.size:=ak;refine(L j aj ?_).2;rw[cX C];simpa[pQ,C]using f
    have U:i<listed.size:=ak;have Y:listed[i]=av:=by simpa[pQ,U]using aT
    refine step i T a u is D hS aR λs v r hv sW hM W=>hK s r (ih _ s r (by simp[hs]) ?_ (λj G d=>?_) (λj G d=>?_) (hb a s i v T W D) sW)
    ·have:=PS U aq;rw[Y,O]at this;simp at this;simpa using this
    ·rw[dO ak];exact F j G d
    ·by_cases Z:i=j
     ·subst Z;refine⟨λm hm=>?_,?_⟩
      ·have f:=R m hm
       by_cases M:m=i
       ·subst M;simp[pQ,U]
       ·rw[tD,dO (dc M),<-tD];exact f
      ·rw[W.new (bn a i T D)];exact hv
     ·rw[dO Z]at d;obtain⟨f,t⟩:=L j G d;refine⟨λm hm=>?_,?_⟩
      ·by_cases M:m=i
       ·subst M;simp[pQ,U]
       ·rw[tD,dO (dc M),<-tD];exact f m hm
      ·rw[W.same _ λe=>Z (aP i j T G e.symm)];exact bl _ _ _ _ hM t
def cQ.one{fuel j listed}(h:eD .any ops listed=[j])(c:∀is,(∀b f,cQ Lf f0 dn P .any ops Q fuel (listed.setIfInBounds j aq) b f->FO Lf f0 dn P ops Q is b f)->FO Lf f0 dn P ops Q (j::is) a u):cQ Lf f0 dn P .any ops Q (fuel+1) listed a u:=
 ⟨λd=>(by rw[h]at d;cases d),λi e is g=>by rw[h]at e;obtain rfl:=iA.1 e;exact c is g⟩
def cQ.two{fuel i j:Nat}{listed:aJ Bool}(h:eD .any ops listed=[i,j])(f:∀is,(∀b c,cQ Lf f0 dn P .any ops Q fuel (listed.setIfInBounds i aq) b c->FO Lf f0 dn P ops Q is b c)->FO Lf f0 dn P ops Q (i::is) a u)(g:∀is,(∀b c,cQ Lf f0 dn P .any ops Q fuel (listed.setIfInBounds j aq) b c->FO Lf f0 dn P ops Q is b c)->FO Lf f0 dn P ops Q (j::is) a u):cQ Lf f0 dn P .any ops Q (fuel+1) listed a u:=
 ⟨λd=>(by rw[h]at d;cases d),λk hi is e=>by
  rw[h]at hi;rcases jR.1 hi with rfl|hi
  ·exact f is e
  ·obtain rfl:=iA.1 hi;exact g is e⟩
def cQ.none{listed}(h:eD .any ops listed=[])(c:Q .normal a u):cQ Lf f0 dn P .any ops Q 0 listed a u:=⟨h,FO.nil c⟩
end
section
variable [aP] {Q:Exit->Act->az->Prop} {a:Act} {u:az} {ops:aJ dK} {i d k:Nat} {rest:aB Nat} {o:dK} {Lf:bC->aB Nat} {f0:bC} {dn:Nat}
def FO.R9{t ad n c0}(m:∃e,prog.underlying t=aa (.slice e))(l:ops[i]? =aa o)(j:EA ops a o)(h:o.dst=aa d)(g:o.op=.call {callee:=.builtin .len,args:=#[.tmp k],argTypes:=#[t]}) (hv:a.eval (.tmp k)=.slice ad n c0) (c:FO Lf f0 dn prog ops Q rest (a.put (aa d) (an n)) u):FO Lf f0 dn prog ops Q (i::rest) a u:=by
 obtain⟨q,r⟩:=m
 exact FO.blind l j h (λw=>by
  have p:=ev hv;unfold execOp;rw[g];go_simp) (λw=>by
  have p:=ev hv;unfold execOp;rw[g];go_simp) (aE λs=>.int _ _) c
end
section
variable [aP] {P:aY} {Q:Exit->Act->az->Prop} {a:Act} {u u1:az} {b fr:aV} {cs:aB aV} {ops:aJ dK} {i:Nat} {rest:aB Nat} {o:dK} {Lf:bC->aB Nat} {f0:bC} {dn:Nat}
def oU.results{Shun S ρ gs w t q}(e:oU Lf P Shun S fr cs u ρ gs w t q){fn v x}(n:bK ρ x x)(h:(results fn x).run P u=.ok v u)(g:Nat->Question->Nat):(results fn x).run P (u.tp g)=.ok v (u.tp g):=by
 haveI:bw:=bU []
 have m:WR P ρ u (w.tp λj q=>u.tape (u.drawn+(j-w.drawn)) q):=⟨e.world.one,e.world.lt,e.world.obj,λi q=>by show u.tape (u.drawn+(w.drawn+i-w.drawn)) q=_;rw[wQ],e.world.low,e.world.base,e.world.calm,e.world.os⟩
 obtain⟨_,l⟩:=(rB (yl fn n) (iy u) m e.whole h).1;rw[<-ji P _ (u.tp g) #[],l g (λi q a b=>by omega)]
def FO.PD{d:Nat}(I:ops[i]? =aa o)(hw:dg o (yielded ops a.tmps)=aq){f:bC}{fn:kZ}{body:gN}{args:aJ gY}{V:aJ aQ}(J:o.op=.call {callee:=.value (.func f),args,argTypes:=V}) (hd:o.dst=aa d) (r:P.funcs[f]? =aa fn) (H:(fn.name== "runtime.NumGoroutine")=av) (aj:fn.body=aa body) (aI:aP.known f) (L:∀x:aJ aD,results fn x=results fn (mP (Lf f) x)) (hx:∀l,(∀(j:Nat) v,a.tmps[j]? =aa v->j∉Lf f0->VR l v v)->∀(j:Nat) v,(Frame.enter P f (args.map a.eval) .normal).tmps[j]? =aa v->j∉Lf f->VR l v v)
  (c:iV Lf P (dn+1) f (args.map a.eval) u λe n=>∃v,e=aM v/\FO Lf f0 dn P ops Q rest (a.put (aa d) v) n):FO Lf f0 dn P ops Q (i::rest) a u:=λb k cs B D hf KB=>by
 haveI:bw:=bU []
 have C:fn.body.isNone=av:=by rw[aj];rfl
 have F:∀v,(b.at a (.inRegion ops (i::rest)::k)).finish v=b.at (a.put (aa d) v) (.inRegion ops rest::k):=by intro v;rw[wN,I];show b.at (a.put o.dst v) _=_;rw[hd]
 refine .one λU S l gs w t q h _=>?_
 have hk:b.kind≠.early:=by have:b.kind=.normal:=h.top.kind;rw[this];simp
 refine⟨Frame.enter P f (args.map a.eval) .normal,b.at a (.inRegion ops (i::rest)::k)::cs,u,l,w,_,stepG_enter I hw hk (run_call_body J r H C),⟨.refl l w,h.world,h.whole,h.same,h.size,λe p=>?_,⟨hx l (show kL l (Lf f0) (b.at a (.inRegion ops (i::rest)::k)) from B▸h.top).tmps,rfl,aI⟩,λg hg=>?_,h.full⟩,(c (b.at a (.inRegion ops (i::rest)::k)::cs) (by simp[D])).bind ?_⟩
 ·have E:=qb p;rw[On J r H C]at E;simp at E
 ·rcases jR.1 hg with rfl|hg
  ·exact⟨h.top,rfl⟩
  ·exact h.low g hg
 ·rintro fr aX n ⟨rfl,G,e,_,⟨v,rfl,aL⟩,l1,l2,l3,bf,N,T⟩;have O:=N;rw[G,r]at O;cases O;refine .one λU S l gs w t q h _=>?_;have ak:=h.low (b.at a (.inRegion ops (i::rest)::k)) (dw ..);have M:bK l (mP (Lf f) fr.tmps) (mP (Lf f) fr.tmps):=CZ (a:=⟨fr.tmps,[]⟩) λi v hv hi=>h.top.tmps i v hv (by rw[G];exact hi);rw[L]at T;obtain⟨σ,v',w1,x,X,s,m,z,Y,A,Z,h8,h9⟩:=h.ok (u1:=n) (yl (P:=P) (K:=λ_=>False) fn M) (h.results M T);obtain rfl:=VR.eq A s;refine⟨_,cs,n,σ,w1,_,Mw l1 l2 l3 N (by rw[L];exact X),⟨m,z,Y,A,Z,λe p=>?_,?_,λg hg=>⟨(h.low g (eJ _ hg)).1.mono m.le,(h.low g (eJ _ hg)).2⟩,h9⟩,?_⟩
  ·exact BY (h.clear.went m) (λy b ry=>(z.lt y b ry).2) (h8 e (qb p))
  ·rw[F];exact As (ak.1.mono m.le) (λ_=>s)
  ·rw[F];exact aL b k cs B D hf KB
def FO.Yf{l:aB bC}{d:Nat}(hT:Fit P l)(ho:ops[i]? =aa o)(hw:dg o (yielded ops a.tmps)=aq){f:bC}{fn:kZ}{body:gN}{args:aJ gY}{bh:aJ aQ}(aI:o.op=.call {callee:=.value (.func f),args,argTypes:=bh}) (hd:o.dst=aa d) (O:P.funcs[f]? =aa fn) (aG:(fn.name== "runtime.NumGoroutine")=av) (aj:fn.body=aa body) (bJ:aP.known f) (bF:args.all (cS l)=aq) (I5:args.map a.eval=args.map (rJ (Lf f0) a).eval)
  (c:fc P f (args.map a.eval) u λe u'=>∃v,e=aM v/\FO Lf f0 dn P ops Q rest (a.put (aa d) v) u'):FO Lf f0 dn P ops Q (i::rest) a u:=λb k cs N Fv hf KB Shun S A gs w sl t q j hV=>by
 haveI:bw:=bU []
 have RB:fn.body.isNone=av:=by rw[aj];rfl
 have Kq:∀v,(b.at a (.inRegion ops (i::rest)::k)).finish v=b.at (a.put (aa d) v) (.inRegion ops rest::k):=by intro v;rw[wN,ho];show b.at (a.put o.dst v) _=_;rw[hd]
 have hk:b.kind≠.early:=by have:b.kind=.normal:=j.top.kind;rw[this];simp
 have RQ:kL A (Lf f0) (b.at a (.inRegion ops (i::rest)::k)):=N▸j.top;have bL:=CZ (a:=a) (L:=Lf f0) RQ.tmps
 obtain⟨N1,Z,Y,G,kO,GG,t1,q1,⟨rfl,rfl,d1,rfl⟩,r1,r2,r3,r4,r5⟩:=step0 (K:=λZ Y G=>Z=Frame.enter P f (args.map a.eval) .normal/\Y=b.at a (.inRegion ops (i::rest)::k)::cs/\∃d,G=w.at d) (Shun:=Shun) (sumTo gs.size q+1) gs w sl t q ak j.qm j.gC j.past j.eW λr=>⟨_,_,w.at r,_,stepG_enter ho hw hk (run_call_body aI O aG RB),bD _,λe E=>by have an:=qb E;rw[On aI O aG RB]at an;simp at an,rfl,rfl,r,rfl⟩
 have hN:fu P Shun S (Frame.enter P f (args.map a.eval) .normal) (b.at a (.inRegion ops (i::rest)::k)::cs) u A kO (w.at d1) t1 q1:=by
  refine⟨r2,MU O aj bJ (by rw[I5];exact Ve hT bL bF),⟨λg hg=>?_⟩,j.world.at d1,j.whole,r3,r4,j.clear,j.same,j.size,r5,j.full⟩;rcases jR.1 hg with rfl|hg
  ·rfl
  ·exact(j.low g hg).2
 obtain⟨N2,H,V,U,QX,PV,s,Rm,T,cx,t2,q2,k1,⟨rfl,cH,e,E,⟨v,rfl,bK⟩,l1,l2,l3,bn,l4,l5⟩,p,F,k5⟩:=c (b.at a (.inRegion ops (i::rest)::k)::cs) Shun S A kO (w.at d1) GG t1 q1 hN (hV.at d1);have aC:A.le U:=F.le
 obtain⟨N3,af,cs,z,bt,cy,t3,q3,⟨rfl,rfl,d3,m,n,C,I,D,J,M,B⟩,m1,m2,m3,m4,m5⟩:=step0 (K:=λaf bk z=>af=b.at (a.put (aa d) v) (.inRegion ops rest::k)/\bk=cs/\∃d m,fA U m (T.at d) z/\fy P m s z/\Whole V m s/\(∀a b,m a b->a=b)/\s.heap.size=z.heap.size/\Full m s/\VR m v v) (Shun:=H) (sumTo Rm.size q2+1) Rm T cx t2 q2 ak p.qm p.gC p.past p.eW λr=>by have kd:=p.at r;obtain⟨m,v',G,x,h1,B,n,C,I,D,J,h8,M⟩:=kd.ok (u1:=s) (yl (P:=P) (K:=λ_=>False) bn p.top.tmps) (p.results l5);obtain rfl:=VR.eq D B;exact⟨_,_,G,_,Mw l1 l2 l3 l4 h1,n.size,λe E=>BY (kd.clear.went n) (λy b ry=>(C.lt y b ry).2) (h8 e (qb E)),Kq v,rfl,r,m,n,C,I,D,J,M,B⟩
 obtain⟨N4,bg,S4,cF,bp,bl,u4,bu,w4,cz,t4,q4,n1,n2,n3,n4,n5⟩:=bK b k cs N Fv hf KB H V m bt z cy t3 q3
  ⟨m2,by show kL m (Lf b.fn) _;rw[N];exact As ((RQ.mono aC).mono n.le) (λ_=>B),λg hg=>⟨((j.low g hg).1.mono aC).mono n.le,(j.low g hg).2⟩,C,I,m3,m4,(p.at d3).clear.went n,D,J,m5,M⟩ (((((hV.at d1).went F k5)).at d3).went n (.refl H _))
 refine⟨N1+(N2+(N3+N4)),bg,S4,cF,bp,bl,u4,bu,w4,cz,t4,q4,?_,n2,n3,(((fA.refl A w).at d1).trans F).trans ((((fA.refl U T).at d3).trans n).trans n4),λX h=>?_⟩
 ·rw[wq r1,wq k1,wq m1];exact n1
 ·rcases n5 X h with h|h
  ·exact k5 X h
  ·exact aE (dM F.size (dM n.size h))
def Qo{f:bC}{fn:kZ}{body:gN}{args:aJ aD}{L:aB Nat}{ρ:Ren}(g:P.funcs[f]? =aa fn)(e:fn.body=aa body)(h:∀(j:Nat) v,args[j]? =aa v->j∉L->VR ρ v v)(j:Nat)(v:aD)(hv:(Frame.enter P f args .normal).tmps[j]? =aa v)(l:j∉L):VR ρ v v:=by
 haveI:bw:=bU []
 rw[vg args g e]at hv;change(args++oF (fn.ntmps-args.size) au)[j]? =aa v at hv;rw[Hj]at hv;split at hv
 ·exact h j v hv l
 ·rw[Dg]at hv;split at hv
  ·cases hv;exact uH ρ
  ·cases hv
def EZ{f:bC}{fn:kZ}{body:gN}{args:aJ aD}{L:aB Nat}(g:P.funcs[f]? =aa fn)(e:fn.body=aa body)(h:∀(j:Nat) v,args[j]? =aa v->j∉L->∀ρ,VR ρ v v)(ρ:Ren)(j:Nat)(v:aD)(hv:(Frame.enter P f args .normal).tmps[j]? =aa v)(l:j∉L):VR ρ v v:=Qo g e (λj v a b=>h j v a b ρ) j v hv l
end
section
variable [aP] {P:aY} {f:bC} {fn:kZ} {c:gN} {args:aJ aD} {W:az} {Lf:bC->aB Nat} {R:Ending->az->Prop} {Post:aD->az->Prop}
def Y0(r:P=aP.prog)(s:∀w (j:Nat) v,(Frame.enter P f args .normal).tmps[j]? =aa v->j∉Lf f->VR w v v)(hf:P.funcs[f]? =aa fn)(m:fn.body=aa c)(q:aP.known f)(n:P.globals.size<=W.heap.size):
  oU Lf P (λ_=>False) (λ_=>False) (Frame.enter P f args .normal) [] (mask (λ_=>False) W) (eF λb=>False\/False) #[G (Frame.enter P f args .normal) []] W #[] (λ_=>0):=by
 haveI:bw:=bU []
 have t:XF (eF λb=>False\/False) (Frame.enter P f #[] .normal):=MU hf m q ⟨rfl,λi v x h=>by simp at h⟩
 have N:fu P (λ_=>False) (λ_=>False) (Frame.enter P f #[] .normal) [] (mask (λ_=>False) W) (eF λb=>False\/False) #[G (Frame.enter P f #[] .normal) []] W #[] (λ_=>0):=
  SF r rfl (leavers_one P _) (past_nil.mono (eZ _)) (λi j h=>by simp[Trace.g?]at h) (λb m=>m.elim) (λb h=>h.elim) n t ⟨λg n=>by(cases n)⟩ λl h=>h.elim
 refine⟨rfl,⟨?_,?_,?_⟩,λg n=>by(cases n),N.world,N.whole,leavers_one P _,N.past,N.clear,N.same,N.size,λi j h=>by simp[Trace.g?]at h,N.full⟩
 ·intro i v hv p;have e:(Frame.enter P f args .normal).fn=f:=by rw[vg _ hf m];rfl
  rw[e]at p;exact s _ i v hv p
 ·rw[vg _ hf m];rfl
 ·rw[vg _ hf m];exact q
def acw(af:P=aP.prog)(w:∀ρ (j:Nat) v,(Frame.enter P f args .normal).tmps[j]? =aa v->j∉Lf f->VR ρ v v)(hf:P.funcs[f]? =aa fn)(q:fn.body=aa c){t0}(t:fn.results=#[.tmp t0])(V:P.inits.idxOf? f=ay)(X:aP.known f)(U:P.globals.size<=W.heap.size)(aj:∀b o,aP.wat b=aa o->W.heap[b]? =aa o)
  (h:iV Lf P 0 f args (mask (λ_=>False) W) R) (L9:∀e u,R e u->∃v,e=aM v) (ah:∀v m g,R (aM v) m->(∀b,b<W.heap.size->g.heap[b]? =W.heap[b]?)->W.heap.size<=g.heap.size->g.os=W.os->g.output=W.output->g.tape=W.tape->Post v g):
  ∃M last o g y,runNT P (M+1) (solo (G (Frame.enter P f args .normal) []) W) #[]=(.ended o g,y)/\runN P M (solo (G (Frame.enter P f args .normal) []) W)=.next last/\step P last=.ended o g/\Conc.Good P Post last o g y:=by
 rw[solo_eq_crowd];obtain⟨N,E,S',bf,l,aO,m,aS,g,aG,y,q',C,⟨rfl,s,e,he,hR,Y⟩,r,p,_⟩:=h [] rfl _ _ _ _ _ ay _ _ (Y0 af w hf q X U) (λb o q=>⟨λx w=>w.2.elim id id,aj b o q,λ_ _ h=>h⟩);obtain⟨v,rfl⟩:=L9 e m hR;obtain⟨l1,l2,l3,aR,z,A⟩:=Y;rw[s,hf]at z;cases z
 have hv:v=l.tmps.getD t0 au:=by
  have:(results fn l.tmps).run P m=.ok (l.tmps.getD t0 au) m:=by simp[results,t]
  rw[this]at A;cases A;rfl
 have Z:∀d,Post v (g.at d):=λd=>ah v m (g.at d) hR (λb q=>p.cO b q λa T=>T.2.elim id id) p.size p.os p.output p.tape
 obtain⟨M,last,o,aI,aH,K,L,O,S⟩:=beside_ends (P:=P) (Shun:=E) (B:=g.heap.size) (D:=λ_ _ _=>False) (Post:=Post) (λ_ _ _ h=>h.elim) (sl:=aG) (n:=0) r.qm r.gC r.past (by
  rintro aX ⟨d,rfl⟩;refine⟨rfl,v,#[],?_,aC,Z d⟩;have F:(results fn l.tmps).run P (g.at d)=.ok v (g.at d):=by simp[results,t,hv]
  have H:(results fn l.tmps).events P (g.at d) #[]=#[]:=events_results_tmp t _ _;have I:P.funcs[l.fn]? =aa fn:=by rw[s];exact hf
  have J:P.inits.idxOf? l.fn=ay:=by rw[s];exact V
  simp[G,stepG,unwind,doReturn,l1,l2,l3,I,F,H,J,seen,GStep.after])
 refine⟨N+M,last,o,aI,aH,?_,?_,O,S⟩
 ·rw[show N+M+1=N+(M+1) by omega,wq C];exact K
 ·rw[runN_add,<-runNT_fst P _ _ #[],C];exact L
end
end
section
attribute [local go_sem ↓] Go.wp_at_zero Go.wp_at_succ
open Go.Conc Go.RowKit
open Go.Proofs.Tryz
def lk:aB (Nat×aD)->Nat->aZ aD
 |[],_=>ay
 |p::l,k=>bif uZ p.1 k then aa p.2 else lk l k
structure Fa(n:Nat)(a:Act)(L:aB (Nat×aD)):Prop where
 size:a.tmps.size=n
 defers:a.defers=[]
 at_:∀k v,lk L k=aa v->a.eval (.tmp k)=v
def Ez(L:aB (Nat×aD)):aB (Nat×aD)->Prop
 |[]=>True
 |p::r=>lk L p.1=aa p.2/\Ez L r
def Sr{L}:∀{M:aB (Nat×aD)},Ez L M->∀k v,lk M k=aa v->lk L k=aa v
 |[],_,k,v,h=>by cases h
 |p::r,c,k,v,h=>by
  unfold lk at h;cases b:uZ p.1 k with
  |true=>
   rw[b]at h;have e:p.1=k:=yR b;simp at h;rw[<-e,<-h];exact c.1
  |false=>
   rw[b]at h;exact Sr c.2 k v h
def Fa.sub{n a L M}(h:Fa n a L)(b:Ez L M):Fa n a M:=⟨h.size,h.defers,λk v e=>h.at_ k v (Sr b k v e)⟩
def Fa.put{n d a L}(h:Fa n a L)(v)(f:d<n):Fa n (a.put (aa d) v) ((d,v)::L):=
 ⟨(Ti _ _ _).trans h.size,(put_defers _ _ _).trans h.defers,λk x e=>by
  unfold lk at e;cases b:uZ d k with
  |true=>
   rw[b]at e;have c:=yR b;simp at e;rw[<-c,<-e];exact Qq v (by rw[h.size];exact f)
  |false=>
   rw[b]at e;have c:k≠d:=λx=>by rw[x,Nat.beq_refl]at b;cases b
   exact(Qp v c).trans (h.at_ k x e)⟩
def jg(ops:aJ dK)(L:aB (Nat×aD)):aZ (Nat×Bool)->Bool
 |none=>aq
 |some (j,b)=>match(ops[j]?).bind (·.dst)with
  |none=>av
  |some p=>match lk L p with
   |some (.bool x)=>x==b
   |_=>av
def opF(L:aB (Nat×aD)):gY->aZ aD
 |.tmp k=>lk L k
 |.const v=>aa v
 |_=>ay
def qo(B:aB Nat)(n d:Nat)(xs:aB gY):Bool:=decide (d<n)&&xs.all λx=>match x with
 |.tmp k=>!B.contains k
 |.const _=>aq
 |_=>av
section
variable [aP] {l:aB bC} {a:Act} {ops:aJ dK} {n d k:Nat} {o:dK} {v vx:aD} {x:gY} {L:aB (Nat×aD)}
def Fa.wants(E:Fa n a L)(c:jg ops L o.guard=aq)(u:∀j b p,o.guard=aa (j,b)->(ops[j]?).bind (·.dst)=aa p->p<n):EA ops a o:=by
 unfold EA dg;cases m:o.guard with
 |none=>rfl
 |some q=>
  obtain⟨j,b⟩:=q;rw[m]at c;unfold jg at c;simp only at c;cases f:ops[j]? with
  |none=>rw[f]at c;cases c
  |some w=>
   rw[f]at c;simp at c;cases e:w.dst with
   |none=>rw[e]at c;cases c
   |some p=>
    rw[e]at c;simp only at c;cases g:lk L p with
    |none=>rw[g]at c;cases c
    |some y=>
     rw[g]at c;cases y<;>simp at c;rename_i x;have s:x=b:=by simpa using c
     have t:p<a.tmps.size:=by rw[E.size];exact u j b p m (by rw[f];exact e)
     have r:a.tmps[p]? =aa (.bool b):=by have h:=cX t;rw[h];have i:=ev (E.at_ p _ g);rw[h]at i;rw[<-s];exact dZ aa i
     simp[yielded,f,e,r]
def ZG(E:Fa n a L)(h:opF L x=aa vx):a.eval x=vx:=by
 cases x with
 |tmp k=>exact E.at_ k vx h
 |const v=>cases h;rfl
 |_=>cases h
def ES{B xs}(h:qo B n d xs=aq):d<n:=by unfold qo at h;exact sH ((cE _ _).mp h).1
def Yw{B xs}(h:qo B n d xs=aq)(e:x∈xs):(rJ B a).eval x=a.eval x:=by
 unfold qo at h;have b:=mz.1 ((cE _ _).mp h).2 x e;cases x with
 |tmp k=>
  refine Am λc=>?_;simp only[rP]at b;rw[wO.2 c]at b;cases b
 |const v=>rfl
 |_=>cases b
def Yv{B:aB Nat}{xs:aB gY}(h:qo B n d xs=aq)(e:IK k∈xs):k∉B:=λc=>by unfold qo at h;have b:=mz.1 ((cE _ _).mp h).2 _ e;simp only[rP]at b;rw[wO.2 c]at b;cases b
def jo(ops:aJ dK)(n:Nat):aZ (Nat×Bool)->Bool
 |none=>aq
 |some (j,_)=>match(ops[j]?).bind (·.dst)with
  |none=>aq
  |some p=>decide (p<n)
def Fa.wt(E:Fa n a L)(g:(jg ops L o.guard&&jo ops n o.guard)=aq):EA ops a o:=by have h:=(cE _ _).mp g;refine E.wants h.1 λj b p e f=>?_;have c:=h.2;rw[e]at c;unfold jo at c;simp only at c;rw[f]at c;exact sH c
def ug(L:aB (Nat×aD)):aB gY->aZ (aB aD)
 |[]=>aa []
 |x::r=>match opF L x,ug L r with
  |some v,aa b=>aa (v::b)
  |_,_=>ay
def EE(E:Fa n a L):∀{xs:aB gY} {c:aB aD},ug L xs=aa c->xs.map a.eval=c
 |[],c,h=>by cases h;rfl
 |x::r,c,h=>by
  unfold ug at h;cases b:opF L x with
  |none=>rw[b]at h;cases h
  |some v=>
   cases e:ug L r with
   |none=>rw[b,e]at h;cases h
   |some f=>
    rw[b,e]at h;cases h;rw[uU,ZG E b,EE E e]
def Fa.add(h:Fa n a L)(e:a.eval (.tmp d)=v):Fa n a ((d,v)::L):=⟨h.size,h.defers,λk x b=>by
  unfold lk at b;cases c:uZ d k with
  |true=>
   rw[c]at b;simp at b;rw[<-yR c,<-b];exact e
  |false=>
   rw[c]at b;exact h.at_ k x b⟩
def SA:∀{L:aB (Nat×aD)} {k:Nat} {v:aD},lk L k=aa v->k∈L.map DY
 |[],_,_,h=>by cases h
 |p::l,k,v,h=>by
  unfold lk at h;cases b:uZ p.1 k with
  |true=>rw[<-yR b];exact dw ..
  |false=>
   rw[b]at h;exact eJ _ (SA h)
end
end
section
attribute [local go_sem ↓] Go.wp_at_zero Go.wp_at_succ
attribute [local go_sem] bV bQ
open Go.RowKit
structure ahh where
 rb:Nat->Nat
 mb:Nat->Nat
 ch:Nat->Nat
 k:Nat->Cl
end
section
attribute [local go_sem ↓] Go.wp_at_zero Go.wp_at_succ
open Go.RowKit
def YC{P f fn c}{a:Act}{w:az}{R:Ending->az->Prop}{n:Nat}{b:aV}(hf:P.funcs[f]? =aa fn)(r:b.fn=f)(s:b.kind=.normal)(p:b.roundOf=ay)(h:c.wpIn iS n P (bodyPostM iS n P fn R) a w)(cs):
  ∃e d g,R e d/\Comes P (lone (b.at a [.code c]) cs w) (lone g cs d) e/\g.fn=f/\g.leaving P d e:=by
 have hr:iS.room (cs.length+1+n):=room_wide _;obtain⟨e,j,d,k,o⟩:=h b [] cs p trivial hr;have v:b.atR a [.code c]=b.at a [.code c]:=VN p _ _;rw[v]at o
 have fin:∀(m:FrameMode) (i:aB Item),LeavesInM iS n P fn j.tmps R j.defers m d->StepsIn (Wx P iS) P (lone (b.at a [.code c]) cs w) (lone {b.atR j i with mode:=m} cs d)->
   ∃e d g,R e d/\Comes P (lone (b.at a [.code c]) cs w) (lone g cs d) e/\g.fn=f/\g.leaving P d e:=λm i y A=>by
  obtain⟨u,C,g,hR,B,x,z⟩:=leaves_stepsInM j.defers m d {b.atR j i with mode:=m} cs rfl rfl rfl (by rw[<-r]at hf;exact hf) s trivial hr y;exact⟨u,C,g,hR,Om.1 (VG A B),x.trans r,z⟩
 cases e with
 |normal=>exact fin .returning [] k (StepsIn.trans o (.one (fenced_calm (fr:=b.atR j []) trivial hr rfl) (stepR_end p)))
 |ret=>
  obtain⟨i,q⟩:=o.1 p;exact fin .returning i k q
 |panic t=>
  obtain⟨i,q⟩:=o;exact fin (.panicking t) i k q
 |exit id=>exact k.elim
 |goto l=>exact k.elim
 |outgrown=>exact⟨.outgrown,d,{b with fn:=f},k,Om.1 (o.resolve_left (by rw[s];simp)),rfl,trivial⟩
end
section
attribute [local go_sem ↓] Go.wp_at_zero Go.wp_at_succ
attribute [local go_sem] bV bQ
open Go.Proofs.Tryz
open Go.RowKit
abbrev stC:aJ aD:=#[an 0,an 0,an 0,an 0,an 0,an 0,an 0,an 0]
abbrev Xl(W:az)(b:Nat):Prop:=W.heap[b]? =aa (aA stC 68 (0,0))
def afi{W b}(h:Xl W b):W.cell? (aj b 0)=aa (an 0)/\W.cell? (aj b 1)=aa (an 0)/\W.cell? (aj b 2)=aa (an 0)/\W.cell? (aj b 3)=aa (an 0)/\W.cell? (aj b 4)=aa (an 0)/\W.cell? (aj b 5)=aa (an 0)/\W.cell? (aj b 6)=aa (an 0)/\W.cell? (aj b 7)=aa (an 0):=
 ⟨aI h rfl,aI h rfl,aI h rfl,aI h rfl,aI h rfl,aI h rfl,aI h rfl,aI h rfl⟩
def XV{w W}(h:aN w W)(v0 v1 v2 v3 v4 v5 v6 v7):aN w ((((((((W.setCell (aj w.heap.size 0) v0).setCell (aj w.heap.size 1) v1).setCell (aj w.heap.size 2) v2).setCell (aj w.heap.size 3) v3).setCell (aj w.heap.size 4) v4).setCell (aj w.heap.size 5) v5).setCell (aj w.heap.size 6) v6).setCell (aj w.heap.size 7) v7):=
 (((((((h.setCell (bD _) v0).setCell (bD _) v1).setCell (bD _) v2).setCell (bD _) v3).setCell (bD _) v4).setCell (bD _) v5).setCell (bD _) v6).setCell (bD _) v7
def aho(n:Nat)(d:n<=65535):∃M:aJ aD,∀W:az,(Dy 158 (an (n:Int)) (an (n:Int))).run prog W=.ok (.slice (aa (aj W.heap.size 0)) n n) (W.alloc (aA M 5)):=by obtain⟨a,b,c,e,f⟩:=qO infoByte;refine⟨madeCells (Value.int .u8 0).cells (((n:Nat):Int).toNat*a.size),λW=>?_⟩;simpa using(run_make W 158 5 a (.int .u8 0) underlying158 b c .i64 .i64 (n:Int) (n:Int) ak ak (by grind) ak)
def O8:(prog.info? 119).map (λi=>(i.zero,i.size,i.bytes))=aa (aa (.pointer ay),1,8):=aT
def U3(N):madeCells (Bh ay).cells N=oA (mU N ay):=by apply Au;rw[show(Bh ay).cells=#[.pointer ay] from rfl,toList_madeCells_one];simp[oA,kW]
def V8(N:Nat)(e:N<=65535)(W:az):(Dy 103 (an (N:Int)) (an (N:Int))).run prog W=.ok (.slice (aa (aj W.heap.size 0)) N N) (W.alloc (aA (oA (mU N ay)) 119)):=by obtain⟨d,a,b,c,f⟩:=qO O8;have h:=run_make W 103 119 d (.pointer ay) underlying103 a b .i64 .i64 (N:Int) (N:Int) ak ak (by grind) ak;rw[c]at h;simp at h;rw[U3]at h;exact h
end
section
attribute [local go_sem ↓] Go.wp_at_zero Go.wp_at_succ
attribute [local go_sem] bV bQ
open Go.Conc Go.RowKit
open Go.Proofs.Tryz
def C7(w f xb L)(h:aL w f xb L)(hf:f.K.length<=65535)(u s k)(g:f.Is u s k):
  bN 34 #[jp xb,an u] w (.tuple #[.agg (stG k),an 0]):=by
 have b:=h.below ((Below.refl _ w).alloc (bD _) (aA stC 68));obtain⟨l,p,n,_⟩:=b.sat g.at_;have i:=bf (Kc b hf g p);have m:Hid (∀W,aN (w.alloc (aA stC 68)) W->bN 70 #[jp l.c] W (.agg (stG k))):=λW o=>afk _ _ _ _ _ _ _ _ W (cj.old n o);generalize l.c=c at*;go_enter func34,ntmps34
 go_wp2_with (first
  |(go_at_call 68;refine i.out.mono ?_;rintro e C ⟨rfl,a⟩)
  |(go_at_call 70;refine(m.out _ a).mono ?_;rintro e A ⟨rfl,d⟩;have hS:=(bW d ((a.block _ aC).trans (cG w _)));obtain⟨q,p1,r,t,v,x,y,z⟩:=afi hS;have B:∀j,A.frozen? ⟨w.heap.size,j,ay⟩=av:=(λj=>bF hS j)))
 exact gn (by simp[results,results34,go_sem,q,p1,r,t,v,x,y,z]) rfl ⟨rfl,XV (bp.trans ((a.mono aC).trans (d.mono (by have:=a.size;simp at this;omega)))) _ _ _ _ _ _ _ _⟩
section
variable {W W1:az} {f:Fx} {xb j:Nat} {L:dy} {k:Ck} {l:Lc}
def aL.enter(h:aL W f xb L)(m:aN W W1)(w:f.K[j]? =aa ay)(z:l.At W1 f.g k)(y:l.ij (W.heap.size<=·)):
  aL (W1.setCell (aj L.sb j) (jp l.c)) {f with K:=f.K.set j (aa k)} xb {L with cs:=L.cs.set j (aa l),own:=gu L.own W.heap.size (7+2*j)}/\bh (λb=>L.own b≠0) W (W1.setCell (aj L.sb j) (jp l.c)):=by
 have F:=(bq.1 h.dX).1;have a:fE W (W1.setCell (aj L.sb j) (jp l.c)) L.own (gu L.own W.heap.size (7+2*j)) λt=>t=2:=⟨λb d B=>(cw λe=>B (by rw[e];exact h.jd)).trans (m.block b d),λb d=>iO d⟩;have b1:=a.blk h.box h.eR ak;have p:=a.row h.bP h.lY ak;have q:=a.row h.log h.mM ak;have r:=a.fO h.fO h.oo ak;have C:∀b,W.heap.size<=b->b≠L.sb:=λb d e=>by omega
 have A:l.At (W1.setCell (aj L.sb j) (jp l.c)) f.g k:=cj.keep z (O:=λb=>W.heap.size<=b) y λb d _=>cw (C b d)
 have D:L.cs[j]? =aa ay:=by
  have E:j<L.cs.length:=by rw[h.cs.len];exact(dS.1 w).1
  have i:L.cs[j]? =aa L.cs[j]:=eI E;have v:=h.cs.at_ _ _ _ w i;cases u:L.cs[j]with
  |none=>rw[u]at i;exact i
  |some l=>rw[u]at v;exact absurd v (by simp[oW])
 refine⟨⟨?_,b1.2,?_,(iO F).trans h.jd,a.EX h.cs (λx _=>by omega) ⟨A,y.mono λb d=>uw d⟩,a.js h.js (λs lc o=>⟨lc,?_,rfl⟩) (λn=>by omega),a.qp h.fl ak,p.1,p.2,q.1,q.2,r.1,r.2⟩,?_⟩
 ·have e:=b1.1;simpa[lJ]using e
 ·have e:=dF (bW m h.dX) j (kW (aa l.c));rw[TE]at e;show xw _ L.sb ((L.cs.set j (aa l)).map λl=>l.map Lc.c);rw[DO];exact e
 ·have:s≠j:=λe=>by rw[e,D]at o;cases o
  rw[tL (dc this)];exact o
 ·exact(bh.below m).trans ((bh.refl _ _).mono (λ_ _ h=>h) |>.trans (by exact⟨rfl,aC,λb d G=>cw λe=>G (by rw[e,h.jd];omega)⟩))
def Yl{W f xb L}(h:aL W f xb L):aL (W.setCell (aj xb 10) (an (f.cM+1))) {f with cM:=f.cM+1} xb L:=
 h.put 10 _ {f with cM:=f.cM+1} (by simp[lJ]) rfl rfl rfl rfl rfl ⟨rfl,rfl,rfl⟩
end
def aL.FW{W f xb L}(h:aL W f xb L)(i:Nat):(L.cs.map λl=>l.map Lc.c)[i]? =aa ay↔f.K[i]? =aa ay:=by
 rw[jA];constructor
 ·intro e;cases g:L.cs[i]? with
  |none=>rw[g]at e;cases e
  |some o=>
   rw[g]at e;cases o with
   |some l=>simp at e
   |none=>
    have j:i<f.K.length:=by rw[<-h.cs.len];exact(dS.1 g).1
    have a:=eI j;have d:=h.cs.at_ _ _ _ a g;cases b:f.K[i]with
    |none=>rw[b]at a;exact a
    |some k=>rw[b]at d;exact absurd d (by simp[oW])
 ·intro e;have j:i<L.cs.length:=by rw[h.cs.len];exact(dS.1 e).1
  have a:=eI j;have d:=h.cs.at_ _ _ _ e a;cases b:L.cs[i]with
  |none=>rw[b]at a;rw[a];rfl
  |some l=>rw[b]at d;exact absurd d (by simp[oW])
def Fx.nJ(f:Fx)(j:Nat)(wt:Int):Fx:={f with K:=f.K.set j (aa (Ck.fresh f.cM wt f.g.bu)),cM:=f.cM+1}
def C8(w:az)(f:Fx)(xb:Nat)(L:dy)(h:aL w f xb L)(hf:f.K.length<=65535)(y:f.stop=av)(wt:Int)(O:iR wt 1 4=aq)(j:Nat)(k:f.K[j]? =aa ay)(x:∀i,i<j->f.K[i]? ≠aa ay)(Z:0<=f.cM/\f.cM<=281474976710656):
  Calls prog 36 #[jp xb,an wt] w λe a=>e=aM (.tuple #[an f.cM,an 0])/\∃m,aL a (f.nJ j wt) xb m/\bJ w L a m:=by
 have af:j<f.K.length:=(dS.1 k).1;have ah:xb≠L.sb:=λe=>by have:=h.jd;rw[<-e,h.eR]at this;omega
 have X:w.cell? (aj xb 14)=aa (.bool av):=by rw[<-y];exact aI h.box rfl
 have D:=aS w xb 9 (.slice (aa (aj L.sb 0)) f.K.length f.K.length) h.box;have V:=aS w xb 10 (an f.cM) h.box
 have A:Hid (fK 72 #[.slice (aa (aj L.sb 0)) f.K.length f.K.length,.pointer ay] w (an j)):=by
  refine(O4 L.sb f.K.length _ w h.dX (by simp[h.cs.len]) hf).mono ?_;rintro e a ⟨M,⟨r,u,p⟩|⟨u,p⟩⟩
  ·have:r=j:=by
    rcases ID r j with h'|h'|h'
    ·exact absurd ((h.FW r).1 p.1) (x r h')
    ·exact h'
    ·exact absurd ((h.FW j).2 k) (p.2 j h')
   exact⟨by rw[u,this],M⟩
  ·exact absurd ((h.FW j).2 k) (p j)
 have t:Hid (FeS xb L.sb f.K.length f.g.sz f.g.cl f.g.qu f.g.mx f.g.qn f.g.rt f.g.bu f.g.wk f.g.ou w):=⟨⟨aI h.box rfl,aI h.box rfl,aI h.box rfl,aI h.box rfl,aI h.box rfl,aI h.box rfl,aI h.box rfl,aI h.box rfl,aI h.box rfl⟩,D⟩
 have C:Hid (∀W,aN w W->Calls prog 73 #[cfV f.g,an f.cM,an wt] W λe a=>∃c,e=aM (jp c)/\(∃m,aL ((a.setCell (aj L.sb j) (jp c)).setCell (aj xb 10) (an (f.cM+1))) (f.nJ j wt) xb m/\bJ w L ((a.setCell (aj L.sb j) (jp c)).setCell (aj xb 10) (an (f.cM+1))) m)/\FeS xb L.sb f.K.length f.g.sz f.g.cl f.g.qu f.g.mx f.g.qn f.g.rt f.g.bu f.g.wk f.g.ou a/\a.cell? (aj L.sb j)=aa (.pointer ay)/\a.frozen? (aj L.sb j)=av/\(a.setCell (aj L.sb j) (jp c)).cell? (aj xb 10)=aa (an f.cM)/\(a.setCell (aj L.sb j) (jp c)).frozen? (aj xb 10)=av):=λW v=>by refine(Y3 f.g f.cM wt W).mono ?_;rintro e a ⟨c,R,Q,E,rfl,N,d,H,g2,I,J⟩;have o:=v.size;have q:aN w a:=v.trans (d.mono o);obtain⟨s,F⟩:=h.enter (l:=⟨c,R,Q,E,.slice ay 0 0,.slice ay 0 0⟩) q k N ⟨dM o H,dM o g2,dM o I,dM o J,λb d=>by simp[sE]at d,λb d=>by simp[sE]at d⟩;have G:=Yl s;refine⟨c,rfl,⟨_,G,⟨λb d=>iO d,F.set (by show L.own xb≠0;rw[h.eR];omega) _⟩⟩,t.out.later q,?_,bF (bW q h.dX) j,aI s.box rfl,bF s.box 10⟩;exact bO q (aI h.dX (wo ((h.FW j).2 k)))
 generalize f.nJ j wt=U at*;clear h k x y;go_enter func36,ntmps36
 go_upto_region 9 with(first|(go_at_call 71;refine(Ap wt 1 4 _).mono ?_;rw[O];rintro e T ⟨rfl,rfl⟩)|(go_at_call 72;refine A.out.mono ?_;rintro e T ⟨rfl,rfl⟩))
 refine iD ?_;refine dY (S:=FeS xb L.sb f.K.length f.g.sz f.g.cl f.g.qu f.g.mx f.g.qn f.g.rt f.g.bu f.g.wk f.g.ou) 13 aT t.out ?_;intro hS;refine gk 0 ?_;refine gk 1 ?_;refine gk 2 ?_;refine gs 3 ?_;refine gk 4 ?_;refine gk 5 ?_;refine gk 6 ?_;refine gk 7 ?_;refine gs 8 ?_;refine gk 9 ?_;refine gk 10 ?_;refine gr 11 λK n=>?_;go_simp;go_at_call 73;refine(C.out _ (iU (Below.refl _ _) _)).mono ?_;rintro e w2 ⟨c,rfl,z,P,k3,k4,k5,k6⟩;have B:=bf z;clear z;refine n.out _ _ P (λY=>?_);clear n K;refine gk 12 ?_;refine gz λK n=>?_;go_simp;refine n.out _ _ ?_;clear n K;refine ef aT ?_ _;refine gE ?_;go_wp2_with fail
 go_ret2
 exact⟨rfl,B.out⟩
abbrev iK(e:En):aJ aD:=#[an e.no,an e.ck,an e.kd,an e.fl,an e.of,an e.ln,an e.er]
def nL(B:aJ UInt8)(e:En):ByteArray:=if e.kd=0/\e.er=0 then⟨B.extract e.of.toNat (e.of.toNat+e.ln.toNat)⟩else⟨#[]⟩
def afL(d)(x:En)(B w)(h:¬(x.kd=0/\x.er=0)):bN 164 #[jp d,.agg (iK x)] w (.string (nL B x)):=by
 have b:nL B x=⟨#[]⟩:=aK h;rw[b];have a:(w.alloc (aA (iK x) 96)).heap[w.heap.size]? =aa (aA (iK x) 96 (0,0)):=cG w _;have g:=aI a (i:=2) (v:=an x.kd) rfl;have j:=aI a (i:=6) (v:=an x.er) rfl;have c:Hid (aN w (w.alloc (aA (iK x) 96))):=bp
 by_cases h0:x.kd=0
 ·have f:¬x.er=0:=λe=>h ⟨h0,e⟩;have d1:(x.kd !=0)=av:=by simp[h0]
  have d2:(x.er !=0)=aq:=by simp[f]
  clear h h0 f a b;go_enter func164,ntmps164;go_wp2;go_ret;exact⟨rfl,c.out⟩
 ·have d1:(x.kd !=0)=aq:=by simp[h0]
  clear h h0 a b;go_enter func164,ntmps164;go_wp2;go_ret;exact⟨rfl,c.out⟩
def afN(d bb db n cv)(x:En)(B D)(C:aB (Nat×aB UInt8))(w)(a:jF w d bb db cv n B D C)(h:x.kd=0/\x.er=0)(h0:0<=x.of)(k:0<=x.ln)(l:x.of+x.ln<=n):bN 164 #[jp d,.agg (iK x)] w (.string (nL B x)):=by
 have f:nL B x=⟨B.extract x.of.toNat (x.of.toNat+x.ln.toNat)⟩:=aW h;rw[f];have c:(w.alloc (aA (iK x) 96)).heap[w.heap.size]? =aa (aA (iK x) 96 (0,0)):=cG w _;have p:=aI c (i:=2) (v:=an x.kd) rfl;have q:=aI c (i:=4) (v:=an x.of) rfl;have r:=aI c (i:=5) (v:=an x.ln) rfl;have s:=aI c (i:=6) (v:=an x.er) rfl;have b:aN w (w.alloc (aA (iK x) 96)):=bp;have g:=bf b;have d1:(x.kd !=0)=av:=by simp[h.1]
 have d2:(x.er !=0)=av:=by simp[h.2]
 have j:Hid (Calls prog 54 #[jp d,an x.of,an x.ln] (w.alloc (aA (iK x) 96)) λe o=>e=aM (.string ⟨B.extract x.of.toNat (x.of.toNat+x.ln.toNat)⟩)/\o=w.alloc (aA (iK x) 96)):=by have m:jF (w.alloc (aA (iK x) 96)) d bb db cv n B D C:=⟨bW b a.box,bW b a.bytes,bW b a.zF,zW a.cache b,a.sizes,a.fits,a.apart,a.small⟩;have:=Zn d bb db n x.of.toNat x.ln.toNat cv B D C _ m ak;rw[show((x.of.toNat:Nat):Int)=x.of by omega,show((x.ln.toNat:Nat):Int)=x.ln by omega]at this;exact this
 clear h h0 k l c f b a;go_enter func164,ntmps164;go_wp2_with (go_at_call 54;refine j.out.mono ?_;rintro e t ⟨rfl,rfl⟩);go_ret;exact⟨rfl,g.out⟩
end
section
open Go.Conc Go.RowKit
open Go.Proofs.Tryz
section
variable {W:az} {f:Fx} {xb:Nat} {L:dy} {b:Jb} {r:aB Jb}
def aL.top(h:aL W f xb L)(hf:f.fl=b::r)(q:∀x∈r,dW b.key x.key=aq):∃a js,L.js=a::js/\L.hf 0=a.j/\fj W L.own L.cs b a:=by
 have d:=h.js.len;rw[hf]at d;cases e:L.js with
 |nil=>rw[e]at d;simp at d
 |cons a js=>
  have h0:L.js[0]? =aa a:=by rw[e];rfl
  have g:f.fl[0]? =aa b:=by rw[hf];rfl
  refine⟨a,js,rfl,?_,h.js.at_ 0 b a g h0⟩;obtain⟨u,t,n⟩:=h.fl.all 0 a h0;have p:0<f.fl.length:=by rw[hf];simp
  obtain⟨i,l,c,k⟩:=h.fl.aU 0 p;cases i with
  |zero=>rw[h0]at c;cases c;exact k
  |succ i=>
   exfalso;have o:i+1<f.fl.length:=by grind
   have s:f.fl[i+1]? =aa f.fl[i+1]:=eI o;have hm:f.fl[i+1]∈r:=by grind
   have m:=h.fl.heap.top u t;simp only[k,n,h.fl.keys _ _ _ s c,h.fl.keys _ _ _ g h0]at m;exact(EG _ _).1 (q _ hm) m
def E4(h:aL W f xb L)(hf:f.fl=b::r)(hs:∀x∈r,dW b.key x.key=aq)(ho:∀x∈r,x.order≠b.order)(hm:r.length<1048576):
  Calls prog 105 #[.pointer (aa (aj xb 18))] W λe A=>∃p,e=aM (.tuple #[jp (L.hf 0),.bool aq])/\p.j=L.hf 0/\∃B,aL A {f with fl:=r} xb B/\bJ W L A B/\fj A B.own B.cs b p:=by
 obtain⟨p,js,J,I,X⟩:=h.top hf hs;have hn:f.fl.length=r.length+1:=by rw[hf];simp
 have ah:=h.fl.row;have RE:=h.fl.heap;have G:=h.fl.aU;have Z:=h.fl.all;have w:=h.fl.one;rw[hn]at ah RE G Z w;have j0:L.js[0]? =aa p:=by rw[J];rfl
 have H:∀i:Nat,L.js[i+1]? =js[i]? :=λi=>by rw[J];rfl
 have K:∀i:Nat,f.fl[i+1]? =r[i]? :=λi=>by rw[hf];rfl
 have bf:js.length=r.length:=by have:=h.js.len;rw[J,hf]at this;simpa using this
 have old:∀(i:Nat) l,L.js[i]? =aa l->∃x,f.fl[i]? =aa x/\(∃lc,eP W l.j lc l.rv x.rs x.ft x.due x.order)/\L.own l.j=8+2*x.order/\L.key l.j=x.key:=λi l m=>by
  have hi:i<f.fl.length:=by rw[<-h.js.len];exact(dS.1 m).1
  have d:=eI hi;obtain⟨c,g,k,E⟩:=h.js.at_ i _ _ d m;exact⟨_,d,⟨_,k⟩,E.1,h.fl.keys i _ _ d m⟩
 have cO:∀(i:Nat) l,L.js[i+1]? =aa l->l.j≠p.j:=λi l m e=>by obtain⟨x,g,_,E,_⟩:=old _ l m;obtain⟨_,_,_,M⟩:=X;have F:=M.1;rw[<-e]at F;rw[K]at g;exact ho x (lf g) ak
 refine(aaV xb 18 r.length L.hv L.hf L.key _ _ W h.box rfl bL ah hm (λx d=>?_) (λx d e=>?_) RE).mono ?_
 ·obtain⟨i,l,g,k⟩:=G x d;obtain⟨y,E,⟨c,M⟩,F,h7⟩:=old i l g;rw[k,h7];refine⟨M.key,λe=>?_⟩;have:=h.fl.own l.j e.symm;omega
 ·obtain⟨i,l,g,k⟩:=G x d;obtain⟨y,E,_,F,_⟩:=old i l g;rw[<-k,e,h.eR]at F;omega
 rintro e A ⟨rfl,v',q,g1,g2,D,g4,V,g6⟩;have Y:∀x,x<W.heap.size->(x=xb\/aa x=L.hv.ownBlock)->L.own x=1\/L.own x=3:=λx _ d=>d.elim (λe=>aF (by rw[e];exact h.eR)) λe=>aE (h.fl.own x e.symm);have a:fE W A L.own L.own λt=>t=1\/t=3:=⟨λx d zL=>V.block x d λO=>zL (Y x d O),λx d=>rfl⟩;have R:=a.blk h.dX h.jd ak;have S:=a.row h.bP h.lY ak;have T:=a.row h.log h.mM ak;have U:=a.fO h.fO h.oo ak
 have aC:∀z,0<z->z<r.length+1->∃(i:Nat) (l:Lj),js[i]? =aa l/\L.hf z=l.j:=λz h0 Q=>by
  obtain⟨i,l,g,k⟩:=G z Q;cases i with
  |zero=>
   rw[j0]at g;cases g;have:=w z 0 Q ak (k.trans I.symm);omega
  |succ i=>rw[H]at g;exact⟨i,l,g,k⟩
 refine⟨p,rfl,I.symm,{L with js:=js,hv:=v',hf:=q},⟨g1,h.eR,R.1,R.2,a.cs h.cs (λs=>by omega),⟨bf,λi x l d m=>?_⟩,⟨g2,λx d=>h.fl.own x (by rw[<-g6];exact d),λx d=>?_,λi l m=>?_,λx y d P e=>?_,λi x l d m=>?_,g4⟩,S.1,S.2,T.1,T.2,U.1,U.2⟩,⟨λ_ _=>rfl,V.mono λx d O=>by rcases Y x d O with e|e<;>rw[e]<;>omega⟩,X.aside a (λc N=>⟨c,N,rfl⟩) ak⟩
 ·exact(h.js.at_ (i+1) x l (by rw[K];exact d) (by rw[H];exact m)).aside a (λc N=>⟨c,N,rfl⟩) ak
 ·obtain⟨y,P,e⟩:=D.aU x d
  by_cases an:y=0
  ·obtain⟨i,l,g,k⟩:=aC r.length ak ak;exact⟨i,l,g,by show q x=l.j;rw[e];simp[down,an,k]⟩
  ·obtain⟨i,l,g,k⟩:=aC y ak (IC P);exact⟨i,l,g,by show q x=l.j;rw[e];simp[down,an,k]⟩
 ·have af:L.js[i+1]? =aa l:=by rw[H];exact m
  obtain⟨z,Q,n⟩:=Z (i+1) l af;have nC:z≠0:=λe=>cO i l af (by rw[<-n,e,I])
  by_cases aT:z=r.length
  ·obtain⟨x,d,e⟩:=D.all 0 ak;exact⟨x,d,by show q x=l.j;rw[e];simp[down,<-aT,n]⟩
  ·obtain⟨x,d,e⟩:=D.all z ak;exact⟨x,d,by show q x=l.j;rw[e];simp[down,nC,n]⟩
 ·refine D.one (λu v hu hv o=>?_) x y d P e
  by_cases n:u=0
  ·by_cases C:v=0
   ·omega
   ·simp[down,n,C]at o;have:=w r.length v ak ak o;omega
  ·by_cases C:v=0
   ·simp[down,n,C]at o;have:=w u r.length ak ak o;omega
   ·simp[down,n,C]at o;exact w u v ak ak o
 ·exact h.fl.keys (i+1) x l (by rw[K];exact d) (by rw[H];exact m)
end
end
section
attribute [local go_sem ↓] Go.wp_at_zero Go.wp_at_succ
attribute [local go_sem] bV bQ
open Go.Conc Go.RowKit
open Go.Proofs.Tryz
def E8{W f xb L b r}(h:aL W f xb L)(hf:f.fl=b::r)(k:∀x∈r,dW b.key x.key=aq)(now):
  ∃a,a.j=L.hf 0/\fj W L.own L.cs b a/\(fK 103 #[.pointer (aa (aj xb 18))] W (.tuple #[jp a.j,.bool aq]))/\fK 104 #[jp a.j,an now] W (.bool (decide (b.due<=now))):=by
 obtain⟨a,js,_,d,e⟩:=h.top hf k;have i:=e;obtain⟨lc,_,g,_⟩:=e;refine⟨a,d.symm,i,?_,Q0 a.j lc.c a.rv b.rs b.ft b.due b.order now W g⟩;have:=RR xb 18 f.fl.length L.hv L.hf W h.Fy (by rw[hf];simp);rw[d]at this;exact this
def pq(no:Int)(r:Rq)(a:Bool):En:=⟨no,r.m.ck,r.m.kd,r.m.fl,r.m.of,r.m.ln,if a then 5 else 0⟩
abbrev EnS(j c b:Nat)(no:Int)(r:Rq)(W:az):Prop:=W.cell? (aj j 0)=aa (jp c)/\cu W b r/\W.cell? (aj c 0)=aa (an no)
def EnS.old{j c b no r W W'}(h:EnS j c b no r W)(a:aN W W'):EnS j c b no r W':=⟨bO a h.1,h.2.1.old a,bO a h.2.2⟩
abbrev mJ:aJ aD:=#[an 0,an 0,an 0,an 0,an 0,an 0,an 0]
def ZC(j c rv rs)(m:Ft)(due order no r w)(h:eP w j c rv rs m due order)(hc:w.cell? (aj c 0)=aa (an no)):
  bN 162 #[jp j,.agg (aO r)] w (.agg (iK (pq no r m.eU))):=by
 have l:aN w ((w.alloc (aA (aO r) 134)).alloc (aA mJ 96)):=bp.alloc aC _;have B:((w.alloc (aA (aO r) 134)).alloc (aA mJ 96)).heap[w.heap.size]? =aa (aA (aO r) 134 (0,0)):=CW w _ _;have C:((w.alloc (aA (aO r) 134)).alloc (aA mJ 96)).heap[w.heap.size+1]? =aa (aA mJ 96 (0,0)):=CV w _ _;have y:=aS w j 0 (jp c) h.box;have z:=aS w j 3 (.bool m.eU) h.box;have g:Hid (EnS j c w.heap.size no r ((w.alloc (aA (aO r) 134)).alloc (aA mJ 96))/\aN w ((w.alloc (aA (aO r) 134)).alloc (aA mJ 96))/\((w.alloc (aA (aO r) 134)).alloc (aA mJ 96)).heap[w.heap.size+1]? =aa (aA mJ 96 (0,0))/\((w.alloc (aA (aO r) 134)).alloc (aA mJ 96)).cell? (aj j 3)=aa (.bool m.eU)):=⟨⟨bO l y,cu.of B,bO l hc⟩,l,C,bO l z⟩;clear h hc l B C y z;go_enter func162,ntmps162
 go_upto_region 1 with fail
 show Dr _ _ _ _ ((w.alloc (aA (aO r) 134)).alloc (aA mJ 96));generalize (w.alloc (aA (aO r) 134)).alloc (aA mJ 96)=b at*
 go_cut [4,5] (λp4 p5 L=>p4=aR (w.heap.size+1)/\p5=aR b.heap.size/\L.heap[b.heap.size]? =aa (aA (iK (pq no r av)) 96 (0,0))/\aN b L)
 case first=>
  refine fq (S:=EnS j c w.heap.size no r) g.out.1 λt=>?_;refine tk 0 ?_;refine tk 1 ?_;refine tk 2 ?_;refine tk 3 ?_;refine tk 5 ?_;refine tk 6 ?_;refine tk 7 ?_;refine tk 8 ?_;refine tk 9 ?_;refine tk 10 ?_;refine tk 11 ?_;refine tk 12 ?_;refine tk 13 ?_;refine tk 14 ?_;refine tk 15 ?_;refine tk 16 ?_;refine tk 17 ?_;refine tk 18 ?_;refine tk 19 ?_;have k:Hid (∀x,EnS j c w.heap.size no r (b.alloc x).drew/\(b.alloc x).drew.heap[b.heap.size]? =aa x/\aN b (b.alloc x).drew):=λx=>⟨g.out.1.old ((Below.refl _ b).alloc (bD _) x).drew,cG b _,((Below.refl _ b).alloc (bD _) x).drew⟩;refine aH [4,21] (.cons rfl (λK a=>?_) ?_)
  ·(skip)
   go_simp;go_at_call 112;refine(Gb c no _ t.2.2).mono ?_;rintro e w4 ⟨rfl,rfl⟩;refine a.out _ _ t (λp=>?_);clear a K;refine tk 20 ?_;refine rH 21 λK a=>?_;go_simp;refine a.out _ _ (k.out _).1 (λY=>?_);clear a K;refine rH 22 λK a=>?_;go_simp;refine a.out _ _ (k.out _).1 (λZ=>?_);clear a K;refine dL ?_;go_wp2_with fail
   go_meet
   case rel=>exact⟨rfl,rfl,(k.out _).2.1,(k.out _).2.2⟩
  refine .cons rfl (λK a=>?_) .nil;go_simp;refine a.out _ _ (k.out _).1 (λp=>?_);clear a K;refine rH 4 λK a=>?_;go_simp;go_at_call 112;refine(Gb c no _ p.2.2).mono ?_;rintro e w4 ⟨rfl,rfl⟩;refine a.out _ _ p (λY=>?_);clear a K;refine tk 20 ?_;refine rH 22 λK a=>?_;go_simp;refine a.out _ _ (k.out _).1 (λZ=>?_);clear a K;refine dL ?_;go_wp2_with fail
  go_meet
  case rel=>exact⟨rfl,rfl,(k.out _).2.1,(k.out _).2.2⟩
 case rest=>
  obtain⟨rfl,rfl,f,o⟩:=hcut;have d:wc.heap[w.heap.size+1]? =aa (aA mJ 96 (0,0)):=bW o g.out.2.2.1;have A:=bO o g.out.2.2.2;have aG:w.heap.size+1<b.heap.size:=(bq.1 g.out.2.2.1).1;have u:w.heap.size<b.heap.size:=ak;have q:=bf (g.out.2.1.trans (o.mono g.out.2.1.size));clear o g;generalize b.heap.size=N at*;have s0:=aI f (i:=0) rfl;have s1:=aI f (i:=1) rfl;have s2:=aI f (i:=2) rfl;have s3:=aI f (i:=3) rfl;have s4:=aI f (i:=4) rfl;have s5:=aI f (i:=5) rfl;have s6:=aI f (i:=6) rfl;have sf:=λi=>bF f i;have M:=aI d (i:=0) rfl;have O:=aI d (i:=1) rfl;have P:=aI d (i:=2) rfl;have Q:=aI d (i:=3) rfl;have R:=aI d (i:=4) rfl;have T:=aI d (i:=5) rfl;have U:=aI d (i:=6) rfl;have zf:=λi=>bF d i;have af:¬w.heap.size+1=N:=ak;have ah:¬N=w.heap.size+1:=ak
  have s:Hid (∀W D E F G H I J,aN w W->aN w (((((((W.setCell (aj (w.heap.size+1) 0) D).setCell (aj (w.heap.size+1) 1) E).setCell (aj (w.heap.size+1) 2) F).setCell (aj (w.heap.size+1) 3) G).setCell (aj (w.heap.size+1) 4) H).setCell (aj (w.heap.size+1) 5) I).setCell (aj (w.heap.size+1) 6) J)):=λW D E F G H I J X=>
   Below.setCell (Below.setCell (Below.setCell (Below.setCell (Below.setCell (Below.setCell (Below.setCell X (kB _) _) (kB _) _) (kB _) _) (kB _) _) (kB _) _) (kB _) _) (kB _) _
  have V:Hid (aN w (wc.setCell (aj N 6) (an 5))):=Below.setCell q.out (mW u) _;clear d f aG u;cases n:m.eU with
  |false=>
   rw[n]at A;go_wp2;refine gn (v:=.agg (iK (pq no r av))) (by simp[results,results162,go_sem,M,O,P,Q,R,T,U]) rfl ⟨by rw[n],?_⟩;exact s.out _ _ _ _ _ _ _ _ q.out
  |true=>
   rw[n]at A;go_wp2;refine gn (v:=.agg (iK (pq no r aq))) (by simp[results,results162,go_sem,M,O,P,Q,R,T,U,af,ah,pq]) rfl ⟨by rw[n],?_⟩;exact s.out _ _ _ _ _ _ _ _ V.out
structure Bld:Prop where
 add:∀(B b:Nat) (d:aB aD) (s:ByteArray) (w:az),rR 301 5 B b d w->d.length+s.size<=140737488355328->B<=w.heap.size->
  Calls prog 263 #[jp b,.string s] w λe a=>e=aM (.tuple #[an s.size,.nilIface])/\(DI 301 5 B b (jp b) (d++jh s) a/\Below B w a)
 all:∀(B b:Nat) (l:aB UInt8) (w:az),rR 301 5 B b (lP l) w->B<=w.heap.size->
  Calls prog 265 #[jp b] w λe a=>e=aM (.string ⟨l.toArray⟩)/\Below B w a
 rep:∀(s:ByteArray) (c:Nat) (w:az),c<=9223372036854775807->s.size*c<=140737488355328->
  bN 264 #[.string s,an c] w (.string ⟨(AM s.data.toList c).toArray⟩)
def Rq.piece(r:Rq):aB UInt8:=if r.m.kd=1 then r.m.dt.data.toList else if r.m.kd=3\/r.m.kd=4 then AM [0] r.m.ln.toNat else[]
def eC(a:aB Rq):aB UInt8:=a.flatMap Rq.piece
def Qb{a:aB Rq}{i:Nat}{r:Rq}(h:a[i]? =aa r):eC (a.take (i+1))=eC (a.take i)++r.piece:=by unfold eC;rw[tN,h];simp
def YM(rs i):(eC (rs.take i)).length<=(eC rs).length:=by
 have:eC rs=eC (rs.take i)++eC (rs.drop i):=by unfold eC;rw[<-yK,rZ]
 rw[this,gW];omega
def Sc{T e:aQ}{B b bs W W'}(h:rR T e B b bs W)(f:∀k,k<W.heap.size->W'.heap[k]? =W.heap[k]?):rR T e B b bs W':=by
 have one:∀p,DI T e B b p bs W->DI T e B b p bs W':=by
  rintro p ⟨s,v,c,d,t⟩;refine⟨s,v,(f b (bq.1 c).1).trans c,⟨d.1,?_⟩,t⟩;rcases d.2 with h|⟨g,i,j,l,m,a,n,o,q,r⟩
  ·exact aF h
  ·exact aE ⟨g,i,j,l,m,(f g (bq.1 a).1).trans a,n,o,q,r⟩
 exact h.imp (one _) (one _)
abbrev lG(W:az)(r:Rq):az:=W.alloc (aA (aO r) 134)
def Px(W r):aN W (lG W r):=bp
def YN(Z:Bld)(j c rv a)(n:Ft)(due order w)(h:eP w j c rv a n due order)(H:(eC a).length<=1048576)(hn:a.length<=1048576)(P:∀r∈a,0<=r.m.ln/\r.m.ln<=65535):
  bN 236 #[jp j] w (.string ⟨(eC a).toArray⟩):=by
 obtain⟨L,q,rfl,_⟩:=h.row.form;have A:aN w (w.alloc (aA #[.pointer ay,.slice ay 0 0] 301)):=bp;have c1:(w.alloc (aA #[.pointer ay,.slice ay 0 0] 301)).cell? (aj j 1)=aa (.slice L a.length q):=aI (h.below A).box rfl;have O:(w.alloc (aA #[.pointer ay,.slice ay 0 0] 301)).heap[w.heap.size]? =aa (aA #[.pointer ay,.slice ay 0 0] 301 (0,0)):=cG w _
 have R:Hid (eP (w.alloc (aA #[.pointer ay,.slice ay 0 0] 301)) j c (.slice L a.length q) a n due order/\rR 301 5 w.heap.size w.heap.size (lP []) (w.alloc (aA #[.pointer ay,.slice ay 0 0] 301))/\aN w (w.alloc (aA #[.pointer ay,.slice ay 0 0] 301))):=
  ⟨h.below A,aF ⟨bD _,_,O,⟨rfl,aF ⟨rfl,rfl⟩⟩,by simp[sE]⟩,A⟩
 have T:=bf P;have S:=bf h;clear h A O P;go_enter func236,ntmps236;go_wp2
 go_loopw [11] (λK wr=>∃i:Nat,i<=a.length/\K=an (i:Int)/\Hid (eP wr j c (.slice L a.length q) a n due order/\rR 301 5 w.heap.size w.heap.size (lP (eC (a.take i))) wr/\aN w wr)) (λK _=>a.length-(eY K).toNat)
 case atStart=>exact⟨0,eZ _,rfl,R.out⟩
 case round=>
  obtain⟨i,hi,rfl,hR⟩:=hrel
  by_cases X:i<a.length
  ·have V:(i:Int)<(a.length:Int):=ak;obtain⟨r,hr⟩:∃r,a[i]? =aa r:=⟨a[i],eI X⟩;have Q:r∈a:=lf hr;obtain⟨y,rfl,k0,k1,k2,k3,k4,k5,k6,k7,k8,k9⟩:=hR.out.1.row.at hr;have Y:=hR.out.2.2.size;have F:=Px wr r
   have f:Hid (eP (lG wr r) j c (.slice (aa (aj y 0)) a.length q) a n due order/\rR 301 5 w.heap.size w.heap.size (lP (eC (a.take i))) (lG wr r)/\aN w (lG wr r)):=
    ⟨hR.out.1.below F,Sc hR.out.2.1 (λk G=>F.block k G),hR.out.2.2.alloc Y _⟩
   have z:(lG wr r).heap[wr.heap.size]? =aa (aA (aO r) 134 (0,0)):=cG wr _;have s2:=aI z (i:=2) (v:=an r.m.kd) rfl;have s6:=aI z (i:=6) (v:=an r.m.ln) rfl;have s7:=aI z (i:=7) (v:=.string r.m.dt) rfl;have I:=Qb hr;have J:=YM a (i+1);rw[I,gW]at J;have D:=bf f.out.2.2.size
   have fin:∀(W:az) (l:aB UInt8),r.piece=l->DI 301 5 w.heap.size w.heap.size (jp w.heap.size) (lP (eC (a.take i))++lP l) W->Below w.heap.size (lG wr r) W->
     eP W j c (.slice (aa (aj y 0)) a.length q) a n due order/\rR 301 5 w.heap.size w.heap.size (lP (eC (a.take (i+1)))) W/\aN w W:=λW l H o b=>
    ⟨S.out.below (f.out.2.2.trans b),aE (by rw[I,H];unfold lP;rw[AT];exact o),f.out.2.2.trans b⟩
   have C:Hid (∀(W:az) (l:aB UInt8),r.piece=l->DI 301 5 w.heap.size w.heap.size (jp w.heap.size) (lP (eC (a.take i))++lP l) W->Below w.heap.size (lG wr r) W->
     eP W j c (.slice (aa (aj y 0)) a.length q) a n due order/\rR 301 5 w.heap.size w.heap.size (lP (eC (a.take (i+1)))) W/\aN w W):=fin
   have N:=bf (dM J H);have HN:=T.out r Q;clear fin I J F z Q
   by_cases g:r.m.kd=1
   ·have d:r.piece=r.m.dt.data.toList:=by unfold Rq.piece;rw[aW g]
    have d1:(r.m.kd==1)=aq:=by simp[g]
    have x:=bf d
    have u:Hid ((lP (eC (a.take i))).length+r.m.dt.size<=140737488355328):=by
     have:=N.out;rw[d]at this;have e:r.m.dt.data.toList.length=r.m.dt.size:=by rw[rO];rfl
     rw[e]at this;show _<=_;rw[Wf];omega
    clear d g;go_wp2_with (go_at_call 263;refine(Z.add _ _ _ _ _ f.out.2.1 u.out D.out).mono ?_;rintro e t ⟨rfl,o,b⟩);refine⟨⟨i+1,ak,by go_num,C.out _ _ x.out o b⟩,?_⟩;simp[eY];omega
   ·have d1:(r.m.kd==1)=av:=by simp[g]
    by_cases e3:r.m.kd=3\/r.m.kd=4
    ·have d:r.piece=AM [0] r.m.ln.toNat:=by unfold Rq.piece;rw[aK g,aW e3]
     have x:=bf d
     have u:Hid ((lP (eC (a.take i))).length+(⟨(AM (⟨#[0]⟩:ByteArray).data.toList r.m.ln.toNat).toArray⟩:ByteArray).size<=140737488355328):=by have:=N.out;rw[d]at this;show _+(AM [0] r.m.ln.toNat).toArray.size<=_;rw[Wf,jB];omega
     have M:Hid (bN 264 #[.string ⟨#[0]⟩,an r.m.ln] (lG wr r) (.string ⟨(AM (⟨#[0]⟩:ByteArray).data.toList r.m.ln.toNat).toArray⟩)):=by have:=Z.rep ⟨#[0]⟩ r.m.ln.toNat (lG wr r) ak (by show 1*_<=_;omega);rw[show((r.m.ln.toNat:Nat):Int)=r.m.ln by omega]at this;exact this
     have s:Hid (∀W,aN (lG wr r) W->rR 301 5 w.heap.size w.heap.size (lP (eC (a.take i))) W/\w.heap.size<=W.heap.size/\Below w.heap.size (lG wr r) W):=λW E=>
      ⟨Sc f.out.2.1 λk G=>E.block k G,dM D.out E.size,E.mono D.out⟩
     clear d g;cases d3:(r.m.kd==3)with
     |true=>
      go_wp2_with (first|(go_at_call 264;refine M.out.mono ?_;rintro e t ⟨rfl,p⟩)|(go_at_call 263;refine(Z.add _ _ _ _ _ (s.out _ p).1 u.out (s.out _ p).2.1).mono ?_;rintro e t ⟨rfl,o,b⟩));refine⟨⟨i+1,ak,by go_num,C.out _ _ x.out o ((s.out _ p).2.2.trans b)⟩,?_⟩;simp[eY];omega
     |false=>
      have d4:(r.m.kd==4)=aq:=by
       rcases e3 with e3|e3
       ·rw[e3]at d3;cases d3
       ·simp[e3]
      go_wp2_with (first|(go_at_call 264;refine M.out.mono ?_;rintro e t ⟨rfl,p⟩)|(go_at_call 263;refine(Z.add _ _ _ _ _ (s.out _ p).1 u.out (s.out _ p).2.1).mono ?_;rintro e t ⟨rfl,o,b⟩));refine⟨⟨i+1,ak,by go_num,C.out _ _ x.out o ((s.out _ p).2.2.trans b)⟩,?_⟩;simp[eY];omega
    ·have d3:(r.m.kd==3)=av:=cq;have d4:(r.m.kd==4)=av:=cq;have d:r.piece=[]:=by unfold Rq.piece;rw[aK g,aK e3]
     have U:Hid (eP (lG wr r) j c (.slice (aa (aj y 0)) a.length q) a n due order/\rR 301 5 w.heap.size w.heap.size (lP (eC (a.take (i+1)))) (lG wr r)/\aN w (lG wr r)):=by refine⟨f.out.1,?_,f.out.2.2⟩;rw[Qb hr,d,DJ];exact f.out.2.1
     clear d g e3;go_wp2;refine⟨⟨i+1,ak,by go_num,U.out⟩,?_⟩;simp[eY];omega
  ·have V:¬(i:Int)<(a.length:Int):=ak;have e:i=a.length:=ak;subst e;rw[wP]at hR;have B:=hR;clear hR;go_wp2_with (go_at_call 265;refine(Z.all _ _ _ _ B.out.2.1 B.out.2.2.size).mono ?_;rintro e t ⟨rfl,b⟩);go_ret;exact⟨rfl,B.out.2.2.trans b⟩
def pP(a:aB Rq)(b:Ft):aB UInt8:=if b.eU then(eC a).take (4*min b.part.toNat ((eC a).length / 4))else eC a
def agN(rs)(a:Ft):(pP rs a).length<=(eC rs).length:=by
 unfold pP;split
 ·rw[yM];omega
 ·exact bD _
def ZN(D:aB UInt8)(k:Nat):(⟨D.toArray⟩:ByteArray).extract 0 k=⟨(D.take k).toArray⟩:=by apply wK;rw[uM];simp
def agO(Z:Bld)(j c:Nat)(rv:aD)(b:aB Rq)(a:Ft)(due n:Int)(w:az)(h:eP w j c rv b a due n)(p:(eC b).length<=1048576)(s:b.length<=1048576)(q:∀r∈b,0<=r.m.ln/\r.m.ln<=65535)(y:0<=a.part/\a.part<=9223372036854775807):
  bN 199 #[jp j] w (.string ⟨(pP b a).toArray⟩):=by
 have k:=bf (YN Z j c rv b a due n w h p s q);have g:=bf h;have u:pP b a=if a.eU=aq then(eC b).take (4*min a.part.toNat ((eC b).length / 4))else eC b:=rfl
 rw[u];generalize eC b=D at*;have t:(⟨D.toArray⟩:ByteArray).size=D.length:=by show D.toArray.size=_;simp
 have v:=bf t;cases l:a.eU with
 |false=>
  go_enter func199,ntmps199;go_wp2_with (go_at_call 236;refine k.out.mono ?_;rintro e f ⟨rfl,d⟩;have i:f.cell? (aj j 3)=aa (.bool a.eU):=aI (g.out.below d).box rfl;rw[l]at i);go_ret;exact⟨aC,d⟩
 |true=>
  go_enter func199,ntmps199;go_wp2_with (go_at_call 236;refine k.out.mono ?_;rintro e f ⟨rfl,d⟩;have i:f.cell? (aj j 3)=aa (.bool a.eU):=aI (g.out.below d).box rfl;have x:f.cell? (aj j 4)=aa (an a.part):=aI (g.out.below d).box rfl;rw[l]at i);go_ret;refine⟨?_,d⟩;have o:(4*min a.part ((D.length:Int) / 4)).toNat=4*min a.part.toNat (D.length / 4):=ak;show yF (Value.string ((⟨D.toArray⟩:ByteArray).extract 0 _))=_;rw[o,ZN]
structure Dk where
 B:aJ UInt8
 D:aJ UInt8
 C:aB (Nat×aB UInt8)
def Dk.change (d:Dk)(b:aB Rq)(a:Ft):Dk:=match b with
 |[]=>d
 |r::_=>
  if r.m.kd=2/\a.eU=av then⟨d.B,Q8 d.D d.C,[]⟩
  else if r.m.fl=1/\a.eU=av then⟨xS d.B r.m.of.toNat (pP b a),xS d.D r.m.of.toNat (pP b a),stay r.m.of.toNat (r.m.of.toNat+(pP b a).length) d.C⟩
  else⟨xS d.B r.m.of.toNat (pP b a),d.D,d.C++secs r.m.of.toNat (pP b a) ((pP b a).length / 4)⟩
end
section
open Go.Proofs.Tryz
open Go.RowKit Go.Shelf
def Gq:Go.Shelf.Ren:=⟨λ|105=>264|212=>277|99=>278|165=>279|166=>263|170=>280|169=>265|263=>284|264=>285|206=>286|240=>276|241=>287|276=>283|277=>288|n=>n,λ|9=>9|3=>3|4=>4|20=>20|0=>0|46=>203|109=>312|5=>5|72=>301|76=>304|51=>176|146=>317|53=>173|148=>319|70=>299|37=>158|75=>303|127=>262|164=>198|80=>41|n=>n,λn=>n⟩
def R5:Lays.n105 prog Gq:={
 mixed:=aT
 f99:=func278.trans (dZ aa aT)
 f105:=func264.trans (dZ aa aT)
 f165:=func279.trans (dZ aa aT)
 f166:=func263.trans (dZ aa aT)
 f169:=func265.trans (dZ aa aT)
 f170:=func280.trans (dZ aa aT)
 f206:=func286.trans (dZ aa aT)
 f212:=func277.trans (dZ aa aT)
 f240:=func276.trans (dZ aa aT)
 f241:=func287.trans (dZ aa aT)
 f263:=func284.trans (dZ aa aT)
 f264:=func285.trans (dZ aa aT)
 f276:=func283.trans (dZ aa aT)
 f277:=func288.trans (dZ aa aT)
 t0:=underlying0
 a0:=isAgg0
 z0:=sizeOf0
 v0:=zeroValue0
 t3:=underlying3
 a3:=isAgg3
 z3:=sizeOf3
 v3:=zeroValue3
 t4:=underlying4
 a4:=isAgg4
 z4:=sizeOf4
 v4:=zeroValue4
 t5:=underlying5
 a5:=isAgg5
 z5:=sizeOf5
 v5:=zeroValue5
 t9:=underlying9
 a9:=isAgg9
 z9:=sizeOf9
 v9:=zeroValue9
 t20:=underlying20
 a20:=isAgg20
 z20:=sizeOf20
 v20:=zeroValue20
 t37:=underlying158
 a37:=isAgg158
 z37:=sizeOf158
 v37:=zeroValue158
 t46:=underlying203
 a46:=isAgg203
 z46:=sizeOf203
 v46:=zeroValue203
 t51:=underlying176
 a51:=isAgg176
 z51:=sizeOf176
 v51:=zeroValue176
 t53:=underlying173
 a53:=isAgg173
 z53:=sizeOf173
 v53:=zeroValue173
 t70:=underlying299
 a70:=isAgg299
 z70:=sizeOf299
 v70:=zeroValue299
 t72:=underlying301
 a72:=isAgg301
 z72:=sizeOf301
 v72:=zeroValue301
 t75:=underlying303
 a75:=isAgg303
 z75:=sizeOf303
 v75:=zeroValue303
 t76:=underlying304
 a76:=isAgg304
 z76:=sizeOf304
 v76:=zeroValue304
 t109:=underlying312
 a109:=isAgg312
 z109:=sizeOf312
 v109:=zeroValue312
 t127:=underlying262
 a127:=isAgg262
 z127:=sizeOf262
 v127:=zeroValue262
 t146:=underlying317
 a146:=isAgg317
 z146:=sizeOf317
 v146:=zeroValue317
 t148:=underlying319
 a148:=isAgg319
 z148:=sizeOf319
 v148:=zeroValue319
 t164:=underlying198
 a164:=isAgg198
 z164:=sizeOf198
 v164:=zeroValue198}
def R6:Lays.n166 prog Gq:={
 mixed:=aT
 f166:=func263.trans (dZ aa aT)
 f240:=func276.trans (dZ aa aT)
 f276:=func283.trans (dZ aa aT)
 t0:=underlying0
 a0:=isAgg0
 z0:=sizeOf0
 v0:=zeroValue0
 t3:=underlying3
 a3:=isAgg3
 z3:=sizeOf3
 v3:=zeroValue3
 t4:=underlying4
 a4:=isAgg4
 z4:=sizeOf4
 v4:=zeroValue4
 t9:=underlying9
 a9:=isAgg9
 z9:=sizeOf9
 v9:=zeroValue9
 t20:=underlying20
 a20:=isAgg20
 z20:=sizeOf20
 v20:=zeroValue20
 t37:=underlying158
 a37:=isAgg158
 z37:=sizeOf158
 v37:=zeroValue158
 t70:=underlying299
 a70:=isAgg299
 z70:=sizeOf299
 v70:=zeroValue299
 t72:=underlying301
 a72:=isAgg301
 z72:=sizeOf301
 v72:=zeroValue301
 t75:=underlying303
 a75:=isAgg303
 z75:=sizeOf303
 v75:=zeroValue303
 t164:=underlying198
 a164:=isAgg198
 z164:=sizeOf198
 v164:=zeroValue198}
def R7:Lays.n169 prog Gq:={
 mixed:=aT
 f169:=func265.trans (dZ aa aT)
 t0:=underlying0
 a0:=isAgg0
 z0:=sizeOf0
 v0:=zeroValue0
 t3:=underlying3
 a3:=isAgg3
 z3:=sizeOf3
 v3:=zeroValue3
 t9:=underlying9
 a9:=isAgg9
 z9:=sizeOf9
 v9:=zeroValue9
 t37:=underlying158
 a37:=isAgg158
 z37:=sizeOf158
 v37:=zeroValue158
 t70:=underlying299
 a70:=isAgg299
 z70:=sizeOf299
 v70:=zeroValue299
 t72:=underlying301
 a72:=isAgg301
 z72:=sizeOf301
 v72:=zeroValue301
 t127:=underlying262
 a127:=isAgg262
 z127:=sizeOf262
 v127:=zeroValue262}
def JO:Builder.Extra prog Gq:={
 sizeBuilder:=aT
 liesBuilder:=aT
 t5:=underlying5
 a5:=isAgg5
 z5:=sizeOf5
 v5:=zeroValue5
 infoByte:=aT
 cellsByte:=aT
 sizeByte:=aT
 neB5:=by decide}
def bld:Bld:=⟨λB b e s w h d a=>Any.Builder_WriteString R6 JO B b e s w h d a,λB b l w h a=>Any.Builder_String_any R7 JO B b l w h a,λs c w f d=>Any.strings_Repeat R5 JO s c w f d⟩
end
section
attribute [local go_sem] Oper.semAt_some
attribute [local go_sem] bV bQ
open Go.Proofs.Tryz
open Go.RowKit Go.Shelf
abbrev tlA(xb a c b D:Nat):Act:=⟨#[pt xb,pt a,pt c,au,au,pt xb,.func (.func 96) #[] #[pt b],au,au,au,.tuple #[],au,au,au,au,au,au,au,au,au,au,au,au],[{target:=.collected D,args:=#[]}]⟩
abbrev tlB(xb a e b d c:Nat):Act:=⟨#[pt xb,pt a,pt e,au,pt c,pt xb,.func (.func 96) #[] #[pt b],au,au,au,.tuple #[],pt xb,.func (.func 96) #[] #[pt d],pt c,au,au,au,au,au,au,au,au,au],[]⟩
end
section
open Go.Proofs.Tryz
open Go.RowKit
section
variable [aP] {ρ:Ren} {P:aY} {u w:az}
def Da{k n v}(h:VR ρ (.int k n) v):v=.int k n:=by cases h;rfl
def agy{s v}(h:VR ρ (.string s) v):v=.string s:=by cases h;rfl
def agx{n c v}(h:VR ρ (.slice ay n c) v):v=.slice ay n c:=by cases h;rfl
def agw{r v}(e:ρ.one)(hr:ρ r r)(h:VR ρ (aR r) v):v=aR r:=by
 cases h with
 |@ptr _ d h=>
  obtain⟨a,b,c⟩:=h;obtain⟨x,y,z⟩:=d;simp only at a b c;rw[e.1 _ _ _ a hr,b,c]
def agv{r v}(a:ρ.one)(hr:ρ r r)(h:VR ρ (.map (aa r)) v):v=.map (aa r):=by
 cases h with
 |map h=>rw[a.1 _ _ _ h hr]
def agt{r v}(a:ρ.one)(hr:ρ r r)(h:VR ρ (.chan (aa r)) v):v=.chan (aa r):=by
 cases h with
 |chan h=>rw[a.1 _ _ _ h hr]
def PI(l:fy P ρ u w){a b T x fz}(j:ρ a b)(k:u.heap[a]? =aa (aA x T fz)):∃c,w.heap[b]? =aa (aA c T fz)/\c.size=x.size/\∀(i:Nat) v,x[i]? =aa v->∃e,c[i]? =aa e/\VR ρ v e:=by
 rcases l.obj a b _ j k with h|⟨m,f,g⟩
 ·cases h
 ·cases g with
  |@cells _ c _ _ h=>
   refine⟨c,f,h.1,λi v hv=>?_⟩;have d:i<c.size:=by rw[h.1];exact(bq.1 hv).1
   exact⟨c[i],cX d,h.2 i _ _ hv (cX d)⟩
end
end
section
open Classical
open Go.Conc Go.RowKit
open Go.ConcR (Payload)
section
end
def adl{cs c}:c∈cP cs↔∃j:Nat,cs[j]? =aa (aa c):=by
 unfold cP;rw[Iu];constructor
 ·rintro⟨x,b,e⟩;obtain rfl:x=aa c:=e;exact tM.1 b
 ·rintro⟨j,a⟩;exact⟨aa c,tM.2 ⟨j,a⟩,rfl⟩
section
variable [aP] [Payload]
end
end
section
attribute [local go_sem ↓] Go.wp_at_zero Go.wp_at_succ
open Go.Conc Go.RowKit
open Go.Proofs.Tryz
def YB{P f fn a}{w:az}{R:Ending->az->Prop}{n:Nat}{b:aV}(hf:P.funcs[f]? =aa fn)(g:b.fn=f)(o:b.kind=.normal)(i:b.roundOf=ay)(h:LeavesInM iS n P fn a.tmps R a.defers .returning w)(cs):
  ∃e d c,R e d/\Comes P (lone (b.at a []) cs w) (lone c cs d) e/\c.fn=f/\c.leaving P d e:=by
 have hr:iS.room (cs.length+1+n):=room_wide _;have k:b.atR a []=b.at a []:=VN i _ _;obtain⟨j,s,c,hR,r,m,p⟩:=leaves_stepsInM a.defers .returning w {b.atR a []with mode:=.returning} cs rfl rfl rfl (by rw[<-g]at hf;exact hf) o trivial hr h;have q:StepsIn (Wx P iS) P (lone (b.atR a []) cs w) (lone {b.atR a []with mode:=.returning} cs w):=.one (fenced_calm (fr:=b.atR a []) trivial hr rfl) (stepR_end i);exact⟨j,s,c,hR,by rw[<-k];exact Om.1 (VG q r),m.trans g,p⟩
section
variable [aP] {P:aY} {l:aB bC} {u:az}
def fc.aap(i:Fit P l){f fn c}{args:aJ aD}{R:Ending->az->Prop}{n:Nat}(hf:P.funcs[f]? =aa fn)(j:fn.body=aa c)(hR:∀e u d,R e u->R e (az.tp u d))(o:∀e u,R e u->∃v,e=aM v)(h:WX P c (λe a u=>e=.normal/\∀d,LeavesInM iS n P fn a.tmps R a.defers .returning (az.tp u d)) {tmps:=args++oF (fn.ntmps-args.size) au,defers:=[]} u):fc P f args u R:=λcs=>by
 letI:bw:=bU []
 rw[vg args hf j];refine(h (base f) [] cs trivial λid ⟨a,u,m,_⟩=>by cases m).bind ?_;rintro r q s ⟨e,p,⟨rfl,k⟩,g⟩;obtain⟨rfl,rfl⟩:=g;exact Reach.left (l:=l) i (λt=>.nil) rfl hR o λd=>YB (b:=base f) hf rfl rfl rfl (k d) _
def nZ:gN->gN|.seq x _=>x|_=>.skip
def eT:gN->gN|.seq _ y=>y|_=>.skip
def sR:gN->gN|.block _ x=>x|.loop x=>x|_=>.skip
def uk(fn:kZ):gN:=eT (eT (sR (sR (sR (fn.body.getD .skip)))))
end
def gH(L:aB (Nat×aD)):gY->aD
 |.tmp k=>(lk L k).getD au
 |.const v=>v
 |_=>au
def JM(d k v)(L:aB (Nat×aD)):gH ((d,v)::L) (.tmp k)=if d=k then v else gH L (.tmp k):=by
 show(bif uZ d k then aa v else lk L k).getD au=_
 by_cases h:d=k
 ·subst h;simp
 ·have:uZ d k=av:=by
   cases b:uZ d k with
   |false=>rfl
   |true=>exact absurd (yR b) h
  rw[this,aK h];rfl
def JN(v)(L:aB (Nat×aD)):gH L (.const v)=v:=rfl
def lW(B:aB Nat)(n d:Nat)(L:aB (Nat×aD))(op:Op):Bool:=decide (d<n)&&(match op with|.select _ _=>av|_=>aq)&&op.operands.toList.all λx=>match x with
 |.tmp k=>!B.contains k&&(lk L k).isSome
 |.const _=>aq
 |_=>av
def jM:gN->aJ dK|.region _ ops _=>ops|_=>#[]
def Tr(c:gN)(is:aB Nat):Bool:=match c with
 |.region _ ops dr=>!dr&&(dH ops.size==is)
 |_=>av
section
variable [aP] {P:aY} {l:aB bC} {Q:Exit->Act->az->Prop} {a:Act} {u u1:az} {ops:aJ dK} {i n d:Nat} {rest:aB Nat} {Lf:bC->aB Nat} {f0:bC} {dn:Nat} {v:aD} {L:aB (Nat×aD)} {op:Op} {ty:aQ} {ps:String} {af:aJ Edge} {gd:aZ (Nat×Bool)} {x:gY} {B:aB Nat}
def zE(h:lW B n d L op=aq):d<n/\(∀cs b,op≠.select cs b)/\∀x∈op.operands,(match x with|.tmp k=>!B.contains k&&(lk L k).isSome|.const _=>aq|_=>av)=aq:=by unfold lW at h;rw[cE,cE,mz]at h;exact⟨sH h.1.1,λcs b e=>(by grind),λx c=>h.2 x (by grind)⟩
def vM{m}(E:Fa m a L)(h:lW B n d L op=aq)(f:x∈op.operands):a.eval x=gH L x/\a.eval x=(rJ B a).eval x:=by
 have b:=(zE h).2.2 x f;cases x with
 |tmp k=>
  rw[cE]at b;obtain⟨v,hv⟩:=IL.1 b.2;refine⟨by rw[E.at_ k v hv];show _=(lk L k).getD au;rw[hv];rfl,(Am λe=>?_).symm⟩;have c:=b.1;rw[wO.2 e]at c;cases c
 |const v=>exact⟨rfl,rfl⟩
 |_=>cases b
def FE.nw(E:Fa n a L)(u1)(c:∀e,iq a e d v->Fa n e ((d,v)::L)->FO Lf f0 dn P ops Q rest e u1)(k:ops[i]? =aa ⟨aa d,op,ty,ps,af,gd⟩:=by rfl) (p:(jg ops L gd&&jo ops n gd)=aq:=by rfl) (m:okB P l op=aq:=by kernel_rfl) (hc:lW (Lf f0) n d L op=aq:=by rfl) (hr:∀b,(execOp (gH L) ⟨aa d,op,ty,ps,af,gd⟩).run P (u.tp b)=.ok (.value v) (u1.tp b)) (j:Fit P l:=by assumption):FO Lf f0 dn P ops Q (i::rest) a u:=by obtain⟨h,g,_⟩:=zE hc;refine FO.own j k (E.wt (o:=⟨aa d,op,ty,ps,af,gd⟩) p) rfl m (wZ _ g λx f=>(vM E hc f).2) (λb=>?_) (c _ (we a d v) (E.put v h));rw[wZ _ g λx f=>(vM E hc f).1];exact hr b
def FE.ow(E:Fa n a L)(c:∀b,iq a b d v->Fa n b ((d,v)::L)->FO Lf f0 dn P ops Q rest b u)(g:ops[i]? =aa ⟨aa d,op,ty,ps,af,gd⟩:=by rfl) (j:(jg ops L gd&&jo ops n gd)=aq:=by rfl) (h:okB P l op=aq:=by kernel_rfl) (hc:lW (Lf f0) n d L op=aq:=by rfl)
  (hr:∀e,(execOp (gH L) ⟨aa d,op,ty,ps,af,gd⟩).run P (u.tp e)=.ok (.value v) (u.tp e):=by(intro e;go_simp;try with_reducible rfl)) (f:Fit P l:=by assumption):FO Lf f0 dn P ops Q (i::rest) a u:=FE.nw E u c g j h hc hr f
def FE.vo(E:Fa n a L)(u1)(c:FO Lf f0 dn P ops Q rest a u1)(h:ops[i]? =aa ⟨ay,op,ty,ps,af,gd⟩:=by rfl) (k:(jg ops L gd&&jo ops n gd)=aq:=by rfl) (j:okB P l op=aq:=by kernel_rfl) (hc:lW (Lf f0) 1 0 L op=aq:=by rfl) (hr:∀b,(execOp (gH L) ⟨ay,op,ty,ps,af,gd⟩).run P (u.tp b)=.ok .skip (u1.tp b)) (g:Fit P l:=by assumption):FO Lf f0 dn P ops Q (i::rest) a u:=by have f:=(zE hc).2.1;refine FO.void g h (E.wt (o:=⟨ay,op,ty,ps,af,gd⟩) k) rfl j (wZ _ f λx e=>(vM E hc e).2) (λb=>?_) c;rw[wZ _ f λx e=>(vM E hc e).1];exact hr b
def FE.bl(E:Fa n a L)(c:∀b,iq a b d v->Fa n b ((d,v)::L)->FO Lf f0 dn P ops Q rest b u)(j:ops[i]? =aa ⟨aa d,op,ty,ps,af,gd⟩:=by rfl) (k:(jg ops L gd&&jo ops n gd)=aq:=by rfl) (hc:lW [] n d L op=aq:=by rfl)
  (hr:∀w,(execOp (gH L) ⟨aa d,op,ty,ps,af,gd⟩).run P w=.ok (.value v) w:=by(intro w;go_simp;try with_reducible rfl)) (he:∀w,(execOp (gH L) ⟨aa d,op,ty,ps,af,gd⟩).events P w #[]=#[]:=by(intro w;rfl)) (h:d∈Lf f0\/∀ρ,VR ρ v v:=by(first|exact aF bL|exact aE λ_=>by constructor)):FO Lf f0 dn P ops Q (i::rest) a u:=by
 obtain⟨f,g,_⟩:=zE hc;have e:=wZ (ρ:=a.eval) (ρ':=gH L) ⟨aa d,op,ty,ps,af,gd⟩ g λx m=>(vM E hc m).1;exact FO.blind j (E.wt (o:=⟨aa d,op,ty,ps,af,gd⟩) k) rfl (λw=>by rw[e];exact hr w) (λw=>by rw[e];exact he w) h (c _ (we a d v) (E.put v f))
def FE.pk{wb ob}(t:aP.wat wb=aa ob)(E:Fa n a L)(hr:∀w:az,w.heap[wb]? =aa ob->(execOp (gH L) ⟨aa d,op,ty,ps,af,gd⟩).run P w=.ok (.value v) w)(he:∀w:az,w.heap[wb]? =aa ob->∃f r s,(execOp (gH L) ⟨aa d,op,ty,ps,af,gd⟩).events P w #[]=#[⟨.cell f,r,s⟩]/\f.block=wb)(p:∀ρ,VR ρ v v)(c:∀g,iq a g d v->Fa n g ((d,v)::L)->FO Lf f0 dn P ops Q rest g u)(m:ops[i]? =aa ⟨aa d,op,ty,ps,af,gd⟩:=by rfl) (q:(jg ops L gd&&jo ops n gd)=aq:=by rfl) (hc:lW [] n d L op=aq:=by rfl):FO Lf f0 dn P ops Q (i::rest) a u:=by obtain⟨j,k,_⟩:=zE hc;have e:=wZ (ρ:=a.eval) (ρ':=gH L) ⟨aa d,op,ty,ps,af,gd⟩ k λx b=>(vM E hc b).1;refine FO.aaI t m (E.wt (o:=⟨aa d,op,ty,ps,af,gd⟩) q) rfl (λw h=>by rw[e];exact hr w h) (λw h x b=>?_) p (c _ (we a d v) (E.put v j));rw[e]at b;obtain⟨f,r,s,y,z⟩:=he w h;rw[y]at b;simp at b;exact⟨f,by rw[b],z⟩
def ZH{t m c0 j k1 k2 ad}(w)(b:gH L (.tmp k1)=.slice (aa ad) m c0)(c:gH L (.tmp k2)=an (j:Int))(f:prog.underlying t=aa (.slice (prog.elem t)))(e:0<=(j:Int)/\(j:Int)<(m:Int)):(execOp (gH L) ⟨aa d,.indexAddr t (.tmp k1) (.tmp k2),ty,ps,af,gd⟩).events prog w #[]=#[]:=by unfold execOp;dsimp only;rw[b,c];have:=events_indexAt_slice (w:=w) (es:=#[]) t ad m c0 .i64 j f e;simp[this]
def FE.p1{wb off t k ob}(o:aP.wat wb=aa ob)(E:Fa n a L)(e:∀w:az,w.heap[wb]? =aa ob->w.cell? (aj wb off)=aa v)(c:∀f,iq a f d v->Fa n f ((d,v)::L)->FO Lf f0 dn P ops Q rest f u)(j:ops[i]? =aa ⟨aa d,.load t (.tmp k),ty,ps,af,gd⟩:=by rfl) (p:lk L k=aa (.pointer (aa (aj wb off))):=by rfl) (b:(jg ops L gd&&jo ops n gd)=aq:=by rfl) (h:lW [] n d L (.load t (.tmp k))=aq:=by rfl) (hr:∀w:az,w.cell? (aj wb off)=aa v->(execOp (gH L) ⟨aa d,.load t (.tmp k),ty,ps,af,gd⟩).run P w=.ok (.value v) w:=by(intro w e;go_simp)) (he:∀w:az,w.cell? (aj wb off)=aa v->(execOp (gH L) ⟨aa d,.load t (.tmp k),ty,ps,af,gd⟩).events P w #[]=#[⟨.cell ⟨wb,off,ay⟩,av,av⟩]:=by(intro w e;go_simp)) (m:∀g,VR g v v:=by(intro g;constructor)):FO Lf f0 dn P ops Q (i::rest) a u:=
 FE.pk o E (λw b=>hr w (e w b)) (λw b=>⟨_,_,_,he w (e w b),rfl⟩) m c j b h
def BQ(P:aY)(f:bC):Bool:=match P.funcs[f]? with
 |some b=>b.body.isSome&&!(b.name== "runtime.NumGoroutine")
 |none=>av
def Jz{f}(h:BQ P f=aq):∃b body,P.funcs[f]? =aa b/\(b.name== "runtime.NumGoroutine")=av/\b.body=aa body:=by
 unfold BQ at h;split at h
 ·rename_i b e;rw[cE,rP]at h;obtain⟨body,c⟩:=IL.1 h.1;exact⟨b,body,e,h.2,c⟩
 ·cases h
def arI:BinOp->Int->Int->aZ Int
 |.add,X,Y=>aa (X+Y)
 |.sub,X,Y=>aa (X-Y)
 |.mul,X,Y=>aa (X*Y)
 |_,_,_=>ay
def FE.ar{b x y X Y z}(E:Fa n a L)(c:∀e,iq a e d (an z)->Fa n e ((d,an z)::L)->FO Lf f0 dn prog ops Q rest e u)(j:ops[i]? =aa ⟨aa d,.binOp b 3 x y 3,ty,ps,af,gd⟩:=by rfl) (r:opF L x=aa (an X):=by rfl) (hy:opF L y=aa (an Y):=by rfl) (p:arI b X Y=aa z:=by rfl) (f:-9223372036854775808<=z/\z<=9223372036854775807:=by omega) (o:(jg ops L gd&&jo ops n gd)=aq:=by rfl) (m:okB prog l (.binOp b 3 x y 3)=aq:=by kernel_rfl) (hc:lW (Lf f0) n d L (.binOp b 3 x y 3)=aq:=by rfl) (g:Fit prog l:=by assumption):FO Lf f0 dn prog ops Q (i::rest) a u:=by
 have ev:∀{x:gY} {V:aD},opF L x=aa V->gH L x=V:=λ{x V} h=>by
  cases x with
  |tmp k=>show(lk L k).getD au=V;rw[show lk L k=aa V from h];rfl
  |const v=>cases h;rfl
  |_=>cases h
 have q:=gV f.1 f.2;refine FE.ow E c j o m hc (λs=>?_) g;unfold execOp;simp;cases b<;>cases p<;>go_simp
def FE.ln{t k m c0:Nat}{ad}(E:Fa n a L)(c:∀b,iq a b d (an m)->Fa n b ((d,an m)::L)->FO Lf f0 dn prog ops Q rest b u)(f:ops[i]? =aa ⟨aa d,.call ⟨.builtin .len,#[.tmp k],#[t]⟩,ty,ps,af,gd⟩:=by rfl) (h:(jg ops L gd&&jo ops n gd)=aq:=by rfl) (g:mK prog t=aq:=by kernel_rfl) (e:decide (d<n)=aq:=by rfl) (hv:lk L k=aa (.slice ad m c0):=by rfl):FO Lf f0 dn prog ops Q (i::rest) a u:=
 FO.R9 (pO g) f (E.wt (o:=⟨aa d,_,ty,ps,af,gd⟩) h) rfl rfl (E.at_ k _ hv) (c _ (we ..) (E.put _ (sH e)))
def FE.lc{t k b j x}{T:aQ}(E:Fa n a L)(B:u.heap[b]? =aa (aA x T (0,0)))(c:∀e,iq a e d v->Fa n e ((d,v)::L)->FO Lf f0 dn P ops Q rest e u)(g:ops[i]? =aa ⟨aa d,.load t (.tmp k),ty,ps,af,gd⟩:=by rfl) (q:lk L k=aa (.pointer (aa (aj b j))):=by rfl) (m:x[j]? =aa v:=by rfl) (h:(jg ops L gd&&jo ops n gd)=aq:=by rfl) (hc:lW (Lf f0) n d L (.load t (.tmp k))=aq:=by rfl) (hr:∀w:az,w.cell? (aj b j)=aa v->(execOp (gH L) ⟨aa d,.load t (.tmp k),ty,ps,af,gd⟩).run P w=.ok (.value v) w:=by(intro w p;go_simp)) (f:Fit P l:=by assumption):FO Lf f0 dn P ops Q (i::rest) a u:=
 FE.ow E c g h rfl hc (λo=>hr _ (aI (show(u.tp o).heap[b]? =_ from B) m)) f
def FE.st{t k1 k2 b j x}{T:aQ}{v0}(E:Fa n a L)(B:u.heap[b]? =aa (aA x T (0,0)))(c:∀u1:az,u1.heap[b]? =aa (aA (x.setIfInBounds j v) T (0,0))->(∀e,e≠b->u1.heap[e]? =u.heap[e]?)->FO Lf f0 dn P ops Q rest a u1)(k:ops[i]? =aa ⟨ay,.store t (.tmp k1) (.tmp k2),ty,ps,af,gd⟩:=by rfl) (r:lk L k1=aa (.pointer (aa (aj b j))):=by rfl) (hv:lk L k2=aa v:=by rfl) (o:x[j]? =aa v0:=by rfl) (m:(jg ops L gd&&jo ops n gd)=aq:=by rfl) (hc:lW (Lf f0) 1 0 L (.store t (.tmp k1) (.tmp k2))=aq:=by rfl) (hr:∀w:az,w.cell? (aj b j)=aa v0->w.frozen? (aj b j)=av->(execOp (gH L) ⟨ay,.store t (.tmp k1) (.tmp k2),ty,ps,af,gd⟩).run P w=.ok .skip (w.setCell (aj b j) v):=by(intro w p q;go_simp)) (g:Fit P l:=by assumption):FO Lf f0 dn P ops Q (i::rest) a u:=by refine FE.vo E (u.setCell (aj b j) v) (c _ (dF B j v) λe h=>cw h) k m rfl hc (λf=>?_) g;rw[hr _ (aI (show(u.tp f).heap[b]? =_ from B) o) (bF (show(u.tp f).heap[b]? =_ from B) j)];exact dZ _ (Mc _ _ _ _)
def FE.cx{f xs vs ats}(E:Fa n a L)(s:aP.known f)(c:fc P f vs.toArray u λe j=>∃v,e=aM v/\∀b,iq a b d v->Fa n b ((d,v)::L)->FO Lf f0 dn P ops Q rest b j)(t:ops[i]? =aa ⟨aa d,.call ⟨.value (.func f),xs.toArray,ats⟩,ty,ps,af,gd⟩:=by rfl) (w:(jg ops L gd&&jo ops n gd)=aq:=by rfl) (p:BQ P f=aq:=by kernel_rfl) (r:xs.all (cS l)=aq:=by rfl) (hc:qo (Lf f0) n d xs=aq:=by rfl) (hv:ug L xs=aa vs:=by rfl) (q:Fit P l:=by assumption):FO Lf f0 dn P ops Q (i::rest) a u:=by
 have k:xs.toArray.map a.eval=vs.toArray:=by rw[rT,EE E hv]
 obtain⟨z,body,g,h,m⟩:=Jz p;refine FO.Yf q t (E.wt (o:=⟨aa d,_,ty,ps,af,gd⟩) w) rfl rfl g h m s (by simpa using r) ?_ ?_
 ·rw[rT,rT];refine dZ _ (List.map_congr_left λx y=>(Yw hc y).symm)
 ·rw[k];exact c.mono λe j ⟨v,g,h⟩=>⟨v,g,h _ (we a d v) (E.put v (ES hc))⟩
def FE.cf{f:bC}{fn:kZ}{xs:aB gY}{g:aB aD}{s:aJ aQ}(E:Fa n a L)(q:P.funcs[f]? =aa fn)(y:aP.known f)(A:∀x:aJ aD,results fn x=results fn (mP (Lf f) x))(D:∀m (j:Nat) v,(Frame.enter P f g.toArray .normal).tmps[j]? =aa v->j∉Lf f->VR m v v)
  (c:iV Lf P (dn+1) f g.toArray u λe r=>∃v,e=aM v/\∀h,iq a h d v->Fa n h ((d,v)::L)->FO Lf f0 dn P ops Q rest h r)
  (z:ops[i]? =aa ⟨aa d,.call ⟨.value (.func f),xs.toArray,s⟩,ty,ps,af,gd⟩:=by rfl) (C:(jg ops L gd&&jo ops n gd)=aq:=by rfl) (w:BQ P f=aq:=by kernel_rfl) (hc:qo [] n d []=aq:=by rfl) (hv:ug L xs=aa g:=by rfl):FO Lf f0 dn P ops Q (i::rest) a u:=by
 have p:xs.toArray.map a.eval=g.toArray:=by rw[rT,EE E hv]
 obtain⟨F,body,b,k,t⟩:=Jz w;rw[q]at b;cases b;refine FO.PD z (E.wt (o:=⟨aa d,_,ty,ps,af,gd⟩) C) rfl rfl q k t y A (by rw[p];exact λm _=>D m) ?_;rw[p];exact c.mono λe r ⟨v,b,k⟩=>⟨v,b,k _ (we a d v) (E.put v (ES hc))⟩
def FE.cp{v0:aD}{k0:Nat}{f:bC}{fn:kZ}{xs:aB gY}{g:aB aD}{w:aJ aQ}(E:Fa n a L)(r:P.funcs[f]? =aa fn)(C:aP.known f)(G:∀x:aJ aD,results fn x=results fn (mP (Lf f) x))(J:∀h,VR h v0 v0->∀(j:Nat) v,(Frame.enter P f g.toArray .normal).tmps[j]? =aa v->j∉Lf f->VR h v v)
  (c:iV Lf P (dn+1) f g.toArray u λe t=>∃v,e=aM v/\∀k,iq a k d v->Fa n k ((d,v)::L)->FO Lf f0 dn P ops Q rest k t)
  (D:ops[i]? =aa ⟨aa d,.call ⟨.value (.func f),xs.toArray,w⟩,ty,ps,af,gd⟩:=by rfl) (I:(jg ops L gd&&jo ops n gd)=aq:=by rfl) (z:BQ P f=aq:=by kernel_rfl) (hc:qo [] n d []=aq:=by rfl) (hv:ug L xs=aa g:=by rfl) (h0:lk L k0=aa v0:=by rfl) (s:qo (Lf f0) n k0 [.tmp k0]=aq:=by rfl):FO Lf f0 dn P ops Q (i::rest) a u:=by
 have p:xs.toArray.map a.eval=g.toArray:=by rw[rT,EE E hv]
 obtain⟨K,body,b,m,y⟩:=Jz z;rw[r]at b;cases b
 have A:a.tmps[k0]? =aa v0:=by
  have F:k0<a.tmps.size:=by rw[E.size];exact ES s
  have q:=ev (E.at_ k0 v0 h0);rw[cX F]at q⊢;exact dZ aa q
 refine FO.PD D (E.wt (o:=⟨aa d,_,ty,ps,af,gd⟩) I) rfl rfl r m y C G (by rw[p];exact λh H=>J h (H k0 v0 A (Yv s (dw ..)))) ?_;rw[p];exact c.mono λe t ⟨v,b,m⟩=>⟨v,b,m _ (we a d v) (E.put v (ES hc))⟩
def FX.reg{c}(is)(h:FO Lf f0 dn P (jM c) Q is a u)(hc:Tr c is=aq:=by kernel_rfl):FX Lf f0 dn P c Q a u:=by
 unfold Tr at hc;split at hc
 ·rename_i id ops dr;rw[cE,rP]at hc;obtain⟨rfl,b⟩:=hc;refine FX.region ?_;rw[eq_of_beq b];exact h
 ·cases hc
def dk{X:Act->Prop}(h:∀b w,w=v->iq a b d w->X b):∀b,iq a b d v->Fa n b ((d,v)::L)->X b:=λb N _=>h b v rfl N
def Fa.dd{c j}(E:Fa n a L)(h:a.eval (.tmp (gG (jM c) j))=v)(b:(jM c)[j]? =aa ⟨aa d,op,ty,ps,af,gd⟩:=by rfl):Fa n a ((d,v)::L):=E.add (by rw[<-h,gG,b];rfl)
def drB:gN->Bool|.region _ _ dr=>dr|_=>av
def FX.dm{c:gN}(m k0 z:Nat)(f:Nat->aD->az->Prop)(S:az->Prop)(t:az->az->Prop)(M:∀u q j w,t u q->f j w u->f j w q)(E:Fa n a L)(hS:S {u with drawn:=u.drawn+1})
  (step:∀u1:az,S u1->∀i,i<k0->∀a is,Fa n a L->(∀j,((nu (jM c) i).contains j&&decide (j<k0))=aq->f j (a.eval (.tmp (gG (jM c) j))) u1)->(∀y v q,f i v q->S q->t u1 q->iq a y (gG (jM c) i) v->FO Lf f0 dn P (jM c) Q is y q)->FO Lf f0 dn P (jM c) Q (i::is) a u1)
  (R:∀u1:az,S u1->∀a,Fa n a L->(∀i,decide (i<k0)=aq->f i (a.eval (.tmp (gG (jM c) i))) u1)->cQ Lf f0 dn P .any (jM c) Q (m-k0) (ny m k0) a u1)
  (T:z<k0->∀u1:az,S u1->∀a,Fa n a L->(∀i,(decide (i<k0)&&!decide (i=z))=aq->f i (a.eval (.tmp (gG (jM c) i))) u1)->cQ Lf f0 dn P .any (jM c) Q (m-k0+1) ((ny m k0).setIfInBounds z av) a u1)
  (g:(drB c&&CB (jM c) m k0 z n (L.map DY))=aq:=by kernel_rfl) (hm:P.follows .mixedOrders=aq:=by kernel_rfl):FX Lf f0 dn P c Q a u:=by
 rw[cE]at g;cases c with
 |region id ops dr=>
  cases g.1;have g:CB ops m k0 z n (L.map DY)=aq:=g.2;simp only[CB,cE,pZ]at g;obtain⟨b1,F,G,H,I,J⟩:=g;refine FX.abF hm ?_;have b1:ops.size=m:=b1;rw[b1]
  have A:∀i,i<k0->gG ops i<n/\gG ops i∉L.map DY/\∀j,j<k0->i=j\/¬gG ops i=gG ops j:=λi b=>by
   have s:=mz.1 I i (lQ.2 b);simp only[cE,pZ,rP]at s;refine⟨s.1,λh=>?_,λj o=>?_⟩
   ·have r:=s.2.1;rw[wO.2 h]at r;cases r
   ·have r:=mz.1 s.2.2 j (lQ.2 o);simpa using r
  refine cQ.W8 (z:=z) b1 F G H (λi j b o e=>((A i b).2.2 j o).resolve_right λh=>h e) (λa=>Fa n a L) f S t M (λa y i v b N h=>⟨N.size.trans h.size,N.defers.trans h.defers,λk x D=>(N.same k λe=>(A i b).2.1 (e▸SA D)).trans (h.at_ k x D)⟩) (λi s r=>?_) (λa i b h=>by rw[h.size];exact(A i b).1) (λi b a u is h hS o K=>step u hS i b a is h (λj p=>?_) K) (λa u h hS hv=>R u hS a h λi b=>hv i (sH b)) (λO a u h hS hv=>T O u hS a h λi b=>?_) E hS
  ·have C:=mz.1 J i (lQ.2 r);simp only[pR,pZ]at C;obtain⟨j,o,p⟩:=rS.1 (C.resolve_left ak);simp only[cE,pZ]at p;exact⟨j,p.1,lQ.1 o,wO.1 p.2⟩
  ·rw[cE,pZ]at p;exact o j (wO.1 p.1) p.2
  ·rw[cE,pZ,rP,decide_eq_false_iff_not]at b;exact hv i b.1 b.2
 |_=>cases g.1
def FX.dr{c:gN}(m k0:Nat)(b:Nat->aD->Prop)(E:Fa n a L)
  (step:∀u1:az,u1={u with drawn:=u.drawn+1}->∀i,i<k0->∀a is,Fa n a L->(∀j,((nu (jM c) i).contains j&&decide (j<k0))=aq->b j (a.eval (.tmp (gG (jM c) j))))->(∀e v,b i v->iq a e (gG (jM c) i) v->FO Lf f0 dn P (jM c) Q is e u1)->FO Lf f0 dn P (jM c) Q (i::is) a u1)
  (r:∀u1:az,u1={u with drawn:=u.drawn+1}->∀a,Fa n a L->(∀i,decide (i<k0)=aq->b i (a.eval (.tmp (gG (jM c) i))))->cQ Lf f0 dn P .any (jM c) Q (m-k0) (ny m k0) a u1)
  (k:(drB c&&CB (jM c) m k0 m n (L.map DY))=aq:=by kernel_rfl) (hm:P.follows .mixedOrders=aq:=by kernel_rfl):FX Lf f0 dn P c Q a u:=
 FX.dm m k0 m (λj v _=>b j v) (λu1=>u1={u with drawn:=u.drawn+1}) (λu s=>s=u) (λ_ _ _ _ _ h=>h) E rfl (λu1 f i p a is g q o=>step u1 f i p a is g q λe v hv N=>o e v u1 hv f rfl N) (λu1 f a g hv=>r u1 f a g hv) (λh=>by simp only[CB,cE,pZ]at k;omega) k hm
def TP:gN->Bool|.seq _ _=>aq|_=>av
def FX.sq{c}(h:FX Lf f0 dn P (nZ c) (Exit.then (FX Lf f0 dn P (eT c) Q) Q) a u)(hc:TP c=aq:=by kernel_rfl):FX Lf f0 dn P c Q a u:=by cases c<;>first|exact FX.seq h|cases hc
def ET:gN->aZ Nat|.cond (.tmp k) _ _=>aa k|_=>ay
def PM{c k}(h:ET c=aa k):c=.cond (.tmp k) (ct c) (cf c):=by
 unfold ET at h;split at h
 ·cases h;rfl
 ·cases h
def FX.cT{c k}(E:Fa n a L)(h:FX Lf f0 dn P (ct c) Q a u)(b:ET c=aa k:=by rfl) (hv:lk L k=aa (.bool aq):=by rfl):FX Lf f0 dn P c Q a u:=by rw[PM b];exact FX.cond (E.at_ k _ hv) h
def FX.cF{c k}(E:Fa n a L)(h:FX Lf f0 dn P (cf c) Q a u)(b:ET c=aa k:=by rfl) (hv:lk L k=aa (.bool av):=by rfl):FX Lf f0 dn P c Q a u:=by rw[PM b];exact FX.cond (E.at_ k _ hv) h
def FX.rt{c}(h:Q .ret a u)(hc:c=.ret:=by kernel_rfl):FX Lf f0 dn P c Q a u:=hc▸FX.ret h
def FX.sk{c}(h:Q .normal a u)(hc:c=.skip:=by kernel_rfl):FX Lf f0 dn P c Q a u:=hc▸FX.skip h
def FX.bk{c}(id)(h:FX Lf f0 dn P (sR c) (Exit.inBlock id Q) a u)(hc:c=.block id (sR c):=by kernel_rfl):FX Lf f0 dn P c Q a u:=by rw[hc];exact FX.block h
def FX.lp{c}(I:Act->az->Prop)(b:Act->az->Nat)(g:I a u)(round:∀a u,I a u->FX Lf f0 dn P (sR c) (Exit.then (λe f=>I e f/\b e f<b a u) Q) a u)(hc:c=.loop (sR c):=by kernel_rfl):FX Lf f0 dn P c Q a u:=by rw[hc];exact FX.loop I b g round
def FX.ex{c}(id)(h:Q (.exit id) a u)(hc:c=.exit id:=by kernel_rfl):FX Lf f0 dn P c Q a u:=hc▸FX.exit h
def sP(fn:kZ):gN:=fn.body.getD .skip
def yA:Nat->aB aD->aB (Nat×aD)
 |_,[]=>[]
 |k,v::r=>(k,v)::yA (k+1) r
def Vu:∀{k j:Nat} {c:aB aD} {v:aD},lk (yA k c) j=aa v->∃m,j=k+m/\c[m]? =aa v
 |k,j,[],v,h=>by cases h
 |k,j,x::r,v,h=>by
  unfold yA lk at h;cases b:uZ k j with
  |true=>
   rw[b]at h;cases h;exact⟨0,(yR b).symm,rfl⟩
  |false=>
   rw[b]at h;obtain⟨m,f,e⟩:=Vu h;exact⟨m+1,ak,e⟩
def iV.Cz{f fn vs R}(n)(hf:P.funcs[f]? =aa fn)(h:∀a,Fa n a (yA 0 vs)->FX Lf f dn P (sP fn) (λe a u=>e=.ret/\a.defers=[]/\∃v,(results fn a.tmps).run P u=.ok v u/\R (aM v) u) a u)(c:fn.body=aa (sP fn):=by kernel_rfl) (p:fn.ntmps=n:=by kernel_rfl) (o:vs.length<=n:=by simp):iV Lf P dn f vs.toArray u R:=by
 refine iV.aao hf c (h _ ⟨?_,rfl,λk v g=>?_⟩)
 ·simp;omega
 ·obtain⟨m,j,b⟩:=Vu g;rw[show k=m by omega];simp[Act.eval,tD,Hj,((dS.1 b).1)];exact(dS.1 b).2
def Fa.to{M}(h:Fa n a L)(b:Ez L M:=by(repeat (first|exact trivial|refine⟨rfl,?_⟩))):Fa n a M:=h.sub b
end
end
section
attribute [local go_sem ↓] Go.wp_at_zero Go.wp_at_succ
attribute [local go_sem] bV bQ JM JN yA
open Go.Conc Go.RowKit
open Go.Proofs.Tryz
def fT(f:bC):aB Nat:=if f=12 then[0,1,2,28,51,56,58,76]else if f=28 then[0,4,9,13,17,25,33,38,43,51]else if f=29 then[0,5,8,10,13]else if f=15 then[0,7,12,27]else if f=13 then[0,1,2,20,25,31,38,40,41,49,51,64,66,67,71,73]else if f=32 then[1,72]else if f=10 then[0,19,25,42,62]else[]
def zq[aP](ad:aZ Addr)(len:Nat):Prop:=len=0\/∃(b off:Nat) (a:Obj) (z:Nat->Int),ad=aa ⟨b,off,ay⟩/\aP.wat b=aa a/\∀i,i<len->lA (z i)/\∀w:az,w.heap[b]? =aa a->w.cell? (aj b (off+i))=aa (an (z i))
section
variable [aP] {u:az} {l:aB bC} {dn:Nat}
def abk(t:Fit prog l)(ad len cap j)(o:len<=cC)(d:0<=j)(x:j<=9223372036854775807)(h:zq ad len):
  iV fT prog dn 29 #[.slice ad len cap,an j] u λe r=>∃z,e=aM (an z)/\lA z/\r=u:=by
 have y:len<=9223372036854775807:=o;refine iV.Cz 15 func29 λa E=>?_;refine FX.sq (FX.reg [0] ?_);refine FE.ow E λa _ E=>FO.nil ?_;refine FX.sq (FX.sq (FX.reg [0,1,2] ?_));refine FE.bl E λa _ E=>?_;refine FE.ln E λa _ E=>?_;refine FE.ow (v:=.bool ((len:Int)==0)) E λa _ E=>FO.nil ?_
 by_cases q:(len:Int)=0
 ·rw[show((len:Int)==0)=aq by simp;omega]at E;refine FX.cT E (FX.sq (FX.reg [0] ?_));refine FE.ow E λa _ E=>FO.nil ?_;refine FX.rt ⟨rfl,E.defers,an 0,?_,0,rfl,⟨ak,ak⟩,rfl⟩;have g:=ev (E.at_ 4 _ rfl);simp[results,results29,go_sem,g]
 ·rw[show((len:Int)==0)=av by simp;omega]at E;refine FX.cF E (FX.sk (FX.sq (FX.reg [0,1,2,3,4,5,6,7] ?_)));obtain⟨b,off,C,z,rfl,p,f⟩:=h.resolve_left ak;obtain⟨n,c⟩:∃n:Nat,n<len/\j.tmod len=n:=⟨(j.tmod len).toNat,by have:=AJ (len:Int) d;have:=DH j (show(0:Int)<len by omega);omega,by have:=AJ (len:Int) d;omega⟩;have i:j %(len:Int)=j.tmod len:=(DG d).symm;have k:0<=(n:Int)/\(n:Int)<(len:Int):=ak;refine FE.bl E λa _ E=>?_;refine FE.ow E λa _ E=>?_;refine FE.bl E λa _ E=>?_;refine FE.ln E λa _ E=>?_;refine FE.ow (v:=an (n:Int)) E (hr:=λD=>by have A:=q;have B:¬len=0:=ak;have s:=c.2;first|(go_simp;done)|(rw[<-c.2];go_simp)|(rw[<-c.2,<-i];go_simp)) λa _ E=>?_;refine FE.bl (v:=.pointer (aa (aj b (off+n)))) E (hr:=λw=>by go_simp) (he:=λw=>ZH (m:=len) (c0:=cap) (ad:=aj b off) (j:=n) w rfl rfl aT k) λa _ E=>?_;refine FE.p1 p E (f n c.1).2 λa _ E=>?_;refine FE.ow E λa _ E=>FO.nil ?_;refine FX.rt ⟨rfl,E.defers,an (z n),?_,z n,rfl,(f n c.1).1,rfl⟩;simp[results,results29,go_sem,(ev (E.at_ 4 _ rfl))]
def aaR(k:Fit prog l)(c n)(hc:lA c)(h0:0<n)(j:n<=9223372036854775807):
  iV fT prog dn 21 #[an c,an n] u λe h=>∃r,e=aM (an r)/\(0<=r/\r<n)/\h=u:=by
 obtain⟨m,o⟩:=hc;refine iV.Cz 13 func21 λa E=>?_;refine FX.sq (FX.reg [0] ?_);refine FE.ow E λa _ E=>FO.nil ?_
 have fin:∀(x:Int) (a:Act),0<=x->x<=9223372036854775807->Fa 13 a [(0,an x),(1,an n)]->FX fT 21 dn prog (eT (eT (sP f21))) (λe a b=>e=.ret/\a.defers=[]/\∃v,(results f21 a.tmps).run prog b=.ok v b/\∃r,yF v=aM (an r)/\(0<=r/\r<n)/\b=u) a u:=by intro x a d s E;have g:=DH x h0;have f:x %n=x.tmod n:=(DG d).symm;have p:¬n=0:=ak;refine FX.sq (FX.reg [0,1,2,3] ?_);refine FE.ow E λa _ E=>?_;refine FE.ow E λa _ E=>?_;refine FE.ow (v:=an (x.tmod n)) E (hr:=λi=>by first|(go_simp;done)|(rw[<-f];go_simp)) λa _ E=>?_;refine FE.ow E λa _ E=>FO.nil ?_;refine FX.rt ⟨rfl,E.defers,an (x.tmod n),?_,x.tmod n,rfl,⟨(AJ n d),g⟩,rfl⟩;simp[results,results21,go_sem,(ev (E.at_ 4 _ rfl))]
 refine FX.sq (FX.sq (FX.reg [0,1] ?_));refine FE.ow E λa _ E=>?_
 by_cases t:c<0
 ·refine FE.ow (v:=.bool aq) E λa _ E=>FO.nil ?_;refine FX.cT E (FX.reg [0,1,2,3] ?_);refine FE.ow E λa _ E=>?_;refine FE.ar E λa _ E=>?_;refine FE.ow (v:=an (-(c+1))) E (hr:=λi=>by have q:dJ.wrap (-(c+1))= -(c+1):=gV ak ak;go_simp) λa _ E=>?_;refine FE.ow E λa _ E=>FO.nil ?_;exact fin (-(c+1)) a ak ak E.to
 ·refine FE.ow (v:=.bool av) E λa _ E=>FO.nil ?_;exact FX.cF E (FX.sk (fin c a ak ak E.to))
end
end
section
open Go.Conc
open Go.ConcN (sumTo)
open Go.Proofs.Tryz
section
variable [aP] {P:aY} {l:aB bC} {Q:Exit->Act->az->Prop} {a:Act} {u u1:az} {b fr:aV} {k:aB Item} {cs:aB aV} {ops:aJ dK} {i:Nat} {rest:aB Nat} {o:dK} {Lf:bC->aB Nat} {f0:bC} {dn:Nat}
def oU.okD{Shun:Loc->Prop}{S:Nat->Prop}{ρ:Ren}{gs:aJ Goroutine}{w:az}{t:Trace}{q:Nat->Nat}(g:oU Lf P Shun S fr cs u ρ gs w t q){α n:Type}{R:Ren->α->n->Prop}{s:Sem α}{m:Sem n}(B:SR P R ρ (λ_=>False) s m){v:α}(h:s.run P (u.tp (laid u w))=.ok v u1):
  ∃c j d x,m.runT P w #[]=(.ok j d,x)/\R c v j/\fA ρ c w d/\fy P c u1 d/\Whole S c u1/\(∀a b,c a b->a=b)/\u1.heap.size=d.heap.size/\(∀e∈x,gP S c e)/\Full c u1:=by
 haveI:bw:=bU []
 obtain⟨_,c,j,d,x,p,r,f,y,z⟩:=rB B (iy _) g.world.lay g.whole h;have D:u.heap.size=w.heap.size:=g.size;have C:u1.heap.size+w.heap.size=d.heap.size+u.heap.size:=f.xY;refine⟨c,j,d,x,p,r,f.went,?_,y,λa b A=>?_,ak,z,f.full g.full⟩
 ·have:=f.rel.drop;exact⟨this.one,this.lt,this.obj,this.low,this.base,this.calm,this.os⟩
 ·rcases f.news a b A with h|⟨_,_,h⟩
  ·exact g.same a b h
  ·have h:a+w.heap.size=b+u.heap.size:=h;omega
def FO.aaB{d:Nat}{J:aD->az->Prop}(m:Fit P l)(W:ops[i]? =aa o)(hw:dg o (yielded ops a.tmps)=aq)(C:o.dst=aa d)(X:okB P l o.op=aq)(n:execOp a.eval o=execOp (rJ (Lf f0) a).eval o)(hr:∀τ,∃v u1,(execOp a.eval o).run P (u.tp τ)=.ok (.value v) u1/\J v u1)(c:∀v u1,J v u1->FO Lf f0 dn P ops Q rest (a.put (aa d) v) u1):FO Lf f0 dn P ops Q (i::rest) a u:=λb k cs p R h Y=>by
 haveI:bw:=bU []
 exact .one λaG S ρ gs w t q g hV=>by
  have V:∀f,l.contains f=aq->aP.ok f:=λf h=>(m.ok f).2 h;have D:kL ρ (Lf f0) (b.at a (.inRegion ops (i::rest)::k)):=p▸g.top;have af:=CZ (a:=a) (L:=Lf f0) D.tmps;obtain⟨v,u1,hr,O⟩:=hr (laid u w);rw[n]at hr;obtain⟨F,v',E,x,z,G,j,A,H,B,I,M,N⟩:=g.okD (CP (K:=λ_=>False) m.zeros m.fns V (BM m af) (λζ s v=>by(subst s;rfl)) (λζ s v=>by(subst s;rfl)) X) hr;cases G with
  |@value _ v' hv=>
   obtain rfl:=hv.eq B;have Z:(execOp a.eval o).run P w=.ok (.value v) E:=by rw[n,<-ji P _ w #[],z]
   have U:b.kind≠.early:=by have:b.kind=.normal:=g.top.kind;rw[this];simp
   refine⟨_,cs,u1,F,E,_,stepG_value W hw U Z,⟨j,A,H,B,I,λe T=>?_,?_,λf h=>⟨(g.low f h).1.mono j.le,(g.low f h).2⟩,N⟩,?_⟩
   ·have r:=qb T;unfold Sem.events at r;rw[n,z]at r;exact BY (g.clear.went j) (λy b ry=>(A.lt y b ry).2) (M e r)
   ·rw[C];show kL F (Lf b.fn) _;rw[p];exact As (D.mono j.le) (λ_=>hv)
   ·rw[C];exact c v u1 O b k cs p R h Y
def FE.nd{d n:Nat}{L:aB (Nat×aD)}{op:Op}{j:aQ}{ps:String}{g:aJ Edge}{e:aZ (Nat×Bool)}{J:aD->az->Prop}(E:Fa n a L)(c:∀v u1,J v u1->∀f,iq a f d v->Fa n f ((d,v)::L)->FO Lf f0 dn P ops Q rest f u1)(hr:∀m,∃v u1,(execOp (gH L) ⟨aa d,op,j,ps,g,e⟩).run P (u.tp m)=.ok (.value v) u1/\J v u1)(t:ops[i]? =aa ⟨aa d,op,j,ps,g,e⟩:=by rfl) (y:(jg ops L e&&jo ops n e)=aq:=by rfl) (w:okB P l op=aq:=by kernel_rfl) (hc:lW (Lf f0) n d L op=aq:=by rfl) (s:Fit P l:=by assumption):FO Lf f0 dn P ops Q (i::rest) a u:=by obtain⟨q,p,_⟩:=zE hc;refine FO.aaB s t (E.wt (o:=⟨aa d,op,j,ps,g,e⟩) y) rfl w (wZ _ p λx h=>(vM E hc h).2) (λm=>?_) (λv u1 r=>c v u1 r _ (we a d v) (E.put v q));rw[wZ _ p λx h=>(vM E hc h).1];exact hr m
end
end
section
attribute [local go_sem ↓] Go.wp_at_zero Go.wp_at_succ
attribute [local go_sem] Oper.semAt_some
attribute [local go_sem] bV bQ
open Go.Conc Go.RowKit Go.Shelf
open Go.Proofs.Tryz
def tkZ(fn:kZ):gN:=nZ (fn.body.getD .skip)
def tk1(fn:kZ):gN:=nZ (eT (fn.body.getD .skip))
def tk4(fn:kZ):gN:=nZ (nZ (eT (eT (fn.body.getD .skip))))
def tkc:gN->gN|.cond _ x _=>x|_=>.skip
def tk5(fn:kZ):gN:=tkc (eT (nZ (eT (eT (fn.body.getD .skip)))))
abbrev Mz(xb:Nat)(a:Int):Act:=⟨#[pt xb,au,au,pt xb,pt xb,.pointer (aa (aj xb 13)),an a,an (a+1),pt xb,.pointer (aa (aj xb 13)),au,au,au,au,au,au,au,au,au,au,au,au,au,au,au,au,au,au],[]⟩
abbrev MA(xb:Nat)(a:Int)(b D:Nat):Act:=⟨#[pt xb,au,au,pt xb,pt xb,.pointer (aa (aj xb 13)),an a,an (a+1),pt xb,.pointer (aa (aj xb 13)),pt xb,.func (.func 96) #[] #[pt b],au,au,au,au,au,au,au,au,au,au,au,au,au,au,au,au],[{target:=.collected D,args:=#[]}]⟩
abbrev tkE(xb:Nat)(a:Int)(b c:Nat):Act:=⟨#[pt xb,au,pt c,pt xb,pt xb,.pointer (aa (aj xb 13)),an a,an (a+1),pt xb,.pointer (aa (aj xb 13)),pt xb,.func (.func 96) #[] #[pt b],pt c,au,au,au,au,au,au,au,au,au,au,au,au,au,au,au],[]⟩
end
section
attribute [local go_sem ↓] Go.wp_at_zero Go.wp_at_succ
attribute [local go_sem] bV bQ
open Go.Conc Go.RowKit
open Go.ConcR (Payload)
open Go.Proofs.Tryz
abbrev UL(xb:Nat)(a:Int)(b D:Nat)(stop:Bool):Act:=⟨#[pt xb,au,au,pt xb,pt xb,.pointer (aa (aj xb 13)),an a,an (a+1),pt xb,.pointer (aa (aj xb 13)),pt xb,.func (.func 96) #[] #[pt b],au,au,au,pt xb,pt xb,.pointer (aa (aj xb 14)),.bool stop,.bool !stop,au,au,au,au,au,au,au,au],[{target:=.collected D,args:=#[]}]⟩
abbrev MB(xb:Nat)(a:Int)(b D:Nat)(stop:Bool)(c d e f:aD):Act:=⟨#[pt xb,au,au,pt xb,pt xb,.pointer (aa (aj xb 13)),an a,an (a+1),pt xb,.pointer (aa (aj xb 13)),pt xb,.func (.func 96) #[] #[pt b],au,au,au,pt xb,pt xb,.pointer (aa (aj xb 14)),.bool stop,.bool !stop,c,d,e,f,au,au,au,au],[{target:=.collected D,args:=#[]}]⟩
section
variable [aP]
end
end
section
open Go.Conc Go.RowKit
open Go.ConcR (Payload)
open Go.Proofs.Tryz
def opsOf:gN->aJ dK|.region _ a _=>a|_=>#[]
section
variable [aP] {l:aB bC}
def WX.Ye{P Q a u ops id d f o0 o1 ats fn body v}(b:Fit P l)(hr:dH ops.size=[0,1])(h0:ops[0]? =aa o0)(hm:o0.op=.move (.tmp 0))(m:o0.dst=aa d)(o:o0.guard=ay)(j:ops[1]? =aa o1)(t:o1.op=.call {callee:=.value (.func f),args:=#[.tmp d],argTypes:=ats}) (p:o1.guard=ay) (n:P.funcs[f]? =aa fn) (s:(fn.name== "runtime.NumGoroutine")=av) (k:fn.body=aa body) (q:aP.known f) (hv:a.eval (.tmp 0)=v) (w:(a.put (aa d) v).eval (.tmp d)=v) (c:fc P f #[v] u λe g=>∃r,e=aM r/\Q .normal ((a.put (aa d) v).put o1.dst r) g):WX P (.region id ops av) Q a u:=by
 refine WX.region ?_;rw[hr];refine OX.value (v:=v) (u1:=u) b h0 (by simp[dg,o]) (by rw[hm];rfl) (λx=>?_) ?_
 ·unfold execOp;rw[hm];simp[hv]
 ·rw[m];refine OX.call b j (by simp[dg,p]) t n s k q (by simp[cS]) ?_;have:(#[IK d].map (a.put (aa d) v).eval)=#[v]:=by rw[rT];simp only[uU,yN,w]
  rw[this];refine c.mono λe g ⟨r,h,i⟩=>⟨r,h,OX.nil i⟩
variable [Payload]
end
end
section
attribute [local go_sem ↓] Go.wp_at_zero Go.wp_at_succ
attribute [local go_sem] bV bQ
open Go.Conc Go.RowKit
abbrev ChS(j a n b:Nat)(r:Rq)(fl:Bool)(W:az):Prop:=(W.cell? (aj j 1)=aa (.slice (aa (aj a 0)) n b)/\W.cell? (aj j 3)=aa (.bool fl))/\cu W a r
def ChS.old{j gb n qc r fl W W'}(h:ChS j gb n qc r fl W)(a:aN W W'):ChS j gb n qc r fl W':=⟨⟨bO a h.1.1,bO a h.1.2⟩,h.2.old a⟩
end
section
attribute [local go_sem ↓] Go.wp_at_zero Go.wp_at_succ
attribute [local go_sem] bV bQ
open Go.Conc Go.RowKit
open Go.Proofs.Tryz
section
abbrev Fx.dk(f:Fx):Dk:=⟨f.B,f.D,f.C⟩
abbrev Fx.CK(f:Fx)(k:Dk):Fx:={f with B:=k.B,D:=k.D,C:=k.C}
def xC(a:Ft):UInt8:=if a.eU then 5 else 0
def Ck.hrd(B:aJ UInt8)(a:Ft)(k:Ck)(r:Rq):Ck:=k.uf r (xC a) (nL B (pq k.no r a.eU))
def Ck.answers(B:aJ UInt8)(a:Ft)(k:Ck)(c:aB Rq):Ck:=c.foldl (Ck.hrd B a) k
def K6(B:aJ UInt8)(a:Ft)(k:Ck)(r:Rq):(k.hrd B a r).no=k.no:=by unfold Ck.hrd Ck.uf;split<;>rfl
def Ju(B:aJ UInt8)(a:Ft):∀(c:aB Rq) (k:Ck),(k.answers B a c).no=k.no
 |[],k=>rfl
 |r::c,k=>(Ju B a c (k.hrd B a r)).trans (K6 B a k r)
def XJ{B:aJ UInt8}{a:Ft}{k:Ck}{c:aB Rq}{i:Nat}{r:Rq}(h:c[i]? =aa r):k.answers B a (c.take (i+1))=(k.answers B a (c.take i)).hrd B a r:=by unfold Ck.answers;rw[tN,h];simp
structure Ck.OL(k:Ck):Prop where
 us:qX k.us
 bE:0<=k.bE/\k.bE<=1048576
 prom:0<=k.prom/\k.prom<=4194304
 out:k.out.size<=1048576
def JC(k:Dk)(rs)(a:Ft):(k.change rs a).B.size=k.B.size:=by
 unfold Dk.change;split
 ·rfl
 ·split
  ·rfl
  ·split<;>exact Sk _ _ _
variable {W:az} {f:Fx} {xb:Nat} {L:dy} {b:Jb} {lj:Lj} {k:Ck}
def pL(own:Nat->Nat)(n:Nat)(v:aD)(t:Nat):Nat->Nat:=λx=>if x<n then own x else if v.ownBlock=aa x then t else 0
def Lt{own n t x v}(h:x<n):pL own n v t x=own x:=aW h
def Ls{own n t x v}(h:n<=x)(hv:v.ownBlock=aa x):pL own n v t x=t:=by unfold pL;rw[aK ak,aW hv]
def aaD{own n t x v}(h:n<=x)(hv:v.ownBlock≠aa x):pL own n v t x=0:=by unfold pL;rw[aK ak,aK hv]
abbrev OQ(W:az)(f:Fx)(xb:Nat)(L:dy)(b:Jb)(lj:Lj):Prop:=Calls prog 161 #[jp lj.j,jp L.d] W λe c=>e=aM (.tuple #[])/\∃a,aL c (f.CK (f.dk.change b.rs b.ft)) xb a/\bJ W L c a/\fj c a.own a.cs b lj/\a.d=L.d/\a.cs=L.cs/\a.lv=L.lv/\∀x,W.heap.size<=x->a.own x=0\/a.own x=6
def acr(h:aL W f xb L)(H:fj W L.own L.cs b lj){lc}(A:f.K[b.s]? =aa (aa k))(u:L.cs[b.s]? =aa (aa lc))(r)(er:UInt8)(d)(hr:r.Ok)(F:0<=r.m.ck/\r.m.ck<=65535)(G:d.size<=65535)(t:k.OL):
  Calls prog 163 #[jp lc.c,.agg (aO r),an (er.toNat:Int),.string d] W λe w=>e=aM (.tuple #[])/\∃i C,aL w (f.at b.s (k.uf r er d)) xb i/\bJ W L w i/\fj w i.own i.cs b lj/\i.d=L.d/\i.cs[b.s]? =aa (aa C)/\C.c=lc.c/\i.lv=L.lv/\∀x,W.heap.size<=x->i.own x=0\/i.own x=7+2*b.s:=by
 obtain⟨l,B,z,n⟩:=h.sat A;obtain rfl:lc=l:=by rw[u]at B;exact dP (dP B)
 refine(XB lc.c lc.rb lc.mb lc.ch lc.q lc.v f.g k r er d W z hr F G t.us t.bE t.prom t.out).mono ?_;rintro e w ⟨rfl,a,D,g2,g3⟩
 have y:∀x,x<W.heap.size->(x=lc.c\/x=lc.mb\/aa x=lc.v.ownBlock)->L.own x=7+2*b.s:=by
  rintro x _ (rfl|rfl|e)
  ·exact n.1
  ·exact n.2.2.1
  ·exact n.2.2.2.2.2 x e.symm
 have j:∀x,x<W.heap.size->pL L.own W.heap.size a (7+2*b.s) x=L.own x:=λx o=>Lt o;have p:=Lc.At.eH z
 have E:(⟨lc.c,lc.rb,lc.mb,lc.ch,lc.q,a⟩:Lc).ij λx=>pL L.own W.heap.size a (7+2*b.s) x=7+2*b.s:=by
  refine⟨(j _ p.1).trans n.1,(j _ p.2.1).trans n.2.1,(j _ p.2.2.1).trans n.2.2.1,(j _ p.2.2.2.1).trans n.2.2.2.1,λx e=>(j x (p.2.2.2.2.1 x e)).trans (n.2.2.2.2.1 x e),λx e=>?_⟩;rcases mX x W.heap.size with I|hge
  ·rw[j x I];rcases g3 with g3|g3
   ·exact n.2.2.2.2.2 x (g3▸e)
   ·have:=g3 x e;omega
  ·exact Ls hge e
 refine⟨rfl,_,⟨lc.c,lc.rb,lc.mb,lc.ch,lc.q,a⟩,h.client (l':=⟨lc.c,lc.rb,lc.mb,lc.ch,lc.q,a⟩) (cA:=pL L.own W.heap.size a (7+2*b.s)) u rfl A g2 y D j E,⟨j,g2.mono λx o e=>by rw[y x o e];omega⟩,?_,rfl,uC u,rfl,rfl,λx o=>?_⟩
 ·exact fj.aside (g2.asd (L:=L) y j) H (Md (l':=⟨lc.c,lc.rb,lc.mb,lc.ch,lc.q,a⟩) u rfl _) (by show ¬8+2*b.order=7+2*b.s;omega)
 ·show pL L.own W.heap.size a (7+2*b.s) x=0\/pL L.own W.heap.size a (7+2*b.s) x=7+2*b.s
  by_cases e:a.ownBlock=aa x
  ·exact aE (Ls o e)
  ·exact aF (aaD o e)
end
def RX:(prog.info? 96).map (λi=>(i.zero,i.size,i.bytes))=aa (aa (.agg mJ),7,56):=aT
abbrev Fx.dn(f:Fx)(b:Jb)(k:Ck)(i:Nat):Fx:=(f.CK (f.dk.change b.rs b.ft)).at b.s (k.answers (f.dk.change b.rs b.ft).B b.ft (b.rs.take i))
abbrev nA(b:Jb)(k:Ck)(i:Nat):aB En:=(b.rs.take i).map λr=>pq k.no r b.ft.eU
structure nR(w:az)(L:dy)(f:Fx)(xb:Nat)(b:Jb)(lj:Lj)(k:Ck)(c i:Nat)(v:aD)(W:az)(L1:dy)(lc:Lc):Prop where
 fx:aL W (f.dn b k i) xb L1
 nE:fj W L1.own L1.cs b lj
 gJ:bJ w L W L1
 d:L1.d=L.d
 aG:L1.cs[b.s]? =aa (aa lc)
 c:lc.c=c
 row:W.ownsRow 0 96 7 v i ((nA b k i).flatMap mI)
 cO:∀g,v.ownBlock=aa g->L1.own g=0/\w.heap.size<=g
 new:∀x,W.heap.size<=x->L1.own x=0
 lv:L1.lv=L.lv
section
variable {w W W':az} {L L1:dy} {f:Fx} {xb:Nat} {b:Jb} {lj:Lj} {k:Ck} {c i:Nat} {v:aD} {lc:Lc}
def nR.below(h:nR w L f xb b lj k c i v W L1 lc)(j:aN W W'):nR w L f xb b lj k c i v W' L1 lc:=by have l:∀x,x<W.heap.size->W'.heap[x]? =W.heap[x]? :=λx a=>j.block x a;refine⟨h.fx.below j,fj.aside (T:=λ_=>False) ⟨λx a _=>l x a,λ_ _=>rfl⟩ h.nE (pN _) (λe=>e),h.gJ.trans ⟨λ_ _=>rfl,.below j⟩,h.d,h.aG,h.c,eL h.row λg e=>l g (zV h.row e),h.cO,λx a=>h.new x (dM j.size a),h.lv⟩
def nR.aae{g cap news r}(h:nR w L f xb b lj k c i v W L1 lc)(hr:b.rs[i]? =aa r)(p:news=mI (pq k.no r b.ft.eU))(q:W'.ownsRow 0 96 7 (.slice (aa (aj g 0)) (i+1) cap) (i+1) ((nA b k i).flatMap mI++news))(d:W.grownBy W' v.ownBlock)(o:v.ownBlock=aa g\/W.heap.size<=g):
  aL W' (f.dn b k i) xb L1/\fj W' L1.own L1.cs b lj/\bJ w L W' L1/\W'.ownsRow 0 96 7 (.slice (aa (aj g 0)) (i+1) cap) (i+1) ((nA b k (i+1)).flatMap mI)/\(L1.own g=0/\w.heap.size<=g)/\∀x,W'.heap.size<=x->L1.own x=0:=by
 have m:∀x,x<W.heap.size->L1.own x≠0->W'.heap[x]? =W.heap[x]? :=λx a j=>d.block x a λe=>j (h.cO x e.symm).1;have l:w.heap.size<=W.heap.size:=h.gJ.cI.size
 have n:L1.own g=0/\w.heap.size<=g:=by
  rcases o with e|e
  ·exact h.cO g e
  ·exact⟨h.new g e,dM l e⟩
 refine⟨h.fx.uo m,fj.aside (T:=λx=>x=0) ⟨λx a j=>m x a j,λ_ _=>rfl⟩ h.nE (pN _) ak,⟨h.gJ.own,⟨d.os.trans h.gJ.cI.os,dM l d.size,λx a j=>?_⟩⟩,?_,n,λx a=>h.new x (dM d.size a)⟩
 ·have s:=h.gJ.own x a
  by_cases e:aa x=v.ownBlock
  ·have:=(h.cO x e.symm).2;omega
  ·exact(d.block x (dI a l) e).trans (h.gJ.cI.block x a j)
 ·have:nA b k (i+1)=nA b k i++[pq k.no r b.ft.eU]:=by
   unfold nA;rw[tN,hr];simp
  rw[this,yK,List.flatMap_singleton,<-p];exact q
def Lk{F}(h:aL W F xb L)(d:fj W L.own L.cs b lj):aL W F xb {L with own:=gu L.own W.heap.size 0}/\fj W (gu L.own W.heap.size 0) L.cs b lj:=
 ⟨h.owns _ λx a=>iO a,fj.aside (T:=λ_=>False) ⟨λ_ _ _=>rfl,λx a=>iO a⟩ d (pN _) (λe=>e)⟩
end
structure BD(f:Fx)(b:Jb)(k:Ck):Prop where
 ne:∃r t,b.rs=r::t/\0<=r.m.of/\r.m.of.toNat<f.B.size/\r.m.of.toNat+(eC b.rs).length<=f.B.size
 many:b.rs.length<=65536
 data:(eC b.rs).length<=1048576/\(eC b.rs).length %4=0
 ok:∀r∈b.rs,r.Ok/\(0<=r.m.ck/\r.m.ck<=65535)/\(r.m.kd=0->r.m.of+r.m.ln<=f.B.size)
 part:0<=b.ft.part/\b.ft.part<=9223372036854775807
 cache:f.C.length+1048576<=1099511627776
 cl:∀i,i<=b.rs.length->(k.answers (f.dk.change b.rs b.ft).B b.ft (b.rs.take i)).OL
def ZF(a:Ft):((xC a).toNat:Int)=if a.eU then 5 else 0:=by unfold xC;split<;>rfl
def afK(B)(e:En)(h:0<=e.ln/\e.ln<=65535):(nL B e).size<=65535:=by
 unfold nL;split
 ·show(B.extract _ _).size<=_;rw[Array.size_extract];omega
 ·show(0:Nat)<=_;omega
def D7(w:az)(f:Fx)(xb:Nat)(L:dy)(b:Jb)(lj:Lj)(k:Ck)(h:aL w f xb L)(hj:fj w L.own L.cs b lj)(hk:f.K[b.s]? =aa (aa k))(ok:BD f b k)(I7:OQ w f xb L b lj):
  Calls prog 106 #[jp lj.j,jp L.d] w λe u=>∃v z lc,e=aM v/\nR w L f xb b lj k lc.c b.rs.length v u z lc:=by
 obtain⟨lc,q1,q2,q3⟩:=hj;obtain⟨r0,t0,Cg,o0,o1,o2⟩:=ok.ne;have hm:b.rs.length<=1048576:=dM ok.many ak;obtain⟨qa,qc,dL,_⟩:=q2.row.form;have bY:b.s<f.K.length:=(dS.1 hk).1
 have HC:Hid (Calls prog 161 #[jp lj.j,jp L.d] w λe u=>e=aM (.tuple #[])/\∃L1,nR w L f xb b lj k lc.c 0 (.slice ay 0 0) u L1 lc):=by
  refine I7.mono ?_;rintro e u ⟨rfl,z,p1,M,p3,p4,p5,bw,p6⟩;obtain⟨n1,n2⟩:=Lk p1 p3
  have e0:f.dn b k 0=f.CK (f.dk.change b.rs b.ft):=by have:f.K.set b.s (aa k)=f.K:=wu hk;show{f.CK (f.dk.change b.rs b.ft)with K:=f.K.set b.s (aa k)}=_;rw[this]
  exact⟨rfl,{z with own:=gu z.own u.heap.size 0},⟨by rw[e0];exact n1,n2,M.trans ⟨λx q=>iO q,bh.refl _ _⟩,p4,by rw[<-q1];exact dZ (λl=>l[b.s]?) p5,rfl,⟨rfl,aF ⟨rfl,rfl⟩⟩,λg e=>(by cases e),λx q=>uw q,bw⟩⟩
 have U:Hid (∀i v W L1 l1,nR w L f xb b lj k lc.c i v W L1 l1->eP W lj.j lc.c (.slice qa b.rs.length qc) b.rs b.ft b.due b.order/\W.cell? (aj lc.c 0)=aa (an k.no)/\jF W L.d L1.bb L1.db L1.cv f.B.size (f.dk.change b.rs b.ft).B (f.dk.change b.rs b.ft).D (f.dk.change b.rs b.ft).C):=λi v W L1 l1 G=>by
  obtain⟨I,u1,u2,u3⟩:=G.nE;have el:I=l1:=by rw[G.aG]at u1;exact(dP (dP u1)).symm
  rw[el,G.c]at u2;have eH:eP W lj.j lc.c lj.rv b.rs b.ft b.due b.order:=u2;obtain⟨J,s1,s2,s3⟩:=G.fx.sat (s:=b.s) (k:=k.answers (f.dk.change b.rs b.ft).B b.ft (b.rs.take i)) (qJ bY);have c9:J=l1:=by rw[G.aG]at s1;exact(dP (dP s1)).symm
  subst c9;have c0:=aS W J.c 0 (an (k.answers (f.dk.change b.rs b.ft).B b.ft (b.rs.take i)).no) s2.p.box;rw[Ju,G.c]at c0;have Q:=G.fx.fO;rw[G.d]at Q;have dh:(f.dk.change b.rs b.ft).B.size=f.B.size:=JC _ _ _;refine⟨by rw[<-dL];exact eH,c0,?_⟩;have Q:jF W L.d L1.bb L1.db L1.cv (f.dk.change b.rs b.ft).B.size (f.dk.change b.rs b.ft).B (f.dk.change b.rs b.ft).D (f.dk.change b.rs b.ft).C:=Q;rw[dh]at Q;exact Q
 obtain⟨iE,dA,nC,dU,nD⟩:=qO RX;have bF:=ok;have RJ:=ok.many;clear h ok Cg o0 o1 o2 q2 q3;clear hk hm;go_enter func106,ntmps106;go_wp2_with (go_at_call 161;refine HC.out.mono ?_;rintro e w1 ⟨rfl,L1,aU⟩;have cS:Hid (nR w L f xb b lj k lc.c 0 (.slice ay 0 0) w1 L1 lc):=aU;have j1:w1.cell? (aj lj.j 1)=aa (.slice qa b.rs.length qc):=aI (U.out _ _ _ _ _ aU).1.box rfl;clear aU)
 go_loopw [5,17] (λvv iv wr=>∃i v L1 l1,i<=b.rs.length/\iv=an (i:Int)/\vv=v/\Hid (nR w L f xb b lj k lc.c i v wr L1 l1)) (λ_ iv _=>b.rs.length-(eY iv).toNat)
 case atStart=>exact⟨0,_,L1,lc,eZ _,rfl,rfl,cS.out⟩
 case round=>
  obtain⟨i,v,o,I,hi,rfl,hv,hR⟩:=hrel;subst hv
  by_cases dF:i<b.rs.length
  ·have h4:(i:Int)<(b.rs.length:Int):=ak;obtain⟨r,hr⟩:∃r,b.rs[i]? =aa r:=⟨b.rs[i],eI dF⟩;obtain⟨gb,rfl,k0,k1,k2,k3,k4,k5,k6,k7,k8,k9⟩:=(U.out _ _ _ _ _ hR.out).1.row.at hr;have R:=hR.out.below (Px wr r);have HE:Hid (bN 162 #[jp lj.j,.agg (aO r)] (lG wr r) (.agg (iK (pq k.no r b.ft.eU)))):=ZC lj.j lc.c _ b.rs b.ft b.due b.order k.no r _ (U.out _ _ _ _ _ R).1 (U.out _ _ _ _ _ R).2.1;have HD:Hid (nR w L f xb b lj k lc.c i u5 (lG wr r) o I):=R;have HX:Hid ((lG wr r).heap[wr.heap.size]? =aa (aA (aO r) 134 (0,0))):=cG wr _;have HI:Hid (i<=65536):=by show i<=65536;omega
   generalize Y:pq k.no r b.ft.eU=a at*;clear R;have UM:True:=trivial
   go_upto_region 8 with(first|(go_at_call 162;refine HE.out.mono ?_;rintro e n ⟨rfl,X⟩;have af:Hid (nR w L f xb b lj k lc.c i u5 ((n.alloc (aA (iK a) 96)).alloc (aA (iK a) 96)) o I):=((HD.out.below X).below (bp)).below (bp))|(at_builtin;have _t:=UM;refine wpList_append_lies _ (by rfl) _ _ 93 (by rfl) 0 96 iE _ 7 56 underlying93 dA nC dU nD (by rfl) ak u5 i ((nA b k i).flatMap mI) (by rfl) af.out.row ⟨n.heap.size+1,0,ay⟩ 1 1 (mI a) (by rfl) (by rfl) (Bi (CV n _ _)) (by simp[za]) ak (by have:=HI.out;unfold cC;omega) (by have:=HI.out;omega) aC (n.heap.size+2) aC ?_;intro g bQ t RM Kt bU b7;clear UM))
   have bV:aN n ((n.alloc (aA (iK a) 96)).alloc (aA (iK a) 96)):=((Below.refl _ n).alloc (bD _) _).alloc aC _;have N:=af.out.aae hr (by rw[Y]) RM Kt (bU.imp id λe=>by rw[e];simp)
   have b8:∀x,wr.heap.size<=x->aa x≠u5.ownBlock:=λx q e=>by have:=zV hR.out.row e.symm;omega
   have iN:(lG wr r).heap.size<=n.heap.size:=X.size;have dN:wr.heap.size+1<=n.heap.size:=by simpa using iN
   have key:∀x,wr.heap.size<=x->x<n.heap.size+2->t.heap[x]? =((n.alloc (aA (iK a) 96)).alloc (aA (iK a) 96)).heap[x]? :=λx H q=>Kt.block x cq (b8 x H);have X1:t.heap[wr.heap.size]? =aa (aA (aO r) 134 (0,0)):=(key _ (bD _) ak).trans (bW bV (bW X HX.out));have A:t.heap[n.heap.size]? =aa (aA (iK a) 96 (0,0)):=(key _ ak ak).trans (CW n _ _);obtain⟨N1,N2,N3,N4,V,N6⟩:=N;obtain⟨lx,Z,y2,y3⟩:=N2;have bS:lx=I:=by rw[hR.out.aG]at Z;exact(dP (dP Z)).symm
   have J0:t.cell? (aj lj.j 0)=aa (jp lc.c):=by have:=aI y2.box (i:=0) (v:=jp lx.c) rfl;rw[bS,hR.out.c]at this;exact this
   have dG:r∈b.rs:=lf hr;obtain⟨O,r2,r3⟩:=bF.ok r dG;have E:a.kd=r.m.kd/\a.of=r.m.of/\a.ln=r.m.ln/\a.er=if b.ft.eU then 5 else 0:=by rw[<-Y];exact⟨rfl,rfl,rfl,rfl⟩
   have bR:jF t L.d o.bb o.db o.cv f.B.size (f.dk.change b.rs b.ft).B (f.dk.change b.rs b.ft).D (f.dk.change b.rs b.ft).C:=by have H:=N1.fO;rw[hR.out.d]at H;have H:jF t L.d o.bb o.db o.cv (f.dk.change b.rs b.ft).B.size (f.dk.change b.rs b.ft).B (f.dk.change b.rs b.ft).D (f.dk.change b.rs b.ft).C:=H;rw[JC]at H;exact H
   have HT:Hid (∀W,aN t W->bN 164 #[jp L.d,.agg (iK a)] W (.string (nL (f.dk.change b.rs b.ft).B a))):=λW F=>by
    by_cases hc:a.kd=0/\a.er=0
    ·refine afN L.d o.bb o.db f.B.size o.cv a _ _ _ W (bR.below F) hc ?_ ?_ ?_
     ·rw[E.2.1];exact O.of0
     ·rw[E.2.2.1];exact O.mL
     ·rw[E.2.1,E.2.2.1];exact r3 (E.1▸hc.1)
    ·exact afL L.d a _ W hc
   have bT:((xC b.ft).toNat:Int)=a.er:=by rw[ZF,E.2.2.2]
   have HA:Hid (∀W,aN t W->Calls prog 163 #[jp lc.c,.agg (aO r),an a.er,.string (nL (f.dk.change b.rs b.ft).B a)] W λe u=>e=aM (.tuple #[])/\∃L3 J,nR w L f xb b lj k lc.c (i+1) (.slice (aa (aj g 0)) (i+1) bQ) u L3 J):=λW F=>by
    have bX:∀x,x<t.heap.size->W.heap[x]? =t.heap[x]? :=λx q=>F.block x q;have dD:(f.dn b k i).K[b.s]? =aa (aa (k.answers (f.dk.change b.rs b.ft).B b.ft (b.rs.take i))):=qJ bY;have:=acr (W:=W) (b:=b) (lj:=lj) (N1.below F) (fj.aside (T:=λ_=>False) ⟨λx q _=>bX x q,λ_ _=>rfl⟩ ⟨lx,Z,y2,y3⟩ (pN _) (λe=>e)) dD hR.out.aG r (xC b.ft) (nL (f.dk.change b.rs b.ft).B a) O r2 (afK _ _ (by rw[E.2.2.1];exact⟨O.mL,O.qx⟩)) (bF.cl i hi);rw[hR.out.c,bT]at this;refine this.mono ?_;rintro e u ⟨rfl,z,R8,p1,M,p3,p4,p5,p6,bw,p7⟩;obtain⟨n1,n2⟩:=Lk p1 p3
    have e1:f.dn b k (i+1)=(f.dn b k i).at b.s ((k.answers (f.dk.change b.rs b.ft).B b.ft (b.rs.take i)).uf r (xC b.ft) (nL (f.dk.change b.rs b.ft).B a)):=by rw[at_at];show(f.CK _).at b.s _=_;rw[XJ hr];unfold Ck.hrd;rw[Ju,Y]
    have Kr:g<t.heap.size:=b7
    have dr:z.own g=0:=by have e2:=M.own g (dI Kr F.size);rw[e2];exact V.1
    have eF:u.ownsRow 0 96 7 (.slice (aa (aj g 0)) (i+1) bQ) (i+1) ((nA b k (i+1)).flatMap mI):=by refine eL (eL N4 λx e=>bX x (zV N4 e)) λx e=>?_;cases e;exact M.cI.block g (dI Kr F.size) (λh=>h V.1)
    have dR:bJ w L W o:=N3.trans ⟨λ_ _=>rfl,.below F⟩
    exact⟨rfl,{z with own:=gu z.own u.heap.size 0},R8,by rw[e1];exact n1,n2,(dR.trans M).trans ⟨λx q=>iO q,bh.refl _ _⟩,p4.trans hR.out.d,p5,p6,eF,λx e=>by cases e;refine⟨?_,V.2⟩;show gu z.own u.heap.size 0 g=0;rw[iO (dI (dI Kr F.size) M.cI.size)];exact dr,λx q=>uw q,bw.trans hR.out.lv⟩
   have S0:cu t wr.heap.size r:=cu.of X1;have z0:=aI A (i:=0) (v:=an a.no) rfl;have z1:=aI A (i:=1) (v:=an a.ck) rfl;have z2:=aI A (i:=2) (v:=an a.kd) rfl;have z3:=aI A (i:=3) (v:=an a.fl) rfl;have z4:=aI A (i:=4) (v:=an a.of) rfl;have z5:=aI A (i:=5) (v:=an a.ln) rfl;have z6:=aI A (i:=6) (v:=an a.er) rfl;generalize nL (f.dk.change b.rs b.ft).B a=TB at*;clear N1 N3 N4 V N6 Z y2 y3 bR E bT O r2 r3 key X1 A b8 RM Kt bU b7 af HD HX HE bV X Y k0 k1 k2 k3 k4 k5 k6 k7 k8 k9 iN dN bS;refine iD ?_;refine dY (S:=λW=>(W.cell? (aj lj.j 0)=aa (jp lc.c)/\cu W wr.heap.size r/\W.cell? (aj n.heap.size 0)=aa (an a.no)/\W.cell? (aj n.heap.size 1)=aa (an a.ck)/\W.cell? (aj n.heap.size 2)=aa (an a.kd)/\W.cell? (aj n.heap.size 3)=aa (an a.fl)/\W.cell? (aj n.heap.size 4)=aa (an a.of)/\W.cell? (aj n.heap.size 5)=aa (an a.ln)/\W.cell? (aj n.heap.size 6)=aa (an a.er))) 10 aT ⟨J0,S0,z0,z1,z2,z3,z4,z5,z6⟩ ?_;intro hS;refine gk 0 ?_;refine gk 1 ?_;refine gk 2 ?_;refine gs 3 ?_;refine gs 4 ?_;refine gk 5 ?_;refine gs 6 ?_;refine gk 7 ?_;refine gs 8 ?_;refine gr 9 λK P=>?_;go_simp;go_at_call 164;refine(HT.out _ (Below.refl _ _).drew).mono ?_;rintro e w6 ⟨rfl,y⟩;refine P.out _ _ ⟨bO y J0,cu.old (W:=t.drew) S0 y,bO y z0,bO y z1,bO y z2,bO y z3,bO y z4,bO y z5,bO y z6⟩ (λeW=>?_);clear P K;refine gz λK P=>?_;go_simp;go_at_call 163;refine(HA.out _ ((Below.refl _ _).drew.trans y)).mono ?_;rintro e w7 ⟨rfl,L3,J,dm⟩;refine P.out _ _ ?_;clear P K;refine ef aT ?_ _;refine gE ?_;go_wp2_with fail;refine⟨⟨i+1,_,L3,J,ak,by go_num,rfl,dm⟩,?_⟩;simp[eY];omega
  ·have h4:¬(i:Int)<(b.rs.length:Int):=ak;have e:i=b.rs.length:=ak;subst e;go_wp2;go_ret;exact⟨u5,rfl,o,I,by rw[hR.out.c];exact hR.out⟩
end
end Go.Proofs.YtpobhljcainmdaaGreat
