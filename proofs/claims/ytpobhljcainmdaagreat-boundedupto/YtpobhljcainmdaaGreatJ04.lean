/- Parts of the proof. -/
import Derived.Laws.OwnMore
import Derived.Lib.Builder
import Derived.Lib.Repeat
import Derived.Test.YtpobhljcainmdaaGreatJ03
set_option maxRecDepth 100000
set_option maxHeartbeats 8000000
set_option linter.all false
namespace Go.Proofs.YtpobhljcainmdaaGreat
open Go renaming heap_alloc_new->cw,World->az,wp_region_noPanic->iJ,Value->aE,callsIn_wide->fP,bodyPost_ret->gO,below_drewN->iX,run_takeDeferred->wN,grownBy_putObj'->Dj,maxLen->cY,callsIn_of_wp_marks->VH,info_parts->aly,run_convert_bytes_back->VK
open Go.World renaming putObj_heap_other->fj,cell?_of_block->fX,ownsRow_nil->tD,size_alloc->AB,news_of_block->Dg,grownBy_alloc->pP
open Go.Value renaming slice->ff,ownBlock->pN,cells->Az,oneCell'->Vy,pointer->AA
open Go.Lib renaming strCells->jE,byteCells->lD,IsBuilder->rB,BuilderAt->CG,repeatL->Ak,byteCells_length->UR,strCells_length->US
open Go.NoPanic renaming normal->gT
open Go.CallsIn renaming inRound->mJ
open Go.IntKind renaming i64->eP,signed->UP,bits->UO
open Go.Fence renaming wide->jW
open Go.Calls renaming quiet_of_same->GA
open Go.Maps renaming setOf->Ar,int_keyed->CX,keyOf_int_mk->Vk
open Go.RowKit renaming intOf->gU
open _root_.List renaming mem_of_find?_eq_some->Vb,replicate->nG,filter_map->UW,range->eF
open _root_.Nat renaming reduceAdd->pM,reduceSub->alA,exists_eq_add_of_le->Vm,lt_trichotomy->Vn
open Go.Builtin renaming append_->nY,zeroCells->mH
open Go.WideAt renaming IsKeyLit->Na
open Go.Lit renaming int->CW
open _root_.Int renaming toNat_natCast->UN
open Go.Instr renaming makeSlice->Cz
open Go.Code renaming wp->GC
open Go.DataW renaming insert->UC
open _root_.UInt8 renaming ofNat->HV
open Go renaming undef->au
open Go.Ending renaming returned->aN
open Go.Obj renaming cells->aA
open _root_.Bool renaming false->av,true->aq
open _root_.Option renaming none->ay,some->aa
open _root_.Or renaming inl->aF,inr->aD
section
attribute [local go_sem ↓] Go.wp_at_zero Go.wp_at_succ
attribute [local go_sem] bP bF
open Go.Proofs.Tryz
open Go.RowKit
def Below.drew'{B w W}(h:Below B w W):Below B w W.drew:=⟨h.os,h.tape,h.output,h.size,h.block⟩
def cK{B w W}(h:Below B w W)(k v):Below B w (W.setCell (aj B k) v):=Below.setCell h (bC _) _
def DU{B w W}(h:Below B w W)(v0 v1 v2 v3 v4 v5 v6 v7 v8 v9):Below B w ((((((((((W.setCell (aj B 0) v0).setCell (aj B 1) v1).setCell (aj B 2) v2).setCell (aj B 3) v3).setCell (aj B 4) v4).setCell (aj B 5) v5).setCell (aj B 6) v6).setCell (aj B 7) v7).setCell (aj B 8) v8).setCell (aj B 9) v9).drew:=
 Below.drew' (cK (cK (cK (cK (cK (cK (cK (cK (cK (cK h _ _) _ _) _ _) _ _) _ _) _ _) _ _) _ _) _ _) _ _)
abbrev kM:aK aE:=#[an 0,.string ⟨#[]⟩,an 0,an 0,an 0,an 0,an 0,.string ⟨#[]⟩,an 0,an 0]
abbrev kX(W:az)(b:Nat):Prop:=W.heap[b]? =aa (aA kM 134 (0,0))
def aan(c v r q tok w)(h:w.cell? (aj c 13)=aa v)(D:iL w v (r::q))(E:w.cell? (aj c 17)=aa (an tok))(h0:¬0<tok):
  bO 204 #[jp c] w (.tuple #[.agg (aM r),.bool av]):=by
 have C:c<w.heap.size:=gH h;have s:aL w (w.alloc (aA kM 134)):=bf;have B:kX (w.alloc (aA kM 134)) w.heap.size:=cw w _
 have R:Hid (Calls prog 78 #[jp c] (w.alloc (aA kM 134)) λe u=>e=aN (.tuple #[.agg (aM r),.bool aq])/\aL w u/\kX u w.heap.size/\w.heap.size<u.heap.size):=by refine(Eu c v r q _ ((fX (a:=aj c 13) (s.block c C)).trans h) (vN D s)).mono ?_;rintro e u ⟨rfl,z⟩;exact⟨rfl,s.trans (z.mono s.size),bV z B,by have:=z.size;simp at this;omega⟩
 have T:Hid (∀W,aL w W->W.cell? (aj c 17)=aa (an tok)):=λW X=>(fX (a:=aj c 17) (X.block c C)).trans E;obtain⟨⟨p,n,m,l,g,of,ln,i,j⟩,no⟩:=r;clear h D E s B;go_enter func204,ntmps204
 go_upto_region 2 with(go_at_call 78;refine R.out.mono ?_;rintro e o ⟨rfl,A,F,bg⟩)
 have y:aL o (o.alloc (aA (aM ⟨⟨p,n,m,l,g,of,ln,i,j⟩,no⟩) 134)):=bf;have t:(o.alloc (aA (aM ⟨⟨p,n,m,l,g,of,ln,i,j⟩,no⟩) 134)).heap[o.heap.size]? =aa (aA (aM ⟨⟨p,n,m,l,g,of,ln,i,j⟩,no⟩) 134 (0,0)):=cw o _;have x:=aT (A.trans (y.mono A.size));have s0:(o.alloc (aA (aM ⟨⟨p,n,m,l,g,of,ln,i,j⟩,no⟩) 134)).cell? (aj c 17)=aa (an tok)/\cu (o.alloc (aA (aM ⟨⟨p,n,m,l,g,of,ln,i,j⟩,no⟩) 134)) o.heap.size ⟨⟨p,n,m,l,g,of,ln,i,j⟩,no⟩:=⟨T.out _ x.out,cu.of t⟩;have d:kX (o.alloc (aA (aM ⟨⟨p,n,m,l,g,of,ln,i,j⟩,no⟩) 134)) w.heap.size:=bV y F;clear y t F A;generalize o.alloc (aA (aM ⟨⟨p,n,m,l,g,of,ln,i,j⟩,no⟩) 134)=f at*;have G:=aO f w.heap.size 0 (an 0) d;have H:=aO f w.heap.size 1 (.string ⟨#[]⟩) d;have I:=aO f w.heap.size 2 (an 0) d;have J:=aO f w.heap.size 3 (an 0) d;have L:=aO f w.heap.size 4 (an 0) d;have M:=aO f w.heap.size 5 (an 0) d;have N:=aO f w.heap.size 6 (an 0) d;have O:=aO f w.heap.size 7 (.string ⟨#[]⟩) d;have P:=aO f w.heap.size 8 (an 0) d;have Q:=aO f w.heap.size 9 (an 0) d;have fz:∀k,f.frozen? (aj w.heap.size k)=av:=λk=>bz d k;refine eD (S:=λ_=>True) trivial λaV=>?_;obtain⟨bh,Y,m1,m2,Z,m4,m5,m6,m7,m8,m9⟩:=s0;dsimp only at Y m1 m2 Z m4 m5 m6 m7 m8 m9;clear d;have aS:decide (0<tok)=av:=iY ak;refine tk 1 ?_;refine tk 2 ?_;refine tk 3 ?_;refine tk 4 ?_;refine tk 5 ?_;refine aH [0,6] (.cons rfl (λK b=>?_) ?_)
 ·go_simp;refine b.out _ _ trivial (λU=>?_);clear b K;refine rH 6 λK b=>?_;go_simp;refine b.out _ _ trivial (λt=>?_);clear b K;refine tk 7 ?_;refine tk 8 ?_;refine tk 9 ?_;refine bL 10 ?_;refine bL 11 ?_;refine bL 12 ?_;refine bL 13 ?_;refine bL 14 ?_;refine tk 15 ?_;refine rH 16 λK b=>?_;go_simp;refine b.out _ _ trivial (λV=>?_);clear b K;refine tk 17 ?_;refine dc ?_;go_wp2;refine gO (v:=.tuple #[.agg (aM ⟨⟨p,n,m,l,g,of,ln,i,j⟩,no⟩),.bool av]) (by simp[results,results204,go_sem,G,H,I,J,L,M,N,O,P,Q]) rfl ⟨rfl,?_⟩;exact DU x.out _ _ _ _ _ _ _ _ _ _
 refine .cons rfl (λK b=>?_) .nil;go_simp;refine b.out _ _ trivial (λU=>?_);clear b K;refine tk 7 ?_;refine tk 8 ?_;refine tk 9 ?_;refine bL 10 ?_;refine bL 11 ?_;refine bL 12 ?_;refine bL 13 ?_;refine bL 14 ?_;refine tk 15 ?_;refine rH 0 λK b=>?_;go_simp;refine b.out _ _ trivial (λt=>?_);clear b K;refine rH 16 λK b=>?_;go_simp;refine b.out _ _ trivial (λV=>?_);clear b K;refine tk 17 ?_;refine dc ?_;go_wp2;refine gO (v:=.tuple #[.agg (aM ⟨⟨p,n,m,l,g,of,ln,i,j⟩,no⟩),.bool av]) (by simp[results,results204,go_sem,G,H,I,J,L,M,N,O,P,Q]) rfl ⟨rfl,?_⟩;exact DU x.out _ _ _ _ _ _ _ _ _ _
def WO{B w W}(h:Below B w W)(v0 v1 v2 v3 v4 v5 v6 v7 v8 v9 m):Below B w (((((((((((W.setCell (aj B 0) v0).setCell (aj B 1) v1).setCell (aj B 2) v2).setCell (aj B 3) v3).setCell (aj B 4) v4).setCell (aj B 5) v5).setCell (aj B 6) v6).setCell (aj B 7) v7).setCell (aj B 8) v8).setCell (aj B 9) v9).drewN m):=
 iX (cK (cK (cK (cK (cK (cK (cK (cK (cK (cK h _ _) _ _) _ _) _ _) _ _) _ _) _ _) _ _) _ _) _ _) _
abbrev oI(W:az)(c:Nat)(tok:Int)(b:Nat)(r:Rq):Prop:=W.cell? (aj c 17)=aa (an tok)/\cu W b r
def oI.old{W W' c b tok r}(h:oI W c tok b r)(q:aL W W'):oI W' c tok b r:=by have e:∀{a k:Nat} {v:aE},W.cell? (aj a k)=aa v->W'.cell? (aj a k)=aa v:=λ{a k v} d=>(fX (q.block a (gH d))).trans d;obtain⟨p,f,a1,g,a3,i,j,l,m,n,o⟩:=h;exact⟨e p,e f,e a1,e g,e a3,e i,e j,e l,e m,e n,e o⟩
def oI.put{W c b B tok r}(h:oI W c tok b r)(hc:c≠B)(a:b≠B)(k v):oI (W.setCell (aj B k) v) c tok b r:=by obtain⟨n,d,a1,e,a3,f,g,i,j,l,m⟩:=h;exact⟨gy n hc,gy d a,gy a1 a,gy e a,gy a3 a,gy f a,gy g a,gy i a,gy j a,gy l a,gy m a⟩
def oI.drewN{W c b tok r}(h:oI W c tok b r)(m):oI (W.drewN m) c tok b r:=h
def aao(c n cap oa prom E v r q tok w)(h:w.cell? (aj c 13)=aa v)(R:iL w v (r::q))(T:w.cell? (aj c 17)=aa (an tok))(h0:0<tok)(hr:r.Ok)(hn:n<=4194304)(hp:0<=prom/\prom<=4194304)(O:w.cell? (aj c 16)=aa (.slice oa n cap))(Q:w.cell? (aj c 15)=aa (an prom))(P:w.cell? (aj c 10)=aa (an E)):
  bO 204 #[jp c] w (.tuple #[.agg (aM r),.bool (decide ((n:Int)+prom+sizeOf' r.m<=E))]):=by
 have L:c<w.heap.size:=gH h;have D:aL w (w.alloc (aA kM 134)):=bf;have N:kX (w.alloc (aA kM 134)) w.heap.size:=cw w _
 have Z:Hid (Calls prog 78 #[jp c] (w.alloc (aA kM 134)) λe B=>e=aN (.tuple #[.agg (aM r),.bool aq])/\aL w B/\kX B w.heap.size/\w.heap.size<B.heap.size):=by refine(Eu c v r q _ ((fX (a:=aj c 13) (D.block c L)).trans h) (vN R D)).mono ?_;rintro e B ⟨rfl,I⟩;exact⟨rfl,D.trans (I.mono D.size),bV I N,by have:=I.size;simp at this;omega⟩
 have HT:Hid (∀W,aL w W->W.cell? (aj c 17)=aa (an tok)):=λW z=>(fX (a:=aj c 17) (z.block c L)).trans T
 have HM:Hid (∀W,aL w W->(bO 201 #[.agg (jR r.m.wh r.m.nm r.m.kd r.m.fl r.m.ck r.m.of r.m.ln r.m.dt r.m.er)] W (an (sizeOf' r.m)))/\Calls prog 225 #[jp c,an (sizeOf' r.m)] W λe B=>e=aN (.bool (decide ((n:Int)+prom+sizeOf' r.m<=E)))/\∃m,B=W.drewN m):=λW z=>by
  have old:∀(k:Nat) (x:aE),w.cell? (aj c k)=aa x->W.cell? (aj c k)=aa x:=λk x hx=>(fX (a:=aj c k) (z.block c L)).trans hx
  have hs:0<=sizeOf' r.m/\sizeOf' r.m<=131072:=by have h1:=hr.mE;have h2:=hr.qb;unfold sizeOf';split<;>omega
  exact⟨FB r.m W hr.mE hr.qb,Jv c W oa n cap _ prom E hn hs hp (old _ _ O) (old _ _ Q) (old _ _ P)⟩
 generalize sizeOf' r.m=sm at*;generalize decide ((n:Int)+prom+sm<=E)=ok at*;obtain⟨⟨t,s,p,j,f,of,ln,g,i⟩,no⟩:=r;clear h R T D N O Q P hr;go_enter func204,ntmps204
 go_upto_region 2 with(go_at_call 78;refine Z.out.mono ?_;rintro e b ⟨rfl,J,U,bG⟩)
 have G:aL b (b.alloc (aA (aM ⟨⟨t,s,p,j,f,of,ln,g,i⟩,no⟩) 134)):=bf;have H:(b.alloc (aA (aM ⟨⟨t,s,p,j,f,of,ln,g,i⟩,no⟩) 134)).heap[b.heap.size]? =aa (aA (aM ⟨⟨t,s,p,j,f,of,ln,g,i⟩,no⟩) 134 (0,0)):=cw b _;have y:=aT (J.trans (G.mono J.size));have X:oI (b.alloc (aA (aM ⟨⟨t,s,p,j,f,of,ln,g,i⟩,no⟩) 134)) c tok b.heap.size ⟨⟨t,s,p,j,f,of,ln,g,i⟩,no⟩:=⟨HT.out _ y.out,cu.of H⟩;have V:kX (b.alloc (aA (aM ⟨⟨t,s,p,j,f,of,ln,g,i⟩,no⟩) 134)) w.heap.size:=bV G U;clear G H U J;generalize b.alloc (aA (aM ⟨⟨t,s,p,j,f,of,ln,g,i⟩,no⟩) 134)=M at*
 have F:Hid (∀W,aL M W->(W.cell? (aj w.heap.size 0)=aa (an 0)/\W.cell? (aj w.heap.size 1)=aa (.string ⟨#[]⟩)/\W.cell? (aj w.heap.size 2)=aa (an 0)/\W.cell? (aj w.heap.size 3)=aa (an 0)/\W.cell? (aj w.heap.size 4)=aa (an 0)/\W.cell? (aj w.heap.size 5)=aa (an 0)/\W.cell? (aj w.heap.size 6)=aa (an 0)/\W.cell? (aj w.heap.size 7)=aa (.string ⟨#[]⟩)/\W.cell? (aj w.heap.size 8)=aa (an 0)/\W.cell? (aj w.heap.size 9)=aa (an 0))/\(∀k,W.frozen? (aj w.heap.size k)=av)/\oI W c tok b.heap.size ⟨⟨t,s,p,j,f,of,ln,g,i⟩,no⟩):=λW z=>by have d:=bV z V;exact⟨⟨aG d rfl,aG d rfl,aG d rfl,aG d rfl,aG d rfl,aG d rfl,aG d rfl,aG d rfl,aG d rfl,aG d rfl⟩,λk=>bz d k,X.old z⟩
 have o:c≠w.heap.size:=ak;have l:b.heap.size≠w.heap.size:=ak;have bw:decide (0<tok)=aq:=jI h0;clear V;refine eD (S:=λW=>oI W c tok b.heap.size ⟨⟨t,s,p,j,f,of,ln,g,i⟩,no⟩) X λbF=>?_;refine tk 0 ?_;refine tk 1 ?_;refine tk 2 ?_;refine tk 3 ?_;refine tk 4 ?_;refine tk 5 ?_;refine tk 6 ?_;refine tk 7 ?_;refine tk 8 ?_;refine tk 9 ?_;refine tk 10 ?_;refine tk 11 ?_;refine tk 12 ?_;refine rH 13 λK u=>?_;go_simp;go_at_call 201;refine(HM.out _ (Below.drew' y.out)).1.mono ?_;rintro e w2 ⟨rfl,A⟩;have C:Hid (aL M w2):=⟨A.os,A.tape,A.output,A.size,A.block⟩;refine u.out _ _ (F.out _ C.out).2.2 (λhA=>?_);clear u K A;refine rH 14 λK u=>?_;go_simp;go_at_call 225;refine(HM.out _ (y.out.trans (C.out.mono y.out.size))).2.mono ?_;rintro e w3 ⟨rfl,m,rfl⟩;refine u.out _ _ ((F.out _ C.out).2.2.drewN m) (λH=>?_);clear u K;obtain⟨⟨z0,z1,z2,z3,z4,z5,z6,z7,z8,z9⟩,fz,Y⟩:=F.out _ C.out;have af:=aT Y;clear Y;refine tk 15 ?_;refine rH 16 λK u=>?_;go_simp;refine u.out _ _ (oI.drewN (((((((((((af.out.put o l _ _).put o l _ _).put o l _ _).put o l _ _).put o l _ _).put o l _ _).put o l _ _).put o l _ _).put o l _ _).put o l _ _)) m) (λhC=>?_);clear u K;refine tk 17 ?_;refine dc ?_;go_wp2;refine gO (v:=.tuple #[.agg (aM ⟨⟨t,s,p,j,f,of,ln,g,i⟩,no⟩),.bool ok]) (by simp[results,results204,go_sem,z0,z1,z2,z3,z4,z5,z6,z7,z8,z9]) rfl ⟨rfl,?_⟩;exact WO (y.out.trans (C.out.mono y.out.size)) _ _ _ _ _ _ _ _ _ _ m
def needs(q:aB Rq):Int:=match q with
 |[]=>6
 |r::_=>6+sizeOf' r.m
def aaZ(c n cap oa prom a v r q w)(h:w.cell? (aj c 13)=aa v)(y:iL w v (r::q))(hr:r.Ok)(o:n<=4194304)(t:0<=prom/\prom<=4194304)(p:w.cell? (aj c 16)=aa (.slice oa n cap))(u:w.cell? (aj c 15)=aa (an prom))(s:w.cell? (aj c 10)=aa (an a)):
  bO 188 #[jp c] w (.bool (decide ((n:Int)+prom+needs (r::q)<=a))):=by
 have g:=aT (Eu c v r q w h y)
 have H:0<=sizeOf' r.m/\sizeOf' r.m<=65539:=by have F:=hr.mE;have G:=hr.qb;unfold sizeOf';split<;>omega
 have HM:Hid (∀W,aL w W->(Calls prog 201 #[.agg (jR r.m.wh r.m.nm r.m.kd r.m.fl r.m.ck r.m.of r.m.ln r.m.dt r.m.er)] W λe b=>e=aN (an (sizeOf' r.m))/\aL w b)/\Calls prog 225 #[jp c,an (6+sizeOf' r.m)] W λe b=>e=aN (.bool (decide ((n:Int)+prom+(6+sizeOf' r.m)<=a)))/\aL w b):=λW d=>by
  have old:∀(k:Nat) (x:aE),w.cell? (aj c k)=aa x->W.cell? (aj c k)=aa x:=λk x z=>(fX (d.block c (gH h))).trans z;constructor
  ·refine(FB r.m W hr.mE hr.qb).mono ?_;rintro e b ⟨rfl,i⟩;exact⟨rfl,d.trans (i.mono d.size)⟩
  ·refine(Jv c W oa n cap _ prom a o ⟨ak,ak⟩ t (old _ _ p) (old _ _ u) (old _ _ s)).mono ?_;rintro e b ⟨rfl,m,rfl⟩;exact⟨rfl,iX d _⟩
 have e:needs (r::q)=6+sizeOf' r.m:=rfl;rw[e];generalize sizeOf' r.m=A at*;generalize decide ((n:Int)+prom+(6+A)<=a)=ok at*;obtain⟨⟨N,J,I,E,B,of,ln,C,D⟩,no⟩:=r;go_enter func188,ntmps188
 go_wp2_with (first
  |(go_at_call 78;refine g.out.mono ?_;rintro e K ⟨rfl,f⟩)
  |(go_at_call 201;refine(HM.out _ (f.trans (bf.mono f.size))).1.mono ?_;rintro e L ⟨rfl,j⟩)
  |(go_at_call 225;refine(HM.out _ j).2.mono ?_;rintro e M ⟨rfl,l⟩))
 go_ret;exact⟨rfl,l⟩
def aaY(c n cap d:Nat)(a i:aY Addr)(prom b:Int)(w:az)(h:w.cell? (aj c 13)=aa (.slice a 0 d))(p:n<=4194304)(s:0<=prom/\prom<=4194304)(q:w.cell? (aj c 16)=aa (.slice i n cap))(t:w.cell? (aj c 15)=aa (an prom))(r:w.cell? (aj c 10)=aa (an b)):
  bO 188 #[jp c] w (.bool (decide ((n:Int)+prom+needs []<=b))):=by
 have l:=aT (Je c d a w h)
 have HM:Hid (∀W,aL w W->Calls prog 225 #[jp c,an 6] W λe j=>e=aN (.bool (decide ((n:Int)+prom+needs []<=b)))/\aL w j):=λW f=>by have old:∀(k:Nat) (x:aE),w.cell? (aj c k)=aa x->W.cell? (aj c k)=aa x:=λk x u=>(fX (f.block c (gH h))).trans u;refine(Jv c W i n cap 6 prom b p ⟨ak,ak⟩ s (old _ _ q) (old _ _ t) (old _ _ r)).mono ?_;rintro e j ⟨rfl,m,rfl⟩;exact⟨rfl,iX f _⟩
 generalize decide ((n:Int)+prom+needs []<=b)=ok at*;go_enter func188,ntmps188
 go_wp2_with (first
  |(go_at_call 78;refine l.out.mono ?_;rintro e v ⟨rfl,g⟩)
  |(go_at_call 225;refine(HM.out _ (g.trans (bf.mono g.size))).mono ?_;rintro e y ⟨rfl,o⟩))
 go_ret;exact⟨rfl,o⟩
def K6(c ch v q qu ok w)(t:w.cell? (aj c 20)=aa (.chan (aa ch)))(u:w.heap[ch]? =aa (.chan 0 #[] av 0 0 av))(h:w.cell? (aj c 13)=aa v)(x:iL w v q)(y:w.cell? (aj c 4)=aa (an qu))(z:∀k,Calls prog 188 #[jp c] (w.drewN k) λe i=>e=aN (.bool ok)/\aL w i):
  bO 151 #[jp c] w (.bool (decide ((q.length:Int)<qu)&&ok)):=by
 obtain⟨a,f,rfl,_⟩:=x.form;have o:=gH h;have j:Hid (∀k,Calls prog 116 #[jp c] (w.drewN k) λe i=>e=aN (.bool av)/\i=w.drewN k):=λk=>zm c ch (w.drewN k) t u;have l:Hid (∀W,aL w W->W.cell? (aj c 13)=aa (.slice a q.length f)/\W.cell? (aj c 4)=aa (an qu)):=λW m=>⟨(fX (m.block c o)).trans h,(fX (m.block c o)).trans y⟩;have d:=l.out _ (Below.refl _ _);generalize q.length=L at*
 by_cases p:(L:Int)<qu
 ·have g:=jI p;rw[g,Bool.true_and];go_enter func151,ntmps151
  go_upto_region 1 with fail
  refine eD (S:=λW=>W.cell? (aj c 13)=aa (.slice a L f)/\W.cell? (aj c 4)=aa (an qu)) d λs=>?_;refine tk 0 ?_;refine rH 1 λK b=>?_;go_simp;go_at_call 116;refine(j.out 1).mono ?_;rintro e A ⟨rfl,rfl⟩;refine b.out _ _ d (λr=>?_);clear b K;refine tk 2 ?_;refine tk 3 ?_;refine tk 4 ?_;refine tk 5 ?_;refine tk 6 ?_;refine tk 7 ?_;refine tk 8 ?_;refine tk 9 ?_;refine tk 10 ?_;refine tk 11 ?_;refine tk 12 ?_;refine tk 13 ?_;refine tk 14 ?_;refine tk 15 ?_;refine tk 16 ?_;refine tk 17 ?_;refine rH 18 λK b=>?_;go_simp;go_at_call 188;refine((aT z).out 1).mono ?_;rintro e C ⟨rfl,n⟩;refine b.out _ _ (l.out _ n) (λB=>?_);clear b K;refine tk 19 ?_;refine tk 20 ?_;refine dc ?_;go_wp2;go_ret;exact⟨rfl,n⟩
 ·have g:decide ((L:Int)<qu)=av:=iY p;rw[g,Bool.false_and];go_enter func151,ntmps151
  go_upto_region 1 with fail
  refine eD (S:=λW=>W.cell? (aj c 13)=aa (.slice a L f)/\W.cell? (aj c 4)=aa (an qu)) d λs=>?_;refine tk 0 ?_;refine rH 1 λK b=>?_;go_simp;go_at_call 116;refine(j.out 1).mono ?_;rintro e A ⟨rfl,rfl⟩;refine b.out _ _ d (λr=>?_);clear b K;refine tk 2 ?_;refine tk 3 ?_;refine tk 4 ?_;refine tk 5 ?_;refine tk 6 ?_;refine tk 7 ?_;refine tk 8 ?_;refine tk 9 ?_;refine tk 10 ?_;refine tk 11 ?_;refine tk 12 ?_;refine tk 13 ?_;refine tk 14 ?_;refine tk 15 ?_;refine tk 16 ?_;refine bL 17 ?_;refine bL 18 ?_;refine tk 19 ?_;refine tk 20 ?_;refine dc ?_;go_wp2;go_ret;exact⟨rfl,iX (Below.refl _ _) _⟩
def nk(er:UInt8)(a:Int)(d:ByteArray):ByteArray:=⟨#[82]⟩++⟨#[er]⟩++⟨(jQ a).toArray⟩++d
def So(er:UInt8)(a d w)(g:0<=a)(h:a<=65535)(o:d.size<=65535):
  bO 202 #[an (er.toNat:Int),an a,.string d] w (.string (nk er a d)):=by
 have f:Hid (∀W,aL w W->Calls prog 238 #[an a] W λe c=>e=aN (.string ⟨(jQ a).toArray⟩)/\aL w c):=λW b=>by refine(Ke a W g h).mono ?_;rintro e c ⟨rfl,i⟩;exact⟨rfl,b.trans (i.mono b.size)⟩
 have p:(⟨(jQ a).toArray⟩:ByteArray).size=2:=rfl;generalize l:(⟨(jQ a).toArray⟩:ByteArray)=m at*;have n:(er.toNat:Int)%256=(er.toNat:Int):=by have:=er.toNat_lt;omega
 have e:nk er a d=⟨#[82]⟩++⟨#[er]⟩++m++d:=by rw[nk,l]
 rw[e];go_enter func202,ntmps202
 go_wp2_with (first
  |(go_at_call 237;refine(Kx er _).mono ?_;rintro e q ⟨rfl,j⟩)
  |(go_at_call 238;refine(f.out _ j).mono ?_;rintro e r ⟨rfl,k⟩))
 go_ret;exact⟨rfl,k⟩
def aeu(c n w)(h:decide (n<0)=aq):
  fu 69 #[aR c,an n] w (.tuple #[.string ⟨#[]⟩,an 5]):=by
 go_enter func69,ntmps69;go_wp2
 go_ret2
 exact⟨rfl,rfl⟩
def XO(b cap w):(convert 158 9 (.slice b 0 cap)).run prog w=.ok (.string ⟨#[]⟩) w:=by
 cases b with
 |some a=>exact VK w 158 9 5 a cap [] underlying158 underlying5 underlying9 (λj c=>by cases c)
 |none=>
  rw[run_convert_bytes_string w 158 9 5 ay 0 cap underlying158 underlying5 underlying9];rfl
end
section
open Go.Proofs.Tryz
structure Cf where
 sz:Int
 cl:Int
 qu:Int
 mx:Int
 qn:Int
 rt:Int
 bu:Int
 wk:Int
 ou:Int
structure Ck where
 no:Int
 wt:Int
 ph:Int
 bg:ByteArray
 q:aB Rq
 bK:Int
 prom:Int
 out:ByteArray
 tok:Int
 de:Int
 sv:Int
 us:aB Int
def jL(g:Cf)(m:bh):ByteArray:=if m.wh=3 then(if m.er=0 then⟨#[]⟩else nk (HV m.er.toNat) m.ck ⟨#[]⟩)else answer g.sz g.mx m
def Ck.shut(k:Ck):Ck:={k with ph:=4,bg:=⟨#[]⟩,q:=[],out:=⟨#[]⟩}
def Ck.hear(g:Cf)(k:Ck)(x:bh×Int):Ck:=
 {k with ph:=after k.ph x.1,bg:=k.bg.extract x.2.toNat k.bg.size,out:=k.out++jL g x.1,q:=if accepted x.1 then k.q++[⟨x.1,-1⟩]else k.q,us:=if accepted x.1 then k.us++[x.1.ck]else k.us}
def Ck.may(g:Cf)(k:Ck):Prop:=k.ph≠4/\(k.q.length:Int)<g.qu/\(k.out.size:Int)+k.prom+needs k.q<=g.ou
def Ck.read(g:Cf):Nat->Ck->Ck
 |0,k=>k
 |f+1,k=>
  if k.ph≠4/\(k.q.length:Int)<g.qu/\(k.out.size:Int)+k.prom+needs k.q<=g.ou then
   let x:=first g.sz g.mx k.ph k.us k.bg
   if x.2=0 then k else if x.1.wh=4 then k.shut else Ck.read g f (k.hear g x)
  else k
inductive pU(g:Cf)(k:Ck):aB (bh×Int)->Ck->Prop
 |nil:pU g k [] k
 |snoc {pre:aB (bh×Int)} {k1:Ck} {x:bh×Int} (h:pU g k pre k1) (b:k1.may g) (c:first g.sz g.mx k1.ph k1.us k1.bg=x) (h0:x.2≠0) (a:x.1.wh≠4):pU g k (pre++[x]) (k1.hear g x)
section
variable {g:Cf} {k k1:Ck} {x:bh×Int} {pre:aB (bh×Int)}
def aak(a:k.may g)(c:first g.sz g.mx k.ph k.us k.bg=x)(h0:x.2≠0)(b:x.1.wh≠4)(f):Ck.read g (f+1) k=Ck.read g f (k.hear g x):=by unfold Ck.may at a;rw[Ck.read,aX a];simp only[c,h0,b,dQ]
def aaj(a:k.may g)(c:first g.sz g.mx k.ph k.us k.bg=x)(h0:x.2≠0)(b:x.1.wh=4)(f):Ck.read g (f+1) k=k.shut:=by unfold Ck.may at a;rw[Ck.read,aX a];simp only[c,h0,b,dQ,cS]
def aai(h0:(first g.sz g.mx k.ph k.us k.bg).2=0)(f):Ck.read g f k=k:=by
 cases f with
 |zero=>rfl
 |succ f=>
  rw[Ck.read];split
  ·simp only[h0,cS]
  ·rfl
def Sj(a:¬k.may g)(f):Ck.read g f k=k:=by
 cases f with
 |zero=>rfl
 |succ f=>
  rw[Ck.read];exact aQ a
def KN(h:pU g k pre k1):∀f,Ck.read g (pre.length+f) k=Ck.read g f k1:=by
 induction h with
 |nil=>intro f;simp
 |@snoc pre k1 x h b c h0 a d=>
  intro f;have e:(pre++[x]).length+f=pre.length+(f+1):=bY;rw[e,d (f+1),aak b c h0 a]
def EA(h:pU g k pre k1):
  k1.ph=((⟨k.ph,k.us,0⟩:St).run pre).ph/\((⟨k.ph,k.us,0⟩:St).run pre).used=k1.us/\k1.bg=k.bg.extract ((⟨k.ph,k.us,0⟩:St).run pre).pos k.bg.size/\((⟨k.ph,k.us,0⟩:St).run pre).pos<=k.bg.size/\
   k1.no=k.no/\k1.wt=k.wt/\k1.tok=k.tok/\k1.bK=k.bK/\k1.prom=k.prom/\k1.de=k.de/\k1.sv=k.sv:=by
 induction h with
 |nil=>
  refine⟨rfl,rfl,?_,eo _,rfl,rfl,rfl,rfl,rfl,rfl,rfl⟩;show k.bg=k.bg.extract 0 k.bg.size;simp
 |@snoc pre k1 x h l c h0 j i=>
  obtain⟨d,e,a,n,f⟩:=i;have b:=Jf g.sz g.mx k1.ph k1.us k1.bg;rw[c]at b;have m:k1.bg.size=k.bg.size-((⟨k.ph,k.us,0⟩:St).run pre).pos:=by rw[a];simp[mI]
  rw[St.KY];refine⟨?_,?_,?_,?_,f⟩
  ·show after k1.ph x.1=after _ x.1;rw[d]
  ·show(if accepted x.1 then _ else _)=if accepted x.1 then _ else _
   rw[e]
  ·show k1.bg.extract x.2.toNat k1.bg.size=k.bg.extract (((⟨k.ph,k.us,0⟩:St).run pre).pos+x.2.toNat) k.bg.size;rw[a];exact XQ _ _ _ ak
  ·show((⟨k.ph,k.us,0⟩:St).run pre).pos+x.2.toNat<=k.bg.size;omega
def PT(h:pU g k pre k1):((⟨k.ph,k.us,0⟩:St).run pre).next g.sz g.mx k.bg=first g.sz g.mx k1.ph k1.us k1.bg:=by
 obtain⟨a,b,c,_⟩:=EA h;unfold St.next
 rw[a,b,c]
end
end
section
open Go.Proofs.Tryz
open Go.RowKit
def lH:aE->Prop
 |.int _ _=>True
 |.string _=>True
 |.bool _=>True
 |_=>False
def mQ(W:az)(v:aE):Prop:=∀g,v.ownBlock=aa g->∃x T,W.heap[g]? =aa (aA x T (0,0))/\∀u∈x.toList,lH u
def zK(W):mQ W (.slice ay 0 0):=λg h=>by cases h
def mQ.keep{W W' v}(h:mQ W v)(e:∀g,v.ownBlock=aa g->W'.heap[g]? =W.heap[g]?):mQ W' v:=λg a=>by obtain⟨x,T,b,d⟩:=h g a;exact⟨x,T,(e g a).trans b,d⟩
def gD{W W':az}{T k n:Nat}{v:aE}{xs:aB aE}(h:W.ownsRow 0 T k v n xs)(i:∀g,v.ownBlock=aa g->W'.heap[g]? =W.heap[g]?):W'.ownsRow 0 T k v n xs:=by
 refine⟨h.1,?_⟩;rcases h.2 with h|⟨g,a,b,rfl,d,e,f⟩
 ·exact aF h
 ·exact aD ⟨g,a,b,rfl,d,(i g rfl).trans e,f⟩
def zC{W:az}{T k n:Nat}{v:aE}{xs:aB aE}(h:W.ownsRow 0 T k v n xs){g:Nat}(a:v.ownBlock=aa g):g<W.heap.size:=(h.lt g a).2
def Ew{z n}(h:∀u∈z.toList,lH u):∀u∈(mH z n).toList,lH u:=λu a=>by
 simp only[mH,Cq,jH]at a;obtain⟨i,b,rfl⟩:=a;have d:i<n*z.size:=by simpa using b
 have h0:0<z.size:=Nat.pos_of_ne_zero λe=>by rw[e]at d;omega
 have:i %z.size<z.size:=yy _ h0;rw[getElem!_pos z _ this];exact h _ aC
def Pv(s):∀u∈jE s,lH u:=λu a=>by simp only[jE,jH]at a;obtain⟨b,_,rfl⟩:=a;trivial
structure Dy(w w':az)(v a:aE)(news:aB aE):Prop where
 at_:a.ownBlock=v.ownBlock\/∀g,a.ownBlock=aa g->w.heap.size<=g
 TH:mQ w v->(∀u∈news,lH u)->mQ w' a
def Gk{w g n cap a}{T:TypeId}(h:mQ w (.slice (aa (aj g 0)) n cap))(e:w.heap[g]? =aa (aA a T (0,0))):∀u∈a.toList,lH u:=by obtain⟨x,f,b,d⟩:=h g rfl;rw[e]at b;cases b;exact d
def NV{P}(w t u ty e)(i:TypeInfo)(f:P.underlying t=aa (.slice e))(a:P.underlying u=aa .string)(d:P.info? e=aa i)(z:i.zero=aa (.int .u8 0))(p:i.size=1)(y:i.bytes=1)(v n xs)(o:w.ownsRow 0 e 1 v n xs)(s)(E:n+s.size<=140737488355328):
  ∃r h,(nY #[t,u] ty #[v,.string s]).run P w=.ok r h/\h.ownsRow 0 e 1 r (n+s.size) (xs++jE s)/\w.grownBy h v.ownBlock/\Dy w h v r (jE s):=by
 obtain⟨r,h,hr,G,H,_⟩:=Lib.run_append_own_string w 0 t u ty e i f a d z p y v n xs o s (by unfold cY;omega) E (eo _);refine⟨r,h,hr,G,H,Ww f a d z p y o E hr,λI l=>?_⟩;have M:xs.length=n:=by simpa using o.1
 rcases o.2 with⟨rfl,rfl⟩|⟨g,A,D,rfl,N,m,R,O,Q,L⟩
 ·by_cases hm:s.size=0
  ·have l:=Lib.run_firstCells_string (P:=P) w 1 s;rw[hm]at l;simp[nY,run_underlying f,run_underlying a,sizeOf,typeInfo,d,p,Builtin.lenOf,hm,l]at hr;rw[<-hr.1];exact zK _
  ·have k:=run_append_nil_string (P:=P) w t u ty e i (.int .u8 0) f a d z s ak ak (by rw[y];omega);rw[k]at hr;cases hr;intro g m;cases m;refine⟨_,_,cw w.drew _,λx hx=>?_⟩;rw[Cp,jZ]at hx;rcases hx with hx|hx
   ·simp at hx;obtain⟨b,_,rfl⟩:=hx;trivial
   ·exact Ew (λu a=>by simp[Az]at a;subst a;trivial) x hx
 ·have B:=Gk I m
  by_cases K:n+s.size<=A
  ·have k:=Lib.run_append_room_string (P:=P) w t u ty e i f a d p g n A D m s K ak;rw[k]at hr;cases hr;intro F C;cases C;refine⟨_,_,setRow_heap w g D _ e _ m,λx hx=>?_⟩;simp only[jZ]at hx;rcases hx with(hx|hx)|hx
   ·exact B x (pH hx)
   ·exact l x hx
   ·exact B x (wG hx)
  ·have J:∀j u,xs[j]? =aa u->w.cell? ((⟨g,0,ay⟩:Addr).add j)=aa u:=o.cells (g:=g) rfl;have k:=Lib.run_append_grow_string (P:=P) w t u ty e i (.int .u8 0) f a d z ⟨g,0,ay⟩ n A xs (by rw[p];simpa using M) J s ak ak (by rw[y];exact growslice_fits ak ak);rw[k]at hr;cases hr;intro F C;cases C;refine⟨_,_,cw w.drew _,λx hx=>?_⟩;simp only[Cp,jZ]at hx;rcases hx with(hx|hx)|hx
   ·rw[<-L]at hx;exact B x (pH (by simpa using hx))
   ·exact l x (by simpa using hx)
   ·exact Ew (λu a=>by simp[Az]at a;subst a;trivial) x hx
def ID{P}(w t ty e)(i:TypeInfo)(z size bytes)(A:P.underlying t=aa (.slice e))(r:P.info? e=aa i)(F:i.zero=aa z)(L:i.size=size)(I:i.bytes=bytes)(V:z.cells.size=size)(T:0<size)(M:∀u∈z.cells.toList,lH u)(v n xs)(y:w.ownsRow 0 e size v n xs)(a m c news)(l:news.length=m*size)(s:∀j u,news[j]? =aa u->w.cell? (a.add j)=aa u)(G:∀u∈news,u.oneCell'=aq)(hm:0<m)(H:n+m<=cY)(D:(n+m) *bytes<=140737488355328):
  ∃o d,(nY #[t,t] ty #[v,.slice (aa a) m c]).run P w=.ok o d/\d.ownsRow 0 e size o (n+m) (xs++news)/\w.grownBy d v.ownBlock/\Dy w d v o news:=by
 obtain⟨o,d,hr,X,Y,_⟩:=run_append_own w 0 t ty e i z size bytes A r F L I V T v n xs y a m c news l s G H D (eo _);subst L;subst I;have aj:n+m<=9223372036854775807:=by simp only[cY]at H;omega
 refine⟨o,d,hr,X,Y,?_⟩;rcases y.2 with⟨rfl,rfl⟩|⟨g,B,C,rfl,Z,b,ah,af,Q,U⟩
 ·have k:=run_append_nil w t ty e i z A r F a m c news l s ak ak (by have O:=D;simp at O;omega);rw[k]at hr;cases hr;refine⟨aD λg h=>by cases h;exact bC _,λp f g b=>?_⟩;cases b;refine⟨_,_,cw w.drew _,λx hx=>?_⟩;rw[Cp,jZ]at hx;rcases hx with hx|hx
  ·exact f x (by simpa using hx)
  ·exact Ew M x hx
 ·by_cases K:n+m<=B
  ·have R:n*i.size+news.length<=C.size:=by rw[l,Q,<-gK];exact yz _ K
   have k:=run_append_room w t ty e i A r g n B C b a m c news l s G K R;rw[k]at hr;cases hr;refine⟨aF rfl,λp f N E=>?_⟩;have J:=Gk p b;cases E;refine⟨_,_,setRow_heap w g C _ e _ b,λx hx=>?_⟩;simp only[jZ]at hx;rcases hx with(hx|hx)|hx
   ·exact J x (pH hx)
   ·exact f x hx
   ·exact J x (wG hx)
  ·have S:=y.cells rfl;rw[(run_append_grow w t ty e i z A r F ⟨g,0,ay⟩ n B xs y.1 S a m c news l s ak ak (growslice_fits ak D))]at hr;cases hr;refine⟨aD λg h=>by cases h;exact bC _,λp f N E=>?_⟩;cases E;refine⟨_,_,cw w.drew _,λx hx=>?_⟩;simp only[Cp,jZ]at hx;rcases hx with(hx|hx)|hx
   ·rw[<-U]at hx;exact(Gk p b) x (pH (by simpa using hx))
   ·exact f x (by simpa using hx)
   ·exact Ew M x hx
abbrev ju(g:Cf)(k:Ck)(rb:Nat)(q out:aE)(ch:Nat):aK aE:=clG k.no k.wt g.sz g.cl g.qu g.mx g.qn g.rt g.bu g.wk g.ou rb k.bg q k.bK k.prom out k.tok k.de k.sv ch
structure cI(W:az)(c rb ch:Nat)(q v:aE)(g:Cf)(k:Ck):Prop where
 box:W.heap[c]? =aa (aA (ju g k rb q v ch) 168 (0,0))
 row:iL W q k.q
 out:tN W v k.out
 tq:mQ W q
 tv:mQ W v
 chan:W.heap[ch]? =aa (.chan 0 #[] (decide (k.ph=4)) 0 0 av)
section
variable {W W':az} {c rb ch:Nat} {q v:aE} {g:Cf} {k:Ck}
def cI.keep(h:cI W c rb ch q v g k)(e:W'.heap[c]? =W.heap[c]?)(f:W'.heap[ch]? =W.heap[ch]?)(a:∀b,q.ownBlock=aa b->W'.heap[b]? =W.heap[b]?)(d:∀b,v.ownBlock=aa b->W'.heap[b]? =W.heap[b]?):cI W' c rb ch q v g k:=
 ⟨e.trans h.box,gD h.row a,gD h.out d,h.tq.keep a,h.tv.keep d,f.trans h.chan⟩
def cI.eC(h:cI W c rb ch q v g k):c<W.heap.size/\ch<W.heap.size/\(∀b,q.ownBlock=aa b->b<W.heap.size)/\∀b,v.ownBlock=aa b->b<W.heap.size:=
 ⟨(bp.1 h.box).1,(bp.1 h.chan).1,λ_ a=>zC h.row a,λ_ a=>zC h.out a⟩
def cI.old(h:cI W c rb ch q v g k)(a:aL W W'):cI W' c rb ch q v g k:=
 have l:=h.eC
 h.keep (a.block _ l.1) (a.block _ l.2.1) (λb e=>a.block _ (l.2.2.1 b e)) λb e=>a.block _ (l.2.2.2 b e)
def cI.cD{X}(h:cI W c rb ch q v g k)(a:aV X W W')(d:¬X c)(f:¬X ch)(i:∀b,q.ownBlock=aa b->¬X b)(j:∀b,v.ownBlock=aa b->¬X b):cI W' c rb ch q v g k:=
 have l:=h.eC
 h.keep (a.block _ l.1 d) (a.block _ l.2.1 f) (λb e=>a.block _ (l.2.2.1 b e) (i b e)) λb e=>a.block _ (l.2.2.2 b e) (j b e)
def cI.apart(h:cI W c rb ch q v g k):c≠ch/\aa c≠q.ownBlock/\aa c≠v.ownBlock/\aa ch≠q.ownBlock/\aa ch≠v.ownBlock/\(∀b,q.ownBlock=aa b->aa b≠v.ownBlock):=by
 have key:∀{T k n:Nat} {u:aE} {l:aB aE} {b:Nat} {o:Obj},W.ownsRow 0 T k u n l->W.heap[b]? =aa o->(∀a,o≠aA a T (0,0))->aa b≠u.ownBlock:=λ{T k n u l b o} hr d r e=>by
  rcases hr.2 with⟨rfl,_⟩|⟨p,m,a,rfl,_,f,_⟩
  ·cases e
  ·cases e;exact r a (dM (d.symm.trans f))
 refine⟨λe=>?_,key h.row h.box aC,key h.out h.box aC,key h.row h.chan aC,key h.out h.chan aC,λb d e=>?_⟩
 ·have i:=h.box;have j:=h.chan;rw[e]at i;rw[i]at j;simp at j
 ·rcases h.row.2 with⟨rfl,_⟩|⟨p,m,a,rfl,_,f,_⟩
  ·cases d
  ·cases d;exact key h.out f aC e
def cI.put(h:cI W c rb ch q v g k){k':Ck}(i u)(d:(ju g k rb q v ch).setIfInBounds i u=ju g k' rb q v ch)(m:k'.q=k.q)(j:k'.out=k.out)(l:k'.ph=k.ph):cI (W.setCell (aj c i) u) c rb ch q v g k':=by
 obtain⟨a1,f,a3,_⟩:=h.apart;have off:∀b,b≠c->(W.setCell (aj c i) u).heap[b]? =W.heap[b]? :=λb d=>bH d;refine⟨d▸cz h.box i u,?_,?_,h.tq.keep λb e=>off b λa=>f (by rw[e,a]),h.tv.keep λb e=>off b λa=>a3 (by rw[e,a]),?_⟩
 ·rw[m];exact gD h.row λb e=>off b λa=>f (by rw[e,a])
 ·rw[j];exact gD h.out λb e=>off b λa=>a3 (by rw[e,a])
 ·rw[l];exact(off ch (dF a1)).trans h.chan
def cI.drewN(h:cI W c rb ch q v g k)(n):cI (W.drewN n) c rb ch q v g k:=⟨h.box,h.row,h.out,h.tq,h.tv,h.chan⟩
def cI.drew(h:cI W c rb ch q v g k):cI W.drew c rb ch q v g k:=⟨h.box,h.row,h.out,h.tq,h.tv,h.chan⟩
end
end
section
attribute [local go_sem ↓] Go.wp_at_zero Go.wp_at_succ
attribute [local go_sem] bP bF
open Go.Conc Go.RowKit
open Go.Proofs.Tryz
abbrev cfV(g:Cf):aE:=.agg (gn g.sz g.cl g.qu g.mx g.qn g.rt g.bu g.wk g.ou)
abbrev msV(m:bh):aE:=.agg (fN m)
structure bh.Ok(m:bh):Prop where
 nm:m.nm.size<=65535
 ck:0<=m.ck/\m.ck<=65535
 er:0<=m.er/\m.er<=255
def Wp(g m w)(h0:0<=g.sz/\g.sz<=65535)(s:0<=g.mx/\g.mx<=65535)(hm:m.Ok)(n:m.wh=1\/m.wh=2\/m.wh=3\/m.wh=4):
  bO 192 #[cfV g,msV m] w (.string (jL g m)):=by
 by_cases i:m.wh=3
 ·obtain⟨B,y,x,r,d,of,ln,p,b⟩:=m;obtain⟨u,j,l⟩:=hm;dsimp only at i u j l;subst i;obtain⟨v,hv⟩:∃v,v=jL g ⟨3,y,x,r,d,of,ln,p,b⟩:=⟨_,rfl⟩;rw[<-hv]
  by_cases f:b=0
  ·subst f;have h:=aT hv;clear hv n;go_enter func192,ntmps192;go_wp2;go_ret;exact⟨by rw[h.out];rfl,bf.alloc aC _⟩
  ·obtain⟨a,rfl⟩:∃a:UInt8,b=(a.toNat:Int):=⟨_,(Xk b l.1 ak).symm⟩
   have h:Hid (v=nk a d ⟨#[]⟩):=by
    rw[hv];unfold jL;rw[aX rfl,aQ f];show nk (HV _) _ _=_
    congr 1
    simp
   have z:((a.toNat:Int)==0)=av:=by simpa using f
   have o:Hid (∀w,bO 202 #[an (a.toNat:Int),an d,.string ⟨#[]⟩] w (.string v)):=λw=>by rw[h.out];exact So a d ⟨#[]⟩ w j.1 j.2 bJ
   clear hv n f l;generalize (a.toNat:Int)=b at*;go_enter func192,ntmps192;go_wp2_with (go_at_call 202;refine(o.out _).mono ?_;rintro e A ⟨rfl,t⟩);go_ret;exact⟨rfl,(bf.alloc aC _).trans (t.mono bY)⟩
 ·have e:jL g m=answer g.sz g.mx m:=aQ i;rw[e];exact Ws _ _ _ _ _ _ _ _ _ m w h0 s hm.nm ak
def QU(m w):
  bO 193 #[msV m] w (.bool (accepted m)):=by
 obtain⟨a,d⟩:∃a,a=accepted m:=⟨_,rfl⟩;rw[<-d];obtain⟨l,r,j,p,n,of,ln,o,i⟩:=m;cases f:(l==3)with
 |false=>
  have b:Hid (a=av):=by rw[d];simp[accepted];intro e;simp[e]at f
  go_enter func193,ntmps193;go_wp2;go_ret;exact⟨by rw[b.out];rfl,bf⟩
 |true=>
  cases h:(i==0)with
  |false=>
   have b:Hid (a=av):=by rw[d];simp[accepted];intro _ e;simp[e]at h
   go_enter func193,ntmps193;go_wp2;go_ret;exact⟨by rw[b.out];rfl,bf⟩
  |true=>
   have b:Hid (a=(j !=5)):=by show a=_;rw[d];simp only[wJ]at f h;simp[accepted,f,h,bne,BEq.beq]
   go_enter func193,ntmps193;go_wp2;go_ret;exact⟨by rw[b.out];rfl,bf⟩
section
variable {w:az} {c rb ch:Nat} {q v:aE} {g:Cf} {k:Ck}
def K5(h:cI w c rb ch q v g k)(o:k.ph≠4)(x:∀r∈k.q,r.Ok)(m:k.out.size<=4194304)(p:0<=k.prom/\k.prom<=4194304):
  ∃b:Bool,(b=aq↔k.may g)/\bO 151 #[jp c] w (.bool b):=by
 have l:=h.chan;rw[iY o]at l;obtain⟨s,t,rfl⟩:=jS h.out;refine⟨decide ((k.q.length:Int)<g.qu)&&decide ((k.out.size:Int)+k.prom+needs k.q<=g.ou),by simp[Ck.may,o],K6 c ch q k.q g.qu (decide ((k.out.size:Int)+k.prom+needs k.q<=g.ou)) w (aG h.box rfl) l (aG h.box rfl) h.row (aG h.box rfl) λn=>?_⟩;have d:=h.drewN n
 have key:bO 188 #[jp c] (w.drewN n) (.bool (decide ((k.out.size:Int)+k.prom+needs k.q<=g.ou))):=by
  cases j:k.q with
  |nil=>
   obtain⟨a,u,rfl,_⟩:=h.row.form;refine aaY c k.out.size t u a s k.prom g.ou _ ?_ m p (aG d.box rfl) (aG d.box rfl) (aG d.box rfl);have:=aG (i:=13) d.box rfl;rw[this,j];rfl
  |cons r rest=>
   have hr:=d.row;rw[j]at hr;exact aaZ c k.out.size t s k.prom g.ou q r rest _ (aG d.box rfl) hr (x r (by rw[j];simp)) m p (aG d.box rfl) (aG d.box rfl) (aG d.box rfl)
 refine key.mono ?_;rintro e y ⟨rfl,f⟩;exact⟨rfl,f.os,f.tape,f.output,f.size,f.block⟩
end
def QR:(prog.info? 134).map (λi=>(i.zero,i.size,i.bytes))=aa (aa (.agg #[an 0,.string ⟨#[]⟩,an 0,an 0,an 0,an 0,an 0,.string ⟨#[]⟩,an 0,an 0]),10,96):=aS
def XE(c rb ch q v g k w)(h:cI w c rb ch q v g k)(z:k.ph≠4):
  Calls prog 75 #[jp c] w λe n=>e=aN (.tuple #[])/\cI n c rb ch (.slice ay 0 0) (.slice ay 0 0) g k.shut/\aV (λb=>b=c\/b=ch) w n:=by
 have f:=h.chan;rw[iY z]at f;have u:=aO w c 20 (.chan (aa ch)) h.box;have j:=h.apart.1;have x:=run_close_open (P:=prog) (w:=w) #[166] 0 f;obtain⟨W,d⟩:∃W:az,W={w with heap:=w.heap.setIfInBounds ch (.chan 0 #[] aq 0 0 av)}:=⟨_,rfl⟩;rw[<-d]at x
 have a:W.heap[c]? =aa (aA (ju g k rb q v ch) 168 (0,0)):=by rw[d];show(w.heap.setIfInBounds ch _)[c]? =_;rw[dP (dF j)];exact h.box
 have l:W.heap[ch]? =aa (.chan 0 #[] aq 0 0 av):=by rw[d];have:=(bp.1 f).1;simp[this]
 have m:aV (λb=>b=c\/b=ch) w W:=by rw[d];exact⟨rfl,aC,λk _ y=>dP (λe=>y (aD e.symm))⟩
 have o:Hid (W.heap[c]? =aa (aA (ju g k rb q v ch) 168 (0,0))/\W.heap[ch]? =aa (.chan 0 #[] aq 0 0 av)/\aV (λb=>b=c\/b=ch) w W):=⟨a,l,m⟩;have A:=aO W c 12 (.string k.bg) a;have B:=aO W c 13 q a;have C:=aO W c 16 v a;have f12:=bz a 12;have f13:=bz a 13;have f16:=bz a 16;have i:=aT j;clear d a l m j h;go_enter func75,ntmps75;go_wp2_with (go_at_call 116;refine(zm c ch _ u f).mono ?_;rintro e D ⟨rfl,rfl⟩);obtain⟨r,s,t⟩:=o.out;refine eO rfl rfl ⟨rfl,⟨?_,tD _ _ _ _,tD _ _ _ _,zK _,zK _,?_⟩,((t.set (p:=aj c 12) (aF rfl) _).set (p:=aj c 13) (aF rfl) _).set (p:=aj c 16) (aF rfl) _⟩
 ·exact cz (cz (cz r 12 _) 13 _) 16 _
 ·exact mV (mV (mV s (dF i.out) _ _) (dF i.out) _ _) (dF i.out) _ _
abbrev rQ(c b:Nat)(g:Cf)(q v:aE)(m:bh)(W:az):Prop:=
 (W.cell? (aj c 13)=aa q/\W.cell? (aj c 16)=aa v)/\HeS c b g.sz g.cl g.qu g.mx g.qn g.rt g.bu g.wk g.ou m W
def rQ.of{c b rb ch g k q v m W}(h:W.heap[c]? =aa (aA (ju g k rb q v ch) 168 (0,0)))(hm:tM W b m):rQ c b g q v m W:=
 ⟨⟨aG h rfl,aG h rfl⟩,⟨aG h rfl,aG h rfl,aG h rfl,aG h rfl,aG h rfl,aG h rfl,aG h rfl,aG h rfl,aG h rfl⟩,⟨aG hm rfl,aG hm rfl,aG hm rfl,aG hm rfl,aG hm rfl,aG hm rfl,aG hm rfl,aG hm rfl,aG hm rfl⟩⟩
def NU{g m}(h:m.nm.size<=65535):(jL g m).size<=65540:=by
 unfold jL;split
 ·split
  ·exact(by decide:(0:Nat)<=65540)
  ·exact(by decide:(4:Nat)<=65540)
 ·exact Wt h
def Ck.told(k:Ck)(a:ByteArray):Ck:={k with out:=k.out++a}
def cI.tell{W W1 c rb ch q v v' g k a}(h:cI W c rb ch q v g k)(n:W1.ownsRow 0 5 1 v' (k.out.size+a.size) (jE k.out++jE a))(f:W.grownBy W1 v.ownBlock)(w:Dy W W1 v v' (jE a)):
  cI (W1.setCell (aj c 16) v') c rb ch q v' g (k.told a)/\aV (λb=>b=c\/aa b=v.ownBlock) W (W1.setCell (aj c 16) v')/\W1.heap[c]? =aa (aA (ju g k rb q v ch) 168 (0,0)):=by
 obtain⟨a1,j,a3,z,s,l⟩:=h.apart;obtain⟨x,y,p,D⟩:=h.eC;have d:W1.heap[c]? =aa (aA (ju g k rb q v ch) 168 (0,0)):=(f.block c x a3).trans h.box;have off:∀b,b≠c->(W1.setCell (aj c 16) v').heap[b]? =W1.heap[b]? :=λb d=>bH d
 have r:∀b,v'.ownBlock=aa b->b≠c:=λb e i=>by
  rcases n.2 with⟨rfl,_⟩|⟨C,A,B,rfl,_,m,_⟩
  ·cases e
  ·cases e;subst i;rw[d]at m;cases m
 refine⟨⟨cz d 16 v',?_,?_,?_,(w.TH h.tv (Pv a)).keep λb e=>off b (r b e),?_⟩,⟨f.os,by simpa using f.size,λb d o=>(off b λe=>o (aF e)).trans (f.block b d λe=>o (aD e))⟩,d⟩
 ·exact gD h.row λb e=>(off b λi=>j (by rw[e,i])).trans (f.block b (p b e) (l b e))
 ·have t:(k.out++a).size=k.out.size+a.size:=qy ..;have u:jE (k.out++a)=jE k.out++jE a:=by simp[jE]
  show tN _ v' (k.out++a);unfold tN;rw[t,u];exact gD n λb e=>off b (r b e)
 ·exact h.tq.keep λb e=>(off b λi=>j (by rw[e,i])).trans (f.block b (p b e) (l b e))
 ·exact(off ch (dF a1)).trans ((f.block ch y s).trans h.chan)
def Ck.asks(k:Ck)(r:Rq):Ck:={k with q:=k.q++[r]}
def cI.ask{W W1 c rb ch q v q' g k r}(h:cI W c rb ch q v g k)(l:W1.ownsRow 0 134 10 q' (k.q.length+1) (k.q.flatMap (λr=>(aM r).toList)++(aM r).toList))(f:W.grownBy W1 q.ownBlock)(x:Dy W W1 q q' (aM r).toList):
  cI (W1.setCell (aj c 13) q') c rb ch q' v g (k.asks r)/\aV (λb=>b=c\/aa b=q.ownBlock) W (W1.setCell (aj c 13) q')/\W1.heap[c]? =aa (aA (ju g k rb q v ch) 168 (0,0)):=by
 obtain⟨a1,s,a3,t,A,w⟩:=h.apart;obtain⟨y,z,E,o⟩:=h.eC;have d:W1.heap[c]? =aa (aA (ju g k rb q v ch) 168 (0,0)):=(f.block c y s).trans h.box;have off:∀b,b≠c->(W1.setCell (aj c 13) q').heap[b]? =W1.heap[b]? :=λb d=>bH d
 have p:∀b,q'.ownBlock=aa b->b≠c:=λb e a=>by
  rcases l.2 with⟨rfl,_⟩|⟨D,B,C,rfl,_,j,_⟩
  ·cases e
  ·cases e;subst a;rw[d]at j;cases j
 have i:∀b,v.ownBlock=aa b->aa b≠q.ownBlock:=λb e a=>w b a.symm e.symm;refine⟨⟨cz d 13 q',?_,?_,(x.TH h.tq ?_).keep λb e=>off b (p b e),?_,?_⟩,⟨f.os,by simpa using f.size,λb d n=>(off b λe=>n (aF e)).trans (f.block b d λe=>n (aD e))⟩,d⟩
 ·show iL _ q' (k.q++[r]);unfold iL;rw[gR,rC];simp;exact gD l λb e=>off b (p b e)
 ·exact gD h.out λb e=>(off b λa=>a3 (by rw[e,a])).trans (f.block b (o b e) (i b e))
 ·intro u m;simp at m;rcases m with rfl|rfl|rfl|rfl|rfl|rfl|rfl|rfl|rfl|rfl<;>trivial
 ·exact h.tv.keep λb e=>(off b λa=>a3 (by rw[e,a])).trans (f.block b (o b e) (i b e))
 ·exact(off ch (dF a1)).trans ((f.block ch z t).trans h.chan)
def Ck.heard(g:Cf)(k:Ck)(m:bh):Ck:=if m.wh=4 then k.shut else if accepted m then(k.told (jL g m)).asks ⟨m,-1⟩else k.told (jL g m)
def B8(c rb ch q v g k m w)(h:cI w c rb ch q v g k)(hp:k.ph≠4)(h0:0<=g.sz/\g.sz<=65535)(h1:0<=g.mx/\g.mx<=65535)(hm:m.Ok)(X:m.wh=1\/m.wh=2\/m.wh=3\/m.wh=4)(ho:k.out.size<=1048576)(hq:k.q.length<=1048576):
  Calls prog 153 #[jp c,msV m] w λe j=>e=aN (.tuple #[])/\∃z a,cI j c rb ch z a g (k.heard g m)/\aV (λb=>b=c\/b=ch\/aa b=q.ownBlock\/aa b=v.ownBlock) w j/\
   (z.ownBlock=q.ownBlock\/∀b,z.ownBlock=aa b->w.heap.size<=b)/\(a.ownBlock=v.ownBlock\/∀b,a.ownBlock=aa b->w.heap.size<=b):=by
 obtain⟨i0,bA,oV,bI,oW⟩:=aly infoByte;obtain⟨i1,bB,bF,bG,bH⟩:=aly QR;have bS:=NU (g:=g) hm.nm
 have D:Hid (w.heap.size≠c/\w.heap.size≠ch/\(∀b,q.ownBlock=aa b->b≠w.heap.size)/\∀b,v.ownBlock=aa b->b≠w.heap.size):=by obtain⟨l1,l2,l3,l4⟩:=h.eC;exact⟨ak,ak,λb e=>by have:=l3 b e;omega,λb e=>by have:=l4 b e;omega⟩
 have I:aL w (w.alloc (aA (fN m) 132)):=bf;have o:Hid (cI (w.alloc (aA (fN m) 132)) c rb ch q v g k/\tM (w.alloc (aA (fN m) 132)) w.heap.size m/\aL w (w.alloc (aA (fN m) 132))):=⟨h.old I,cw w _,I⟩;have L:Hid (m.Ok/\(m.wh=1\/m.wh=2\/m.wh=3\/m.wh=4)):=⟨hm,X⟩;clear h hm X I;go_enter func153,ntmps153
 go_upto_region 1 with fail
 generalize w.alloc (aA (fN m) 132)=A0 at*
 go_cut [3] (λp j=>p=aR w.heap.size/\∃a,cI j c rb ch q a g (k.told (jL g m))/\tM j w.heap.size m/\aV (λb=>b=c\/aa b=v.ownBlock) w j/\(a.ownBlock=v.ownBlock\/∀b,a.ownBlock=aa b->w.heap.size<=b))
 case first=>
  refine iJ ?_;refine dB (S:=rQ c w.heap.size g q v m) 14 aS (rQ.of o.out.1.box o.out.2.1) ?_;intro hS;refine gk 0 ?_;refine gk 1 ?_;refine gk 2 ?_;refine gk 3 ?_;refine gs 4 ?_;refine gk 5 ?_;refine gk 6 ?_;refine gk 7 ?_;refine gs 8 ?_;refine gs 9 ?_;refine gr 10 λK d=>?_;go_simp;go_at_call 192;refine(Wp g m _ h0 h1 L.out.1 L.out.2).mono ?_;rintro e J ⟨rfl,r⟩;have x:aL A0 J:=⟨r.os,r.tape,r.output,r.size,r.block⟩;have G:=o.out.1.old x;have E:tM J w.heap.size m:=bV x o.out.2.1;refine d.out _ _ (rQ.of G.box E) (λBo=>?_);clear d K;obtain⟨a,w3,hr,U,R,Y⟩:=NV (P:=prog) J 158 9 158 5 i0 underlying158 underlying9 bA oV bI oW v k.out.size (jE k.out) G.out (jL g m) ak;obtain⟨va,vc,rfl⟩:=jS U;obtain⟨P3,T3,A⟩:=G.tell U R Y;have M:tM w3 w.heap.size m:=(R.block _ (bp.1 E).1 λe=>D.out.2.2.2 _ e.symm rfl).trans E;refine gr 11 λK d=>?_;refine Sm rfl rfl rfl rfl hr ?_;refine d.out _ _ (rQ.of A M) (λbO=>?_);clear d K;refine gk 12 ?_;refine gk 13 ?_;have bZ:=aO w3 c 16 v A;have f16:=bz A 16;refine gz λK d=>?_;go_simp;refine d.out _ _ ?_;refine eu aS ?_ _;refine gT ?_;go_wp2_with fail
  go_meet
  case rel=>
   refine⟨rfl,_,P3,mV M D.out.1 16 _,(aV.below (o.out.2.2.trans (x.mono o.out.2.2.size))).trans (T3.mono λb _ h=>h),Y.at_.imp id λh b e=>?_⟩;have:=h b e;have:=x.size;have:=o.out.2.2.size;omega
 case rest=>
  obtain⟨rfl,a,k1,f,k3,k4⟩:=hcut;have i:Hid (cI wc c rb ch q a g (k.told (jL g m))/\tM wc w.heap.size m/\aV (λb=>b=c\/aa b=v.ownBlock) w wc/\(a.ownBlock=v.ownBlock\/∀b,a.ownBlock=aa b->w.heap.size<=b)):=⟨k1,f,k3,k4⟩;have z0:=aO wc w.heap.size 0 (an m.wh) f;have z1:=aO wc w.heap.size 1 (.string m.nm) f;have z2:=aO wc w.heap.size 2 (an m.kd) f;have z3:=aO wc w.heap.size 3 (an m.fl) f;have z4:=aO wc w.heap.size 4 (an m.ck) f;have z5:=aO wc w.heap.size 5 (an m.of) f;have z6:=aO wc w.heap.size 6 (an m.ln) f;have z7:=aO wc w.heap.size 7 (.string m.dt) f;have z8:=aO wc w.heap.size 8 (an m.er) f;clear k1 f k3 k4;cases Q:(m.wh==4)with
  |true=>
   have e4:k.heard g m=(k.told (jL g m)).shut:=aX (by simpa using Q)
   have HC:Hid (Calls prog 75 #[jp c] wc λe j=>e=aN (.tuple #[])/\cI j c rb ch (.slice ay 0 0) (.slice ay 0 0) g (k.heard g m)/\aV (λb=>b=c\/b=ch) wc j):=by rw[e4];exact XE c rb ch q a g _ wc i.out.1 hp
   go_wp2_with (go_at_call 75;refine HC.out.mono ?_;rintro e l ⟨rfl,c1,c2⟩);refine eO rfl rfl ⟨rfl,_,_,c1,(i.out.2.2.1.mono ?_).trans (c2.mono ?_),aD (λb e=>(by cases e)),aD (λb e=>(by cases e))⟩
   ·rintro b _ (h|h)
    ·exact aF h
    ·exact aD (aD (aD h))
   ·rintro b _ (h|h)
    ·exact aF h
    ·exact aD (aF h)
  |false=>
   have y:m.wh≠4:=by simpa using Q
   cases t:accepted m with
   |false=>
    have C:Hid (k.heard g m=k.told (jL g m)):=by show k.heard g m=_;rw[Ck.heard,aQ y,t];rfl
    have HI:=aT (t▸QU m wc);clear y;go_wp2_with (go_at_call 193;refine HI.out.mono ?_;rintro e l ⟨rfl,n⟩);refine eO rfl rfl ⟨rfl,q,a,C.out▸i.out.1.old n,(i.out.2.2.1.mono ?_).trans (aV.below n),aF rfl,i.out.2.2.2⟩;rintro b _ (h|h)
    ·exact aF h
    ·exact aD (aD (aD h))
   |true=>
    have C:Hid (k.heard g m=(k.told (jL g m)).asks ⟨m,-1⟩):=by show k.heard g m=_;rw[Ck.heard,aQ y,t];rfl
    clear y
    go_upto_region 5 with(go_at_call 193;refine(aT (t▸QU m wc)).out.mono ?_;rintro e l ⟨rfl,n⟩)
    have O:=i.out.1.old n;have N:tM l w.heap.size m:=bV n i.out.2.1;refine iJ ?_;refine dB (S:=rQ c w.heap.size g q a m) 11 aS (rQ.of O.box N) ?_;intro hS;refine gk 0 ?_;refine gk 1 ?_;refine gk 2 ?_;refine gk 3 ?_;refine gs 4 ?_;refine gs 5 ?_;refine gk 6 ?_;have s:aL l (l.drew.alloc (aA (aM ⟨m,-1⟩) 134)):=⟨rfl,rfl,rfl,aC,λk hk=>Below.heap_alloc _ _ _ hk⟩;have H:=O.old s;have F:tM (l.drew.alloc (aA (aM ⟨m,-1⟩) 134)) w.heap.size m:=bV s N;refine gr 7 λK d=>?_;go_simp;refine d.out _ _ (rQ.of H.box F) (λbP=>?_);clear d K
    obtain⟨z,w7,hr,V,T,Z⟩:=ID (P:=prog) (l.drew.alloc (aA (aM ⟨m,-1⟩) 134)) 165 165 134 i1 _ 10 96 underlying165 bB bF bG bH rfl ak (by intro u W;simp only[Az,kg,CU,or_false]at W;rcases W with rfl|rfl|rfl|rfl|rfl|rfl|rfl|rfl|rfl|rfl<;>trivial) q k.q.length _ H.row ⟨l.heap.size,0,ay⟩ 1 1 (aM ⟨m,-1⟩).toList rfl (Dg (cw l.drew (aA (aM ⟨m,-1⟩) 134))) (by simp[Vy]) ak (by unfold cY;omega) ak
    obtain⟨qa,qc,rfl⟩:=jS V;obtain⟨P7,T7,B⟩:=H.ask V T Z;have M7:tM w7 w.heap.size m:=(T.block _ (bp.1 F).1 λe=>D.out.2.2.1 _ e.symm rfl).trans F;refine gr 8 λK d=>?_;refine xH rfl rfl rfl rfl hr ?_;refine d.out _ _ (rQ.of B M7) (λbR=>?_);clear d K;refine gk 9 ?_;refine gk 10 ?_;have bY:=aO w7 c 13 q B;have f13:=bz B 13;refine gz λK d=>?_;go_simp;refine d.out _ _ ?_;refine eu aS ?_ _;refine gT ?_;go_wp2;refine eO rfl rfl ⟨rfl,_,a,C.out▸P7,((i.out.2.2.1.mono ?_).trans (aV.below (n.trans (s.mono n.size)))).trans (T7.mono ?_),Z.at_.imp id λh b e=>?_,i.out.2.2.2⟩
    ·rintro b _ (h|h)
     ·exact aF h
     ·exact aD (aD (aD h))
    ·rintro b _ (h|h)
     ·exact aF h
     ·exact aD (aD (aF h))
    ·have:=h b e;have:=s.size;have:=n.size;have:=i.out.2.2.1.size;omega
end
section
open Go.Conc Go.RowKit
open Go.Proofs.Tryz
def afh(sz kd fl of ln):0<=verdict sz kd fl of ln/\verdict sz kd fl of ln<=255:=by
 unfold verdict
 repeat' split
 all_goals omega
def w9(s f i):(dN s f i).1.ck=0/\(dN s f i).1.er=0/\(dN s f i).1.of=0/\(dN s f i).1.ln=0:=by
 induction f generalizing i with
 |zero=>unfold dN;split<;>exact⟨rfl,rfl,rfl,rfl⟩
 |succ f a=>
  unfold dN;split
  ·exact⟨rfl,rfl,rfl,rfl⟩
  ·split
   ·exact a (i+1)
   ·exact⟨rfl,rfl,rfl,rfl⟩
def Pt(sz mx ph us s):(first sz mx ph us s).1.Ok/\(⟨(first sz mx ph us s).1,-1⟩:Rq).Ok:=by
 have e:=Pr sz mx ph us s
 have key:(0<=(first sz mx ph us s).1.er/\(first sz mx ph us s).1.er<=255)/\(0<=(first sz mx ph us s).1.of/\(first sz mx ph us s).1.of<=65535)/\(0<=(first sz mx ph us s).1.ln/\(first sz mx ph us s).1.ln<=65535):=by
  have z:((0:Int)<=0/\(0:Int)<=255)/\((0:Int)<=0/\(0:Int)<=65535)/\((0:Int)<=0/\(0:Int)<=65535):=bJ;unfold first
  split
  ·obtain⟨_,a,b,d⟩:=w9 s 5 0;unfold mZ;omega
  ·split
   ·unfold opt
    repeat' split
    all_goals exact z
   ·split
    ·unfold lU
     repeat' split
     all_goals first|exact⟨afh _ _ _ _ _,lA s 5,lA s 7⟩|exact z
    ·exact z
 exact⟨⟨ak,(Pq sz mx ph us s),key.1⟩,⟨key.2.1.1,key.2.1.2,key.2.2.1,key.2.2.2⟩⟩
def Za(sz mx ph us s)(h0:(first sz mx ph us s).2≠0):(first sz mx ph us s).1.wh=1\/(first sz mx ph us s).1.wh=2\/(first sz mx ph us s).1.wh=3\/(first sz mx ph us s).1.wh=4:=by
 revert h0;unfold first
 split
 ·rcases x8 s 5 0 with h|h|h
  ·intro h0;exact absurd h.2 h0
  ·exact λ_=>aF h
  ·intro _;have:(mZ s).1=.closing:=h;rw[this];exact aD (aD (aD rfl))
 ·split
  ·unfold opt
   repeat' split
   all_goals simp[bh.closing]
  ·split
   ·unfold lU
    repeat' split
    all_goals simp[bh.closing]
   ·simp
def IB{ph m}(a:ph≠4)(hm:m.wh≠4):after ph m≠4:=by
 unfold after
 repeat' split
 all_goals omega
section
variable {W w:az} {c rb mb ch:Nat} {q v:aE} {g:Cf} {k k':Ck}
def cI.like(h:cI W c rb ch q v g k)(a:ju g k' rb q v ch=ju g k rb q v ch)(b:k'.q=k.q)(d:k'.out=k.out)(e:k'.ph=4↔k.ph=4):cI W c rb ch q v g k':=
 ⟨a▸h.box,b▸h.row,d▸h.out,h.tq,h.tv,by rw[show decide (k'.ph=4)=decide (k.ph=4) from decide_eq_decide.2 e];exact h.chan⟩
def Rn(h:cI w c rb ch q v g k)(i:∀r∈k.q,r.Ok)(e:k.out.size<=4194304)(f:0<=k.prom/\k.prom<=4194304):
  ∃b:Bool,(b=aq↔k.may g)/\bO 151 #[jp c] w (.bool b):=by
 by_cases a:k.ph=4
 ·have d:=h.chan;rw[jI a]at d;exact⟨av,by simp[Ck.may,a],K7 c ch w (aG h.box rfl) d⟩
 ·exact K5 h a i e f
structure cg(W:az)(c rb mb ch:Nat)(q v:aE)(g:Cf)(k:Ck):Prop where
 p:cI W c rb ch q v g k
 rd:∃a,dR W rb mb g.sz g.mx a k.us/\(k.ph≠4->a=k.ph)
structure Ck.AM(g:Cf)(k:Ck):Prop where
 bg:k.bg.size<=1048576
 out:k.out.size<=1048576
 q:∀r∈k.q,r.Ok
 len:k.q.length<=1048576
 prom:0<=k.prom/\k.prom<=1048576
 us:k.us.length<=1048576
 sz:0<=g.sz/\g.sz<=65535
 mx:0<=g.mx/\g.mx<=65535
 qu:g.qu<=65535
 ou:g.ou<=65535
def PU{pre a}(h:pU g k pre a)(d:∀r∈k.q,r.Ok):∀r∈a.q,r.Ok:=by
 induction h with
 |nil=>exact d
 |@snoc pre a x h i e h0 f b=>
  intro r hr;have hr':r∈(if accepted x.1 then a.q++[⟨x.1,-1⟩]else a.q):=hr;split at hr'
  ·rw[jZ]at hr';rcases hr' with hr'|hr'
   ·exact b r hr'
   ·obtain rfl:=lX.1 hr';rw[<-e];exact(Pt _ _ _ _ _).2
  ·exact b r hr'
def P4{l}(h:∀r∈l,r.Ok):6<=needs l:=by
 cases l with
 |nil=>exact kT 6
 |cons r t=>
  have:=(h r aC).mE;show 6<=6+sizeOf' r.m;unfold sizeOf';split<;>omega
end
end
section
attribute [local go_sem] Oper.semAt_some
attribute [local go_sem] bP bF
open Go.Proofs.Tryz
open Go.RowKit Go.Shelf
def RgI(c rb mb ch b B0:Nat)(g:Cf)(k:Ck)(pre:aB (bh×Int))(W:az):Prop:=
 ∃a q v,pU g k pre a/\a.may g/\cI W c rb ch q v g a/\(∀x,q.ownBlock=aa x->¬Aside rb mb b x)/\(∀x,v.ownBlock=aa x->¬Aside rb mb b x)/\W.heap[B0]? =aa (aA #[aR c] 119 (0,0))
def RgX(c rb mb ch b:Nat)(g:Cf)(k:Ck)(pre:aB (bh×Int))(W:az):Prop:=
 ∃a q v,(∀f,pre.length<=f->Ck.read g f k=a)/\cI W c rb ch q v g a/\(∀x,q.ownBlock=aa x->¬Aside rb mb b x)/\(∀x,v.ownBlock=aa x->¬Aside rb mb b x)/\(a.ph≠4->a.ph=((⟨k.ph,k.us,0⟩:St).run pre).ph)/\((⟨k.ph,k.us,0⟩:St).run pre).used=a.us
section
variable {c rb mb ch b B0:Nat} {g:Cf} {k:Ck} {q v:aE} {W W':az}
def IF{row}(hr:∀r,row=aa r->ItR rb mb (b+1) r\/r=b+2+1):∀i,¬Aside rb mb b i->row≠aa i:=λi a e=>a (by
 rcases hr i e with(h|h|h)|h
 ·exact aF h
 ·exact aD (aF h)
 ·exact aD (aD (aD (aF h)))
 ·exact aD (aD (aD (aD (aD h)))))
def cI.grown{row}(h:cI W c rb ch q v g k)(a:W.grownBy W' row)(hr:∀i,¬Aside rb mb b i->row≠aa i)(hc:¬Aside rb mb b c)(j:¬Aside rb mb b ch)(d:∀x,q.ownBlock=aa x->¬Aside rb mb b x)(f:∀x,v.ownBlock=aa x->¬Aside rb mb b x):cI W' c rb ch q v g k:=
 have l:=h.eC
 h.keep (a.block _ l.1 (hr c hc).symm) (a.block _ l.2.1 (hr ch j).symm) (λx e=>a.block _ (l.2.2.1 x e) (hr x (d x e)).symm) λx e=>a.block _ (l.2.2.2 x e) (hr x (f x e)).symm
def RgI.bears(hc:¬Aside rb mb b c)(m:¬Aside rb mb b ch)(l:¬Aside rb mb b B0):Bears (λr=>ItR rb mb (b+1) r\/r=b+2+1) (RgI c rb mb ch b B0 g k):=by rintro pre W W' row ⟨n,q,v,f,h,i,a,d,j⟩ e hr;exact⟨n,q,v,f,h,i.grown e (IF hr) hc m a d,a,d,lN j e (IF hr B0 l)⟩
def RgX.bears(hc:¬Aside rb mb b c)(j:¬Aside rb mb b ch):Bears (λr=>ItR rb mb (b+1) r\/r=b+2+1) (RgX c rb mb ch b g k):=by rintro pre W W' row ⟨l,q,v,e,f,a,d,h⟩ i hr;exact⟨l,q,v,e,f.grown i (IF hr) hc j a d,a,d,h⟩
def cg.off{x}{N:Nat}(h:cg W c rb mb ch q v g k)(w:W.heap[N]? =aa (.deferred x))(y:∀i,i≠N->W'.heap[i]? =W.heap[i]?):cg W' c rb mb ch q v g k:=by
 have key:∀i o,W.heap[i]? =aa o->o≠Obj.deferred x->W'.heap[i]? =W.heap[i]? :=λi o A z=>y i λe=>z (by subst e;exact dM (A.symm.trans w))
 have f:∀{T m n:Nat} {u:aE} {j:aB aE},W.ownsRow 0 T m u n j->∀b,u.ownBlock=aa b->W'.heap[b]? =W.heap[b]? :=λ{T m n u j} hr b e=>by
  rcases hr.2 with⟨rfl,_⟩|⟨E,C,D,rfl,_,a,_⟩
  ·cases e
  ·cases e;exact key _ _ a aC
 obtain⟨B,a,t⟩:=h.rd;refine⟨h.p.keep (key _ _ h.p.box aC) (key _ _ h.p.chan aC) (f h.p.row) (f h.p.out),B,⟨(key _ _ a.box aC).trans a.box,?_⟩,t⟩;obtain⟨s,l,d,r⟩:=a.uses;exact⟨s,l,(key _ _ d aC).trans d,r⟩
end
def Ck.jB(g:Cf)(k:Ck)(x:bh×Int):Ck:=if x.1.wh=4 then k.shut else k.hear g x
def zA(c rb mb ch q v g k w)(h:cg w c rb mb ch q v g k)(B:k.AM g):
  CallsIn jW 3 prog 100 #[aR c] w λe w'=>e=aN (.tuple #[])/\∃j s,cg w' c rb mb ch j s g (Ck.read g (k.bg.size+1) k):=by
 obtain⟨rp,hR,bP⟩:=h.rd;have Jw:aL w (w.alloc (aA #[aR c] 119)):=bf;obtain⟨dd,bL,c6⟩:=Rn (h.p.old Jw) B.q (by have:=B.out;omega) (by have:=B.prom;omega);have HM:=aT c6;have HB:=aT Jw;clear c6 Jw;cases dd with
 |false=>
  have HA:Hid (∀W,aL w W->∃j s,cg W c rb mb ch j s g (Ck.read g (k.bg.size+1) k)):=λW Y=>by rw[Sj (λhx=>by simp[hx]at bL)];exact⟨q,v,h.p.old Y,rp,hR.later Y,bP⟩
  clear hR bP h bL;refine VH func100 rfl trivial ?_ rfl;simp only[ntmps100,iV,eT,iU,pM,alA,sJ,sK,sW,sQ,pI,jY]
  gi_wp2_with (first|(refine⟨trivial,?_⟩;gi_at_call 151;refine(fP.2 HM.out).mono ?_;rintro e E ⟨rfl,Z⟩))
  exact⟨.tuple #[],by simp[results,results100],rfl,HA.out _ (HB.out.trans (Z.mono aC))⟩
 |true=>
  have QF:k.may g:=bL.1 rfl;have D6:k.ph≠4:=QF.1;obtain rfl:=bP D6;have HA:Hid (∀W,aL w W->cI W c rb ch q v g k/\dR W rb mb g.sz g.mx k.ph k.us):=λW Y=>⟨h.p.old Y,hR.later Y⟩
  have HX:Hid (∀b,w.heap.size<b->¬Aside rb mb b c/\¬Aside rb mb b ch/\¬Aside rb mb b w.heap.size/\(∀x,q.ownBlock=aa x->¬Aside rb mb b x)/\(∀x,v.ownBlock=aa x->¬Aside rb mb b x)/\rb<w.heap.size/\mb<w.heap.size):=λb hb=>by
   obtain⟨es,ck,cX,_⟩:=hR.uses;have xw:=hR.box;have l1:=(bp.1 xw).1;have l2:=(bp.1 cX).1
   have key:∀i o,w.heap[i]? =aa o->o≠.map es ck->o≠aA #[an g.sz,an g.mx,an k.ph,.map (aa mb)] 228 (0,0)->¬Aside rb mb b i:=λi o ho n1 n2=>by
    have l3:=(bp.1 ho).1;rintro(rfl|rfl|h)
    ·exact n2 (dM (ho.symm.trans xw))
    ·exact n1 (dM (ho.symm.trans cX))
    ·omega
   have QZ:∀{T m n:Nat} {u:aE} {H:aB aE},T≠228->w.ownsRow 0 T m u n H->∀x,u.ownBlock=aa x->¬Aside rb mb b x:=λ{T m n u H} hT hr x e=>by
    rcases hr.2 with⟨rfl,_⟩|⟨g',dS,dV,rfl,_,h3,_⟩
    ·cases e
    ·cases e;exact key _ _ h3 aC (by simp;intro _ e;exact absurd e hT)
   refine⟨key c _ h.p.box aC aC,key ch _ h.p.chan aC aC,?_,QZ bJ h.p.row,QZ bJ h.p.out,l1,l2⟩;rintro(h|h|h)<;>omega
  clear hR bP h bL;refine VH func100 rfl trivial ?_ rfl;simp only[ntmps100,iV,eT,iU,pM,alA,sJ,sK,sW,sQ,pI,jY]
  gi_wp2_with (first|(refine⟨trivial,?_⟩;gi_at_call 151;refine(fP.2 HM.out).mono ?_;rintro e E ⟨rfl,Z⟩;have Qj:=HA.out E (HB.out.trans (Z.mono aC));have e7:=aO E c 11 (aR rb) Qj.1.box;have e8:=aO E c 12 (.string k.bg) Qj.1.box;have r0:E.cell? (aj w.heap.size 0)=aa (aR c):=bR Z (by simp[go_sem])))
  refine wpIn_wide.2 ?_;refine eD (S:=ReS c rb w.heap.size k.bg) ⟨e7,e8,r0⟩ λeb=>?_;refine tk 0 ?_;refine tk 1 ?_;refine tk 2 ?_;refine tk 3 ?_;refine tk 4 ?_;refine tk 5 ?_;refine tk 6 ?_;refine tk 7 ?_;refine rH 8 λK hK=>?_;go_simp
  (refine(K8 rb k.bg _).mono ?_;rintro e w4 ⟨rfl,rfl⟩)
  go_wp2_with fail;refine hK.out _ _ (ReS.G8 eb) (λfE=>?_);clear hK K;refine dc ?_
  (gi_wp2)
  obtain⟨bA,Qq,ez,nQ⟩:=aah E rb k.bg;have y7:aL w E:=HB.out.trans (Z.mono aC);have xq:w.heap.size<E.heap.size:=by have:=Z.size;simp at this;omega
  have Qc:aL w (vM E rb k.bg):=y7.trans (nQ.mono (mN xq));have zk:(vM E rb k.bg).heap[w.heap.size]? =aa (aA #[aR c] 119 (0,0)):=(nQ.block _ xq).trans ((Z.block _ aC).trans (cw w _));obtain⟨y1,y3⟩:=HA.out _ Qc;obtain⟨x1,x2,x3,x4,fy,x5,x6⟩:=HX.out _ xq;show Code.wpIn jW 3 prog _ _ _ (vM E rb k.bg);generalize vM E rb k.bg=W0 at*;generalize E.heap.size=b at*;have ej:kF W0 rb mb b (b+1) g.sz g.mx k.bg ⟨k.ph,k.us,0⟩:=⟨y3,Qq,by rw[show k.bg.extract (⟨k.ph,k.us,0⟩:St).pos k.bg.size=k.bg by simp];exact ez,ak,ak,ak,ak,ak⟩;have hz:=B.sz.1;have fK:=B.bg;have fO:=B.us
  refine xG (w:=W0) rfl bJ (gf:=189) (lb:=#[aR b,aR (b+1)]) rfl trivial (enters_of func189 aS rfl) (encs:=Kk) (λ_=>rfl)
   (R:=ItR rb mb (b+1)) (Kp:=wS rb mb b (b+1)) (V:=mq g.sz g.mx k.bg ⟨k.ph,k.us,0⟩)
   (S:=λH W'=>mq g.sz g.mx k.bg ⟨k.ph,k.us,0⟩ H/\(((⟨k.ph,k.us,0⟩:St).run H).next g.sz g.mx k.bg).2=0/\kF W' rb mb b (b+1) g.sz g.mx k.bg ((⟨k.ph,k.us,0⟩:St).run H))
   (Sp:=λpre W'=>mq g.sz g.mx k.bg ⟨k.ph,k.us,0⟩ pre/\kF W' rb mb b (b+1) g.sz g.mx k.bg ((⟨k.ph,k.us,0⟩:St).run pre))
   (λW Y=>G1 2 bJ _ _ _ _ g.sz g.mx k.bg ⟨k.ph,k.us,0⟩ W hz ak (by show k.us.length<=_;omega) (eo _) (ej.later Y)) ?hR ?hKt ?hKb ?hS ?hSp
   (RgI c rb mb ch b w.heap.size g k) (RgX c rb mb ch b g k) ?hI ?hIx ?h0 (ReM c rb b w.heap.size k.bg) ?hAx ?assign ?body ?done ?stop
  case hR=>rintro r (h|h|h)<;>omega
  case hKt=>exact λh k=>⟨k.1.trans h.1,k.2.1.trans h.2.1,k.2.2.1.trans h.2.2.1,k.2.2.2.trans h.2.2.2⟩
  case hKb=>exact λW o=>⟨fj ak,fj ak,fj ak,fj ak⟩
  case hS=>exact λH W W' row h I hr=>⟨h.1,h.2.1,h.2.2.kept ⟨I.block _ h.2.2.rd.lt.1 (λe=>by have:=hr _ e.symm;omega),I.block _ h.2.2.rd.lt.2 (λe=>by have:=hr _ e.symm;omega),I.block _ (bp.1 h.2.2.cp).1 (λe=>by have:=hr _ e.symm;omega),I.block _ (bp.1 h.2.2.tx).1 (λe=>by have:=hr _ e.symm;omega)⟩⟩
  case hSp=>exact λH W W' row h I hr=>⟨h.1,h.2.kept ⟨I.block _ h.2.rd.lt.1 (λe=>by have:=hr _ e.symm;omega),I.block _ h.2.rd.lt.2 (λe=>by have:=hr _ e.symm;omega),I.block _ (bp.1 h.2.cp).1 (λe=>by have:=hr _ e.symm;omega),I.block _ (bp.1 h.2.tx).1 (λe=>by have:=hr _ e.symm;omega)⟩⟩
  case hI=>rw[bA];exact RgI.bears x1 x2 x3
  case hIx=>rw[bA];exact RgX.bears x1 x2
  case h0=>exact⟨k,_,_,.nil,QF,y1,x4,fy,zk⟩
  case hAx=>rw[bA];exact λx=>ReM.bears ak ak x
  case assign=>
   rintro l pre ⟨m,nn⟩ W K hi hv gh hK
   gi_wp2
   have I:=pP W (aA (fN m) 132) ay;refine hK _ (W.alloc (aA (fN m) 132)) ?_ ?_ ?_ ?_
   ·exact⟨Below.heap_alloc _ _ _ ak,Below.heap_alloc _ _ _ ak⟩
   ·exact⟨Below.heap_alloc _ _ _ ak,Below.heap_alloc _ _ _ ak,Below.heap_alloc _ _ _ ak,Below.heap_alloc _ _ _ ak⟩
   ·exact RgI.bears x1 x2 x3 _ _ _ ay hi I (λr e=>by cases e)
   ·exact⟨W.heap.size,ak,cw _ _,rfl⟩
  case body=>
   rintro l pre ⟨m,nn⟩ a' W ⟨a,C,D,G,g2,O,g4,g5,U⟩ ⟨A,dA,dB,rfl⟩ hv gh;obtain⟨i1,i2,i3,i4,i5,i6,i7,i8,i9,eE,eG⟩:=EA G;have zl:=PT G;have dg:=((SD g.sz g.mx k.bg ⟨k.ph,k.us,0⟩ pre (m,nn)).1 hv).2;rw[zl]at dg;obtain⟨P,cE⟩:=dg;have bM:=Jf g.sz g.mx a.ph a.us a.bg;have cD:=Pt g.sz g.mx a.ph a.us a.bg;have JK:=Za g.sz g.mx a.ph a.us a.bg (by rw[P];exact cE);rw[P]at bM cD JK;obtain⟨K,rfl⟩:∃K:Nat,nn=(K:Int):=⟨nn.toNat,by have:=bM.1;simp at this;omega⟩;have hK:K<=a.bg.size:=by have:=bM.2;simp at this;omega
   have dO:=aO W c 12 (.string a.bg) O.box;have f12:=bz O.box 12;have c0:=aO W w.heap.size 0 (aR c) U;have fJ:a.bg.size<=1048576:=by rw[i3];simp[mI];omega
   have fM:(K:Int)<=(a.bg.size:Int):=ak;have HG:Hid (pU g k pre a/\a.may g/\first g.sz g.mx a.ph a.us a.bg=(m,(K:Int))/\(K:Int)≠0/\m.Ok/\(m.wh=1\/m.wh=2\/m.wh=3\/m.wh=4)):=⟨G,g2,P,cE,cD.1,JK⟩;have HQ:Hid (cI W c rb ch C D g a/\(∀x,C.ownBlock=aa x->¬Aside rb mb b x)/\(∀x,D.ownBlock=aa x->¬Aside rb mb b x)/\W.heap[w.heap.size]? =aa (aA #[aR c] 119 (0,0))/\W.heap[A]? =aa (aA (fN m) 132 (0,0))/\b+4<=A/\W0.heap.size+2<=W.heap.size):=⟨O,g4,g5,U,dB,dA,gh⟩;have HI:Hid (a.prom=k.prom/\a.ph=((⟨k.ph,k.us,0⟩:St).run pre).ph/\((⟨k.ph,k.us,0⟩:St).run pre).used=a.us):=⟨i9,i1,i2⟩;clear G g2 O g4 g5 U dA dB gh i1 i2 i3 i4 i5 i6 i7 i8 i9 eE eG P cE cD JK bM zl hv;unfold ReA
   gi_wp2
   rename_i K0 Qh;have ed:=Qh
   have dJ:K0 (ReB c rb b w.heap.size k.bg a.bg m K A) (W.setCell (aj c 12) (.string (a.bg.extract K a.bg.size))).drew:=by
    obtain⟨p1,z,p3,p4,p5,p6⟩:=HG.out;obtain⟨aI,q3,cJ,q5,q6,q7,q8⟩:=HQ.out;obtain⟨j1,j2,j3⟩:=HI.out;have n2:w.heap.size≠c:=fL q5 aI.box aC;have n3:A≠c:=fL q6 aI.box aC;have n4:w.heap.size≠ch:=fL q5 aI.chan aC
    have n5:aa w.heap.size≠C.ownBlock:=λe=>by
     rcases aI.row.2 with⟨e',_⟩|⟨g',dS,dV,e',_,h3,_⟩
     ·rw[e']at e;cases e
     ·rw[e']at e;cases e;exact fL q5 h3 aC rfl
    have n6:aa w.heap.size≠D.ownBlock:=V7 aI.out q5 aC;obtain⟨y,aP⟩:∃y,y=(W.setCell (aj c 12) (.string (a.bg.extract K a.bg.size))).drew:=⟨_,rfl⟩;have P5:cI y c rb ch C D g {a with bg:=a.bg.extract K a.bg.size}:=by rw[aP];exact(aI.put (k':={a with bg:=a.bg.extract K a.bg.size}) 12 (.string (a.bg.extract K a.bg.size)) rfl rfl rfl rfl).drew
    have M:y.heap[A]? =aa (aA (fN m) 132 (0,0)):=by rw[aP];exact mV q6 n3 _ _
    have X5:y.heap[w.heap.size]? =aa (aA #[aR c] 119 (0,0)):=by rw[aP];exact mV q5 n2 _ _
    have T5:aV (λi=>i=c) W y:=by rw[aP];exact⟨rfl,aC,λi _ hi=>Below.heap_setCell _ _ _ _ hi⟩
    rw[<-aP];clear aP Qh aI q5 q6 dO f12 c0;refine ed _ _ ?_;have z0:=aO y A 0 (an m.wh) M;have z1:=aO y A 1 (.string m.nm) M;have z2:=aO y A 2 (an m.kd) M;have z3:=aO y A 3 (an m.fl) M;have z4:=aO y A 4 (an m.ck) M;have z5:=aO y A 5 (an m.of) M;have z6:=aO y A 6 (an m.ln) M;have z7:=aO y A 7 (.string m.dt) M;have z8:=aO y A 8 (an m.er) M;have y0:=aO y w.heap.size 0 (aR c) X5;have c8:=PU p1 B.q;have eu:=P4 c8;have ew:a.out.size<=65535:=by have:=z.2.2;have:=B.ou;have:=B.prom;omega
    have ey:a.q.length<=65535:=by have:=z.2.1;have:=B.qu;omega
    have Qw:(a.jB g (m,(K:Int))).ph=4↔m.wh=4:=by
     unfold Ck.jB;split
     ·rename_i e;exact⟨λ_=>e,λ_=>rfl⟩
     ·rename_i e;exact⟨λh=>absurd h (IB z.1 e),λh=>absurd h e⟩
    have c9:∀t j s,cI t c rb ch j s g (({a with bg:=a.bg.extract K a.bg.size}:Ck).heard g m)->cI t c rb ch j s g (a.jB g (m,(K:Int))):=λt j s d=>by
     by_cases e:m.wh=4
     ·have e1:(({a with bg:=a.bg.extract K a.bg.size}:Ck).heard g m)=a.shut:=aX e;have e2:a.jB g (m,(K:Int))=a.shut:=aX e;rw[e2,<-e1];exact d
     ·have e2:a.jB g (m,(K:Int))=a.hear g (m,(K:Int)):=aQ e;rw[e2];unfold Ck.heard at d;rw[aQ e]at d;cases ha:accepted m with
      |true=>
       rw[ha]at d;refine d.like rfl ?_ rfl ⟨λh=>absurd h (IB z.1 e),λh=>absurd h z.1⟩;show(if accepted m then _ else _)=_;rw[ha];rfl
      |false=>
       rw[ha]at d;refine d.like rfl ?_ rfl ⟨λh=>absurd h (IB z.1 e),λh=>absurd h z.1⟩;show(if accepted m then _ else _)=_;rw[ha];rfl
    have EH:(∀r∈(a.jB g (m,(K:Int))).q,r.Ok)/\(a.jB g (m,(K:Int))).out.size<=4194304/\(a.jB g (m,(K:Int))).prom=k.prom:=by
     unfold Ck.jB;split
     ·exact⟨λr hr=>(by cases hr),(by decide:(0:Nat)<=4194304),j1⟩
     ·rename_i e;refine⟨PU (pU.snoc p1 z p3 p4 e) B.q,?_,j1⟩;show(a.out++jL g m).size<=_;rw[qy];have:=NU (g:=g) p5.nm;omega
    have HE:Hid (Calls prog 153 #[aR c,.agg (fN m)] y λe t=>e=aN (.tuple #[])/\∃j s,cI t c rb ch j s g (a.jB g (m,(K:Int)))/\
      aV (λi=>i=c\/i=ch\/aa i=C.ownBlock\/aa i=D.ownBlock) W t/\t.heap[w.heap.size]? =aa (aA #[aR c] 119 (0,0))/\(∀x,j.ownBlock=aa x->¬Aside rb mb b x)/\(∀x,s.ownBlock=aa x->¬Aside rb mb b x)):=by
     refine(B8 c rb ch C D g _ m y P5 z.1 B.sz B.mx p5 p6 (by show a.out.size<=_;omega) (by show a.q.length<=_;omega)).mono ?_;rintro e t ⟨rfl,j,s,d,F,a6,b6⟩
     have fresh:∀(u u':aE),(∀x,u.ownBlock=aa x->¬Aside rb mb b x)->(u'.ownBlock=u.ownBlock\/∀x,u'.ownBlock=aa x->y.heap.size<=x)->∀x,u'.ownBlock=aa x->¬Aside rb mb b x:=λu u' hu E6 x hx=>by
      rcases E6 with e|e
      ·exact hu x (e▸hx)
      ·have:=e x hx;have:=T5.size;rintro(h|h|h)<;>omega
     refine⟨rfl,j,s,c9 _ _ _ d,(T5.mono λi _ h=>aF h).trans F,vX F X5 ?_,fresh C j q3 a6,fresh D s cJ b6⟩;rintro(e|e|e|e)
     ·exact n2 e
     ·exact n4 e
     ·exact n5 e
     ·exact n6 e
    have cQ:Hid (∀Q,aV (λi=>i=c\/i=ch\/aa i=C.ownBlock\/aa i=D.ownBlock) W Q->wW (b+2) W Q/\wS rb mb b (b+1) W Q):=λQ hT=>G3 hT (by rintro i (rfl|rfl|e|e);exact x1;exact x2;exact q3 i e.symm;exact cJ i e.symm) ak ak ak
    obtain⟨d2,cW⟩:∃d2:Bool,(d2=aq↔(a.jB g (m,(K:Int))).may g):=by
     by_cases e:(a.jB g (m,(K:Int))).may g
     ·exact⟨aq,by simp[e]⟩
     ·exact⟨av,by simp[e]⟩
    have HR:Hid (∀t j s,cI t c rb ch j s g (a.jB g (m,(K:Int)))->bO 151 #[aR c] t (.bool d2)):=λt j s d=>by
     obtain⟨d3,fI,ep⟩:=Rn d EH.1 EH.2.1 (by rw[EH.2.2];have:=B.prom;omega)
     have:d3=d2:=by cases d2<;>cases d3<;>simp_all
     rw[<-this];exact ep
    have HD:Hid ((d2=aq↔(a.jB g (m,(K:Int))).may g)/\((a.jB g (m,(K:Int))).ph=4↔m.wh=4)):=⟨cW,Qw⟩;clear p1 z p3 p4 p5 p6 q3 cJ q7 q8 j1 j2 j3 c8 eu ew ey Qw c9 EH cW P5 M X5 T5 n2 n3 n4 n5 n6;unfold ReB;cases d2 with
    |true=>
     have cm:=aT (HD.out.1.1 rfl)
     gi_wp2_with (first|(refine⟨trivial,?_⟩;gi_at_call 153;refine(mJ l (fP.2 HE.out)).mono ?_;rintro e t ⟨rfl,j,s,d,F,N,J,L⟩;have y6:=aO t w.heap.size 0 (aR c) N;have bl:Hid (cI t c rb ch j s g (a.jB g (m,(K:Int)))/\aV (λi=>i=c\/i=ch\/aa i=C.ownBlock\/aa i=D.ownBlock) W t/\t.heap[w.heap.size]? =aa (aA #[aR c] 119 (0,0))/\(∀x,j.ownBlock=aa x->¬Aside rb mb b x)/\(∀x,s.ownBlock=aa x->¬Aside rb mb b x)):=⟨d,F,N,J,L⟩;clear d F N J L)|(refine⟨trivial,?_⟩;gi_at_call 151;refine(mJ l (fP.2 (HR.out _ _ _ bl.out.1))).mono ?_;rintro e Q ⟨rfl,xp⟩))
     obtain⟨p1,z,p3,p4,p5,p6⟩:=HG.out;obtain⟨d,F,N,J,L⟩:=bl.out;have JI:=cm.out;have X:m.wh≠4:=λe=>JI.1 (HD.out.2.2 e);have en:a.jB g (m,(K:Int))=a.hear g (m,(K:Int)):=aQ X;have G6:=pU.snoc p1 z p3 p4 X;rw[bA];obtain⟨t1,t2⟩:=cQ.out Q (F.trans (.below xp));rw[en]at d JI;exact⟨t1,t2,_,j,s,G6,JI,d.old xp,J,L,bV xp N⟩
    |false=>
     have cm:Hid (¬(a.jB g (m,(K:Int))).may g):=λe=>(by have:=HD.out.1.2 e;cases this)
     gi_wp2_with (first|(refine⟨trivial,?_⟩;gi_at_call 153;refine(mJ l (fP.2 HE.out)).mono ?_;rintro e t ⟨rfl,j,s,d,F,N,J,L⟩;have y6:=aO t w.heap.size 0 (aR c) N;have bl:Hid (cI t c rb ch j s g (a.jB g (m,(K:Int)))/\aV (λi=>i=c\/i=ch\/aa i=C.ownBlock\/aa i=D.ownBlock) W t/\t.heap[w.heap.size]? =aa (aA #[aR c] 119 (0,0))/\(∀x,j.ownBlock=aa x->¬Aside rb mb b x)/\(∀x,s.ownBlock=aa x->¬Aside rb mb b x)):=⟨d,F,N,J,L⟩;clear d F N J L)|(refine⟨trivial,?_⟩;gi_at_call 151;refine(mJ l (fP.2 (HR.out _ _ _ bl.out.1))).mono ?_;rintro e Q ⟨rfl,xp⟩))
     obtain⟨p1,z,p3,p4,p5,p6⟩:=HG.out;obtain⟨d,F,N,J,L⟩:=bl.out;have c7:=cm.out;rw[bA];obtain⟨t1,t2⟩:=cQ.out Q (F.trans (.below xp))
     by_cases X:m.wh=4
     ·have en:a.jB g (m,(K:Int))=a.shut:=aX X;obtain⟨j1,j2,j3⟩:=HI.out;rw[en]at d;refine⟨t1,t2,_,j,s,λf P=>?_,d.old xp,J,L,λh=>absurd rfl h,?_⟩
      ·obtain⟨f',rfl⟩:=Vm P;have e:(pre++[(m,(K:Int))]).length+f'=pre.length+(f'+1):=bY;rw[e,KN p1,aaj z p3 p4 X]
      ·rw[St.KY];show(if accepted m then _ else _)=a.us;have:accepted m=av:=by unfold accepted;simp[X]
       rw[this];exact j3
     ·have en:a.jB g (m,(K:Int))=a.hear g (m,(K:Int)):=aQ X;have G6:=pU.snoc p1 z p3 p4 X;obtain⟨r1,r2,r3⟩:=EA G6;rw[en]at d c7;refine⟨t1,t2,_,j,s,λf P=>?_,d.old xp,J,L,λ_=>r1,r2⟩;obtain⟨f',rfl⟩:=Vm P;rw[KN G6,Sj c7]
   gi_region<;>exact dJ
  case done=>
   rintro H W ⟨hr,cC,bu⟩ ⟨a,C,D,G,g2,O,g4,g5,U⟩ hD;obtain⟨i1,i2,i3⟩:=EA G;have ah:=KZ g.sz g.mx k.bg ⟨k.ph,k.us,0⟩ H (eo _) hr
   have hrd:Ck.read g (k.bg.size+1) k=a:=by obtain⟨f,P⟩:∃f,k.bg.size+1=H.length+f:=⟨k.bg.size+1-H.length,by have:=ah.1;have:=ah.2;simp only at*;omega⟩;rw[P,KN G,aai (by rw[PT G]at cC;exact cC)]
   have HQ:Hid (cg W c rb mb ch C D g (Ck.read g (k.bg.size+1) k)):=by rw[hrd];have bw:=bu.rd;rw[i2]at bw;exact⟨O,_,bw,λ_=>i1.symm⟩
   clear hrd ah i1 i2 i3 G g2 O g4 g5 U hr cC bu
   gi_wp2
   refine⟨aC,aF ⟨_,_,rfl,wN hD,.tuple #[],by simp[results,results100],rfl,_,_,HQ.out.off hD λi hi=>fj hi⟩⟩
  case stop=>
   rintro pre W ⟨hr,bu⟩ ⟨k2,C,D,G,O,g4,g5,U,g8⟩ hD;have ah:=KZ g.sz g.mx k.bg ⟨k.ph,k.us,0⟩ pre (eo _) hr;have hrd:Ck.read g (k.bg.size+1) k=k2:=G _ (by have:=ah.1;have:=ah.2;simp only at*;omega)
   have HQ:Hid (cg W c rb mb ch C D g (Ck.read g (k.bg.size+1) k)):=by rw[hrd];have bw:=bu.rd;rw[g8]at bw;exact⟨O,_,bw,λh=>(U h).symm⟩
   clear hrd ah G O g4 g5 U g8 hr bu
   gi_wp2
   refine⟨aC,aF ⟨_,_,rfl,wN hD,.tuple #[],by simp[results,results100],rfl,_,_,HQ.out.off hD λi hi=>fj hi⟩⟩
end
section
attribute [local go_sem ↓] Go.wp_at_zero Go.wp_at_succ
attribute [local go_sem] bP bF
open Go.Conc Go.RowKit
open Go.Proofs.Tryz
def dR.keep{w w' rb mb sz mx ph us}(h:dR w rb mb sz mx ph us)(a:w'.heap[rb]? =w.heap[rb]?)(b:w'.heap[mb]? =w.heap[mb]?):dR w' rb mb sz mx ph us:=⟨a.trans h.box,h.uses.block b⟩
section
variable {W W':az} {c rb mb ch:Nat} {q v:aE} {g:Cf} {k k':Ck}
def cg.eC(h:cg W c rb mb ch q v g k):rb<W.heap.size/\mb<W.heap.size:=by obtain⟨b,a,_⟩:=h.rd;exact a.lt
def cg.apart(h:cg W c rb mb ch q v g k):rb≠c/\mb≠c/\rb≠ch/\mb≠ch/\aa rb≠q.ownBlock/\aa mb≠q.ownBlock/\aa rb≠v.ownBlock/\aa mb≠v.ownBlock/\rb≠mb:=by
 obtain⟨y,a,_⟩:=h.rd;obtain⟨w,t,d,_⟩:=a.uses
 have key:∀{T m n:Nat} {u:aE} {i:aB aE} {b:Nat} {o:Obj},W.ownsRow 0 T m u n i->W.heap[b]? =aa o->(∀f,o≠aA f T (0,0))->aa b≠u.ownBlock:=λ{T m n u i b o} hr l r e=>by
  rcases hr.2 with⟨rfl,_⟩|⟨x,s,f,rfl,_,j,_⟩
  ·cases e
  ·cases e;exact r f (dM (l.symm.trans j))
 exact⟨fL a.box h.p.box aC,fL d h.p.box aC,fL a.box h.p.chan aC,fL d h.p.chan aC,key h.p.row a.box aC,key h.p.row d aC,key h.p.out a.box aC,key h.p.out d aC,fL a.box d aC⟩
def cg.of{q' v'}(h:cg W c rb mb ch q v g k)(j:cI W' c rb ch q' v' g k')(b:W'.heap[rb]? =W.heap[rb]?)(d:W'.heap[mb]? =W.heap[mb]?)(l:k'.us=k.us)(hf:k'.ph≠4->k'.ph=k.ph):cg W' c rb mb ch q' v' g k':=by obtain⟨m,f,i⟩:=h.rd;refine⟨j,m,l▸f.keep b d,λe=>?_⟩;rw[hf e];exact i λa=>e ((hf e).trans a)
def cg.put(h:cg W c rb mb ch q v g k)(i u)(b:(ju g k rb q v ch).setIfInBounds i u=ju g k' rb q v ch)(e:k'.q=k.q)(d:k'.out=k.out)(a:k'.ph=k.ph)(f:k'.us=k.us):cg (W.setCell (aj c i) u) c rb mb ch q v g k':=
 h.of (h.p.put i u b e d a) (bH h.apart.1) (bH h.apart.2.1) f λ_=>a
def cg.drew(h:cg W c rb mb ch q v g k):cg W.drew c rb mb ch q v g k:=⟨h.p.drew,h.rd.choose,⟨h.rd.choose_spec.1.box,h.rd.choose_spec.1.uses⟩,h.rd.choose_spec.2⟩
def cg.drewN(h:cg W c rb mb ch q v g k)(n):cg (W.drewN n) c rb mb ch q v g k:=⟨h.p.drewN n,h.rd.choose,⟨h.rd.choose_spec.1.box,h.rd.choose_spec.1.uses⟩,h.rd.choose_spec.2⟩
def cg.old(h:cg W c rb mb ch q v g k)(a:aL W W'):cg W' c rb mb ch q v g k:=
 h.of (h.p.old a) (a.block _ h.eC.1) (a.block _ h.eC.2) rfl λ_=>rfl
def cg.keep(h:cg W c rb mb ch q v g k){O:Nat->Prop}(a:O c/\O rb/\O mb/\O ch/\(∀b,q.ownBlock=aa b->O b)/\∀b,v.ownBlock=aa b->O b)(d:∀b,O b->b<W.heap.size->W'.heap[b]? =W.heap[b]?):cg W' c rb mb ch q v g k:=
 have l:=h.p.eC;have f:=h.eC
 h.of (h.p.keep (d _ a.1 l.1) (d _ a.2.2.2.1 l.2.1) (λb e=>d b (a.2.2.2.2.1 b e) (l.2.2.1 b e)) λb e=>d b (a.2.2.2.2.2 b e) (l.2.2.2 b e)) (d _ a.2.1 f.1) (d _ a.2.2.1 f.2) rfl λ_=>rfl
end
def RX(c rb mb ch q v g k w)(h:cg w c rb mb ch q v g k):
  fu 114 #[jp c] w (an k.ph):=by
 obtain⟨n,d,f⟩:=h.rd;have b:=h.p.chan;have i:=aO w c 20 (.chan (aa ch)) h.p.box;have o:=aO w c 11 (aR rb) h.p.box;have m:=aO w rb 2 (an n) d.box
 by_cases a:k.ph=4
 ·rw[jI a]at b;have l:=aT a;clear a d f h;go_enter func114,ntmps114;go_wp2_with (go_at_call 116;refine(EM c ch _ i b).mono ?_;rintro e j ⟨rfl,rfl⟩);go_ret;exact⟨by rw[l.out];rfl,rfl⟩
 ·rw[iY a]at b;obtain rfl:=f a;clear a d f h;go_enter func114,ntmps114;go_wp2_with (first|(go_at_call 116;refine(zm c ch _ i b).mono ?_;rintro e j ⟨rfl,rfl⟩)|(go_at_call 170;refine(aba rb k.ph _ m).mono ?_;rintro e j ⟨rfl,rfl⟩));go_ret;exact⟨rfl,rfl⟩
def Ck.gone(k:Ck):Bool:=!decide (k.ph<3)&&(((k.q.length:Int)==0)&&(k.bK==0)&&((k.out.size:Int)==0))
def F9(c rb mb ch q v g k w)(h:cg w c rb mb ch q v g k):
  fu 109 #[jp c] w (.bool k.gone):=by
 obtain⟨n,o,rfl,_⟩:=h.p.row.form;obtain⟨l,m,rfl⟩:=jS h.p.out;have r:=aO w c 13 (.slice n k.q.length o) h.p.box;have s:=aO w c 14 (an k.bK) h.p.box;have t:=aO w c 16 (.slice l k.out.size m) h.p.box;have b:=aT (RX _ _ _ _ _ _ _ _ _ h);have a:Hid (k.gone=(!decide (k.ph<3)&&(((k.q.length:Int)==0)&&(k.bK==0)&&((k.out.size:Int)==0)))):=rfl;generalize k.gone=G at*;clear h;cases d:decide (k.ph<3)with
 |true=>
  go_enter func109,ntmps109;go_wp2_with (go_at_call 114;refine b.out.mono ?_;rintro e i ⟨rfl,rfl⟩);go_ret;exact⟨by rw[a.out,d];rfl,rfl⟩
 |false=>
  cases f:((k.q.length:Int)==0)with
  |false=>
   go_enter func109,ntmps109;go_wp2_with (go_at_call 114;refine b.out.mono ?_;rintro e i ⟨rfl,rfl⟩);go_ret;exact⟨by rw[a.out,d,f];rfl,rfl⟩
  |true=>
   cases j:(k.bK==0)with
   |false=>
    go_enter func109,ntmps109;go_wp2_with (go_at_call 114;refine b.out.mono ?_;rintro e i ⟨rfl,rfl⟩);go_ret;exact⟨by rw[a.out,d,f,j];rfl,rfl⟩
   |true=>
    go_enter func109,ntmps109;go_wp2_with (go_at_call 114;refine b.out.mono ?_;rintro e i ⟨rfl,rfl⟩);go_ret;exact⟨by rw[a.out,d,f,j];rfl,rfl⟩
def Ck.lose(k:Ck):Ck:={k with de:=0}
def J7(c rb mb ch q v g k w)(h:cg w c rb mb ch q v g k):
  Calls prog 167 #[jp c] w λe a=>e=aN (.tuple #[])/\cg a c rb mb ch q v g k.lose/\aV (λi=>i=c) w a:=by
 have b:Hid (cg (w.setCell (aj c 18) (an 0)) c rb mb ch q v g k.lose):=h.put 18 _ rfl rfl rfl rfl rfl;have d:=aO w c 18 (an k.de) h.p.box;have f18:=bz h.p.box 18;go_enter func167,ntmps167;go_wp2;exact eO rfl rfl ⟨rfl,b.out,(aV.refl (λi=>i=c) w).set rfl _⟩
def Ck.lP(g:Cf)(k:Ck):Ck:={k with tok:=min (k.tok+g.rt) g.bu}
def Yv(c rb mb ch q v g k w)(h:cg w c rb mb ch q v g k)(hr:0<=g.rt/\g.rt<=65535)(m:0<=k.tok/\k.tok<=65535):
  Calls prog 60 #[jp c] w λe a=>e=aN (.tuple #[])/\cg a c rb mb ch q v g (k.lP g)/\aV (λi=>i=c) w a:=by
 have b:Hid (cg (w.drew.setCell (aj c 17) (an (min (eP.wrap (k.tok+g.rt)) g.bu))) c rb mb ch q v g (k.lP g)):=by rw[iG ak ak];exact h.drew.put 17 _ rfl rfl rfl rfl rfl
 have f:=aO w c 7 (an g.rt) h.p.box;have j:=aO w c 8 (an g.bu) h.p.box;have d:=aO w c 17 (an k.tok) h.p.box;have f17:=bz h.p.box 17;clear h;go_enter func60,ntmps60
 go_upto_region 0 with fail
 refine iJ ?_;refine dB (S:=λW=>W.cell? (aj c 7)=aa (an g.rt)/\W.cell? (aj c 8)=aa (an g.bu)/\W.cell? (aj c 17)=aa (an k.tok)) 19 aS ⟨f,j,d⟩ ?_;intro hS;refine gk 0 ?_;refine gk 1 ?_;refine gk 2 ?_;refine gk 3 ?_;refine gs 4 ?_;refine gk 5 ?_;refine gk 6 ?_;refine gk 7 ?_;refine gk 8 ?_;refine gs 9 ?_;refine gk 10 ?_;refine gk 11 ?_;refine gk 12 ?_;refine gk 13 ?_;refine gk 14 ?_;refine gs 15 ?_;refine gk 16 ?_;refine gk 17 ?_;refine gk 18 ?_;refine gz λK l=>?_;go_simp;refine l.out _ _ ?_;refine eu aS ?_ _;refine gT ?_;go_wp2;exact eO rfl rfl ⟨rfl,b.out,(aV.refl (λi=>i=c) w).drew'.set (p:=aj c 17) rfl _⟩
def Ck.open(g:Cf)(k:Ck):Ck:={k with de:=k.de+k.wt*g.qn}
def V3(c rb mb ch q v g k w)(h:cg w c rb mb ch q v g k)(a:0<=g.qn/\g.qn<=65535)(b:0<=k.wt/\k.wt<=65535)(o:0<=k.de/\k.de<=1048576):
  Calls prog 165 #[jp c] w λe d=>e=aN (.tuple #[])/\cg d c rb mb ch q v g (k.open g)/\aV (λi=>i=c) w d:=by
 have r:0<=k.wt*g.qn:=Int.mul_nonneg b.1 a.1
 have s:k.wt*g.qn<=4294836225:=by have:=Int.mul_le_mul b.2 a.2 a.1 ak;omega
 have f:Hid (cg (w.drew.setCell (aj c 18) (an (eP.wrap (k.de+eP.wrap (k.wt*g.qn))))) c rb mb ch q v g (k.open g)):=by rw[iG (x:=k.wt*g.qn) ak ak,iG (x:=k.de+k.wt*g.qn) ak ak];exact h.drew.put 18 _ rfl rfl rfl rfl rfl
 have j:=aO w c 1 (an k.wt) h.p.box;have m:=aO w c 6 (an g.qn) h.p.box;have l:=aO w c 18 (an k.de) h.p.box;have f18:=bz h.p.box 18;clear h;go_enter func165,ntmps165
 go_upto_region 0 with fail
 refine iJ ?_;refine dB (S:=λW=>W.cell? (aj c 1)=aa (an k.wt)/\W.cell? (aj c 6)=aa (an g.qn)/\W.cell? (aj c 18)=aa (an k.de)) 17 aS ⟨j,m,l⟩ ?_;intro hS;refine gk 0 ?_;refine gk 1 ?_;refine gk 2 ?_;refine gs 3 ?_;refine gk 4 ?_;refine gk 5 ?_;refine gk 6 ?_;refine gs 7 ?_;refine gk 8 ?_;refine gk 9 ?_;refine gk 10 ?_;refine gk 11 ?_;refine gs 12 ?_;refine gk 13 ?_;refine gk 14 ?_;refine gk 15 ?_;refine gk 16 ?_;refine gz λK n=>?_;go_simp;refine n.out _ _ ?_;refine eu aS ?_ _;refine gT ?_;go_wp2;exact eO rfl rfl ⟨rfl,f.out,(aV.refl (λi=>i=c) w).drew'.set (p:=aj c 18) rfl _⟩
def cG(n:Int):aB Rq->aB Rq×Int
 |[]=>([],n)
 |r::t=>if r.no= -1 then(⟨r.m,n⟩::(cG (n+1) t).1,(cG (n+1) t).2)else(r::(cG n t).1,(cG n t).2)
def zu(l):∀n,(cG n l).1.length=l.length:=by
 induction l with
 |nil=>intro n;rfl
 |cons r t a=>intro n;unfold cG;split<;>simp[a]
def Kt(l):∀n,n<=(cG n l).2/\(cG n l).2<=n+l.length:=by
 induction l with
 |nil=>intro n;simp[cG]
 |cons r t a=>
  intro n;unfold cG;split
  ·have:=a (n+1);simp;omega
  ·have:=a n;simp;omega
def U0(a b):∀n,cG n (a++b)=((cG n a).1++(cG (cG n a).2 b).1,(cG (cG n a).2 b).2):=by
 induction a with
 |nil=>intro n;simp[cG]
 |cons r t c=>
  intro n;simp only[jY,cG];split<;>simp[c]
def U1{l:aB Rq}{i:Nat}{r:Rq}(h:l[i]? =aa r)(n):cG n (l.take (i+1))=if r.no= -1 then((cG n (l.take i)).1++[⟨r.m,(cG n (l.take i)).2⟩],(cG n (l.take i)).2+1)else((cG n (l.take i)).1++[r],(cG n (l.take i)).2):=by
 rw[sX,h];rw[U0]
 by_cases e:r.no= -1
 ·simp[cG,e]
 ·simp[cG,e]
def Pu{α:Type}(F:α->aB aE)(K)(hF:∀x,(F x).length=K):∀(l:aB α) (i j:Nat) (x y:α) (u:aE),l[i]? =aa x->j<K->F y=(F x).set j u->(l.set i y).flatMap F=(l.flatMap F).set (i*K+j) u:=by
 intro l;induction l with
 |nil=>intro i j x y u h;simp at h
 |cons a t d=>
  intro i j x y u h c b;cases i with
  |zero=>
   simp at h;subst h;simp;rw[MK,aX (by grind),b]
  |succ i=>
   simp at h;have e:(i+1) *K+j=K+(i*K+j):=by grind
   simp;rw[d i j x y u h c b,e,MK,aQ (by grind),hF]
   congr 2
   omega
def cI.aaz{W c rb ch gb n cap i v g k r}(h:cI W c rb ch (.slice (aa (aj gb 0)) n cap) v g k)(o:k.q[i]? =aa r)(no):
  cI (W.setCell (aj gb (i*10+9)) (an no)) c rb ch (.slice (aa (aj gb 0)) n cap) v g {k with q:=k.q.set i ⟨r.m,no⟩}:=by
 obtain⟨a1,s,a3,t,D,p⟩:=h.apart;have off:∀b,b≠gb->(W.setCell (aj gb (i*10+9)) (an no)).heap[b]? =W.heap[b]? :=λb l=>bH l;have H:i<k.q.length:=(eL.1 o).1;refine⟨(off c λe=>s (by rw[e];rfl)).trans h.box,?_,gD h.out λb e=>off b λf=>p gb rfl (by rw[e,f]),?_,h.tv.keep λb e=>off b λf=>p gb rfl (by rw[e,f]),(off ch λe=>t (by rw[e];rfl)).trans h.chan⟩
 ·have a:(k.q.set i ⟨r.m,no⟩).length=k.q.length:=aC;refine⟨?_,?_⟩
  ·rw[Pu (λr=>(aM r).toList) 10 (λ_=>rfl) k.q i 9 r ⟨r.m,no⟩ (an no) o ak rfl,oo,a];exact h.row.1
  ·rcases h.row.2 with⟨e,_⟩|⟨G,E,F,e,j,y,z,A,B,C⟩
   ·cases e
   ·cases e;refine aD ⟨gb,cap,_,by rw[a],j,cz y (i*10+9) _,by rw[a];exact z,A,by simpa using B,?_⟩;rw[Pu (λr=>(aM r).toList) 10 (λ_=>rfl) k.q i 9 r ⟨r.m,no⟩ (an no) o ak rfl,<-C,a,Cr,List.take_set]
 ·obtain⟨x,T,w,j⟩:=h.tq gb rfl;intro b l;cases l;refine⟨_,T,cz w (i*10+9) _,λu d=>?_⟩;rw[Cr]at d;rcases Hg d with d|rfl
  ·exact j u d
  ·trivial
def T8(c rb mb ch q v g k n w)(h:cg w c rb mb ch q v g k)(Z:0<=n/\n<=281474976710656)(W:k.q.length<=1048576):
  Calls prog 102 #[jp c,an n] w λe G=>e=aN (an (cG n k.q).2)/\cg G c rb mb ch q v g {k with q:=(cG n k.q).1}/\aV (λb=>aa b=q.ownBlock) w G:=by
 obtain⟨l,a,rfl,_⟩:=h.p.row.form;have P:=aO w c 13 (.slice l k.q.length a) h.p.box;have t:=aT h;clear h;go_enter func102,ntmps102;go_wp2
 go_loopw [1,5,11] (λM _ D wr=>∃i:Nat,i<=k.q.length/\D=an (i:Int)/\M=an (cG n (k.q.take i)).2/\Hid (cI wr c rb ch (.slice l k.q.length a) v g {k with q:=(cG n (k.q.take i)).1++k.q.drop i}/\aV (λb=>aa b=(ff l k.q.length a).ownBlock) w wr)) (λ_ _ D _=>k.q.length-(gU D).toNat)
 case atStart=>exact⟨0,eo _,rfl,rfl,t.out.p,aV.refl _ _⟩
 case round=>
  obtain⟨i,V,rfl,rfl,hR⟩:=hrel
  by_cases x:i<k.q.length
  ·have K:(i:Int)<(k.q.length:Int):=ak;obtain⟨r,hr⟩:∃r,k.q[i]? =aa r:=⟨k.q[i],ef x⟩;have j:=U1 hr n
   have y:((cG n (k.q.take i)).1++k.q.drop i)[i]? =aa r:=by rw[qz (by rw[zu];simp;omega),zu,He,rF,pL ak];simpa using hr
   have X:=Kt (k.q.take i) n;have af:(k.q.take i).length<=1048576:=bY;have S:=aO wr c 13 (.slice l k.q.length a) hR.out.1.box;have Y:((cG n (k.q.take i)).1++k.q.drop i).length=k.q.length:=by rw[gR,zu];simp;omega
   have z:iL wr (.slice l k.q.length a) ((cG n (k.q.take i)).1++k.q.drop i):=hR.out.1.row;obtain⟨f,rfl,k0,k1,k2,k3,k4,k5,k6,k7,k8,k9⟩:=z.at y
   have C:((cG n (k.q.take i)).1++k.q.drop i).set i ⟨r.m,(cG n (k.q.take i)).2⟩=(cG n (k.q.take i)).1++[⟨r.m,(cG n (k.q.take i)).2⟩]++k.q.drop (i+1):=by
    have L:(cG n (k.q.take i)).1.length=i:=by rw[zu];simp;omega
    rw[MK,aQ ak,L,Nat.sub_self,CI]
    congr 1
    rw[An x];rfl
   have B:k.q.drop i=r::k.q.drop (i+1):=by
    rw[An x]
    congr 1
    rw[ef x]at hr;exact dM hr
   have f9:wr.frozen? (aj f (i*10+9))=av:=by
    rcases z.2 with⟨e,_⟩|⟨T,Q,R,e,U,J,_⟩
    ·cases e
    ·injection e with d;injection d with d;injection d with d;subst d;exact bz J _
   have A:=hR.out.1.aaz y (cG n (k.q.take i)).2;cases E:(r.no==-1)with
   |true=>
    have d:r.no= -1:=by simpa using E
    rw[aX d]at j
    have o:Hid (cI (wr.setCell (aj f (i*10+9)) (an (cG n (k.q.take i)).2)) c rb ch (.slice (aa (aj f 0)) k.q.length a) v g {k with q:=(cG n (k.q.take (i+1))).1++k.q.drop (i+1)}/\aV (λb=>aa b=(ff (aa (aj f 0)) k.q.length a).ownBlock) w (wr.setCell (aj f (i*10+9)) (an (cG n (k.q.take i)).2))):=by refine⟨?_,hR.out.2.set (p:=aj f (i*10+9)) rfl _⟩;rw[j];show cI _ _ _ _ _ _ _ {k with q:=(cG n (k.q.take i)).1++[⟨r.m,(cG n (k.q.take i)).2⟩]++k.q.drop (i+1)};rw[<-C];exact A
    have u:Hid ((cG n (k.q.take (i+1))).2=(cG n (k.q.take i)).2+1):=by show _=_;rw[j]
    clear A j C B z y;generalize (cG n (k.q.take i)).2=F at*;go_wp2;refine⟨⟨i+1,ak,by go_num,?_,o.out⟩,?_⟩
    ·rw[u.out]
    ·simp[gU];omega
   |false=>
    have d:¬r.no= -1:=by simpa using E
    rw[aQ d]at j
    have o:Hid (cI wr c rb ch (.slice (aa (aj f 0)) k.q.length a) v g {k with q:=(cG n (k.q.take (i+1))).1++k.q.drop (i+1)}/\aV (λb=>aa b=(ff (aa (aj f 0)) k.q.length a).ownBlock) w wr):=by refine⟨?_,hR.out.2⟩;rw[j];show cI _ _ _ _ _ _ _ {k with q:=(cG n (k.q.take i)).1++[r]++k.q.drop (i+1)};rw[CI];show cI _ _ _ _ _ _ _ {k with q:=(cG n (k.q.take i)).1++(r::k.q.drop (i+1))};rw[<-B];exact hR.out.1
    have u:Hid ((cG n (k.q.take (i+1))).2=(cG n (k.q.take i)).2):=by show _=_;rw[j]
    clear A j C B z y;generalize (cG n (k.q.take i)).2=F at*;go_wp2;refine⟨⟨i+1,ak,by go_num,?_,o.out⟩,?_⟩
    ·rw[u.out]
    ·simp[gU];omega
  ·have K:¬(i:Int)<(k.q.length:Int):=ak;have e:i=k.q.length:=ak;subst e;have s:=hR.out;rw[uy,List.drop_length,yl]at s
   have o:Hid (cg wr c rb mb ch (.slice l k.q.length a) v g {k with q:=(cG n k.q).1}/\aV (λb=>aa b=(ff l k.q.length a).ownBlock) w wr):=by obtain⟨a1,N,a3,O,H,I,_⟩:=t.out.apart;exact⟨t.out.of s.1 (s.2.block _ t.out.eC.1 H) (s.2.block _ t.out.eC.2 I) rfl λ_=>rfl,s.2⟩
   have u:Hid ((cG n (k.q.take k.q.length)).2=(cG n k.q).2):=by show _=_;rw[uy]
   clear hR s;generalize (cG n (k.q.take k.q.length)).2=F at*;go_wp2;go_ret;exact⟨by rw[<-u.out];rfl,o.out.1,o.out.2⟩
end
section
attribute [local go_sem ↓] Go.wp_at_zero Go.wp_at_succ
attribute [local go_sem] bP bF
open Go.ChangeMaps Go.Conc Go.Maps Go.RowKit Go.WideElems
open Go.Proofs.Tryz
def abK{H:Type}{Kd}(O:OneKind Kd)(u:DataW H):∀acc:aB Lit,(∀x∈acc,Kd x)->(∀x∈acc,Na x)->acc.Nodup->Ar u acc.reverse=.map ((acc.map λx=>(x,u)).foldr UC []):=by
 intro acc;induction acc with
 |nil=>intros;rfl
 |cons x t k=>
  intro b f j;have c:=List.nodup_cons.1 j;rw[List.reverse_cons,Maps.setOf_snoc,k (λy a=>b y (by simp[a])) (λy a=>f y (by simp[a])) c.2]
  have g:Keys Kd (t.map λx=>(x,u)):=λp d=>by obtain⟨y,a,rfl⟩:=jH.1 d;exact b y (by simp[a])
  have h:(t.map λx=>(x,u)).Pairwise (λp q=>p.1≠q.1):=by rw[CV];exact c.2
  have i:(t.map λx=>(x,u)).filter (notKey x)=t.map λx=>(x,u):=by rw[GY];intro p d;obtain⟨y,a,rfl⟩:=jH.1 d;rw[notKey_iff (f x aC)];exact λe=>c.1 (by rw[<-e];exact a)
  have:=Maps.sorted_put (E':=(x,u)::t.map λx=>(x,u)) O (b x aC) g h (by rw[i]);show DataW.map (putKey x u _)=_;rw[<-this];rfl
def RG{α:Type}{l:aB α}(h:l.Nodup):l.reverse.Nodup:=by show l.reverse.Pairwise _;rw[List.pairwise_reverse];exact h.imp dF
def abJ{H:Type}{b:Lit->Prop}(O:OneKind b)(u:DataW H)(acc)(k:Lit)(p:Lit->Bool)(d:∀x∈acc,(p x=aq↔x≠k))(e:∀x∈acc,b x)(o:∀x∈acc,Na x)(n:Na k)(c:acc.Nodup):
  (Ar u acc).del k=Ar u (acc.filter p)/\Maps.size (Ar u (acc.filter p))=(acc.filter p).length:=by
 have hr:∀l:aB Lit,(∀x∈l,x∈acc)->l.Nodup->Ar u l=.map ((l.reverse.map λx=>(x,u)).foldr UC []):=λl hm r=>by have:=abK O u l.reverse (λx a=>e x (hm x (by simpa using a))) (λx a=>o x (hm x (by simpa using a))) (RG r);rw[List.reverse_reverse]at this;exact this
 have s:∀x∈acc.filter p,x∈acc:=λx a=>(wF.1 a).1;have g:=hr _ s (c.filter _);rw[g,hr acc (λ_ h=>h) c]
 have i:Keys b (acc.reverse.map λx=>(x,u)):=λp d=>by obtain⟨y,t,rfl⟩:=jH.1 d;exact e y (by simpa using t)
 have j:(acc.reverse.map λx=>(x,u)).Pairwise (λp q=>p.1≠q.1):=by rw[CV];exact RG c
 have m:((acc.filter p).reverse.map λx=>(x,u))=(acc.reverse.map λx=>(x,u)).filter (notKey k):=by
  rw[<-List.filter_reverse,UW]
  congr 1
  apply List.filter_congr;intro x a;have f:notKey k (x,u)=aq↔x≠k:=notKey_iff n;exact um.2 ((d x (by simpa using a)).trans f.symm)
 refine⟨?_,?_⟩
 ·show DataW.map (delKey k _)=_;rw[Maps.sorted_del (E':=(acc.filter p).reverse.map λx=>(x,u)) O i j (by rw[m])]
 ·rw[Maps.size_eq,length_sorted];simp
def V9{H:Type}{w:az}{P:Program}{k:TypeId}{R:aE->aY (DataW H×aB MemPlace)}{b n:Nat}{D:DataW H}(h:w.ownsMap P k R b n D):w.ownsMap P k R b (Maps.size D) D:=by obtain⟨d,c,e,f,g,a⟩:=h;refine⟨d,c,e,f,?_,a⟩;rw[a,Maps.size_eq,length_read];exact bC _
def afb{w:az}{mb:Nat}{us:aB Int}(h:Uses w mb us)(l:us.Nodup)(hr:∀x∈us,0<=x/\x<=65535)(ck)(i:0<=ck/\ck<=65535){w':az}(d:w'.ownsMap prog 3 (unitElem (H:=Unit)) mb us.length ((Ar (.agg []) (us.map (CW .i64))).del (.int .i64 ck))):
  Uses w' mb (us.filter λx=>decide (x≠ck)):=by
 have c:∀x:Int,0<=x/\x<=65535->keyOf prog 3 (.int .i64 x)=aa (.int .i64 x):=λx a=>Vk underlying3 (by simp[Lit.wf,IntKind.min,IntKind.max,UP,UO];omega)
 have k:(us.map (CW .i64)).Nodup:=by rw[List.nodup_iff_pairwise_ne,CV];exact l.imp λh e=>h (by injection e)
 obtain⟨f,g⟩:=abJ (CX underlying3).one (.agg []) (us.map (CW .i64)) (.int .i64 ck) (λx=>match x with|.int _ y=>decide (y≠ck)|_=>aq) (λx a=>by
  obtain⟨y,b,rfl⟩:=jH.1 a;simp) (λx a=>by
  obtain⟨y,b,rfl⟩:=jH.1 a;exact⟨_,c y (hr y b)⟩) (λx a=>by
  obtain⟨y,b,rfl⟩:=jH.1 a;exact(CX underlying3).key (c y (hr y b))) ((CX underlying3).key (c ck i)) k
 have j:(us.map (CW .i64)).filter (λx=>match x with|.int _ y=>decide (y≠ck)|_=>aq)=(us.filter λx=>decide (x≠ck)).map (CW .i64):=by rw[UW];rfl
 rw[f]at d;have:=V9 d;rw[g,j,pG]at this;unfold Uses;exact this
end
section
attribute [local go_sem ↓] Go.wp_at_zero Go.wp_at_succ
attribute [local go_sem] bP bF
open Go.Conc Go.RowKit
open Go.Proofs.Tryz
def yN(W:az)(g:Nat):Prop:=∃x T,W.heap[g]? =aa (aA x T (0,0))/\∀u∈x.toList,lH u
def yN.sets{g}:∀(vs:aB aE) (o:Nat) (W:az),yN W g->(∀u∈vs,lH u)->yN (W.setCells g o vs) g
 |[],_,_,h,_=>h
 |u::vs,o,W,⟨x,T,b,d⟩,hv=>by
  refine yN.sets vs (o+1) (W.setCell (aj g o) u) ⟨_,T,cz b o u,λy a=>?_⟩ λy a=>hv y (by simp[a]);rw[Cr]at a;rcases Hg a with a|rfl
  ·exact d y a
  ·exact hv y aC
def Jh(r):∀u∈(aM r).toList,lH u:=λu a=>by simp at a;rcases a with rfl|rfl|rfl|rfl|rfl|rfl|rfl|rfl|rfl|rfl<;>trivial
def Zg(l:aB Rq):∀u∈l.flatMap (λr=>(aM r).toList),lH u:=λu a=>by obtain⟨r,_,hr⟩:=CS.1 a;exact Jh r u hr
def V2(l:aB Rq):∀u∈l.flatMap (λr=>(aM r).toList),u.oneCell'=aq:=λu a=>by obtain⟨r,_,hr⟩:=CS.1 a;simp at hr;rcases hr with rfl|rfl|rfl|rfl|rfl|rfl|rfl|rfl|rfl|rfl<;>rfl
def XZ{v r l}(w:az)(h:iL w v (r::l))(x:mQ w v):
  Calls prog 269 #[v,an 0,an 1] w λe f=>∃d,e=aN d/\iL f d l/\aV (λb=>aa b=v.ownBlock) w f/\d.ownBlock=v.ownBlock/\mQ f d:=by
 have n:(l.flatMap (λr=>(aM r).toList)).length=l.length*10:=by have:=h.1;rw[wC,gR]at this;have e:(aM r).toList.length=10:=rfl;have A:(r::l).length=l.length+1:=rfl;omega
 rcases h.2 with⟨_,h0⟩|⟨g,p,s,rfl,C,m,o,i,j,y⟩
 ·simp at h0
 ·refine(Ya g (l.length+1) p (l.flatMap λr=>(aM r).toList) s w ak o i n (V2 l) m j (take_at y rfl)).mono ?_;rintro e f ⟨rfl,rfl⟩;obtain⟨a,b⟩:=OI (zs:=zsQ) m j o i n rfl;refine⟨_,rfl,a,⟨b.os,b.size,λk u z=>b.block k u λe=>z (by rw[e];rfl)⟩,rfl,λB t=>?_⟩;cases t;have h0:yN w.drew g:=x g rfl;exact(h0.sets _ 0 _ (Zg l)).sets zsQ _ _ (Jh ⟨⟨0,⟨#[]⟩,0,0,0,0,0,⟨#[]⟩,0⟩,0⟩)
def Ck.bU(k:Ck)(r:Rq)(l:aB Rq):Ck:={k with q:=l,tok:=k.tok-1,de:=k.de-cW r.m,sv:=k.sv+cW r.m,bK:=k.bK+1,prom:=k.prom+sizeOf' r.m}
structure kD(w W:az)(c rb ch:Nat)(q0 q v:aE)(g:Cf)(k:Ck)(r:Rq)(b0 b1:Nat):Prop where
 p:cI W c rb ch q v g k
 z:kX W b0
 b:W.heap[b1]? =aa (aA (aM r) 134 (0,0))
 t:aV (λb=>b=c\/aa b=q0.ownBlock) w W
section
variable {w W W':az} {c rb ch b0 b1:Nat} {q0 q v:aE} {g:Cf} {k k':Ck} {r:Rq}
def kD.drew(h:kD w W c rb ch q0 q v g k r b0 b1):kD w W.drew c rb ch q0 q v g k r b0 b1:=⟨h.p.drew,h.z,h.b,h.t.drew⟩
def kD.old(h:kD w W c rb ch q0 q v g k r b0 b1)(a:aL W W'):kD w W' c rb ch q0 q v g k r b0 b1:=⟨h.p.old a,bV a h.z,bV a h.b,h.t.trans (aV.below a)⟩
def kD.put(h:kD w W c rb ch q0 q v g k r b0 b1)(i u)(a:(ju g k rb q v ch).setIfInBounds i u=ju g k' rb q v ch)(f:k'.q=k.q)(d:k'.out=k.out)(e:k'.ph=k.ph):kD w (W.setCell (aj c i) u) c rb ch q0 q v g k' r b0 b1:=
 ⟨h.p.put i u a f d e,mV h.z (fL h.z h.p.box aC) _ _,mV h.b (fL h.b h.p.box aC) _ _,h.t.set (aF rfl) _⟩
abbrev DsS(c b1:Nat)(k:Ck)(r:Rq)(W:az):Prop:=(W.cell? (aj c 18)=aa (an k.de)/\W.cell? (aj c 19)=aa (an k.sv)/\W.cell? (aj c 15)=aa (an k.prom))/\cu W b1 r
def kD.s(h:kD w W c rb ch q0 q v g k r b0 b1):DsS c b1 k r W:=⟨⟨aG h.p.box rfl,aG h.p.box rfl,aG h.p.box rfl⟩,cu.of h.b⟩
def aex(W B u0 u1 u2 u3 u4 u5 u6 u7 u8 u9):aV (λb=>b=B) W ((((((((((W.setCell (aj B 0) u0).setCell (aj B 1) u1).setCell (aj B 2) u2).setCell (aj B 3) u3).setCell (aj B 4) u4).setCell (aj B 5) u5).setCell (aj B 6) u6).setCell (aj B 7) u7).setCell (aj B 8) u8).setCell (aj B 9) u9):=
 (((((((((((aV.refl (λb=>b=B) W).set (p:=aj B 0) rfl u0).set (p:=aj B 1) rfl u1).set (p:=aj B 2) rfl u2).set (p:=aj B 3) rfl u3).set (p:=aj B 4) rfl u4).set (p:=aj B 5) rfl u5).set (p:=aj B 6) rfl u6).set (p:=aj B 7) rfl u7).set (p:=aj B 8) rfl u8).set (p:=aj B 9) rfl u9)
def kD.fin{mb gb L qc a}(h:kD w W c rb ch (.slice (aa (aj gb 0)) L qc) a v g k r w.heap.size b1){k0}(h0:cg w c rb mb ch (.slice (aa (aj gb 0)) L qc) v g k0)(o:k.us=k0.us)(m:k.ph=k0.ph)(n:a.ownBlock=aa gb)(f:aV (λb=>b=w.heap.size) W W'):
  ∃a,cg W' c rb mb ch a v g k/\aV (λb=>b=c\/aa b=(ff (aa (aj gb 0)) L qc).ownBlock) w W'/\a.ownBlock=(ff (aa (aj gb 0)) L qc).ownBlock:=by
 have d:=h.t;obtain⟨a1,A,a3,B,C,D,E,F,G⟩:=h0.apart;obtain⟨j,l⟩:=h0.eC;obtain⟨u,x,y,z⟩:=h0.p.eC;have H:=y gb rfl;have sz:=d.size;have off:∀b,b<w.heap.size->W'.heap[b]? =W.heap[b]? :=λb i=>f.block b ak ak;refine⟨a,h0.of (h.p.keep (off c u) (off ch x) (λb e=>off b (by grind)) λb e=>off b (z b e)) ?_ ?_ o λ_=>m,⟨f.os.trans d.os,dm sz f.size,λb i s=>(off b i).trans (d.block b i s)⟩,n⟩
 ·exact(off rb j).trans (d.block rb j (by grind))
 ·exact(off mb l).trans (d.block mb l (by grind))
end
def OM(c rb mb ch q v g k r l w)(h:cg w c rb mb ch q v g k)(hq:k.q=r::l)(hr:r.Ok)(ht:0<=k.tok/\k.tok<=65535)(hd:0<=k.de/\k.de<=1048576)(hs:0<=k.sv/\k.sv<=281474976710656)(hf:0<=k.bK/\k.bK<=1048576)(hp:0<=k.prom/\k.prom<=4194304):
  Calls prog 242 #[jp c] w λe y=>e=aN (.agg (aM r))/\∃E,cg y c rb mb ch E v g (k.bU r l)/\aV (λb=>b=c\/aa b=q.ownBlock) w y/\E.ownBlock=q.ownBlock:=by
 have G:=h.p.row;rw[hq]at G;obtain⟨qa,t,rfl,_⟩:=G.form;have Oj:=aO w c 13 (.slice qa (r::l).length t) h.p.box;obtain⟨d,rfl,k0,k1,k2,k3,k4,k5,k6,k7,k8,k9⟩:=G.at (i:=0) rfl;simp at k0 k1 k2 k3 k4 k5 k6 k7 k8 k9;have hc:c<w.heap.size:=h.p.eC.1;have hg:d<w.heap.size:=gH k0;have cP:(0:Int)<((r::l).length:Int):=by simp only[eT];omega
 have e0:cW r.m=r.m.ln\/cW r.m=4:=by unfold cW;split;exact aD rfl;exact aF rfl
 have e1:sizeOf' r.m=4+r.m.ln\/sizeOf' r.m=4:=by unfold sizeOf';split;exact aF rfl;exact aD rfl
 have cJ:0<=cW r.m/\cW r.m<=65535:=by have:=hr.mE;have:=hr.qb;omega
 have cT:0<=sizeOf' r.m/\sizeOf' r.m<=65539:=by have:=hr.mE;have:=hr.qb;omega
 have T:aL w ((w.alloc (aA kM 134)).alloc (aA (aM r) 134)):=bf.alloc aC _;have aI:((w.alloc (aA kM 134)).alloc (aA (aM r) 134)).heap[w.heap.size]? =aa (aA kM 134 (0,0)):=(Below.heap_alloc _ _ _ aC).trans (cw w _)
 have Qb:((w.alloc (aA kM 134)).alloc (aA (aM r) 134)).heap[w.heap.size+1]? =aa (aA (aM r) 134 (0,0)):=by have:=cw (w.alloc (aA kM 134)) (aA (aM r) 134);rw[AB]at this;exact this
 have HD:Hid (Calls prog 269 #[.slice (aa (aj d 0)) (r::l).length t,an 0,an 1] ((w.alloc (aA kM 134)).alloc (aA (aM r) 134)) λe y=>∃f x j,e=aN (.slice f x j)/\kD w (y.setCell (aj c 13) (.slice f x j)) c rb ch (.slice (aa (aj d 0)) (r::l).length t) (.slice f x j) v g {k with q:=l} r w.heap.size (w.heap.size+1)/\(ff f x j).ownBlock=aa d/\y.heap[c]? =aa (aA (ju g k rb (.slice (aa (aj d 0)) (r::l).length t) v ch) 168 (0,0))):=by
  have P:=h.p.old T;have bD:iL _ _ (r::l):=hq▸P.row;obtain⟨a1,a2,a3,a4,a5,a6⟩:=P.apart;refine(XZ _ bD P.tq).mono ?_;rintro e y ⟨v',rfl,d1,d2,d3,d4⟩;obtain⟨f,j,rfl,_⟩:=d1.form;have H:=P.eC;have off:∀b,b≠c->(y.setCell (aj c 13) (.slice f l.length j)).heap[b]? =y.heap[b]? :=λb hb=>bH hb;have zk:=(d2.block c H.1 a2).trans P.box;have nq:∀b,(ff f l.length j).ownBlock=aa b->b≠c:=λb e A=>a2 (by rw[<-A,<-d3,e]);have nv:∀b,v.ownBlock=aa b->aa b≠(ff (aa (aj d 0)) (r::l).length t).ownBlock:=λb e A=>a6 b A.symm e.symm;have I:w.heap.size≠d/\w.heap.size+1≠d/\w.heap.size≠c/\w.heap.size+1≠c:=ak;refine⟨_,_,_,rfl,⟨⟨cz zk 13 _,gD d1 λb e=>off b (nq b e),gD P.out λb e=>(off b λA=>a3 (by rw[e,A])).trans (d2.block b (H.2.2.2 b e) (nv b e)),d4.keep λb e=>off b (nq b e),P.tv.keep λb e=>(off b λA=>a3 (by rw[e,A])).trans (d2.block b (H.2.2.2 b e) (nv b e)),(off ch (dF a1)).trans ((d2.block ch H.2.1 a4).trans P.chan)⟩,?_,?_,?_⟩,d3,zk⟩
  ·exact(off _ I.2.2.1).trans ((d2.block _ bY (λe=>I.1 (by injection e))).trans aI)
  ·exact(off _ I.2.2.2).trans ((d2.block _ aC (λe=>I.2.1 (by injection e))).trans Qb)
  ·exact((aV.below T).trans (d2.mono λb _ h=>.inr h)).set (p:=aj c 13) (.inl rfl) _
 have Z:=aT h;have Q:Hid (∀W,bO 206 #[.agg (aM r)] W (an (cW r.m))):=λW=>Si r W;have HZ:Hid (∀W,bO 201 #[.agg (jR r.m.wh r.m.nm r.m.kd r.m.fl r.m.ck r.m.of r.m.ln r.m.dt r.m.er)] W (an (sizeOf' r.m))):=λW=>FB r.m W hr.mE hr.qb;have HE:Hid (k.bU r l={k with q:=l,tok:=k.tok-1,de:=k.de-cW r.m,sv:=k.sv+cW r.m,bK:=k.bK+1,prom:=k.prom+sizeOf' r.m}):=rfl;clear h G T aI Qb e0 e1;generalize k.bU r l=kd at*;generalize cW r.m=o at*;generalize sizeOf' r.m=U at*;generalize (r::l).length=L at*;go_enter func242,ntmps242
 go_upto_region 4 with(go_at_call 269;refine HD.out.mono ?_;rintro e J ⟨f,x,j,rfl,d1,d2,d3⟩;have H1:=aT d1;have bV:=aO J c 13 (.slice (aa (aj d 0)) L t) d3;have f13:=bz d3 13;have bZ:=aO J c 17 (an k.tok) d3;have f17:=bz d3 17;clear d1 d3)
 have M:Hid (kD w ((J.setCell (aj c 13) (.slice f x j)).setCell (aj c 17) (an (k.tok-1))) c rb ch (.slice (aa (aj d 0)) L t) (.slice f x j) v g {k with q:=l,tok:=k.tok-1} r w.heap.size (w.heap.size+1)):=H1.out.put 17 _ rfl rfl rfl rfl;clear bV f13 bZ f17 H1;generalize (J.setCell (aj c 13) (.slice f x j)).setCell (aj c 17) (an (k.tok-1))=W2 at*;refine iJ ?_;refine dB (S:=DsS c (w.heap.size+1) {k with q:=l,tok:=k.tok-1} r) 9 aS M.out.drew.s ?_;intro hS;refine gk 0 ?_;refine gk 1 ?_;refine gk 2 ?_;refine gs 3 ?_;refine gs 4 ?_;refine gr 5 λK a=>?_;go_simp;go_at_call 206;refine(Q.out _).mono ?_;rintro e V ⟨rfl,Qk⟩;have B:=M.out.drew.old Qk;refine a.out _ _ B.s (λbt=>?_);clear a K;refine gk 6 ?_;refine gk 7 ?_;refine gk 8 ?_;have b7:=aO V c 18 (an k.de) B.p.box;have f18:=bz B.p.box 18;refine gz λK a=>?_;go_simp;refine a.out _ _ ?_
 have N:Hid (kD w (V.setCell (aj c 18) (an (eP.wrap (k.de-o)))) c rb ch (.slice (aa (aj d 0)) L t) (.slice f x j) v g {k with q:=l,tok:=k.tok-1,de:=k.de-o} r w.heap.size (w.heap.size+1)):=by rw[iG ak ak];exact B.put 18 _ rfl rfl rfl rfl
 clear hS bt B b7 f18 a K Qk M;generalize V.setCell (aj c 18) (an (eP.wrap (k.de-o)))=W4 at*;refine eu aS ?_ _;refine gT ?_
 go_upto_region 5 with fail
 refine iJ ?_;refine dB (S:=DsS c (w.heap.size+1) {k with q:=l,tok:=k.tok-1,de:=k.de-o} r) 9 aS N.out.drew.s ?_;intro hS;refine gk 0 ?_;refine gk 1 ?_;refine gk 2 ?_;refine gs 3 ?_;refine gs 4 ?_;refine gr 5 λK a=>?_;go_simp;go_at_call 206;refine(Q.out _).mono ?_;rintro e X ⟨rfl,Qm⟩;have C:=N.out.drew.old Qm;refine a.out _ _ C.s (λbu=>?_);clear a K;refine gk 6 ?_;refine gk 7 ?_;refine gk 8 ?_;have b8:=aO X c 19 (an k.sv) C.p.box;have f19:=bz C.p.box 19;refine gz λK a=>?_;go_simp;refine a.out _ _ ?_
 have F:Hid (kD w (X.setCell (aj c 19) (an (eP.wrap (k.sv+o)))) c rb ch (.slice (aa (aj d 0)) L t) (.slice f x j) v g {k with q:=l,tok:=k.tok-1,de:=k.de-o,sv:=k.sv+o} r w.heap.size (w.heap.size+1)):=by rw[iG ak ak];exact C.put 19 _ rfl rfl rfl rfl
 clear hS bu C b8 f19 a K Qm N;generalize X.setCell (aj c 19) (an (eP.wrap (k.sv+o)))=R at*;refine eu aS ?_ _;refine gT ?_;have bW:=aO R c 14 (an k.bK) F.out.p.box;have f14:=bz F.out.p.box 14
 go_upto_region 7 with fail
 have O:Hid (kD w (R.setCell (aj c 14) (an (k.bK+1))) c rb ch (.slice (aa (aj d 0)) L t) (.slice f x j) v g {k with q:=l,tok:=k.tok-1,de:=k.de-o,sv:=k.sv+o,bK:=k.bK+1} r w.heap.size (w.heap.size+1)):=F.out.put 14 _ rfl rfl rfl rfl;clear bW f14 F;generalize R.setCell (aj c 14) (an (k.bK+1))=W7 at*;refine iJ ?_;refine dB (S:=DsS c (w.heap.size+1) {k with q:=l,tok:=k.tok-1,de:=k.de-o,sv:=k.sv+o,bK:=k.bK+1} r) 10 aS O.out.drew.s ?_;intro hS;refine gk 0 ?_;refine gk 1 ?_;refine gk 2 ?_;refine gs 3 ?_;refine gk 4 ?_;refine gs 5 ?_;refine gr 6 λK a=>?_;go_simp;go_at_call 201;refine(HZ.out _).mono ?_;rintro e Y ⟨rfl,aJ⟩;have D:=O.out.drew.old aJ;refine a.out _ _ D.s (λbw=>?_);clear a K;refine gk 7 ?_;refine gk 8 ?_;refine gk 9 ?_;have bX:=aO Y c 15 (an k.prom) D.p.box;have f15:=bz D.p.box 15;refine gz λK a=>?_;go_simp;refine a.out _ _ ?_
 have n:Hid (kD w (Y.setCell (aj c 15) (an (eP.wrap (k.prom+U)))) c rb ch (.slice (aa (aj d 0)) L t) (.slice f x j) v g {k with q:=l,tok:=k.tok-1,de:=k.de-o,sv:=k.sv+o,bK:=k.bK+1,prom:=k.prom+U} r w.heap.size (w.heap.size+1)):=by rw[iG ak ak];exact D.put 15 _ rfl rfl rfl rfl
 clear hS bw D bX f15 a K aJ O;generalize Y.setCell (aj c 15) (an (eP.wrap (k.prom+U)))=u at*;refine eu aS ?_ _;refine gT ?_;obtain⟨m0,m1,m2,m3,m4,m5,m6,m7,m8,m9⟩:=cu.of n.out.b;have z0:=aO u w.heap.size 0 (an 0) n.out.z;have z1:=aO u w.heap.size 1 (.string ⟨#[]⟩) n.out.z;have z2:=aO u w.heap.size 2 (an 0) n.out.z;have z3:=aO u w.heap.size 3 (an 0) n.out.z;have z4:=aO u w.heap.size 4 (an 0) n.out.z;have z5:=aO u w.heap.size 5 (an 0) n.out.z;have z6:=aO u w.heap.size 6 (an 0) n.out.z;have z7:=aO u w.heap.size 7 (.string ⟨#[]⟩) n.out.z;have z8:=aO u w.heap.size 8 (an 0) n.out.z;have z9:=aO u w.heap.size 9 (an 0) n.out.z;have fz:∀i,u.frozen? (aj w.heap.size i)=av:=λi=>bz n.out.z i
 have VS:Hid (∀W',aV (λb=>b=w.heap.size) u W'->∃E,cg W' c rb mb ch E v g kd/\aV (λb=>b=c\/aa b=(ff (aa (aj d 0)) L t).ownBlock) w W'/\E.ownBlock=(ff (aa (aj d 0)) L t).ownBlock):=λW' hT=>by rw[HE.out];exact n.out.fin Z.out rfl rfl d2 hT
 clear n Z HE Q HZ;go_wp2;refine gO (v:=.agg (aM r)) (by simp[results,results242,go_sem,z0,z1,z2,z3,z4,z5,z6,z7,z8,z9]) rfl ⟨rfl,?_⟩;exact VS.out _ (aex _ _ _ _ _ _ _ _ _ _ _ _)
abbrev freed(us:aB Int)(a:Int):aB Int:=us.filter λx=>decide (x≠a)
def qK(us:aB Int):Prop:=us.Nodup/\∀x∈us,0<=x/\x<=65535
def Zr(rb mb sz mx ph us ck w)(h:dR w rb mb sz mx ph us)(j:qK us)(o:0<=ck/\ck<=65535):
  Calls prog 203 #[jp rb,an ck] w λe l=>e=aN (.tuple #[])/\dR l rb mb sz mx ph (freed us ck)/\aV (λb=>b=mb) w l:=by
 have y:=aO w rb 3 (.map (aa mb)) h.box;have p:=Vk (P:=prog) underlying3 (a:=ck) (by simp[Lit.wf,IntKind.min,IntKind.max,UP,UO];omega);have d:Hid (dR w rb mb sz mx ph us/\qK us):=⟨h,j⟩;have i:=aT h.uses;clear h j;go_enter func203,ntmps203;go_wp2_with (at_delete;refine wpList_delete_own _ rfl _ _ 226 3 rfl 169 (CX underlying3) underlying226 _ mb us.length (Ar (.agg []) (us.map (CW .i64))) rfl i.out _ _ rfl p ?_;intro B t u);have f:=u.grown
 have s:rb≠mb:=by obtain⟨A,z,m,_⟩:=i.out;exact fL d.out.1.box m aC
 refine eO rfl rfl ⟨rfl,⟨(f.block rb (bp.1 d.out.1.box).1 (λe=>s (by injection e))).trans d.out.1.box,afb i.out d.out.2.1 d.out.2.2 ck o t⟩,⟨f.os,f.size,λb n x=>f.block b n λe=>x (by injection e)⟩⟩
def Ck.uY(k:Ck)(r:Rq)(er:UInt8)(d:ByteArray):Ck:=
 if k.ph=4 then{k with bK:=k.bK-1,prom:=k.prom-sizeOf' r.m}
 else{k with bK:=k.bK-1,prom:=k.prom-sizeOf' r.m,out:=k.out++nk er r.m.ck d,us:=freed k.us r.m.ck}
structure mP(w W:az)(c rb ch:Nat)(v0 q v:aE)(g:Cf)(k:Ck)(r:Rq)(b1:Nat):Prop where
 p:cI W c rb ch q v g k
 b:W.heap[b1]? =aa (aA (aM r) 134 (0,0))
 t:aV (λb=>b=c\/aa b=v0.ownBlock) w W
section
variable {w W W':az} {c rb ch b1:Nat} {v0 q v:aE} {g:Cf} {k k':Ck} {r:Rq}
def mP.drew(h:mP w W c rb ch v0 q v g k r b1):mP w W.drew c rb ch v0 q v g k r b1:=⟨h.p.drew,h.b,h.t.drew⟩
def mP.old(h:mP w W c rb ch v0 q v g k r b1)(a:aL W W'):mP w W' c rb ch v0 q v g k r b1:=⟨h.p.old a,bV a h.b,h.t.trans (aV.below a)⟩
def mP.put(h:mP w W c rb ch v0 q v g k r b1)(i u)(a:(ju g k rb q v ch).setIfInBounds i u=ju g k' rb q v ch)(f:k'.q=k.q)(d:k'.out=k.out)(e:k'.ph=k.ph):mP w (W.setCell (aj c i) u) c rb ch v0 q v g k' r b1:=
 ⟨h.p.put i u a f d e,mV h.b (fL h.b h.p.box aC) _ _,h.t.set (aF rfl) _⟩
abbrev AN(c b1 rb:Nat)(v:aE)(k:Ck)(r:Rq)(W:az):Prop:=(W.cell? (aj c 11)=aa (aR rb)/\W.cell? (aj c 15)=aa (an k.prom)/\W.cell? (aj c 16)=aa v)/\cu W b1 r
def mP.s(h:mP w W c rb ch v0 q v g k r b1):AN c b1 rb v k r W:=⟨⟨aG h.p.box rfl,aG h.p.box rfl,aG h.p.box rfl⟩,cu.of h.b⟩
end
def Wo(c rb mb ch q v g k r)(er:UInt8)(d w)(h:cg w c rb mb ch q v g k)(hr:r.Ok)(V:0<=r.m.ck/\r.m.ck<=65535)(hd:d.size<=65535)(hu:qK k.us)(hf:0<=k.bK/\k.bK<=1048576)(hp:0<=k.prom/\k.prom<=4194304)(ho:k.out.size<=1048576):
  Calls prog 163 #[jp c,.agg (aM r),an (er.toNat:Int),.string d] w λe o=>e=aN (.tuple #[])/\∃x,cg o c rb mb ch q x g (k.uY r er d)/\aV (λb=>b=c\/b=mb\/aa b=v.ownBlock) w o/\(x.ownBlock=v.ownBlock\/∀b,x.ownBlock=aa b->w.heap.size<=b):=by
 obtain⟨i0,bL,oV,bR,oW⟩:=aly infoByte;have e1:sizeOf' r.m=4+r.m.ln\/sizeOf' r.m=4:=by unfold sizeOf';split;exact aF rfl;exact aD rfl
 have cy:0<=sizeOf' r.m/\sizeOf' r.m<=65539:=by have:=hr.mE;have:=hr.qb;omega
 have cx:(nk er r.m.ck d).size<=131072:=by unfold nk;rw[qy,qy,qy];have:(⟨#[82]⟩:ByteArray).size+(⟨#[er]⟩:ByteArray).size+(⟨(jQ r.m.ck).toArray⟩:ByteArray).size=4:=rfl;omega
 have R:aL w (w.alloc (aA (aM r) 134)):=bf;have F:mP w (w.alloc (aA (aM r) 134)) c rb ch v q v g k r w.heap.size:=⟨h.p.old R,cw w _,aV.below R⟩;have i:=aT h;have aP:=aT F;have HZ:Hid (∀W,bO 201 #[.agg (jR r.m.wh r.m.nm r.m.kd r.m.fl r.m.ck r.m.of r.m.ln r.m.dt r.m.er)] W (an (sizeOf' r.m))):=λW=>FB r.m W hr.mE hr.qb;have HR:Hid (∀W,bO 202 #[an (er.toNat:Int),an r.m.ck,.string d] W (.string (nk er r.m.ck d))):=λW=>So er r.m.ck d W V.1 V.2 hd;have G:Hid (k.uY r er d=if k.ph=4 then{k with bK:=k.bK-1,prom:=k.prom-sizeOf' r.m}else{k with bK:=k.bK-1,prom:=k.prom-sizeOf' r.m,out:=k.out++nk er r.m.ck d,us:=freed k.us r.m.ck}):=rfl;have bV:=aO (w.alloc (aA (aM r) 134)) c 14 (an k.bK) F.p.box;have f14:=bz F.p.box 14;clear h F R e1;generalize k.uY r er d=kd at*;generalize sizeOf' r.m=j at*;generalize nk er r.m.ck d=f at*;generalize (er.toNat:Int)=en at*;go_enter func163,ntmps163
 go_upto_region 2 with fail
 have N:Hid (mP w ((w.alloc (aA (aM r) 134)).setCell (aj c 14) (an (k.bK-1))) c rb ch v q v g {k with bK:=k.bK-1} r w.heap.size):=aP.out.put 14 _ rfl rfl rfl rfl;clear bV f14 aP;generalize (w.alloc (aA (aM r) 134)).setCell (aj c 14) (an (k.bK-1))=W1 at*;refine iJ ?_;refine dB (S:=AN c w.heap.size rb v {k with bK:=k.bK-1} r) 10 aS N.out.drew.s ?_;intro hS;refine gk 0 ?_;refine gk 1 ?_;refine gk 2 ?_;refine gs 3 ?_;refine gk 4 ?_;refine gs 5 ?_;refine gr 6 λK a=>?_;go_simp;go_at_call 201;refine(HZ.out _).mono ?_;rintro e w2 ⟨rfl,nQ⟩;have D:=N.out.drew.old nQ;refine a.out _ _ D.s (λBo=>?_);clear a K;refine gk 7 ?_;refine gk 8 ?_;refine gk 9 ?_;have bW:=aO w2 c 15 (an k.prom) D.p.box;have f15:=bz D.p.box 15;refine gz λK a=>?_;go_simp;refine a.out _ _ ?_
 have z:Hid (mP w (w2.setCell (aj c 15) (an (eP.wrap (k.prom-j)))) c rb ch v q v g {k with bK:=k.bK-1,prom:=k.prom-j} r w.heap.size):=by rw[iG ak ak];exact D.put 15 _ rfl rfl rfl rfl
 clear hS Bo D bW f15 a K nQ N;generalize w2.setCell (aj c 15) (an (eP.wrap (k.prom-j)))=O at*;refine eu aS ?_ _;refine gT ?_;have aJ:=aO O c 20 (.chan (aa ch)) z.out.p.box;have C:=z.out.p.chan
 by_cases A:k.ph=4
 ·have M:O.heap[ch]? =aa (.chan 0 #[] aq 0 0 av):=by rw[jI (show(_:Int)=4 from A)]at C;exact C
  have E:Hid (kd={k with bK:=k.bK-1,prom:=k.prom-j}):=by show _=_;rw[G.out,aX A]
  clear C A G;go_wp2_with (go_at_call 116;refine(EM c ch _ aJ M).mono ?_;rintro e w3 ⟨rfl,rfl⟩);obtain⟨a1,J,a3,a4,a5,a6,Q,L,a9⟩:=i.out.apart;have T:=z.out.t;refine TY rfl rfl ⟨rfl,v,?_,T.mono (λb _ h=>h.imp id aD),aF rfl⟩;rw[E.out];exact i.out.of z.out.p (T.block rb i.out.eC.1 (by rintro(e|e);exact a1 e;exact Q e)) (T.block mb i.out.eC.2 (by rintro(e|e);exact J e;exact L e)) rfl λ_=>rfl
 ·have M:O.heap[ch]? =aa (.chan 0 #[] av 0 0 av):=by rw[iY (show ¬(_:Int)=4 from A)]at C;exact C
  have E:Hid (kd={k with bK:=k.bK-1,prom:=k.prom-j,out:=k.out++f,us:=freed k.us r.m.ck}/\k.ph≠4):=⟨by rw[G.out,aQ A],A⟩;clear C A G
  go_upto_region 4 with(go_at_call 116;refine(zm c ch _ aJ M).mono ?_;rintro e w3 ⟨rfl,rfl⟩)
  refine iJ ?_;refine dB (S:=AN c w.heap.size rb v {k with bK:=k.bK-1,prom:=k.prom-j} r) 14 aS z.out.drew.s ?_;intro hS;refine gk 0 ?_;refine gk 1 ?_;refine gk 2 ?_;refine gk 3 ?_;refine gs 4 ?_;refine gk 5 ?_;refine gk 6 ?_;refine gk 7 ?_;refine gs 8 ?_;refine gk 9 ?_;refine gr 10 λK a=>?_;go_simp;go_at_call 202;refine(HR.out _).mono ?_;rintro e w4 ⟨rfl,Ql⟩;have u:=z.out.drew.old Ql;refine a.out _ _ u.s (λbG=>?_);clear a K;obtain⟨x,w5,EI,Y,X,Z⟩:=NV (P:=prog) w4 158 9 158 5 i0 underlying158 underlying9 bL oV bR oW v k.out.size (jE k.out) u.p.out f ak;obtain⟨l,n,rfl⟩:=jS Y;obtain⟨P5,T5,y⟩:=u.p.tell Y X Z;have bI:aa w.heap.size≠v.ownBlock:=λe=>by have:=i.out.p.eC.2.2.2 _ e.symm;omega
  have H:=(X.block _ (bp.1 u.b).1 bI).trans u.b;refine gr 11 λK a=>?_;refine Sm rfl rfl rfl rfl EI ?_;refine a.out _ _ ⟨⟨aG y rfl,aG y rfl,aG y rfl⟩,cu.of H⟩ (λbH=>?_);clear a K;refine gk 12 ?_;refine gk 13 ?_;have bX:=aO w5 c 16 v y;have f16:=bz y 16;refine gz λK a=>?_;go_simp;refine a.out _ _ ?_
  have B:Hid (mP w (w5.setCell (aj c 16) (.slice l (k.out.size+f.size) n)) c rb ch v q (.slice l (k.out.size+f.size) n) g {k with bK:=k.bK-1,prom:=k.prom-j,out:=k.out++f} r w.heap.size/\((ff l (k.out.size+f.size) n).ownBlock=v.ownBlock\/∀b,(ff l (k.out.size+f.size) n).ownBlock=aa b->w.heap.size<=b)):=by refine⟨⟨P5,mV H (fL H y aC) _ _,u.t.trans (T5.mono λb _ h=>h)⟩,Z.at_.imp id λh b e=>?_⟩;have:=h b e;have:=u.t.size;omega
  clear hS bG bH u bX f16 a K Ql z P5 T5 y H Z X Y aJ M EI;generalize w5.setCell (aj c 16) (.slice l (k.out.size+f.size) n)=W6 at*;refine eu aS ?_ _;refine gT ?_
  have HF:Hid (Calls prog 203 #[jp rb,an r.m.ck] W6.drew λe o=>e=aN (.tuple #[])/\(∃x,cg o c rb mb ch q x g kd/\aV (λb=>b=c\/b=mb\/aa b=v.ownBlock) w o/\(x.ownBlock=v.ownBlock\/∀b,x.ownBlock=aa b->w.heap.size<=b))/\AN c w.heap.size rb (.slice l (k.out.size+f.size) n) {k with bK:=k.bK-1,prom:=k.prom-j,out:=k.out++f} r o):=by
   obtain⟨a1,J,a3,a4,a5,a6,Q,L,a9⟩:=i.out.apart;obtain⟨ah,h3,h4⟩:=i.out.rd;have T:=B.out.1.t;have hrd:dR W6.drew rb mb g.sz g.mx ah k.us:=h3.keep (T.block rb i.out.eC.1 (by rintro(e|e);exact a1 e;exact Q e)) (T.block mb i.out.eC.2 (by rintro(e|e);exact J e;exact L e));refine(Zr rb mb g.sz g.mx ah k.us r.m.ck _ hrd hu V).mono ?_;rintro e o ⟨rfl,f1,f2⟩;have P6:=B.out.1.p;obtain⟨b1,b2,b3,b4⟩:=P6.eC
   have bM:∀b,(ff l (k.out.size+f.size) n).ownBlock=aa b->b≠mb:=λb e U=>by
    rcases B.out.2 with h|h
    ·exact L (by rw[<-h,e,U])
    ·have:=h b e;have:=i.out.eC.2;omega
   have I:cI o c rb ch q (.slice l (k.out.size+f.size) n) g {k with bK:=k.bK-1,prom:=k.prom-j,out:=k.out++f}:=P6.drew.cD f2 (dF J) (dF a4) (λb e U=>a6 (by rw[e,U])) bM;have B7:o.heap[w.heap.size]? =aa (aA (aM r) 134 (0,0)):=vX f2 B.out.1.drew.b (by have:=i.out.eC.2;omega);refine⟨rfl,⟨_,⟨?_,ah,?_,?_⟩,(T.drew.mono λb _ h=>h.imp id aD).trans (f2.mono λb _ h=>aD (aF h)),B.out.2⟩,⟨aG I.box rfl,aG I.box rfl,aG I.box rfl⟩,cu.of B7⟩
   ·rw[E.out.1];exact I.like rfl rfl rfl om
   ·rw[E.out.1];exact f1
   ·rw[E.out.1];exact h4
  go_upto_region 5 with fail
  refine eD (S:=AN c w.heap.size rb (.slice l (k.out.size+f.size) n) {k with bK:=k.bK-1,prom:=k.prom-j,out:=k.out++f} r) B.out.1.drew.s λcm=>?_;refine tk 0 ?_;refine tk 1 ?_;refine tk 2 ?_;refine tk 3 ?_;refine tk 4 ?_;refine tk 5 ?_;refine tk 6 ?_;refine rH 7 λK a=>?_;go_simp;go_at_call 203;refine HF.out.mono ?_;rintro e w7 ⟨rfl,f1,f2⟩;refine a.out _ _ f2 (λhH=>?_);clear a K;refine dc ?_;go_wp2;exact eO rfl rfl ⟨rfl,f1⟩
def abH(c rb mb ch q v g k s w)(h:cg w c rb mb ch q v g k)(d:k.ph=4):
  fu 74 #[jp c,.string s] w (an 2):=by
 have a:=h.p.chan;rw[jI d]at a;have b:=aO w c 20 (.chan (aa ch)) h.p.box;go_enter func74,ntmps74;go_wp2_with (go_at_call 116;refine(EM c ch _ b a).mono ?_;rintro e f ⟨rfl,rfl⟩);go_ret;exact⟨rfl,rfl⟩
def abG(c rb mb ch q v g k s w)(h:cg w c rb mb ch q v g k)(b:k.ph≠4)(j:k.bg.size<=1024)(l:1024<k.bg.size+s.size):
  fu 74 #[jp c,.string s] w (an 6):=by
 have a:=h.p.chan;rw[iY b]at a;have d:=aO w c 20 (.chan (aa ch)) h.p.box;have f:=aO w c 12 (.string k.bg) h.p.box;have i:decide ((1024:Int)-(k.bg.size:Int)<(s.size:Int))=aq:=bY;clear h b;go_enter func74,ntmps74;go_wp2_with (go_at_call 116;refine(zm c ch _ d a).mono ?_;rintro e m ⟨rfl,rfl⟩);go_ret;exact⟨rfl,rfl⟩
def Ck.send(s:ByteArray)(k:Ck):Ck:={k with bg:=k.bg++s}
def abF(c rb mb ch q v g k s w)(h:cg w c rb mb ch q v g k)(j:k.ph≠4)(A:k.bg.size+s.size<=1024):
  Calls prog 74 #[jp c,.string s] w λe l=>e=aN (an 0)/\cg l c rb mb ch q v g (k.send s)/\aV (λi=>i=c) w l:=by
 have f:=h.p.chan;rw[iY j]at f;have r:=aO w c 20 (.chan (aa ch)) h.p.box;have o:=aO w c 12 (.string k.bg) h.p.box;have z:decide ((1024:Int)-(k.bg.size:Int)<(s.size:Int))=av:=bY;have y:¬9223372036854775807<k.bg.size+s.size:=ak;have n:=aT h;clear h j;go_enter func74,ntmps74
 go_upto_region 5 with(go_at_call 116;refine(zm c ch _ r f).mono ?_;rintro e t ⟨rfl,rfl⟩)
 refine iJ ?_;refine dB (S:=λW=>W.cell? (aj c 12)=aa (.string k.bg)) 9 aS o ?_;intro hS;refine gk 0 ?_;refine gk 1 ?_;refine gk 2 ?_;refine gs 3 ?_;refine gk 4 ?_;refine gr 5 λK b=>?_;go_simp;go_at_call 117;refine(IN s _ ak).mono ?_;rintro e m ⟨rfl,a⟩;have d:=n.out.drew.old a;have u:=aO m c 12 (.string k.bg) d.p.box;have f12:=bz d.p.box 12;refine b.out _ _ u (λx=>?_);clear b K;refine gk 6 ?_;refine gk 7 ?_;refine gk 8 ?_;refine gz λK b=>?_;go_simp;refine b.out _ _ ?_;refine eu aS ?_ _;refine gT ?_;go_wp2;go_ret;exact⟨rfl,d.put 12 _ rfl rfl rfl rfl rfl,(aV.below (X:=λi=>i=c) (⟨a.os,a.tape,a.output,a.size,a.block⟩:aL t m)).set (p:=aj c 12) rfl _⟩
abbrev stG(k:Ck):aK aE:=#[an k.ph,an k.bg.size,an k.q.length,an k.bK,an k.tok,an k.de,an k.out.size,an k.sv]
abbrev SgS(c b:Nat)(k:Ck)(e:aY Addr)(f:Nat)(a:aY Addr)(d:Nat)(W:az):Prop:=W.cell? (aj c 12)=aa (.string k.bg)/\W.cell? (aj c 13)=aa (.slice e k.q.length f)/\W.cell? (aj c 14)=aa (an k.bK)/\W.cell? (aj c 16)=aa (.slice a k.out.size d)/\W.cell? (aj c 17)=aa (an k.tok)/\W.cell? (aj c 18)=aa (an k.de)/\W.cell? (aj c 19)=aa (an k.sv)
abbrev xQ:aK aE:=#[an 0,an 0,an 0,an 0,an 0,an 0,an 0,an 0]
def WN{w W}(h:aL w W)(v0 v1 v2 v3 v4 v5 v6 v7):aL w ((((((((W.setCell (aj w.heap.size 0) v0).setCell (aj w.heap.size 1) v1).setCell (aj w.heap.size 2) v2).setCell (aj w.heap.size 3) v3).setCell (aj w.heap.size 4) v4).setCell (aj w.heap.size 5) v5).setCell (aj w.heap.size 6) v6).setCell (aj w.heap.size 7) v7):=
 cK (cK (cK (cK (cK (cK (cK (cK h _ _) _ _) _ _) _ _) _ _) _ _) _ _) _ _
def aee(c rb mb ch q v g k w)(h:cg w c rb mb ch q v g k):
  bO 70 #[jp c] w (.agg (stG k)):=by
 obtain⟨o,r,rfl,_⟩:=h.p.row.form;obtain⟨l,m,rfl⟩:=jS h.p.out;have f:aL w (w.alloc (aA xQ 68)):=bf;have A:=h.old f;have a:(w.alloc (aA xQ 68)).heap[w.heap.size]? =aa (aA xQ 68 (0,0)):=cw w _;have t:Hid (∀n,Calls prog 114 #[jp c] ((w.alloc (aA xQ 68)).drewN n) λe u=>e=aN (an k.ph)/\u=(w.alloc (aA xQ 68)).drewN n):=λn=>RX _ _ _ _ _ _ _ _ _ (A.drewN n);have j:SgS c w.heap.size k o r l m (w.alloc (aA xQ 68)):=⟨aG A.p.box rfl,aG A.p.box rfl,aG A.p.box rfl,aG A.p.box rfl,aG A.p.box rfl,aG A.p.box rfl,aG A.p.box rfl⟩;have s:=aT f;clear h A f;generalize k.q.length=ql at*;go_enter func70,ntmps70
 go_upto_region 1 with fail
 generalize w.alloc (aA xQ 68)=b at*;have x:=aO b w.heap.size 0 (an 0) a;have y:=aO b w.heap.size 1 (an 0) a;have z:=aO b w.heap.size 2 (an 0) a;have B:=aO b w.heap.size 3 (an 0) a;have C:=aO b w.heap.size 4 (an 0) a;have D:=aO b w.heap.size 5 (an 0) a;have E:=aO b w.heap.size 6 (an 0) a;have F:=aO b w.heap.size 7 (an 0) a;have G:∀i,b.frozen? (aj w.heap.size i)=av:=λi=>bz a i;clear a;refine iJ ?_;refine dB (S:=SgS c w.heap.size k o r l m) 34 aS j ?_;intro hS;refine gk 0 ?_;refine gk 2 ?_;refine gk 3 ?_;refine gk 4 ?_;refine gs 5 ?_;refine gk 6 ?_;refine gk 7 ?_;refine gk 8 ?_;refine gk 9 ?_;refine gs 10 ?_;refine gk 11 ?_;refine gk 12 ?_;refine gk 13 ?_;refine gk 14 ?_;refine gs 15 ?_;refine gk 16 ?_;refine gk 17 ?_;refine gk 18 ?_;refine gs 19 ?_;refine gk 20 ?_;refine gk 21 ?_;refine gk 22 ?_;refine gs 23 ?_;refine gk 24 ?_;refine gk 25 ?_;refine gk 26 ?_;refine gs 27 ?_;refine gk 28 ?_;refine gk 29 ?_;refine gk 30 ?_;refine gk 31 ?_;refine gs 32 ?_;refine gr 1 λK d=>?_;go_simp;go_at_call 114;refine(t.out 1).mono ?_;rintro e I ⟨rfl,rfl⟩;refine d.out _ _ j (λH=>?_);clear d K;refine gk 33 ?_;refine gz λK d=>?_;go_simp;refine d.out _ _ ?_;refine eu aS ?_ _;refine gT ?_;go_wp2;refine gO (v:=.agg (stG k)) (by simp[results,results70,go_sem,x,y,z,B,C,D,E,F]) rfl ⟨rfl,?_⟩;exact iX (WN s.out _ _ _ _ _ _ _ _) 1
def RQ{w v o}(h:tN w v o):∃f a,v=.slice f o.size a/\o.size<=a/\a<=cY:=by
 rcases h.2 with⟨e,b⟩|⟨g,i,j,e,_,_,c,d,_⟩
 ·exact⟨ay,0,by rw[e,b],ak,by unfold cY;omega⟩
 ·exact⟨_,_,e,c,d⟩
def V6{w oa cap m o}(h:tN w (.slice oa o.size cap) o)(hm:m<=o.size):(convert 158 9 (.slice oa m cap)).run prog w=.ok (.string (o.extract 0 m)) w:=by
 have f:(o.data.toList.take m).length=m:=by rw[rF];exact pL (by simpa using hm)
 have b:(⟨(o.data.toList.take m).toArray⟩:ByteArray)=o.extract 0 m:=by apply wu;apply xY;simp[wq]
 rcases h.2 with⟨e,h0⟩|⟨g,r,d,e,_,p,_,_,_,q⟩
 ·have n:m=0:=ak;subst n;rw[XO];have:o.extract 0 0=⟨#[]⟩:=by rw[<-b];rfl
  rw[this]
 ·cases e
  have i:∀(j:Nat) u,(jE o)[j]? =aa u->d[j]? =aa u:=λj u a=>by
   rw[<-q,mK]at a;split at a
   ·rw[<-lC];exact a
   ·cases a
  have c:=VK w 158 9 5 ⟨g,0,ay⟩ cap (o.data.toList.take m) underlying158 underlying5 underlying9 (λj k=>by
   rw[Addr.add_lit,fU];refine aG p (i j _ ?_);have s:o.data.size=o.size:=rfl;rw[rF]at k;have l:j<o.data.size:=ak
   have e:(jE o)[j]? =aa (.int .u8 (o.data[j].toNat:Int)):=by unfold jE;rw[iT,lC,cL l];rfl
   rw[e];simp)
  rw[f,b]at c;exact c
def XV{v o}(w)(h:tN w v o)(y:mQ w v)(m)(hm:m<=o.size)(X:o.size<=cY):
  Calls prog 113 #[v,an 0,an m] w λe f=>∃l,e=aN l/\tN f l (o.extract m o.size)/\aV (λb=>aa b=v.ownBlock) w f/\l.ownBlock=v.ownBlock/\mQ f l:=by
 by_cases h0:m=0
 ·subst h0;obtain⟨T,U,rfl,s⟩:=RQ h;refine(Yc _ T o.size U rfl s.1 s.2 w).mono ?_;rintro e f ⟨rfl,rfl⟩;have n:o.extract 0 o.size=o:=aC;exact⟨_,rfl,by rw[n];exact h,aV.refl _ _,rfl,y⟩
 ·rcases h.2 with⟨_,e⟩|⟨g,q,k,rfl,_,x,M,t,p,z⟩
  ·omega
  ·rw[Nat.mul_one]at p z;have S:(jE o).length=o.size:=US o
   have O:∀(j:Nat) u,(jE o)[j]? =aa u->k[j]? =aa u:=λj u a=>by
    rw[<-z,mK]at a;split at a
    ·rw[<-lC];exact a
    ·cases a
   obtain⟨news,d⟩:∃news,news=(jE o).drop m:=⟨_,rfl⟩;have Q:news.length=o.size-m:=by rw[d,List.length_drop,S]
   have R:∀u∈news,u.oneCell'=aq:=λu a=>Lib.strCells_oneCell o u (wG (d▸a));have P:∀(j:Nat) u,news[j]? =aa u->k[m+j]? =aa u:=λj u a=>O (m+j) u (by rw[d,He]at a;exact a);obtain⟨K,a1,A,a3,B,C,D,E⟩:=rq news 0 w.drew k x;obtain⟨L,b1,F,G,V,H,I,J⟩:=rq (nG m (.int .u8 0)) (o.size-m) (w.drew.setCells g 0 news) K a1;refine(Yd g o.size q m news k w ak hm M t Q R x p P).mono ?_;rintro e f ⟨rfl,rfl⟩;have r:(o.extract m o.size).size=o.size-m:=by simp[mI]
   refine⟨_,rfl,?_,⟨J.trans E,by rw[I,D];exact bC _,λi _ c=>(H i λe=>c (by rw[e];rfl)).trans (C i λe=>c (by rw[e];rfl))⟩,rfl,λW N=>?_⟩
   ·show World.ownsRow _ 0 5 1 _ (o.extract m o.size).size _;rw[r];refine⟨by rw[US,r];omega,aD ⟨g,q,L,rfl,eo _,b1,ak,t,by rw[F,A,p];omega,?_⟩⟩;rw[Nat.mul_one]
    have n:jE (o.extract m o.size)=news:=by rw[d];unfold jE;rw[wq,Array.toList_extract,List.extract_eq_take_drop,sY aC,List.map_drop]
    rw[n];apply wB;intro i;rw[mK];split
    ·rename_i c;rw[lC,G i (aF c)];have:=B i news[i] (ef ak) ak;rw[fU]at this;rw[this,ef]
    ·rename_i c;rw[yp ak]
   ·cases N;have h0:yN w.drew g:=y g rfl;refine(h0.sets _ 0 _ λu a=>Pv o u (wG (d▸a))).sets _ _ _ λu a=>?_;rw[List.eq_of_mem_replicate a];trivial
def Ck.take(m:Nat)(k:Ck):Ck:={k with out:=k.out.extract m k.out.size}
def aet(c rb mb ch:Nat)(q v:aE)(g:Cf)(k:Ck)(n:Int)(m:Nat)(w:az)(h:cg w c rb mb ch q v g k)(hm:(m:Int)=min n k.out.size)(V:k.out.size<=1048576):
  Calls prog 69 #[jp c,an n] w λe f=>e=aN (.tuple #[.string (k.out.extract 0 m),an 0])/\∃s,cg f c rb mb ch q s g (k.take m)/\aV (λb=>b=c\/aa b=v.ownBlock) w f/\s.ownBlock=v.ownBlock:=by
 have x:m<=k.out.size:=ak;have U:decide (n<0)=av:=bY;have T:=hm.symm;obtain⟨j,i,rfl,E⟩:=RQ h.p.out;have P:=V6 h.p.out x;have N:=aO w c 16 (.slice j k.out.size i) h.p.box
 have B:Hid (Calls prog 113 #[.slice j k.out.size i,an 0,an m] w λe f=>∃a l d,e=aN (.slice a l d)/\(cg (f.setCell (aj c 16) (.slice a l d)) c rb mb ch q (.slice a l d) g (k.take m)/\aV (λb=>b=c\/aa b=(ff j k.out.size i).ownBlock) w (f.setCell (aj c 16) (.slice a l d))/\(ff a l d).ownBlock=(ff j k.out.size i).ownBlock)/\f.cell? (aj c 16)=aa (.slice j k.out.size i)/\f.frozen? (aj c 16)=av):=by
  refine(XV w h.p.out h.p.tv m x (by unfold cY;omega)).mono ?_;rintro e f ⟨s,rfl,d1,d2,d3,d4⟩;obtain⟨a,d,rfl⟩:=jS d1;obtain⟨a1,t,a3,M,C,u⟩:=h.p.apart;obtain⟨G,H,y,W⟩:=h.p.eC;obtain⟨I,J,X,Y,Z,r6,K,L,r9⟩:=h.apart;have r:=(d2.block c G a3).trans h.p.box;have off:∀b,b≠c->(f.setCell (aj c 16) (.slice a (k.out.extract m k.out.size).size d)).heap[b]? =f.heap[b]? :=λb D=>bH D;have z:∀b,(ff a (k.out.extract m k.out.size).size d).ownBlock=aa b->b≠c:=λb e o=>a3 (by rw[<-o,<-d3,e]);refine⟨a,_,d,rfl,⟨h.of ⟨cz r 16 _,gD h.p.row λb e=>(off b λo=>t (by rw[e,o])).trans (d2.block b (y b e) (u b e)),gD d1 λb e=>off b (z b e),h.p.tq.keep λb e=>(off b λo=>t (by rw[e,o])).trans (d2.block b (y b e) (u b e)),d4.keep λb e=>off b (z b e),(off ch (dF a1)).trans ((d2.block ch H C).trans h.p.chan)⟩ ?_ ?_ rfl λ_=>rfl,((d2.mono λb _ h=>(aD h:b=c\/aa b=(ff j k.out.size i).ownBlock)).set (p:=aj c 16) (aF rfl) (.slice a (k.out.extract m k.out.size).size d)),d3⟩,aG r rfl,bz r 16⟩
  ·exact(off rb I).trans (d2.block rb h.eC.1 K)
  ·exact(off mb J).trans (d2.block mb h.eC.2 L)
 have Q:(m:Int)<=(k.out.size:Int):=ak;have S:(m:Int)<=(i:Int):=ak;have R:m<=i:=ak;obtain⟨O,F⟩:=E;unfold cY at F;clear h hm;go_enter func69,ntmps69;go_wp2_with (go_at_call 113;refine B.out.mono ?_;rintro e w2 ⟨a,l,d,rfl,d1,d2,d3⟩;have A:=aT d1;clear d1)
 go_ret2
 exact⟨rfl,_,A.out⟩
def Ck.fresh(no wt a:Int):Ck:=⟨no,wt,0,⟨#[]⟩,[],0,0,⟨#[]⟩,a,0,0,[]⟩
def Q0(g no wt w):Calls prog 73 #[cfV g,an no,an wt] w λe f=>
  ∃c d b a,e=aN (jp c)/\cg f c d b a (.slice ay 0 0) (.slice ay 0 0) g (Ck.fresh no wt g.bu)/\aL w f/\w.heap.size<=c/\w.heap.size<=d/\w.heap.size<=b/\w.heap.size<=a:=by
 refine(XC g.sz g.cl g.qu g.mx g.qn g.rt g.bu g.wk g.ou no wt w).mono ?_;rintro e f ⟨c,d,b,a,rfl,h,i,j⟩;exact⟨c,d,b,a,rfl,⟨⟨i,tD _ _ _ _,tD _ _ _ _,zK _,zK _,h.chan⟩,h.rd⟩,j⟩
structure Ck.AO(k:Ck):Prop where
 tok:0<=k.tok/\k.tok<=65535
 de:0<=k.de/\k.de<=1048576
 sv:0<=k.sv/\k.sv<=281474976710656
 bK:0<=k.bK/\k.bK<=1048576
 prom:0<=k.prom/\k.prom<=4194304
 q:∀r∈k.q,r.Ok
def Ck.AO.head{k:Ck}{r:Rq}{l:aB Rq}(h:k.AO)(a:k.q=r::l):r.Ok:=h.q r (by rw[a];simp)
def row_one{W:az}{b T k:Nat}{xs:aB aE}(h:W.heap[b]? =aa (aA xs.toArray T (0,0)))(a:xs.length=k):W.ownsRow 0 T k (.slice (aa (aj b 0)) 1 1) 1 xs:=
 ⟨by rw[a];omega,aD ⟨b,1,_,rfl,eo _,h,bC _,by unfold cY;omega,by simp[a],(by grind)⟩⟩
def Q1(c rb mb ch q v g k r l w)(h:cg w c rb mb ch q v g k)(n:k.q=r::l)(d:k.AO):
  Calls prog 207 #[jp c] w λe i=>∃j rv,e=aN (jp j)/\eG i j c rv [r] ⟨0,av,0⟩ 0 0/\(∃f,cg i c rb mb ch f v g (k.bU r l)/\f.ownBlock=q.ownBlock)/\aV (λb=>b=c\/aa b=q.ownBlock) w i/\w.heap.size<=j/\∀b,rv.ownBlock=aa b->w.heap.size<=b:=by
 have t:=aT (OM c rb mb ch q v g k r l w h n (d.head n) d.tok d.de d.sv d.bK d.prom);go_enter func207,ntmps207;go_wp2_with (go_at_call 242;refine t.out.mono ?_;rintro e a ⟨rfl,o⟩;have s:=aT o;clear o);go_ret;obtain⟨f,p1,p,y⟩:=s.out;have b1:aL a (a.alloc (aA (aM r) 134)):=bf;have m:aL a ((a.alloc (aA (aM r) 134)).alloc (aA (Bw c (.slice (aa (aj a.heap.size 0)) 1 1) ⟨0,av,0⟩ 0 0) 217)):=b1.alloc aC _;have u:((a.alloc (aA (aM r) 134)).alloc (aA (Bw c (.slice (aa (aj a.heap.size 0)) 1 1) ⟨0,av,0⟩ 0 0) 217)).heap[a.heap.size]? =aa (aA (aM r) 134 (0,0)):=(Below.heap_alloc _ _ _ aC).trans (cw a _);have x:=p.size;refine⟨a.heap.size+1,.slice (aa (aj a.heap.size 0)) 1 1,rfl,⟨?_,?_⟩,⟨f,p1.old m,y⟩,p.trans (aV.below m),ak,λb e=>by cases e;exact x⟩
 ·have:=cw (a.alloc (aA (aM r) 134)) (aA (Bw c (.slice (aa (aj a.heap.size 0)) 1 1) ⟨0,av,0⟩ 0 0) 217);rw[AB]at this;exact this
 ·exact row_one (xs:=(aM r).toList) u rfl
def Wk(j c rb mb ch rv q v g k rs r l)(f:Ft)(due order w)(s:eG w j c rv rs f due order)(h:cg w c rb mb ch q v g k)(O:k.q=r::l)(z:k.AO)(hn:rs.length<=1048576)(J:∀b,rv.ownBlock=aa b->aa b≠q.ownBlock):
  Calls prog 209 #[jp j] w λe x=>e=aN (.tuple #[])/\(∃sB,eG x j c sB (rs++[r]) f due order/\(sB.ownBlock=rv.ownBlock\/∀b,sB.ownBlock=aa b->w.heap.size<=b))/\(∃d,cg x c rb mb ch d v g (k.bU r l)/\d.ownBlock=q.ownBlock)/\aV (λb=>b=c\/b=j\/aa b=q.ownBlock\/aa b=rv.ownBlock) w x:=by
 obtain⟨i1,aR,bq,bt,bu⟩:=aly QR
 have Z:Hid (∀n,Calls prog 242 #[jp c] (w.drewN n) λe x=>e=aN (.agg (aM r))/\(∃d,cg x c rb mb ch d v g (k.bU r l)/\d.ownBlock=q.ownBlock)/\eG x j c rv rs f due order/\aV (λb=>b=c\/aa b=q.ownBlock) w x):=λn=>by
  refine(OM c rb mb ch q v g k r l _ (h.drewN n) O (z.head O) z.tok z.de z.sv z.bK z.prom).mono ?_;rintro e x ⟨rfl,d,p1,E,F⟩;have M:aV (λb=>b=c\/aa b=q.ownBlock) w x:=⟨E.os,E.size,E.block⟩
  have bg:aa j≠q.ownBlock:=λe=>by
   rcases h.p.row.2 with⟨rfl,_⟩|⟨D,C,u,rfl,_,a,_⟩
   ·cases e
   ·cases e;exact fL s.box a aC rfl
  refine⟨rfl,⟨d,p1,F⟩,⟨vX M s.box ?_,gD s.row λb e=>M.block b (zC s.row e) ?_⟩,M⟩
  ·rintro(e|e)
   ·exact fL s.box h.p.box aC e
   ·exact bg e
  ·rintro(e'|e')
   ·rcases s.row.2 with⟨rfl,_⟩|⟨D,C,u,rfl,_,a,_⟩
    ·cases e
    ·cases e;exact fL a h.p.box aC e'
   ·exact J b e e'
 have c0:=aO w j 0 (jp c) s.box;have c1:=aO w j 1 rv s.box;have HJ:=aT ((fL s.box h.p.box aC:j≠c));have HQ:=aT h;have Y:=aT J;clear h z s J;go_enter func209,ntmps209
 go_upto_region 0 with fail
 refine iJ ?_;refine dB (S:=λW=>W.cell? (aj j 0)=aa (jp c)/\W.cell? (aj j 1)=aa rv) 14 aS ⟨c0,c1⟩ ?_;intro hS;refine gk 0 ?_;refine gk 1 ?_;refine gk 2 ?_;refine gk 3 ?_;refine gs 4 ?_;refine gk 5 ?_;refine gk 6 ?_;refine gk 7 ?_;refine gs 8 ?_;refine gr 9 λK m=>?_;go_simp;go_at_call 242;refine(Z.out 1).mono ?_;rintro e A ⟨rfl,⟨d,p1,E⟩,F,R⟩;refine m.out _ _ ⟨aG F.box rfl,aG F.box rfl⟩ (λQi=>?_);clear m K;have H:aL A (A.alloc (aA (aM r) 134)):=bf;have i:=F.below H;have t:=p1.old H;have N6:=cw A (aA (aM r) 134);refine gr 10 λK m=>?_;go_simp;refine m.out _ _ ⟨aG i.box rfl,aG i.box rfl⟩ (λbG=>?_);clear m K;obtain⟨sB,X,EI,L,I,bn⟩:=ID (P:=prog) (A.alloc (aA (aM r) 134)) 165 165 134 i1 _ 10 96 underlying165 aR bq bt bu rfl ak (Jh ⟨⟨0,⟨#[]⟩,0,0,0,0,0,⟨#[]⟩,0⟩,0⟩) rv rs.length _ i.row ⟨A.heap.size,0,ay⟩ 1 1 (aM r).toList rfl (Dg N6) (by simp[Vy]) ak (by unfold cY;omega) ak;obtain⟨U,V,rfl⟩:=jS L
 have bh:aa j≠rv.ownBlock:=λe=>by
  rcases i.row.2 with⟨rfl,_⟩|⟨D,C,u,rfl,_,a,_⟩
  ·cases e
  ·cases e;exact fL i.box a aC rfl
 have B:=(I.block j (bp.1 i.box).1 bh).trans i.box;refine gr 11 λK m=>?_;refine xH rfl rfl rfl rfl EI ?_;refine m.out _ _ ⟨aG B rfl,aG B rfl⟩ (λbI=>?_);clear m K;refine gk 12 ?_;refine gk 13 ?_;have x1:=aO X j 1 rv B;have f1:=bz B 1;refine gz λK m=>?_;go_simp;refine m.out _ _ ?_;refine eu aS ?_ _;refine gT ?_;go_wp2;have bM:=R.size;have bL:=H.size;have G:aV (λb=>b=j\/aa b=rv.ownBlock) (A.alloc (aA (aM r) 134)) (X.setCell (aj j 1) (.slice U (rs.length+1) V)):=⟨I.os,by simpa using I.size,λb hb Q=>(bH λe=>Q (aF e)).trans (I.block b hb λe=>Q (aD e))⟩
 have bk:∀b,(ff U (rs.length+1) V).ownBlock=aa b->b≠j:=λb e e'=>by
  rcases L.2 with⟨y,_⟩|⟨D,C,u,y,_,a,_⟩
  ·cases y
  ·cases y;cases e;exact fL a B aC e'
 have bl:d.ownBlock=q.ownBlock:=E;refine eO rfl rfl ⟨rfl,⟨_,⟨cz B 1 _,?_⟩,bn.at_.imp id λh b e=>?_⟩,⟨d,?_,E⟩,?_⟩
 ·show iL _ _ (rs++[r]);unfold iL;rw[gR,rC];simp;exact gD L λb e=>bH (bk b e)
 ·have:=h b e;omega
 ·have aJ:∀b,d.ownBlock=aa b->¬(b=j\/aa b=rv.ownBlock):=λb e=>by
   rintro(e'|e')
   ·rcases t.p.row.2 with⟨rfl,_⟩|⟨D,C,u,rfl,_,a,_⟩
    ·cases e
    ·cases e;exact fL a i.box aC e'
   ·exact Y.out b e'.symm (by rw[<-bl,e])
  have key:∀b o,(A.alloc (aA (aM r) 134)).heap[b]? =aa o->(∀u,o≠aA u 134 (0,0))->o≠aA (Bw c rv f due order) 217 (0,0)->¬(b=j\/aa b=rv.ownBlock):=λb o N h1 h2=>by
   rintro(e'|e')
   ·subst e';exact h2 (dM (N.symm.trans i.box))
   ·rcases i.row.2 with⟨y,_⟩|⟨D,C,u,y,_,a,_⟩
    ·rw[y]at e';cases e'
    ·rw[y]at e';cases e';exact h1 u (dM (N.symm.trans a))
  obtain⟨rp,T,r2⟩:=t.rd;obtain⟨es,cl,r3,_⟩:=T.uses;refine t.of (t.p.cD G (key c _ t.p.box aC aC) (key ch _ t.p.chan aC aC) aJ λb e=>?_) (G.block rb t.eC.1 (key rb _ T.box aC aC)) (G.block mb t.eC.2 (key mb _ r3 aC aC)) rfl λ_=>rfl;rcases t.p.out.2 with⟨rfl,_⟩|⟨D,C,u,rfl,_,a,_⟩
  ·cases e
  ·cases e;exact key _ _ a aC aC
 ·refine((R.mono λb _ h=>?_).trans (aV.below H)).trans (G.mono λb _ h=>?_)
  ·rcases h with h|h
   ·exact aF h
   ·exact aD (aD (aF h))
  ·rcases h with h|h
   ·exact aD (aF h)
   ·exact aD (aD (aD h))
def rW(f l r:Rq)(most:Int):Bool:=(r.m.kd !=2)&&((r.m.kd==l.m.kd)&&((r.m.fl==l.m.fl)&&((r.m.of==l.m.of+l.m.ln)&&decide (r.m.of+r.m.ln-f.m.of<=most))))
abbrev uM(a b c:Nat)(r f l:Rq)(W:az):Prop:=cu W a r/\cu W b f/\cu W c l
def cu.old{W W' b r}(h:cu W b r)(a:aL W W'):cu W' b r:=by obtain⟨c,a1,d,a3,e,f,g,i,j,k⟩:=h;exact⟨bR a c,bR a a1,bR a d,bR a a3,bR a e,bR a f,bR a g,bR a i,bR a j,bR a k⟩
def uM.old{b4 b7 b8 r f l W W'}(h:uM b4 b7 b8 r f l W)(a:aL W W'):uM b4 b7 b8 r f l W':=⟨h.1.old a,h.2.1.old a,h.2.2.old a⟩
def DQ{B w w' n}(h:aL (w.drewN n) w')(a:B<=w.heap.size):Below B w w':=⟨h.os,h.tape,h.output,h.size,λk b=>h.block k (dy b a)⟩
def LU(W x y):aL W ((W.alloc x).alloc y).drew:=(((Below.refl _ W).alloc (bC _) _).alloc aC _).drew
def Ca(W:az)(x y:Obj):((W.alloc x).alloc y).drew.heap[W.heap.size]? =aa x:=(Below.heap_alloc _ _ _ aC).trans (cw W _)
def BZ(W:az)(x y:Obj):((W.alloc x).alloc y).drew.heap[W.heap.size+1]? =aa y:=by have:=cw (W.alloc x) y;rw[AB]at this;exact this
abbrev uL(j:Nat)(rv:aE)(a n:Nat)(f l:Rq)(W:az):Prop:=W.cell? (aj j 1)=aa rv/\(W.cell? (aj a 0)=aa (an f.m.wh)/\W.cell? (aj a 1)=aa (.string f.m.nm)/\W.cell? (aj a 2)=aa (an f.m.kd)/\W.cell? (aj a 3)=aa (an f.m.fl)/\W.cell? (aj a 4)=aa (an f.m.ck)/\W.cell? (aj a 5)=aa (an f.m.of)/\W.cell? (aj a 6)=aa (an f.m.ln)/\W.cell? (aj a 7)=aa (.string f.m.dt)/\W.cell? (aj a 8)=aa (an f.m.er)/\W.cell? (aj a 9)=aa (an f.no))/\
 (W.cell? (aj a (n*10))=aa (an l.m.wh)/\W.cell? (aj a (n*10+1))=aa (.string l.m.nm)/\W.cell? (aj a (n*10+2))=aa (an l.m.kd)/\W.cell? (aj a (n*10+3))=aa (an l.m.fl)/\W.cell? (aj a (n*10+4))=aa (an l.m.ck)/\W.cell? (aj a (n*10+5))=aa (an l.m.of)/\W.cell? (aj a (n*10+6))=aa (an l.m.ln)/\W.cell? (aj a (n*10+7))=aa (.string l.m.dt)/\W.cell? (aj a (n*10+8))=aa (an l.m.er)/\W.cell? (aj a (n*10+9))=aa (an l.no))
def uL.cD{j gb n B rv f l W W'}(h:uL j rv gb n f l W)(F:aV (λb=>B<=b) W W')(E:j<B)(c:gb<B):uL j rv gb n f l W':=by have e:∀{a o:Nat} {v:aE},a<B->W.cell? (aj a o)=aa v->W'.cell? (aj a o)=aa v:=λ{a o v} G d=>(fX (F.block a (gH d) ak)).trans d;obtain⟨a,⟨g,a1,i,a3,k,m,p,q,r,s⟩,t,b1,u,w,x,y,z,A,C,D⟩:=h;exact⟨e E a,⟨e c g,e c a1,e c i,e c a3,e c k,e c m,e c p,e c q,e c r,e c s⟩,e c t,e c b1,e c u,e c w,e c x,e c y,e c z,e c A,e c C,e c D⟩
def Zc(j c:Nat)(rv:aE)(i:aB Rq)(f l r:Rq)(ft:Ft)(due bB most:Int)(w:az)(h:eG w j c rv i ft due bB)(hf:i[0]? =aa f)(hl:i[i.length-1]? =aa l)(hr:r.Ok)(ah:f.Ok)(aI:l.Ok)(bK:i.length<=1048576):
  bO 243 #[jp j,.agg (aM r),an most] w (.bool (rW f l r most)):=by
 have bJ:0<i.length:=(eL.1 hf).1;obtain⟨n,hn⟩:∃n,i.length=n+1:=⟨i.length-1,ak⟩;obtain⟨ra,B,rfl,bz⟩:=h.row.form;obtain⟨g,rfl,u⟩:=h.row.at hf;obtain⟨bH,e,P⟩:=h.row.at hl;cases e;have M:j<w.heap.size:=(bp.1 h.box).1;have I:g<w.heap.size:=gH u.1
 have T:uL j (.slice (aa (aj g 0)) i.length B) g n f l w:=by rw[show i.length-1=n by omega]at P;simp at u;exact⟨aG h.box rfl,u,P⟩
 have E:aL w (w.alloc (aA (aM r) 134)):=bf;have U:=T.cD (aV.below (X:=λb=>w.heap.size<=b) E) M I;have R:(w.alloc (aA (aM r) 134)).heap[w.heap.size]? =aa (aA (aM r) 134 (0,0)):=cw w _;have k:Hid (uL j (.slice (aa (aj g 0)) i.length B) g n f l (w.alloc (aA (aM r) 134))/\(w.alloc (aA (aM r) 134)).heap[w.heap.size]? =aa (aA (aM r) 134 (0,0))/\aL w (w.alloc (aA (aM r) 134))):=⟨U,R,E⟩;obtain⟨V,H⟩:∃V,V=rW f l r most:=⟨_,rfl⟩;rw[<-H];have t:=aT H;clear H;have o:Hid (r.Ok/\l.Ok/\f.Ok):=⟨hr,aI,ah⟩;have D:Hid (∀x:Rq,x.Ok->∀W,bO 268 #[.agg (aM x)] W (an (x.m.of+x.m.ln))):=λx hx W=>rj x W hx;clear h u P hf hl hr ah aI T U R E;generalize i.length=L at*;subst hn;have bu:(n:Int)<=1048576:=ak;have bw:(n:Int)<(n:Int)+1:=ak;go_enter func243,ntmps243
 go_upto_region 1 with fail
 generalize w.alloc (aA (aM r) 134)=d at*;have N:j<d.heap.size:=dy M k.out.2.2.size;have J:g<d.heap.size:=dy I k.out.2.2.size
 go_cut [4,7,8] (λp4 p7 p8 Q=>∃v z,p4=aR w.heap.size/\p7=aR v/\p8=aR z/\Q.heap[v]? =aa (aA (aM f) 134 (0,0))/\Q.heap[z]? =aa (aA (aM l) 134 (0,0))/\aL d Q)
 case first=>
  refine eD (S:=uL j (.slice (aa (aj g 0)) (n+1) B) g n f l) k.out.1 λG=>?_;refine tk 0 ?_;refine tk 1 ?_;refine tk 2 ?_;refine tk 3 ?_;refine tk 4 ?_;refine tk 5 ?_;refine tk 6 ?_;refine tk 7 ?_;refine tk 8 ?_;refine tk 9 ?_;refine tk 10 ?_;refine tk 11 ?_;refine tk 12 ?_;refine tk 13 ?_;refine tk 14 ?_;refine tk 15 ?_;rw[show eP.wrap ((n:Nat):Int)=(n:Int) from iG ak ak];refine tk 16 ?_;refine tk 17 ?_
  have q:Hid (∀x y,uL j (.slice (aa (aj g 0)) (n+1) B) g n f l (d.alloc x).drew/\uL j (.slice (aa (aj g 0)) (n+1) B) g n f l ((d.alloc x).alloc y).drew):=λx y=>
   ⟨k.out.1.cD (aV.below (X:=λb=>d.heap.size<=b) ((Below.refl _ d).alloc (bC _) x).drew) N J,k.out.1.cD (aV.below (X:=λb=>d.heap.size<=b) (LU d x y)) N J⟩
  refine aH [18,19] (.cons rfl (λK a=>?_) ?_)
  ·(skip)
   go_simp;refine a.out _ _ (q.out _ (aA #[] 0)).1 (λbl=>?_);clear a K;refine rH 19 λK a=>?_;go_simp;refine a.out _ _ (q.out _ _).2 (λC3=>?_);clear a K;refine rH 20 λK a=>?_;go_simp;refine a.out _ _ (q.out _ _).2 (λbn=>?_);clear a K;refine rH 21 λK a=>?_;go_simp;refine a.out _ _ (q.out _ _).2 (λbq=>?_);clear a K;refine dc ?_;go_wp2_with fail
   go_meet
   case rel=>exact⟨d.heap.size,d.heap.size+1,rfl,rfl,rfl,Ca d _ _,BZ d _ _,LU d _ _⟩
  refine .cons rfl (λK a=>?_) .nil;go_simp;refine a.out _ _ (q.out _ (aA #[] 0)).1 (λbl=>?_);clear a K;refine rH 18 λK a=>?_;go_simp;refine a.out _ _ (q.out _ _).2 (λC3=>?_);clear a K;refine rH 20 λK a=>?_;go_simp;refine a.out _ _ (q.out _ _).2 (λbn=>?_);clear a K;refine rH 21 λK a=>?_;go_simp;refine a.out _ _ (q.out _ _).2 (λbq=>?_);clear a K;refine dc ?_;go_wp2_with fail
  go_meet
  case rel=>exact⟨d.heap.size+1,d.heap.size,rfl,rfl,rfl,BZ d _ _,Ca d _ _,LU d _ _⟩
 case rest=>
  obtain⟨v,z,rfl,rfl,rfl,k7,k8,O⟩:=hcut;have k4:wc.heap[w.heap.size]? =aa (aA (aM r) 134 (0,0)):=bV O k.out.2.1;have p:=aT (k.out.2.2.trans (O.mono k.out.2.2.size));have S2:uM w.heap.size v z r f l wc:=⟨cu.of k4,cu.of k7,cu.of k8⟩;have bg:r.m.of+r.m.ln-f.m.of<=131071∧-131071<=r.m.of+r.m.ln-f.m.of:=by have:=o.out.1.of0;have:=o.out.1.of1;have:=o.out.1.mE;have:=o.out.1.qb;have:=o.out.2.2.of0;have:=o.out.2.2.of1;omega
  clear k7 k8 O k4 k N J M I bz bu bw;have aS:Hid (eP.wrap (r.m.of+r.m.ln-f.m.of)=r.m.of+r.m.ln-f.m.of):=iG ak ak;clear bg
  go_upto_region 2 with fail
  refine eD (S:=uM w.heap.size v z r f l) S2 λG=>?_;cases A:(r.m.kd !=2)with
  |false=>
   refine tk 0 ?_;refine tk 1 ?_;refine tk 2 ?_;refine tk 3 ?_;refine tk 4 ?_;refine bL 5 ?_;refine bL 6 ?_;refine bL 7 ?_;refine bL 8 ?_;refine bL 9 ?_;refine bL 10 ?_;refine bL 11 ?_;refine tk 12 ?_;refine tk 13 ?_;refine bL 14 ?_;refine bL 15 ?_;refine bL 16 ?_;refine bL 17 ?_;refine bL 18 ?_;refine bL 19 ?_;refine bL 20 ?_;refine tk 21 ?_;refine tk 22 ?_;refine bL 23 ?_;refine bL 24 ?_;refine bL 25 ?_;refine bL 26 ?_;refine bL 27 ?_;refine bL 28 ?_;refine tk 29 ?_;refine tk 30 ?_;refine bL 31 ?_;refine bL 32 ?_;refine bL 33 ?_;refine bL 34 ?_;refine bL 35 ?_;refine bL 36 ?_;refine bL 37 ?_;refine bL 38 ?_;refine tk 39 ?_;refine tk 40 ?_;refine dc ?_;go_wp2;go_ret;exact⟨by rw[t.out];simp[rW,A],p.out.trans (iX (Below.refl _ _) _)⟩
  |true=>
   cases C:(r.m.kd==l.m.kd)with
   |false=>
    refine tk 0 ?_;refine tk 1 ?_;refine tk 2 ?_;refine tk 3 ?_;refine tk 4 ?_;refine tk 5 ?_;refine tk 6 ?_;refine tk 7 ?_;refine tk 8 ?_;refine tk 9 ?_;refine tk 10 ?_;refine tk 11 ?_;refine tk 12 ?_;refine tk 13 ?_;refine bL 14 ?_;refine bL 15 ?_;refine bL 16 ?_;refine bL 17 ?_;refine bL 18 ?_;refine bL 19 ?_;refine bL 20 ?_;refine tk 21 ?_;refine tk 22 ?_;refine bL 23 ?_;refine bL 24 ?_;refine bL 25 ?_;refine bL 26 ?_;refine bL 27 ?_;refine bL 28 ?_;refine tk 29 ?_;refine tk 30 ?_;refine bL 31 ?_;refine bL 32 ?_;refine bL 33 ?_;refine bL 34 ?_;refine bL 35 ?_;refine bL 36 ?_;refine bL 37 ?_;refine bL 38 ?_;refine tk 39 ?_;refine tk 40 ?_;refine dc ?_;go_wp2;go_ret;exact⟨by rw[t.out];simp[rW,A,C],p.out.trans (iX (Below.refl _ _) _)⟩
   |true=>
    cases F:(r.m.fl==l.m.fl)with
    |false=>
     refine tk 0 ?_;refine tk 1 ?_;refine tk 2 ?_;refine tk 3 ?_;refine tk 4 ?_;refine tk 5 ?_;refine tk 6 ?_;refine tk 7 ?_;refine tk 8 ?_;refine tk 9 ?_;refine tk 10 ?_;refine tk 11 ?_;refine tk 12 ?_;refine tk 13 ?_;refine tk 14 ?_;refine tk 15 ?_;refine tk 16 ?_;refine tk 17 ?_;refine tk 18 ?_;refine tk 19 ?_;refine tk 20 ?_;refine tk 21 ?_;refine tk 22 ?_;refine bL 23 ?_;refine bL 24 ?_;refine bL 25 ?_;refine bL 26 ?_;refine bL 27 ?_;refine bL 28 ?_;refine tk 29 ?_;refine tk 30 ?_;refine bL 31 ?_;refine bL 32 ?_;refine bL 33 ?_;refine bL 34 ?_;refine bL 35 ?_;refine bL 36 ?_;refine bL 37 ?_;refine bL 38 ?_;refine tk 39 ?_;refine tk 40 ?_;refine dc ?_;go_wp2;go_ret;exact⟨by rw[t.out];simp[rW,A,C,F],p.out.trans (iX (Below.refl _ _) _)⟩
    |true=>
     cases Y:(r.m.of==l.m.of+l.m.ln)with
     |false=>
      refine tk 0 ?_;refine tk 1 ?_;refine tk 2 ?_;refine tk 3 ?_;refine tk 4 ?_;refine tk 5 ?_;refine tk 6 ?_;refine tk 7 ?_;refine tk 8 ?_;refine tk 9 ?_;refine tk 10 ?_;refine tk 11 ?_;refine tk 12 ?_;refine tk 13 ?_;refine tk 14 ?_;refine tk 15 ?_;refine tk 16 ?_;refine tk 17 ?_;refine tk 18 ?_;refine tk 19 ?_;refine tk 20 ?_;refine tk 21 ?_;refine tk 22 ?_;refine tk 23 ?_;refine tk 24 ?_;refine tk 25 ?_;refine tk 26 ?_;refine rH 27 λK a=>?_;go_simp;go_at_call 268;refine(D.out l o.out.2.1 _).mono ?_;rintro e bG ⟨rfl,s⟩;have bk:=uM.old G s;refine a.out _ _ bk (λZ=>?_);clear a K;refine tk 28 ?_;refine tk 29 ?_;refine tk 30 ?_;refine bL 31 ?_;refine bL 32 ?_;refine bL 33 ?_;refine bL 34 ?_;refine bL 35 ?_;refine bL 36 ?_;refine bL 37 ?_;refine bL 38 ?_;refine tk 39 ?_;refine tk 40 ?_;refine dc ?_;go_wp2;go_ret;exact⟨by rw[t.out];simp[rW,A,C,F,Y],p.out.trans (DQ s p.out.size)⟩
     |true=>
      refine tk 0 ?_;refine tk 1 ?_;refine tk 2 ?_;refine tk 3 ?_;refine tk 4 ?_;refine tk 5 ?_;refine tk 6 ?_;refine tk 7 ?_;refine tk 8 ?_;refine tk 9 ?_;refine tk 10 ?_;refine tk 11 ?_;refine tk 12 ?_;refine tk 13 ?_;refine tk 14 ?_;refine tk 15 ?_;refine tk 16 ?_;refine tk 17 ?_;refine tk 18 ?_;refine tk 19 ?_;refine tk 20 ?_;refine tk 21 ?_;refine tk 22 ?_;refine tk 23 ?_;refine tk 24 ?_;refine tk 25 ?_;refine tk 26 ?_;refine rH 27 λK a=>?_;go_simp;go_at_call 268;refine(D.out l o.out.2.1 _).mono ?_;rintro e bG ⟨rfl,s⟩;refine a.out _ _ (uM.old G s) (λZ=>?_);clear a K;refine tk 28 ?_;refine tk 29 ?_;refine tk 30 ?_;refine tk 31 ?_;refine tk 33 ?_;refine tk 34 ?_;refine tk 35 ?_;refine tk 37 ?_;refine rH 32 λK a=>?_;go_simp;go_at_call 268;refine(D.out r o.out.1 _).mono ?_;rintro e bP ⟨rfl,af⟩;refine a.out _ _ (uM.old Z af) (λbI=>?_);clear a K;refine tk 36 ?_;refine tk 38 ?_;refine tk 39 ?_;refine tk 40 ?_;refine dc ?_;go_wp2;go_ret;refine⟨?_,p.out.trans ((DQ s p.out.size).trans (af.mono (dm p.out.size s.size)))⟩;rw[t.out];rw[aS.out];simp[rW,A,C,F,Y]
def Ck.fst(k:Ck):Rq:=match k.q with
 |[]=>⟨bh.zero,0⟩
 |r::_=>r
def Ck.fc(g:Cf)(k:Ck):Bool:=match k.q with
 |[]=>av
 |r::_=>decide (0<k.tok)&&decide ((k.out.size:Int)+k.prom+sizeOf' r.m<=g.ou)
def aam(c cap a w)(h:w.cell? (aj c 13)=aa (.slice a 0 cap)):
  bO 204 #[jp c] w (.tuple #[.agg (aM ⟨bh.zero,0⟩),.bool av]):=by
 have u:c<w.heap.size:=gH h;have g:aL w (w.alloc (aA kM 134)):=bf;have p:kX (w.alloc (aA kM 134)) w.heap.size:=cw w _
 have t:Hid (Calls prog 78 #[jp c] (w.alloc (aA kM 134)) λe i=>e=aN (.tuple #[.agg (aM ⟨bh.zero,0⟩),.bool av])/\aL w i/\kX i w.heap.size/\w.heap.size<i.heap.size):=by refine(Je c cap a _ ((fX (a:=aj c 13) (g.block c u)).trans h)).mono ?_;rintro e i ⟨rfl,l⟩;exact⟨rfl,g.trans (l.mono g.size),bV l p,by have:=l.size;simp at this;omega⟩
 clear h g p;go_enter func204,ntmps204
 go_upto_region 2 with(go_at_call 78;refine t.out.mono ?_;rintro e f ⟨rfl,m,q,I⟩)
 have j:aL f (f.alloc (aA (aM ⟨bh.zero,0⟩) 134)):=bf;have n:(f.alloc (aA (aM ⟨bh.zero,0⟩) 134)).heap[f.heap.size]? =aa (aA (aM ⟨bh.zero,0⟩) 134 (0,0)):=cw f _;have s:=aT (m.trans (j.mono m.size));have r:cu (f.alloc (aA (aM ⟨bh.zero,0⟩) 134)) f.heap.size ⟨bh.zero,0⟩:=cu.of n;have b:kX (f.alloc (aA (aM ⟨bh.zero,0⟩) 134)) w.heap.size:=bV j q;clear j n q m;show GC _ _ _ _ (f.alloc (aA (aM ⟨bh.zero,0⟩) 134));generalize f.alloc (aA (aM ⟨bh.zero,0⟩) 134)=d at*;have x:=aO d w.heap.size 0 (an 0) b;have y:=aO d w.heap.size 1 (.string ⟨#[]⟩) b;have z:=aO d w.heap.size 2 (an 0) b;have A:=aO d w.heap.size 3 (an 0) b;have B:=aO d w.heap.size 4 (an 0) b;have C:=aO d w.heap.size 5 (an 0) b;have D:=aO d w.heap.size 6 (an 0) b;have E:=aO d w.heap.size 7 (.string ⟨#[]⟩) b;have F:=aO d w.heap.size 8 (an 0) b;have G:=aO d w.heap.size 9 (an 0) b;have H:∀k,d.frozen? (aj w.heap.size k)=av:=λk=>bz b k;refine iJ ?_;refine dB (S:=λW=>cu W f.heap.size ⟨bh.zero,0⟩) 16 aS r ?_;intro hS;clear b;simp only[bh.zero]at r hS;refine gs 0 ?_;refine gk 1 ?_;refine gk 2 ?_;refine g0 3 ?_;refine g0 4 ?_;refine g0 5 ?_;refine g0 6 ?_;refine g0 7 ?_;refine gk 8 ?_;refine gk 9 ?_;refine g0 10 ?_;refine g0 11 ?_;refine g0 12 ?_;refine g0 13 ?_;refine g0 14 ?_;refine gk 15 ?_;refine gz λK o=>?_;go_simp;refine o.out _ _ ?_;clear o K;refine ga 17 ?_;refine eu aS ?_ _;refine gT ?_;go_wp2;refine gO (v:=.tuple #[.agg (aM ⟨bh.zero,0⟩),.bool av]) (by simp[results,results204,go_sem,x,y,z,A,B,C,D,E,F,G]) rfl ⟨rfl,?_⟩;exact DU s.out _ _ _ _ _ _ _ _ _ _
def Sl(c rb ch q v g k w)(h:cI w c rb ch q v g k)(m:∀r∈k.q,r.Ok)(j:k.out.size<=4194304)(l:0<=k.prom/\k.prom<=4194304):
  bO 204 #[jp c] w (.tuple #[.agg (aM k.fst),.bool (k.fc g)]):=by
 obtain⟨n,o,rfl⟩:=jS h.out;unfold Ck.fst Ck.fc;cases d:k.q with
 |nil=>
  obtain⟨a,f,rfl,_⟩:=h.row.form;have:=aG (i:=13) h.box rfl;rw[d]at this;exact aam c f a w this
 |cons r rest=>
  have hr:=h.row;rw[d]at hr
  by_cases h0:0<k.tok
  ·refine(aao c k.out.size o n k.prom g.ou q r rest k.tok w (aG h.box rfl) hr (aG h.box rfl) h0 (m r (by rw[d];simp)) j l (aG h.box rfl) (aG h.box rfl) (aG h.box rfl)).mono ?_;rintro e p ⟨rfl,b⟩;exact⟨by simp[h0],b⟩
  ·refine(aan c q r rest k.tok w (aG h.box rfl) hr (aG h.box rfl) h0).mono ?_;rintro e p ⟨rfl,b⟩;exact⟨by simp[h0],b⟩
def afg(a n cap w):Calls prog 266 #[.slice a n cap] w λe b=>e=aN (.func (.func 281) #[] #[aR w.heap.size])/\b=w.alloc (aA #[.slice a n cap] 107):=by go_enter func266,ntmps266;go_wp2;go_ret;exact⟨rfl,rfl⟩
def Wh(hb ho n a cap w)(h:w.cell? (aj hb ho)=aa (.slice a n cap)):Calls prog 239 #[.pointer (aa (aj hb ho))] w λe b=>e=aN (.func (.func 281) #[] #[aR w.heap.size])/\b=w.alloc (aA #[.slice a n cap] 107):=by go_enter func239,ntmps239;go_wp2_with (go_at_call 266;refine(afg a n cap _).mono ?_;rintro e c ⟨rfl,rfl⟩);go_ret;exact⟨rfl,rfl⟩
end
section
attribute [local go_sem] Oper.semAt_some
attribute [local go_sem] bP bF
open Go.Proofs.Tryz
open Go.RowKit Go.Shelf
def TG{α:Type}{l:aB α}{j:Nat}{x:α}(h:l[j]? =aa x):l.take (j+1)=l.take j++[x]:=by rw[sX,h];rfl
def aff(n)(Q:1<=n)(cb a N cap l W)(K:W.cell? (aj cb 0)=aa (.slice a N cap))(O:l.length=N)(H:N<=65535)(y:∀(j:Nat) x,l[j]? =aa x->∃g,a=aa ⟨g,0,ay⟩/\W.cell? (aj g j)=aa (jp x)):
  Iter jW n prog 281 #[aR cb] vP (λ_=>False) (λA B=>∀g,(ff a N cap).ownBlock=aa g->B.heap[g]? =A.heap[g]?) (λh=>∃r,l=h++r)
   (λh _=>h=l) (λpre _=>∃r,l=pre++r) W:=by
 intro lp J D F G w s;refine callsIn_of_wp func281 rfl trivial ?_ rfl;simp only[ntmps281,iV,eT,iU,pM,alA,sJ,sK,sW,sQ,pI,jY]
 gi_wp2
 gi_loopw [7] (λi wr=>∃j:Nat,j<=N/\i=an j/\Hid (J (l.take j) wr/\∀g,(ff a N cap).ownBlock=aa g->wr.heap[g]? =W.heap[g]?)) (λi _=>N-(gU i).toNat)
 case atStart=>exact⟨0,eo _,rfl,s,λ_ _=>rfl⟩
 case round=>
  obtain⟨j,L,rfl,c⟩:=hrel
  by_cases P:j<N
  ·have C:decide ((j:Int)<(N:Int))=aq:=bY;obtain⟨x,f⟩:∃x,l[j]? =aa x:=⟨l[j],by rw[ef]⟩;obtain⟨g,rfl,z⟩:=y j x f
   have I:wr.cell? (aj g j)=aa (jp x):=by rw[fX (c.out.2 g rfl)];exact z
   have k:Hid (∃r,l=(l.take j++[x])++r):=⟨l.drop (j+1),by rw[<-TG f,pK]⟩;obtain⟨E,S,assign,body,R,v⟩:=w (l.take j) x wr c.out.1 k.out;have p:=aT c.out.2
   gi_wp2
   refine v.mono ?_;rintro e m (⟨rfl,t,o⟩|⟨rfl,u,o⟩)
   ·have d:Hid (J (l.take (j+1)) m/\∀b,(ff (aa (aj g 0)) N cap).ownBlock=aa b->m.heap[b]? =W.heap[b]?):=⟨by rw[(aT (TG f)).out];exact t,λb e=>(o b e).trans (p.out b e)⟩
    gi_wp2
    go_roundw
    case rel=>exact⟨j+1,ak,by go_num,d.out⟩
    case measure=>simp[gU];omega
   ·have d:=aT u
    gi_wp2
    refine gO (results_none rfl _ _ _) rfl ?_;exact⟨⟨_,rfl⟩,aD ⟨_,k.out,d.out⟩⟩
  ·have C:decide ((j:Int)<(N:Int))=av:=bY;have M:j=N:=ak
   have q:Hid (J l wr):=by have:=c.out.1;rw[sY ak]at this;exact this
   gi_wp2
   exact eO rfl rfl ⟨⟨_,rfl⟩,aF ⟨_,rfl,q.out⟩⟩
structure NB(w:az)(xb sb M:Nat)(cs:aB (aY Nat))(a:aY Addr)(N cap:Nat)(l:aB Nat)(r:Rq)(b:Nat->Bool)(fr:Nat->Rq)(rd:Nat->Bool):Prop where
 head:w.cell? (aj xb 18)=aa (.slice a N cap)
 len:l.length=N
 small:N<=65535
 row:∀(j:Nat) x,l[j]? =aa x->∃g,a=aa ⟨g,0,ay⟩/\w.cell? (aj g j)=aa (jp x)
 FF:∀g,(ff a N cap).ownBlock=aa g->g<w.heap.size
 touch:∀j∈l,∀W,aL w W->bO 240 #[jp j,.agg (aM r)] W (.bool (b j))
 dO:qH w xb sb M cs
 ready:∀c∈cE cs,∀W,aL w W->bO 204 #[jp c] W (.tuple #[.agg (aM (fr c)),.bool (rd c)])
 ok:r.Ok/\∀c∈cE cs,rd c=aq->(fr c).Ok
def ahead(r:Rq)(fr:Nat->Rq)(rd:Nat->Bool)(c:Nat):Bool:=rd c&&(decide ((fr c).no<r.no)&&(fr c).touch r)
def nI(w:az)(r:Rq)(p:Nat->Bool)(pre:aB Nat)(W:az):Prop:=
 aL w W/\W.heap[w.heap.size]? =aa (aA (aM r) 134 (0,0))/\W.heap[w.heap.size+1]? =aa (aA #[.bool av] 4 (0,0))/\(∀c∈pre,p c=av)/\w.heap.size+2<=W.heap.size
def tL(w:az)(p:Nat->Bool)(pre:aB Nat)(W:az):Prop:=
 aL w W/\W.heap[w.heap.size+1]? =aa (aA #[.bool aq] 4 (0,0))/\(∃c∈pre,p c=aq)/\w.heap.size+2<=W.heap.size
def nI.bears{w r p B}(j:w.heap.size+2<=B):Bears (λx=>False\/x=B+1) (nI w r p):=by
 rintro pre W i row ⟨c,d,f,g,h⟩ a hr;have b:∀x,row=aa x->x=B+1:=λx e=>by grind
 exact⟨c.grown a c.size (λk e=>by have:=b k e;omega),lN d a (λe=>by have:=b _ e;omega),lN f a (λe=>by have:=b _ e;omega),g,dm h a.size⟩
def tL.bears{w p B}(i:w.heap.size+2<=B):Bears (λx=>False\/x=B+1) (tL w p):=by
 rintro pre W h row ⟨b,d,f,g⟩ a hr;have c:∀x,row=aa x->x=B+1:=λx e=>by grind
 exact⟨b.grown a b.size (λk e=>by have:=c k e;omega),lN d a (λe=>by have:=c _ e;omega),f,dm g a.size⟩
abbrev ihA(xb:Nat)(r:Rq)(B j:Nat):Act:=
 {tmps:=#[jp xb,.agg (aM r),au,aR B,aR (B+1),jp j,au,au,au,jp xb,aR xb,.pointer (aa (aj xb 18)),.func (.func 281) #[] #[aR (B+1+1)],jp j,au,au,au,au,au,au,au,au,au,au,au,au,au,au,au,au,au,au,au,au,au,au,au,au],defers:=[]}
abbrev ihB(xb:Nat)(r:Rq)(B a c:Nat):Act:=
 {tmps:=#[jp xb,.agg (aM r),au,aR B,aR (B+1),au,jp c,au,au,jp xb,aR xb,.pointer (aa (aj xb 18)),.func (.func 281) #[] #[aR (B+1+1)],au,au,au,au,jp xb,.func (.func 96) #[] #[aR a],jp c,au,au,au,au,au,au,au,au,au,au,au,au,au,au,au,au,au,au],defers:=[]}
abbrev ihW(w:az)(r:Rq)(v:aE):az:=((w.alloc (aA (aM r) 134)).alloc (aA #[.bool av] 4)).alloc (aA #[v] 107)
def G0(xb sb M cs a N cap l r tj fr rd w)(h:NB w xb sb M cs a N cap l r tj fr rd):
  bO 205 #[jp xb,.agg (aM r)] w (.bool (l.any tj||(cE cs).any (ahead r fr rd))):=by
 refine fP.1 (?_:CallsIn jW 3 prog _ _ w _);have IM:=h.head;have dz:xb<w.heap.size:=gH IM;have b8:((w.alloc (aA (aM r) 134)).alloc (aA #[.bool av] 4)).cell? (aj xb 18)=aa (.slice a N cap):=bR (bf.alloc aC _) IM;have q:=aT h;clear h IM;refine VH func205 rfl trivial ?_ rfl;simp only[ntmps205,iV,eT,iU,pM,alA,sJ,sK,sW,sQ,pI,jY]
 gi_wp2_with (first|(refine⟨trivial,?_⟩;gi_at_call 239;refine(fP.2 (Wh xb 18 N a cap _ b8)).mono ?_;rintro e f ⟨rfl,rfl⟩))
 have aI:aL w (ihW w r (.slice a N cap)):=(bf.alloc aC _).alloc bY _;have bg:(ihW w r (.slice a N cap)).heap.size=w.heap.size+3:=aC;have e1:(ihW w r (.slice a N cap)).heap[w.heap.size]? =aa (aA (aM r) 134 (0,0)):=fO (fO (new1 rfl));have e2:(ihW w r (.slice a N cap)).heap[w.heap.size+1]? =aa (aA #[.bool av] 4 (0,0)):=fO (new1 aC);have e3:(ihW w r (.slice a N cap)).heap[w.heap.size+1+1]? =aa (aA #[.slice a N cap] 107 (0,0)):=new1 aC;show Code.wpIn jW 3 prog _ _ _ (ihW w r (.slice a N cap));generalize ihW w r (.slice a N cap)=W0 at*;have cm:nI w r tj [] W0:=⟨aI,e1,e2,λc h=>(by cases h),ak⟩
 refine xG (w:=W0) rfl bJ (gf:=281) (lb:=#[aR (w.heap.size+1+1)]) rfl trivial (enters_of func281 aS rfl) (encs:=vP) (λ_=>rfl)
  (R:=λ_=>False) (Kp:=λA B=>∀g,(ff a N cap).ownBlock=aa g->B.heap[g]? =A.heap[g]?) (V:=λt=>∃r,l=t++r) (S:=λt _=>t=l) (Sp:=λpre _=>∃r,l=pre++r)
  (λW hW=>?seq) (λr h=>h.elim) (λh k g e=>(k g e).trans (h g e)) (λW o g e=>fj (by have:=q.out.FF g e;omega)) (λt W X row h _ _=>h) (λt W X row h _ _=>h)
  (nI w r tj) (tL w tj) (nI.bears ak) (tL.bears ak) cm (λj a _=>a=ihA xb r w.heap.size j) (λc a W X row h _ _=>h) ?assign ?body ?done ?stop
 case seq=>
  have bB:aL w W:=aI.grown hW aI.size (λk e=>by cases e);have xd:=lN e3 hW aC;refine aff 2 bJ (w.heap.size+1+1) a N cap l W (aG xd rfl) q.out.len q.out.small λj x P=>?_;obtain⟨g,e,L⟩:=q.out.row j x P;exact⟨g,e,bR bB L⟩
 case assign=>
  rintro lp pre c W K d hv gh hK
  gi_wp2
  exact hK _ W ⟨rfl,rfl⟩ (λ_ _=>rfl) d rfl
 case body=>
  rintro lp pre j a' W d rfl ⟨rr,hv⟩ gh;have C:j∈l:=by rw[hv];simp
  obtain⟨k0,k1,k2,k3,k4,k5,k6,k7,k8,k9⟩:=cu.of d.2.1;have cR:=aO W (w.heap.size+1) 0 (.bool av) d.2.2.1;have E:=aT (q.out.touch j C W d.1);have s:=aT d;have af:w.heap.size+2<=W.heap.size:=d.2.2.2.2;clear d;cases vC:tj j with
  |true=>
   rw[vC]at E
   gi_wp2_with (first|(refine⟨trivial,?_⟩;gi_at_call 240;refine(mJ lp (fP.2 E.out)).mono ?_;rintro e f ⟨rfl,b⟩;have d2:=bV b s.out.2.2.1;have an:=aO f (w.heap.size+1) 0 (.bool av) d2;have aH:=bz d2 0))
   obtain⟨m,y,G,D,Q⟩:=s.out;have O:=b.size;rw[bg];refine⟨⟨(bH ak).trans (b.block _ ak),(bH ak).trans (b.block _ ak)⟩,λg e=>(bH (by have:=q.out.FF g e;omega)).trans (b.block _ (by have:=q.out.FF g e;omega)),(m.trans (b.mono m.size)).setCell (p:=aj (w.heap.size+1) 0) (kr _) _,cz d2 0 _,⟨j,aC,vC⟩,by simpa using dm af O⟩
  |false=>
   rw[vC]at E
   gi_wp2_with (first|(refine⟨trivial,?_⟩;gi_at_call 240;refine(mJ lp (fP.2 E.out)).mono ?_;rintro e f ⟨rfl,b⟩))
   obtain⟨m,y,G,D,Q⟩:=s.out;have O:=b.size;rw[bg];refine⟨⟨b.block _ ak,b.block _ ak⟩,λg e=>b.block _ (by have:=q.out.FF g e;omega),m.trans (b.mono m.size),bV b y,bV b G,λc hc=>?_,dm af O⟩;rcases jZ.1 hc with h|h
   ·exact D c h
   ·rw[lX.1 h];exact vC
 case stop=>
  rintro pre W ⟨rr,hv⟩ P Y;have HX:=aT P;clear P
  gi_wp2
  obtain⟨m,y,⟨j,C,bD⟩,D⟩:=HX.out;have J:=aG (w:=W.putObj W0.heap.size (.deferred ay)) ((fj ak).trans y) (i:=0) (v:=.bool aq) rfl;refine⟨aC,aF ⟨_,_,rfl,wN Y,.bool aq,by simp[results,results205,go_sem,J],?_,?_⟩⟩
  ·have:l.any tj=aq:=pF.2 ⟨j,by rw[hv];simp[C],bD⟩;rw[this];rfl
  ·exact m.grown (Dj _ _ _) m.size (λk e=>by cases e;omega)
 case done=>
  rintro t W rfl d Y
  have cy:t.any tj=av:=by rw[GW];intro j C;rw[d.2.2.2.1 j C];simp
  have s:Hid (nI w r (ahead r fr rd) [] W):=⟨d.1,d.2.1,d.2.2.1,λc h=>(by cases h),d.2.2.2.2⟩;have dx:W.heap.size≥w.heap.size+2:=d.2.2.2.2;rw[bg]at Y⊢;have y8:w.heap.size+3<W.heap.size:=(bp.1 Y).1;have HN:=aT cy;clear d cm aI e1 e2 e3 b8 cy bg
  gi_wp2_with (first|(refine⟨trivial,?_⟩;gi_at_call 59;refine(fP.2 (BO xb _)).mono ?_;rintro e f ⟨rfl,rfl⟩))
  have g1:=pP W (aA #[aR xb] 36) ay;have bw:nI w r (ahead r fr rd) [] (W.alloc (aA #[aR xb] 36)):=nI.bears (B:=w.heap.size+3) ak _ _ _ ay s.out g1 (λr e=>by cases e);have cJ:(W.alloc (aA #[aR xb] 36)).heap[W.heap.size]? =aa (aA #[aR xb] 36 (0,0)):=cw W _;have cH:(W.alloc (aA #[aR xb] 36)).heap[(w.heap.size+3)]? =aa (.deferred (aa [])):=(Below.heap_alloc _ _ _ y8).trans Y;have dr:(W.alloc (aA #[aR xb] 36)).heap.size=W.heap.size+1:=aC;generalize W.alloc (aA #[aR xb] 36)=u at*;have aP:sb<w.heap.size:=by obtain⟨o,ho⟩:=q.out.dO.row;exact(bp.1 ho).1
  refine xG (w:=u) rfl bJ (gf:=96) (lb:=#[aR W.heap.size]) rfl trivial (enters_of func96 aS rfl) (encs:=vP) (λ_=>rfl)
   (R:=λ_=>False) (Kp:=λA B=>B.heap[sb]? =A.heap[sb]?) (V:=λt=>∃r,cE cs=t++r) (S:=λt _=>t=cE cs) (Sp:=λpre _=>∃r,cE cs=pre++r)
   (λV hV=>?seq) (λr h=>h.elim) (λh k=>k.trans h) (λV o=>fj ak) (λt W X row h _ _=>h) (λt W X row h _ _=>h)
   (λpre W=>nI w r (ahead r fr rd) pre W/\W.heap[(w.heap.size+3)]? =aa (.deferred (aa []))) (λpre W=>tL w (ahead r fr rd) pre W/\W.heap[(w.heap.size+3)]? =aa (.deferred (aa [])))
   (λpre A B row h L hr=>⟨nI.bears (B:=u.heap.size) ak pre A B row h.1 L hr,lN h.2 L (λe=>by rcases hr _ e with h|h;exact h;omega)⟩) (λpre A B row h L hr=>⟨tL.bears (B:=u.heap.size) ak pre A B row h.1 L hr,lN h.2 L (λe=>by rcases hr _ e with h|h;exact h;omega)⟩)
   ⟨bw,cH⟩ (λc a _=>a=ihB xb r w.heap.size W.heap.size c) (λc a W X row h _ _=>h) ?assign ?body ?done ?stop
  case seq=>
   have bB:aL w V:=bw.1.grown hV bw.1.size (λk e=>by cases e);have vr:=q.out.dO.old bB;exact BP 2 bJ W.heap.size xb sb M cs V (aG (lN cJ hV aC) rfl) vr.sl vr.len vr.small vr.at_
  case assign=>
   rintro lp pre c A K d hv gh hK
   gi_wp2
   exact hK _ A ⟨rfl,rfl⟩ rfl d rfl
  case body=>
   rintro lp pre c a' A ⟨d,F⟩ rfl ⟨rr,hv⟩ gh;have hc:c∈cE cs:=by rw[hv];simp
   obtain⟨k0,k1,k2,k3,k4,k5,k6,k7,k8,k9⟩:=cu.of d.2.1;have cR:=aO A (w.heap.size+1) 0 (.bool av) d.2.2.1;have T:=aT (q.out.ready c hc A d.1);have s:Hid (nI w r (ahead r fr rd) pre A/\A.heap[(w.heap.size+3)]? =aa (.deferred (aa []))):=⟨d,F⟩;have af:w.heap.size+2<=A.heap.size:=d.2.2.2.2;have dn:u.heap.size+2<=A.heap.size:=gh;have E:Hid (rd c=aq->∀V,bO 241 #[.agg (aM (fr c)),.agg (aM r)] V (.bool ((fr c).touch r))):=λe V=>TO (fr c) r V (q.out.ok.2 c hc e) q.out.ok.1;have HH:Hid (ahead r fr rd c=(rd c&&(decide ((fr c).no<r.no)&&(fr c).touch r))):=rfl;clear d F;have aV:∀V,aL A V->wW u.heap.size A V/\V.heap[sb]? =A.heap[sb]? :=λV n=>⟨⟨n.block _ ak,n.block _ ak⟩,n.block _ ak⟩
   have bl:Hid (∀V,aL A V->ahead r fr rd c=av->roundEnd u.heap.size (λA B=>B.heap[sb]? =A.heap[sb]?) (λpre W=>nI w r (ahead r fr rd) pre W/\W.heap[w.heap.size+3]? =aa (.deferred (aa []))) (λpre W=>tL w (ahead r fr rd) pre W/\W.heap[w.heap.size+3]? =aa (.deferred (aa []))) (pre++[c]) A .normal (ihB xb r w.heap.size W.heap.size c) V):=λV n hn=>by
    obtain⟨⟨m,y,G,D,Q⟩,i6⟩:=s.out;refine⟨(aV V n).1,(aV V n).2,⟨m.trans (n.mono m.size),bV n y,bV n G,λc' J=>?_,dm af n.size⟩,bV n i6⟩;rcases jZ.1 J with h|h
    ·exact D c' h
    ·rw[lX.1 h];exact hn
   have cC:Hid (∀V,aL A V->ahead r fr rd c=aq->roundEnd u.heap.size (λA B=>B.heap[sb]? =A.heap[sb]?) (λpre W=>nI w r (ahead r fr rd) pre W/\W.heap[w.heap.size+3]? =aa (.deferred (aa []))) (λpre W=>tL w (ahead r fr rd) pre W/\W.heap[w.heap.size+3]? =aa (.deferred (aa []))) (pre++[c]) A .ret (ihB xb r w.heap.size W.heap.size c) (V.setCell (aj (w.heap.size+1) 0) (.bool aq))):=λV n hn=>by obtain⟨⟨m,y,G,D,Q⟩,i6⟩:=s.out;have aP:=aV V n;have hs:=n.size;exact⟨⟨(bH ak).trans aP.1.1,(bH ak).trans aP.1.2⟩,(bH ak).trans aP.2,⟨(m.trans (n.mono m.size)).setCell (p:=aj (w.heap.size+1) 0) (kr _) _,cz (bV n G) 0 _,⟨c,aC,hn⟩,by simpa using dm af hs⟩,mV (bV n i6) ak _ _⟩
   have z:Hid (A.heap[w.heap.size]? =aa (aA (aM r) 134 (0,0))/\A.heap[w.heap.size+1]? =aa (aA #[.bool av] 4 (0,0))):=⟨s.out.1.2.1,s.out.1.2.2.1⟩;clear aV s;generalize ahead r fr rd c=ah at*;cases hrd:rd c with
   |false=>
    rw[hrd]at T
    gi_wp2_with (first|(refine⟨trivial,?_⟩;gi_at_call 204;refine(mJ lp (fP.2 T.out)).mono ?_;rintro e f ⟨rfl,b⟩;have I:aL A (f.alloc (aA (aM (fr c)) 134)):=b.alloc b.size _;have H:=cu.of (bV I z.out.1);obtain⟨q0,q1,q2,q3,q4,q5,q6,q7,q8,q9⟩:=H;have O:=b.size;have EG:w.heap.size≠f.heap.size:=ak;have d2:=bV b z.out.2;have an:=aO f (w.heap.size+1) 0 (.bool av) d2;have aH:=bz d2 0)|(refine⟨trivial,?_⟩))
    exact bl.out _ (b.alloc b.size _) (by rw[HH.out,hrd];rfl)
   |true=>
    rw[hrd]at T;cases bF:decide ((fr c).no<r.no)with
    |false=>
     gi_wp2_with (first|(refine⟨trivial,?_⟩;gi_at_call 204;refine(mJ lp (fP.2 T.out)).mono ?_;rintro e f ⟨rfl,b⟩;have I:aL A (f.alloc (aA (aM (fr c)) 134)):=b.alloc b.size _;have H:=cu.of (bV I z.out.1);obtain⟨q0,q1,q2,q3,q4,q5,q6,q7,q8,q9⟩:=H;have O:=b.size;have EG:w.heap.size≠f.heap.size:=ak;have d2:=bV b z.out.2;have an:=aO f (w.heap.size+1) 0 (.bool av) d2;have aH:=bz d2 0)|(refine⟨trivial,?_⟩))
     exact bl.out _ (b.alloc b.size _) (by rw[HH.out,hrd,bF];rfl)
    |true=>
     have U:=E.out hrd;cases bh:(fr c).touch r with
     |false=>
      rw[bh]at U;have bn:=aT U;clear E U
      gi_wp2_with (first|(refine⟨trivial,?_⟩;gi_at_call 204;refine(mJ lp (fP.2 T.out)).mono ?_;rintro e f ⟨rfl,b⟩;have I:aL A (f.alloc (aA (aM (fr c)) 134)):=b.alloc b.size _;have H:=cu.of (bV I z.out.1);obtain⟨q0,q1,q2,q3,q4,q5,q6,q7,q8,q9⟩:=H;have O:=b.size;have EG:w.heap.size≠f.heap.size:=ak;have d2:=bV b z.out.2;have an:=aO f (w.heap.size+1) 0 (.bool av) d2;have aH:=bz d2 0)|(refine⟨trivial,?_⟩;gi_at_call 241;refine(mJ lp (fP.2 (bn.out _))).mono ?_;rintro e w2 ⟨rfl,nQ⟩))
      have Z:aL A (f.alloc (aA (aM (fr c)) 134)):=b.alloc b.size _;exact bl.out _ (Z.trans (nQ.mono Z.size)) (by rw[HH.out,hrd,bF,bh];rfl)
     |true=>
      rw[bh]at U;have bn:=aT U;clear E U
      gi_wp2_with (first|(refine⟨trivial,?_⟩;gi_at_call 204;refine(mJ lp (fP.2 T.out)).mono ?_;rintro e f ⟨rfl,b⟩;have I:aL A (f.alloc (aA (aM (fr c)) 134)):=b.alloc b.size _;have H:=cu.of (bV I z.out.1);obtain⟨q0,q1,q2,q3,q4,q5,q6,q7,q8,q9⟩:=H;have O:=b.size;have EG:w.heap.size≠f.heap.size:=ak;have d2:=bV b z.out.2;have an:=aO f (w.heap.size+1) 0 (.bool av) d2;have aH:=bz d2 0)|(refine⟨trivial,?_⟩;gi_at_call 241;refine(mJ lp (fP.2 (bn.out _))).mono ?_;rintro e w2 ⟨rfl,nQ⟩;have Z:aL A (f.alloc (aA (aM (fr c)) 134)):=b.alloc b.size _;have cx:=Z.trans (nQ.mono Z.size);have d3:=bV cx z.out.2;have dg:=aO w2 (w.heap.size+1) 0 (.bool av) d3;have dj:=bz d3 0))
      exact cC.out _ cx (by rw[HH.out,hrd,bF,bh];rfl)
  case stop=>
   rintro pre A ⟨rr,hv⟩ ⟨P,F⟩ bu;have HX:Hid (tL w (ahead r fr rd) pre A/\A.heap[(w.heap.size+3)]? =aa (.deferred (aa []))):=⟨P,F⟩;clear P F
   gi_wp2
   obtain⟨⟨m,y,⟨j,C,bD⟩,D⟩,Q⟩:=HX.out;have bI:(A.putObj u.heap.size (.deferred ay)).heap[(w.heap.size+3)]? =aa (.deferred (aa [])):=(fj ak).trans Q;have J:=aG (w:=(A.putObj u.heap.size (.deferred ay)).putObj (w.heap.size+3) (.deferred ay)) ((fj ak).trans ((fj ak).trans y)) (i:=0) (v:=.bool aq) rfl;refine⟨aC,aF ⟨_,_,rfl,wN bu,aC,aF ⟨_,_,rfl,wN bI,.bool aq,by simp[results,results205,go_sem,J],?_,?_⟩⟩⟩
   ·have:(cE cs).any (ahead r fr rd)=aq:=pF.2 ⟨j,by rw[hv];simp[C],bD⟩;rw[this,Bool.or_true]
   ·exact(m.grown (Dj _ _ _) m.size (λk e=>by cases e;omega)).grown (Dj _ _ _) (by have:=m.size;simpa using this) (λk e=>by cases e;omega)
  case done=>
   rintro ys A rfl ⟨d,F⟩ bu;have cR:=aO A (w.heap.size+1) 0 (.bool av) d.2.2.1;have fR:=bz d.2.2.1 0;have s:Hid (nI w r (ahead r fr rd) (cE cs) A/\A.heap[(w.heap.size+3)]? =aa (.deferred (aa []))):=⟨d,F⟩;clear d F
   gi_wp2
   obtain⟨⟨m,y,G,D,i6⟩,Q⟩:=s.out;have cI:(A.setCell (aj (w.heap.size+1) 0) (.bool av)).heap[u.heap.size]? =aa (.deferred (aa [])):=mV bu ak _ _;have bI:((A.setCell (aj (w.heap.size+1) 0) (.bool av)).putObj u.heap.size (.deferred ay)).heap[(w.heap.size+3)]? =aa (.deferred (aa [])):=(fj ak).trans (mV Q ak _ _);have Bn:(A.setCell (aj (w.heap.size+1) 0) (.bool av)).heap[w.heap.size+1]? =aa (aA #[.bool av] 4 (0,0)):=cz G 0 _;have J:=aG (w:=((A.setCell (aj (w.heap.size+1) 0) (.bool av)).putObj u.heap.size (.deferred ay)).putObj (w.heap.size+3) (.deferred ay)) ((fj ak).trans ((fj ak).trans Bn)) (i:=0) (v:=.bool av) rfl;refine⟨aC,aF ⟨_,_,rfl,wN cI,aC,aF ⟨_,_,rfl,wN bI,.bool av,by simp[results,results205,go_sem,J],?_,?_⟩⟩⟩
   ·have:(cE cs).any (ahead r fr rd)=av:=by
     rw[GW];intro j C;rw[D j C];simp
    rw[this,HN.out];rfl
   ·have bG:=m.setCell (p:=aj (w.heap.size+1) 0) (kr _) (.bool av);exact(bG.grown (Dj _ _ _) bG.size (λk e=>by cases e;omega)).grown (Dj _ _ _) (by have:=bG.size;simpa using this) (λk e=>by cases e;omega)
end
section
attribute [local go_sem ↓] Go.wp_at_zero Go.wp_at_succ
attribute [local go_sem] bP bF
open Go.Conc Go.RowKit
open Go.Proofs.Tryz
def aey{w W}(h:aL w W)(u0 u1 u2 u3 u4 u5 u6 u7 u8 u9):aL w ((((((((((W.setCell (aj w.heap.size 0) u0).setCell (aj w.heap.size 1) u1).setCell (aj w.heap.size 2) u2).setCell (aj w.heap.size 3) u3).setCell (aj w.heap.size 4) u4).setCell (aj w.heap.size 5) u5).setCell (aj w.heap.size 6) u6).setCell (aj w.heap.size 7) u7).setCell (aj w.heap.size 8) u8).setCell (aj w.heap.size 9) u9):=
 cK (cK (cK (cK (cK (cK (cK (cK (cK (cK h _ _) _ _) _ _) _ _) _ _) _ _) _ _) _ _) _ _) _ _
def kX.cells{W B}(h:kX W B):(W.cell? (aj B 0)=aa (an 0)/\W.cell? (aj B 1)=aa (.string ⟨#[]⟩)/\W.cell? (aj B 2)=aa (an 0)/\W.cell? (aj B 3)=aa (an 0)/\W.cell? (aj B 4)=aa (an 0)/\W.cell? (aj B 5)=aa (an 0)/\W.cell? (aj B 6)=aa (an 0)/\W.cell? (aj B 7)=aa (.string ⟨#[]⟩)/\W.cell? (aj B 8)=aa (an 0)/\W.cell? (aj B 9)=aa (an 0))/\∀i,W.frozen? (aj B i)=av:=
 ⟨⟨aG h rfl,aG h rfl,aG h rfl,aG h rfl,aG h rfl,aG h rfl,aG h rfl,aG h rfl,aG h rfl,aG h rfl⟩,λi=>bz h i⟩
def YY(xb c f rd hd w)(hR:∀W,aL w W->bO 204 #[jp c] W (.tuple #[.agg (aM f),.bool rd]))(C:rd=aq->∀W,aL w W->bO 205 #[jp xb,.agg (aM f)] W (.bool hd)):
  bO 166 #[jp xb,jp c] w (.tuple #[.agg (aM f),.bool (rd&&!hd)]):=by
 have j:aL w (w.alloc (aA kM 134)):=bf;have D:kX (w.alloc (aA kM 134)) w.heap.size:=cw w _
 have B:Hid (Calls prog 204 #[jp c] (w.alloc (aA kM 134)) λe b=>e=aN (.tuple #[.agg (aM f),.bool rd])/\aL w b/\kX b w.heap.size/\w.heap.size<b.heap.size):=by refine(hR _ j).mono ?_;rintro e b ⟨rfl,g⟩;exact⟨rfl,j.trans (g.mono j.size),bV g D,by have:=g.size;simp at this;omega⟩
 have m:=aT C;clear hR C j D;go_enter func166,ntmps166
 go_upto_region 2 with(go_at_call 204;refine B.out.mono ?_;rintro e a ⟨rfl,o,E,M⟩)
 have n:aL a (a.alloc (aA (aM f) 134)):=bf;have k:(a.alloc (aA (aM f) 134)).heap[a.heap.size]? =aa (aA (aM f) 134 (0,0)):=cw a _;have i:=aT (o.trans (n.mono o.size));have h:kX (a.alloc (aA (aM f) 134)) w.heap.size:=bV n E;clear n E o B;show GC _ _ _ _ (a.alloc (aA (aM f) 134));generalize a.alloc (aA (aM f) 134)=l at*;have F:cu l a.heap.size f:=cu.of k;cases rd with
 |false=>
  obtain⟨⟨p,q,r,s,t,u,x,y,z,A⟩,H⟩:=kX.cells h;refine iJ ?_;refine dB (S:=λW=>cu W a.heap.size f) 8 aS F ?_;intro hS;clear h k m;refine gs 0 ?_;refine gk 1 ?_;refine gk 2 ?_;refine g0 3 ?_;refine g0 4 ?_;refine g0 5 ?_;refine g0 6 ?_;refine gk 7 ?_;refine gz λK d=>?_;go_simp;refine d.out _ _ ?_;clear d K;refine ga 9 ?_;refine eu aS ?_ _;refine gT ?_;go_wp2;refine gO (v:=.tuple #[.agg (aM f),.bool av]) (by simp[results,results166,go_sem,p,q,r,s,t,u,x,y,z,A]) rfl ⟨rfl,?_⟩;exact DU i.out _ _ _ _ _ _ _ _ _ _
 |true=>
  have G:Hid (Calls prog 205 #[jp xb,.agg (aM f)] l.drew λe b=>e=aN (.bool hd)/\aL w b/\kX b w.heap.size/\b.heap[a.heap.size]? =aa (aA (aM f) 134 (0,0))):=by refine(m.out rfl l.drew i.out.drew).mono ?_;rintro e b ⟨rfl,g⟩;exact⟨rfl,i.out.drew.trans (g.mono i.out.size),bV g h,bV g k⟩
  refine iJ ?_;refine dB (S:=λW=>cu W a.heap.size f) 8 aS F ?_;intro hS;clear h k m;refine gs 0 ?_;refine gk 1 ?_;refine gk 2 ?_;refine gk 3 ?_;refine gs 4 ?_;refine gr 5 λK d=>?_;go_simp;go_at_call 205;refine G.out.mono ?_;rintro e N ⟨rfl,J,h,I⟩;refine d.out _ _ (cu.of I) (λL=>?_);clear d K;obtain⟨⟨p,q,r,s,t,u,x,y,z,A⟩,H⟩:=kX.cells h;refine gk 6 ?_;refine gk 7 ?_;refine gz λK d=>?_;go_simp;refine d.out _ _ ?_;clear d K;refine ga 9 ?_;refine eu aS ?_ _;refine gT ?_;go_wp2;refine gO (v:=.tuple #[.agg (aM f),.bool (!hd)]) (by simp[results,results166,go_sem,p,q,r,s,t,u,x,y,z,A]) rfl ⟨aC,?_⟩;exact(aey J _ _ _ _ _ _ _ _ _ _)
abbrev uN(xb b:Nat)(a:Int)(f:Rq)(W:az):Prop:=W.cell? (aj xb 3)=aa (an a)/\cu W b f
def uN.old{xb b mx f W W'}(h:uN xb b mx f W)(a:aL W W'):uN xb b mx f W':=⟨bR a h.1,h.2.old a⟩
def l8(xb c j f fr h ft mx w)(v:w.cell? (aj xb 3)=aa (an mx))(hF:bO 166 #[jp xb,jp c] w (.tuple #[.agg (aM f),.bool fr]))(s:∀W,aL w W->bO 168 #[jp c,.agg (aM f)] W (.bool h))(t:fr=aq->h=aq->∀W,aL w W->bO 243 #[jp j,.agg (aM f),an mx] W (.bool ft)):
  bO 208 #[jp xb,jp c,jp j] w (.bool (fr&&(h&&ft))):=by
 have m:=aT hF;have n:=aT s;have z:=aT t;have A:=aT v;clear hF s t v;go_enter func208,ntmps208
 go_upto_region 2 with(go_at_call 166;refine m.out.mono ?_;rintro e a ⟨rfl,l⟩)
 have o:aL a (a.alloc (aA (aM f) 134)):=bf;have p:(a.alloc (aA (aM f) 134)).heap[a.heap.size]? =aa (aA (aM f) 134 (0,0)):=cw a _;have b:=aT (l.trans (o.mono l.size));clear o l m;show GC _ _ _ _ (a.alloc (aA (aM f) 134));generalize a.alloc (aA (aM f) 134)=y at*;have C:uN xb a.heap.size mx f y:=⟨bR b.out A.out,cu.of p⟩;clear p;refine eD (S:=uN xb a.heap.size mx f) C λr=>?_;cases fr with
 |false=>
  refine tk 0 ?_;refine tk 1 ?_;refine bL 2 ?_;refine bL 3 ?_;refine bL 4 ?_;refine tk 5 ?_;refine tk 6 ?_;refine bL 7 ?_;refine bL 8 ?_;refine bL 9 ?_;refine bL 10 ?_;refine bL 11 ?_;refine bL 12 ?_;refine bL 13 ?_;refine bL 14 ?_;refine tk 15 ?_;refine tk 16 ?_;refine dc ?_;go_wp2;go_ret;exact⟨rfl,b.out.trans (iX (Below.refl _ _) _)⟩
 |true=>
  cases h with
  |false=>
   refine tk 0 ?_;refine tk 1 ?_;refine tk 2 ?_;refine tk 3 ?_;refine rH 4 λK d=>?_;go_simp;go_at_call 168;refine(n.out _ (b.out.trans (iX (Below.refl _ _) _))).mono ?_;rintro e x ⟨rfl,g⟩;have k:=uN.old r g;refine d.out _ _ k (λq=>?_);clear d K;refine tk 5 ?_;refine tk 6 ?_;refine bL 7 ?_;refine bL 8 ?_;refine bL 9 ?_;refine bL 10 ?_;refine bL 11 ?_;refine bL 12 ?_;refine bL 13 ?_;refine bL 14 ?_;refine tk 15 ?_;refine tk 16 ?_;refine dc ?_;go_wp2;go_ret;exact⟨rfl,b.out.trans (DQ g b.out.size)⟩
  |true=>
   refine tk 0 ?_;refine tk 1 ?_;refine tk 2 ?_;refine tk 3 ?_;refine rH 4 λK d=>?_;go_simp;go_at_call 168;refine(n.out _ (b.out.trans (iX (Below.refl _ _) _))).mono ?_;rintro e x ⟨rfl,g⟩;have k:=uN.old r g;refine d.out _ _ k (λq=>?_);clear d K;refine tk 5 ?_;refine tk 6 ?_;refine tk 7 ?_;refine tk 8 ?_;refine tk 9 ?_;refine tk 10 ?_;refine tk 11 ?_;refine tk 12 ?_;refine tk 13 ?_;refine rH 14 λK d=>?_;go_simp;go_at_call 243;have i:aL w x:=b.out.trans (DQ g b.out.size);refine(z.out rfl rfl _ i).mono ?_;rintro e E ⟨rfl,u⟩;have B:=uN.old q u;refine d.out _ _ B (λD=>?_);clear d K;refine tk 15 ?_;refine tk 16 ?_;refine dc ?_;go_wp2;go_ret;exact⟨aC,i.trans (u.mono i.size)⟩
end
section
open Go.Conc Go.RowKit
open Go.Proofs.Tryz
structure Jb where
 s:Nat
 rs:aB Rq
 ft:Ft
 due:Int
 order:Nat
abbrev Jb.key(b:Jb):Key:=(b.due,(b.order:Int))
structure En where
 no:Int
 ck:Int
 kd:Int
 fl:Int
 of:Int
 ln:Int
 er:Int
abbrev mB(e:En):aB aE:=[an e.no,an e.ck,an e.kd,an e.fl,an e.of,an e.ln,an e.er]
structure Fx where
 g:Cf
 K:aB (aY Ck)
 cH:Int
 acc:Int
 bU:Nat
 clock:Int
 stop:Bool
 aI:Nat
 opn:Bool
 bD:aB Ft
 fl:aB Jb
 B:aK UInt8
 D:aK UInt8
 C:aB (Nat×aB UInt8)
 log:aB En
structure Lc where
 c:Nat
 rb:Nat
 mb:Nat
 ch:Nat
 q:aE
 v:aE
def Lc.gW(l:Lc)(P:Nat->Prop):Prop:=P l.c/\P l.rb/\P l.mb/\P l.ch/\(∀b,l.q.ownBlock=aa b->P b)/\∀b,l.v.ownBlock=aa b->P b
def Lc.gW.mono{l:Lc}{P Q:Nat->Prop}(h:l.gW P)(hm:∀b,P b->Q b):l.gW Q:=⟨hm _ h.1,hm _ h.2.1,hm _ h.2.2.1,hm _ h.2.2.2.1,λb a=>hm _ (h.2.2.2.2.1 b a),λb a=>hm _ (h.2.2.2.2.2 b a)⟩
structure Lj where
 j:Nat
 rv:aE
def Lj.gW(l:Lj)(P:Nat->Prop):Prop:=P l.j/\∀b,l.rv.ownBlock=aa b->P b
structure dG where
 sb:Nat
 cs:aB (aY Lc)
 js:aB Lj
 hv:aE
 hf:Nat->Nat
 key:Nat->Key
 fv:aE
 lv:aE
 d:Nat
 bb:Nat
 db:Nat
 cv:aE
 own:Nat->Nat
abbrev jN(f:Fx)(L:dG):aK aE:=
 #[an f.g.sz,an f.g.cl,an f.g.qu,an f.g.mx,an f.g.qn,an f.g.rt,an f.g.bu,an f.g.wk,an f.g.ou,.slice (aa (aj L.sb 0)) f.K.length f.K.length,an f.cH,an f.acc,an f.bU,an f.clock,.bool f.stop,an f.aI,.bool f.opn,L.fv,L.hv,aR L.d,L.lv]
abbrev Lc.At(l:Lc)(W:az)(g:Cf)(k:Ck):Prop:=cg W l.c l.rb l.mb l.ch l.q l.v g k
def Lc.At.eC{l:Lc}{W:az}{g:Cf}{k:Ck}(h:l.At W g k):l.gW (·<W.heap.size):=
 ⟨h.p.eC.1,(cg.eC h).1,(cg.eC h).2,h.p.eC.2.1,h.p.eC.2.2.1,h.p.eC.2.2.2⟩
def oJ(W:az)(own:Nat->Nat)(g:Cf)(s:Nat):aY Ck->aY Lc->Prop
 |none,ay=>True
 |some k,aa l=>l.At W g k/\l.gW λb=>own b=7+2*s
 |_,_=>False
structure wO(W:az)(own:Nat->Nat)(g:Cf)(K:aB (aY Ck))(cs:aB (aY Lc)):Prop where
 len:cs.length=K.length
 at_:∀(s:Nat) a b,K[s]? =aa a->cs[s]? =aa b->oJ W own g s a b
def eV(W:az)(own:Nat->Nat)(cs:aB (aY Lc))(b:Jb)(l:Lj):Prop:=
 ∃lc,cs[b.s]? =aa (aa lc)/\eG W l.j lc.c l.rv b.rs b.ft b.due b.order/\l.gW λx=>own x=8+2*b.order
structure AU(W:az)(own:Nat->Nat)(cs:aB (aY Lc))(fl:aB Jb)(js:aB Lj):Prop where
 len:js.length=fl.length
 at_:∀(i:Nat) b l,fl[i]? =aa b->js[i]? =aa l->eV W own cs b l
structure Ir(W:az)(own:Nat->Nat)(xb:Nat)(hv:aE)(hf:Nat->Nat)(key:Nat->Key)(fl:aB Jb)(js:aB Lj):Prop where
 row:W.ownsRow 0 130 1 hv fl.length (jC fl.length hf)
 own:∀b,hv.ownBlock=aa b->own b=3
 bg:∀x,x<fl.length->∃(i:Nat) (l:Lj),js[i]? =aa l/\hf x=l.j
 all:∀(i:Nat) (l:Lj),js[i]? =aa l->∃x,x<fl.length/\hf x=l.j
 one:∀x y,x<fl.length->y<fl.length->hf x=hf y->x=y
 keys:∀(i:Nat) b l,fl[i]? =aa b->js[i]? =aa l->key l.j=b.key
 heap:Hp fl.length λx=>key (hf x)
structure aJ(W:az)(f:Fx)(xb:Nat)(L:dG):Prop where
 box:W.heap[xb]? =aa (aA (jN f L) 112 (0,0))
 ey:L.own xb=1
 dO:wU W L.sb (L.cs.map λl=>l.map Lc.c)
 iF:L.own L.sb=2
 cs:wO W L.own f.g f.K L.cs
 js:AU W L.own L.cs f.fl L.js
 fl:Ir W L.own xb L.hv L.hf L.key f.fl L.js
 bD:W.ownsRow 0 188 3 L.fv f.bD.length (f.bD.flatMap λt=>(dL t).toList)
 jw:∀b,L.fv.ownBlock=aa b->L.own b=4
 log:W.ownsRow 0 96 7 L.lv f.log.length (f.log.flatMap mB)
 lR:∀b,L.lv.ownBlock=aa b->L.own b=5
 eW:dz W L.d L.bb L.db L.cv f.B.size f.B f.D f.C
 je:L.own L.d=6/\L.own L.bb=6/\L.own L.db=6/\∀b,L.cv.ownBlock=aa b->L.own b=6
def gu(own:Nat->Nat)(n t:Nat):Nat->Nat:=λb=>if b<n then own b else t
def gM{own n t b}(h:b<n):gu own n t b=own b:=by simp[gu,h]
def tX{own n t b}(h:n<=b):gu own n t b=t:=by simp[gu];omega
structure fq(W W':az)(own cj:Nat->Nat)(T:Nat->Prop):Prop where
 keep:∀b,b<W.heap.size->¬T (own b)->W'.heap[b]? =W.heap[b]?
 own:∀b,b<W.heap.size->cj b=own b
section
variable {W W':az} {own cj:Nat->Nat} {T:Nat->Prop}
def nu{S k n v xs}(h:W.ownsRow 0 S k v n xs):∀b,v.ownBlock=aa b->b<W.heap.size:=λb a=>(h.lt b a).2
def fq.row{S k n o v xs}(a:fq W W' own cj T)(h:W.ownsRow 0 S k v n xs)(d:∀b,v.ownBlock=aa b->own b=o)(e:¬T o):W'.ownsRow 0 S k v n xs/\∀b,v.ownBlock=aa b->cj b=o:=
 ⟨gD h λb c=>a.keep b (nu h b c) (by grind),λb c=>(a.own b (nu h b c)).trans (d b c)⟩
def fq.blk{b o x}(a:fq W W' own cj T)(h:W.heap[b]? =aa x)(d:own b=o)(e:¬T o):W'.heap[b]? =aa x/\cj b=o:=
 have c:=(bp.1 h).1
 ⟨(a.keep b c (by grind)).trans h,(a.own b c).trans d⟩
def fq.aI{g:Cf}{s:Nat}{k:aY Ck}{l:aY Lc}(a:fq W W' own cj T)(h:oJ W own g s k l)(n:¬T (7+2*s)):oJ W' cj g s k l:=by cases k<;>cases l<;>simp only[oJ]at h⊢;rename_i k l;obtain⟨i,d⟩:=h;have e:=i.eC;have j:l.gW λb=>own b=7+2*s/\b<W.heap.size:=⟨⟨d.1,e.1⟩,⟨d.2.1,e.2.1⟩,⟨d.2.2.1,e.2.2.1⟩,⟨d.2.2.2.1,e.2.2.2.1⟩,λb c=>⟨d.2.2.2.2.1 b c,e.2.2.2.2.1 b c⟩,λb c=>⟨d.2.2.2.2.2 b c,e.2.2.2.2.2 b c⟩⟩;refine⟨cg.keep i (O:=λb=>own b=7+2*s) d λb c m=>a.keep b m (by grind),j.mono λb c=>(a.own b c.2).trans c.1⟩
def eV.aside{cs cs' b l}(a:fq W W' own cj T)(h:eV W own cs b l)(hc:∀lc,cs[b.s]? =aa (aa lc)->∃i,cs'[b.s]? =aa (aa i)/\i.c=lc.c)(k:¬T (8+2*b.order)):eV W' cj cs' b l:=by obtain⟨lc,m,e,g⟩:=h;obtain⟨i,n,o⟩:=hc lc m;have j:=(bp.1 e.box).1;have hr:=nu e.row;refine⟨i,n,?_,(a.own _ j).trans g.1,λx d=>(a.own x (hr x d)).trans (g.2 x d)⟩;rw[o];exact⟨(a.keep _ j (by rw[g.1];exact k)).trans e.box,gD e.row λx d=>a.keep x (hr x d) (by rw[g.2 x d];exact k)⟩
def fq.eW{d bb db n cv B D C}(a:fq W W' own cj T)(h:dz W d bb db cv n B D C)(c:own d=6/\own bb=6/\own db=6/\∀b,cv.ownBlock=aa b->own b=6)(e:¬T 6):dz W' d bb db cv n B D C/\cj d=6/\cj bb=6/\cj db=6/\∀b,cv.ownBlock=aa b->cj b=6:=by have b1:=a.blk h.box c.1 e;have g:=a.blk h.bytes c.2.1 e;have i:=a.blk h.fM c.2.2.1 e;have j:=a.row h.cache c.2.2.2 e;exact⟨⟨b1.1,g.1,i.1,j.1,h.sizes,h.fits,h.apart,h.small⟩,b1.2,g.2,i.2,j.2⟩
def fq.cs{g K cs}(a:fq W W' own cj T)(h:wO W own g K cs)(b:∀s,¬T (7+2*s)):wO W' cj g K cs:=⟨h.len,λs x y c d=>a.aI (h.at_ s x y c d) (b s)⟩
def fq.Ej{g K cs s k l}(a:fq W W' own cj T)(h:wO W own g K cs)(i:∀x,x≠s->¬T (7+2*x))(d:oJ W' cj g s k l):wO W' cj g (K.set s k) (cs.set s l):=by
 refine⟨by simp[h.len],λx y z b c=>?_⟩
 by_cases e:x=s
 ·subst e;have j:x<K.length:=by grind
  rw[rD j]at b;rw[rD (by grind)]at c;cases b;cases c;exact d
 ·rw[CN (dF e)]at b c;exact a.aI (h.at_ x y z b c) (i x e)
def fq.js{cs cs' fl js}(a:fq W W' own cj T)(h:AU W own cs fl js)(hc:∀(s:Nat) lc,cs[s]? =aa (aa lc)->∃d,cs'[s]? =aa (aa d)/\d.c=lc.c)(j:∀n,¬T (8+2*n)):AU W' cj cs' fl js:=
 ⟨h.len,λi b l e g=>(h.at_ i b l e g).aside a (hc b.s) (j _)⟩
def fq.oT{xb hv hf key fl js}(a:fq W W' own cj T)(h:Ir W own xb hv hf key fl js)(c:¬T 3):Ir W' cj xb hv hf key fl js:=
 have b:=a.row h.row h.own c
 ⟨b.1,b.2,h.bg,h.all,h.one,h.keys,h.heap⟩
def nU{cs:aB (aY Lc)}:∀(s:Nat) lc,cs[s]? =aa (aa lc)->∃a,cs[s]? =aa (aa a)/\a.c=lc.c:=λs lc h=>⟨lc,h,rfl⟩
def Lh{cs:aB (aY Lc)}{t:Nat}{l l':Lc}(b:cs[t]? =aa (aa l))(hc:l'.c=l.c):∀(s:Nat) lc,cs[s]? =aa (aa lc)->∃a,(cs.set t (aa l'))[s]? =aa (aa a)/\a.c=lc.c:=λs lc h=>by grind
def Rl{cs:aB (aY Lc)}{t:Nat}{l l':Lc}(a:cs[t]? =aa (aa l))(hc:l'.c=l.c):(cs.set t (aa l')).map (λl=>l.map Lc.c)=cs.map λl=>l.map Lc.c:=by
 refine wB λs=>?_;rw[iT,iT]
 by_cases e:s=t
 ·subst e;rw[rD (eL.1 a).1,a];simp[hc]
 ·rw[CN (dF e)]
end
section
variable {W W':az} {f:Fx} {xb:Nat} {L:dG}
def aJ.old(h:aJ W f xb L)(j:∀b,b<W.heap.size->W'.heap[b]? =W.heap[b]?):aJ W' f xb L:=by have a:fq W W' L.own L.own λ_=>False:=⟨λb i _=>j b i,λb _=>rfl⟩;have n:∀{p:Prop},¬(False/\p):=λh=>h.1;have b1:=a.blk h.box h.ey id;have c:=a.blk h.dO h.iF id;have d:=a.row h.bD h.jw id;have e:=a.row h.log h.lR id;have g:=a.eW h.eW h.je id;exact⟨b1.1,b1.2,c.1,c.2,a.cs h.cs (λ_=>id),a.js h.js nU (λ_=>id),a.oT h.fl id,d.1,d.2,e.1,e.2,g.1,g.2⟩
def aJ.below(h:aJ W f xb L)(a:aL W W'):aJ W' f xb L:=h.old λb c=>a.block b c
def aJ.drewN(h:aJ W f xb L)(n):aJ (W.drewN n) f xb L:=h.old λb a=>rfl
def aJ.drew(h:aJ W f xb L):aJ W.drew f xb L:=h.old λb a=>rfl
def aJ.client(h:aJ W f xb L){s:Nat}{k k':Ck}{l l':Lc}{cj:Nat->Nat}(q:L.cs[s]? =aa (aa l))(hc:l'.c=l.c)(y:f.K[s]? =aa (aa k)){X:Nat->Prop}(w:aV X W W')(v:∀b,b<W.heap.size->X b->L.own b=7+2*s)(hr:l'.At W' f.g k')(u:∀b,b<W.heap.size->cj b=L.own b)(d:l'.gW λb=>cj b=7+2*s):
  aJ W' {f with K:=f.K.set s (aa k')} xb {L with cs:=L.cs.set s (aa l'),own:=cj}:=by
 have a:fq W W' L.own cj λt=>t=7+2*s:=⟨λb p d=>w.block b p λr=>d (v b p r),u⟩;have b1:=a.blk h.box h.ey ak;have i:=a.blk h.dO h.iF ak;have j:=a.row h.bD h.jw ak;have m:=a.row h.log h.lR ak;have o:=a.eW h.eW h.je ak;refine⟨?_,b1.2,?_,i.2,a.Ej h.cs (λx r=>by omega) ⟨hr,d⟩,a.js h.js (Lh q hc) (λn=>by omega),a.oT h.fl ak,j.1,j.2,m.1,m.2,o.1,o.2⟩
 ·have e:=b1.1;simpa[jN]using e
 ·have e:=i.1;show wU W' L.sb ((L.cs.set s (aa l')).map λl=>l.map Lc.c);rw[Rl q hc];exact e
def aJ.put(h:aJ W f xb L)(i u f')(d:(jN f L).setIfInBounds i u=jN f' L)(o:f'.g=f.g)(p:f'.K=f.K)(n:f'.fl=f.fl)(q:f'.bD=f.bD)(r:f'.log=f.log)(c:f'.B=f.B/\f'.D=f.D/\f'.C=f.C):aJ (W.setCell (aj xb i) u) f' xb L:=by
 have a:fq W (W.setCell (aj xb i) u) L.own L.own λt=>t=1:=⟨λb d v=>bH (λe=>v (by rw[e];exact h.ey)),λb d=>rfl⟩;have j:=a.blk h.dO h.iF ak;have k:=a.row h.bD h.jw ak;have l:=a.row h.log h.lR ak;have m:=a.eW h.eW h.je ak;refine⟨?_,h.ey,j.1,j.2,?_,?_,?_,?_,k.2,?_,l.2,?_,m.2⟩
 ·rw[<-d];exact cz h.box i u
 ·rw[o,p];exact a.cs h.cs (λs=>by omega)
 ·rw[n];exact a.js h.js nU (λs=>by omega)
 ·rw[n];exact a.oT h.fl ak
 ·rw[q];exact k.1
 ·rw[r];exact l.1
 ·rw[c.1,c.2.1,c.2.2];exact m.1
end
end
section
attribute [local go_sem ↓] Go.wp_at_zero Go.wp_at_succ
attribute [local go_sem] bP bF
open Go.Conc Go.RowKit
open Go.Proofs.Tryz
section
variable {W W1:az} {f:Fx} {xb:Nat} {L:dG} {X:Nat->Prop}
def aV.asd{t cj}(g:aV X W W1)(d:∀b,b<W.heap.size->X b->L.own b=t)(c:∀b,b<W.heap.size->cj b=L.own b):fq W W1 L.own cj λx=>x=t:=⟨λb a e=>g.block b a λh=>e (d b a h),c⟩
def aJ.Sz(h:aJ W f xb L){i t v' cj}(q:aV X W W1)(l:∀b,b<W.heap.size->X b->L.own b=t)(c:t≠1){S k n xs}(hr:W1.ownsRow 0 S k v' n xs)(d:∀b,b<W.heap.size->cj b=L.own b)(j:∀b,v'.ownBlock=aa b->cj b=t):
  fq W (W1.setCell (aj xb i) v') L.own cj (λx=>x=t\/x=1)/\(W1.setCell (aj xb i) v').ownsRow 0 S k v' n xs/\(W1.setCell (aj xb i) v').heap[xb]? =aa (aA ((jN f L).setIfInBounds i v') 112 (0,0)):=by
 have a:=q.asd l d;have m:=a.blk h.box h.ey (dF c);have r:xb<W.heap.size:=(bp.1 h.box).1;refine⟨?_,gD hr λb o=>bH λe=>?_,cz m.1 i v'⟩
 ·refine⟨λb p g=>?_,a.own⟩;rw[bH λe=>g (aD (by grind))];exact a.keep b p λe=>g (aF e)
 ·have:=j b o;rw[e,d xb r,h.ey]at this;exact c this.symm
def aJ.eJ(h:aJ W f xb L){c l cj}(m:aV X W W1)(k:∀b,b<W.heap.size->X b->L.own b=4)(hr:W1.ownsRow 0 188 3 c l.length (l.flatMap λt=>(dL t).toList))(j:∀b,b<W.heap.size->cj b=L.own b)(i:∀b,c.ownBlock=aa b->cj b=4):
  aJ (W1.setCell (aj xb 17) c) {f with bD:=l} xb {L with fv:=c,own:=cj}:=by
 obtain⟨a,n,o⟩:=h.Sz m k ak hr j i;have d:=a.blk h.dO h.iF ak;have e:=a.row h.log h.lR ak;have g:=a.eW h.eW h.je ak;exact⟨o,(j xb ((bp.1 h.box).1)).trans h.ey,d.1,d.2,a.cs h.cs (λs=>by omega),a.js h.js nU (λs=>by omega),a.oT h.fl ak,n,i,e.1,e.2,g.1,g.2⟩
def aJ.logs(h:aJ W f xb L){c l cj}(m:aV X W W1)(k:∀b,b<W.heap.size->X b->L.own b=5)(hr:W1.ownsRow 0 96 7 c l.length (l.flatMap mB))(j:∀b,b<W.heap.size->cj b=L.own b)(i:∀b,c.ownBlock=aa b->cj b=5):
  aJ (W1.setCell (aj xb 20) c) {f with log:=l} xb {L with lv:=c,own:=cj}:=by
 obtain⟨a,n,o⟩:=h.Sz m k ak hr j i;have d:=a.blk h.dO h.iF ak;have e:=a.row h.bD h.jw ak;have g:=a.eW h.eW h.je ak;exact⟨o,(j xb ((bp.1 h.box).1)).trans h.ey,d.1,d.2,a.cs h.cs (λs=>by omega),a.js h.js nU (λs=>by omega),a.oT h.fl ak,e.1,e.2,n,i,g.1,g.2⟩
def aJ.Yf(h:aJ W f xb L){cv B D C cj}(o:aV X W W1)(m:∀b,b<W.heap.size->X b->L.own b=6)(n:dz W1 L.d L.bb L.db cv B.size B D C)(l:∀b,b<W.heap.size->cj b=L.own b)(k:∀b,cv.ownBlock=aa b->cj b=6):
  aJ W1 {f with B:=B,D:=D,C:=C} xb {L with cv:=cv,own:=cj}:=by
 have a:=o.asd m l;have b1:=a.blk h.box h.ey ak;have c:=a.blk h.dO h.iF ak;have e:=a.row h.bD h.jw ak;have g:=a.row h.log h.lR ak;have i:=a.own _ (bp.1 h.eW.bytes).1;have j:=a.own _ (bp.1 h.eW.fM).1;exact⟨b1.1,b1.2,c.1,c.2,a.cs h.cs (λs=>by omega),a.js h.js nU (λs=>by omega),a.oT h.fl ak,e.1,e.2,g.1,g.2,n,(a.own _ (bp.1 h.eW.box).1).trans h.je.1,i.trans h.je.2.1,j.trans h.je.2.2.1,k⟩
def aJ.owns(h:aJ W f xb L)(cj)(i:∀b,b<W.heap.size->cj b=L.own b):aJ W f xb {L with own:=cj}:=by have a:fq W W L.own cj λ_=>False:=⟨λb j _=>rfl,i⟩;have b1:=a.blk h.box h.ey id;have c:=a.blk h.dO h.iF id;have d:=a.row h.bD h.jw id;have e:=a.row h.log h.lR id;have g:=a.eW h.eW h.je id;exact⟨b1.1,b1.2,c.1,c.2,a.cs h.cs (λ_=>id),a.js h.js nU (λ_=>id),a.oT h.fl id,d.1,d.2,e.1,e.2,g.1,g.2⟩
def aJ.vl(h:aJ W f xb L)(j:∀b,b<W.heap.size->L.own b≠0->W1.heap[b]? =W.heap[b]?):aJ W1 f xb L:=by have a:fq W W1 L.own L.own λt=>t=0:=⟨λb i k=>j b i k,λb _=>rfl⟩;have b1:=a.blk h.box h.ey ak;have c:=a.blk h.dO h.iF ak;have d:=a.row h.bD h.jw ak;have e:=a.row h.log h.lR ak;have g:=a.eW h.eW h.je ak;exact⟨b1.1,b1.2,c.1,c.2,a.cs h.cs (λ_=>by omega),a.js h.js nU (λ_=>by omega),a.oT h.fl ak,d.1,d.2,e.1,e.2,g.1,g.2⟩
end
def Fx.eJ(f:Fx):Ft:=match f.bD with
 |[]=>⟨1,av,0⟩
 |t::_=>t
def Zv(t:Ft):(dL t).toList.length=3:=rfl
def Zw(l:aB Ft):∀u∈l.flatMap (λt=>(dL t).toList),u.oneCell'=aq:=λu a=>by obtain⟨t,_,h⟩:=CS.1 a;simp[dL]at h;rcases h with rfl|rfl|rfl<;>rfl
def KR{w:az}{T k n:Nat}{v:aE}{xs:aB aE}(h:w.ownsRow 0 T k v n xs):∃a b,v=.slice a n b/\n<=b/\b<=cY:=by
 rcases h.2 with⟨c,d⟩|⟨g,b,i,c,_,_,e,f,_⟩
 ·exact⟨ay,0,by rw[c,d],ak,by unfold cY;omega⟩
 ·exact⟨_,b,c,e,f⟩
def KQ{w:az}{T k n:Nat}{v:aE}{xs:aB aE}(h:w.ownsRow 0 T k v n xs)(h0:0<n):∃g b,v=.slice (aa (aj g 0)) n b/\∀j u,xs[j]? =aa u->w.cell? (aj g j)=aa u:=by
 rcases h.2 with⟨c,d⟩|⟨g,b,f,c,_,d,_,_,i,e⟩
 ·omega
 ·refine⟨g,b,c,λj u a=>aG d ?_⟩;rw[<-e,mK]at a;split at a
  ·rw[lC]at a;exact a
  ·cases a
def Q7(xb f L w)(h:aJ w f xb L)(hf:f.bD=[]):
  bO 211 #[jp xb] w (.agg (dL f.eJ)):=by
 obtain⟨a,b,e,_⟩:=KR h.bD
 have c:w.cell? (aj xb 17)=aa (.slice a 0 b):=by have:=aG h.box (i:=17) (v:=L.fv) rfl;rw[this,e,hf];rfl
 have d:xb<w.heap.size:=(bp.1 h.box).1;have d17:(w.alloc (aA #[an 0,.bool av,an 0] 188)).cell? (aj xb 17)=aa (.slice a 0 b):=bR (bf) c;have hF:f.eJ=⟨1,av,0⟩:=by simp[Fx.eJ,hf]
 rw[hF];clear h e hF hf;go_enter func211,ntmps211;go_wp2;refine gO (v:=.agg (dL ⟨1,av,0⟩)) (by simp[results,results211,go_sem]) rfl ⟨rfl,?_⟩;exact bf
def Q8(xb:Nat)(f:Fx)(L:dG)(t:Ft)(l:aB Ft)(w:az)(h:aJ w f xb L)(hf:f.bD=t::l)(hm:l.length<=1048576):
  Calls prog 211 #[jp xb] w λe Y=>e=aN (.agg (dL f.eJ))/\∃v,aJ Y {f with bD:=l} xb {L with fv:=v,own:=gu L.own w.heap.size 0}/\v.ownBlock=L.fv.ownBlock/\aV (λb=>b=xb\/aa b=L.fv.ownBlock) w Y:=by
 have p:=h.bD;rw[hf]at p;obtain⟨g,q,e,A⟩:=KQ p aC
 have M:w.cell? (aj xb 17)=aa (.slice (aa (aj g 0)) (l.length+1) q):=by have:=aG h.box (i:=17) (v:=L.fv) rfl;rw[this,e];rfl
 have g0:w.cell? (aj g 0)=aa (an t.delay):=A 0 _ rfl;have g1:w.cell? (aj g 1)=aa (.bool t.dH):=A 1 _ rfl;have g2:w.cell? (aj g 2)=aa (an t.part):=A 2 _ rfl;have P:xb<w.heap.size:=(bp.1 h.box).1;have hg:g<w.heap.size:=nu p g (by rw[e];rfl);have m:aL w (w.alloc (aA #[an 0,.bool av,an 0] 188)):=bf;have d17:=bR m M;have d0:=bR m g0;have d1:=bR m g1;have d2:=bR m g2;have K:aL w ((w.alloc (aA #[an 0,.bool av,an 0] 188)).alloc (aA (dL t) 188)):=m.alloc m.size _;have W:((w.alloc (aA #[an 0,.bool av,an 0] 188)).alloc (aA (dL t) 188)).heap[w.heap.size]? =aa (aA #[an 0,.bool av,an 0] 188 (0,0)):=Ca w _ _;have X:((w.alloc (aA #[an 0,.bool av,an 0] 188)).alloc (aA (dL t) 188)).heap[w.heap.size+1]? =aa (aA (dL t) 188 (0,0)):=BZ w _ _;have C:Hid (aJ w f xb L/\L.fv=.slice (aa (aj g 0)) (l.length+1) q/\f.eJ=t/\g<w.heap.size/\xb<w.heap.size):=⟨h,by rw[e];rfl,by simp[Fx.eJ,hf],hg,P⟩;have J:Hid (w.ownsRow 0 188 3 (.slice (aa (aj g 0)) (l.length+1) q) (l.length+1) ((dL t).toList++l.flatMap λt=>(dL t).toList)):=by rw[e]at p;exact p
 have aO:g≠xb:=λe'=>by have h1:=h.jw g (by rw[e];rfl);rw[e',h.ey]at h1;omega
 have n:=aT K;have I:Hid (((w.alloc (aA #[an 0,.bool av,an 0] 188)).alloc (aA (dL t) 188)).heap[w.heap.size]? =aa (aA #[an 0,.bool av,an 0] 188 (0,0))/\((w.alloc (aA #[an 0,.bool av,an 0] 188)).alloc (aA (dL t) 188)).heap[w.heap.size+1]? =aa (aA (dL t) 188 (0,0))):=⟨W,X⟩;have G:f.eJ=t:=C.out.2.2.1;rw[G];clear h p e A hf G W X K m;go_enter func211,ntmps211
 go_upto_region 4 with fail
 clear d17 d0 d1 d2;show GC _ _ _ _ ((w.alloc (aA #[an 0,.bool av,an 0] 188)).alloc (aA (dL t) 188));generalize (w.alloc (aA #[an 0,.bool av,an 0] 188)).alloc (aA (dL t) 188)=B at*;have d17:=bR n.out M
 have Z:Hid (Calls prog 244 #[.slice (aa (aj g 0)) (l.length+1) q,an 0,an 1] B λe c=>∃d,(∃j k,d=.slice j l.length k)/\e=aN d/\aJ (c.setCell (aj xb 17) d) {f with bD:=l} xb {L with fv:=d,own:=gu L.own w.heap.size 0}/\d.ownBlock=L.fv.ownBlock/\aV (λb=>b=xb\/aa b=L.fv.ownBlock) w c/\c.heap[xb]? =B.heap[xb]? /\c.heap[w.heap.size]? =aa (aA #[an 0,.bool av,an 0] 188 (0,0))/\c.heap[w.heap.size+1]? =aa (aA (dL t) 188 (0,0))):=by
  obtain⟨u,hv,_,_,_⟩:=C.out;refine(XX B (vN J.out n.out) (Zv t) (Zw l)).mono ?_;rintro e c ⟨d,rfl,hr,x,ho⟩;have O:d.ownBlock=L.fv.ownBlock:=by rw[ho,hv]
  have hn:∀b,d.ownBlock=aa b->gu L.own w.heap.size 0 b=4:=λb a=>by
   have s:L.fv.ownBlock=aa b:=by rw[<-O];exact a
   rw[gM (nu u.bD b s)];exact u.jw b s
  have r:∀b,aa b=(ff (aa (aj g 0)) (l.length+1) q).ownBlock->b=g:=λb a=>by simpa[pN]using a
  obtain⟨j,k,E,_⟩:=KR hr;refine⟨d,⟨j,k,E⟩,rfl,((u.owns (gu L.own w.heap.size 0) λb a=>gM a).below n.out).eJ x (λb _ a=>by have s:L.fv.ownBlock=aa b:=(by rw[hv];exact a.symm);exact(gM (nu u.bD b s)).trans (u.jw b s)) hr (λ_ _=>rfl) hn,O,(aV.below n.out).trans (x.mono λb _ a=>aD (by rw[hv];exact a)),x.block _ (dy P n.out.size) (λa=>aO (r _ a).symm),vX x I.out.1 (λa=>by have:=r _ a;omega),vX x I.out.2 (λa=>by have:=r _ a;omega)⟩
 clear J;have bg:=aT (bV n.out C.out.1.box)
 go_upto_region 5 with(go_at_call 244;refine Z.out.mono ?_;rintro e c ⟨d,⟨j,k,E⟩,rfl,Q,R,S,T,U,V⟩;have F:=T.trans bg.out;have bh:=aG F (i:=17) (v:=L.fv) rfl;have xf:=bz F 17;have o:Hid (aJ (c.setCell (aj xb 17) d) {f with bD:=l} xb {L with fv:=d,own:=gu L.own w.heap.size 0}/\d.ownBlock=L.fv.ownBlock/\aV (λb=>b=xb\/aa b=L.fv.ownBlock) w c/\c.heap[w.heap.size]? =aa (aA #[an 0,.bool av,an 0] 188 (0,0))/\c.heap[w.heap.size+1]? =aa (aA (dL t) 188 (0,0))):=⟨Q,R,S,U,V⟩;clear Q R S T U V F;subst E)
 have y:(c.setCell (aj xb 17) (.slice j l.length k)).heap[w.heap.size]? =aa (aA #[an 0,.bool av,an 0] 188 (0,0)):=(bH ak).trans o.out.2.2.2.1;have m1:(c.setCell (aj xb 17) (.slice j l.length k)).heap[w.heap.size+1]? =aa (aA (dL t) 188 (0,0)):=(bH ak).trans o.out.2.2.2.2;have D:Hid (aV (λb=>b=xb\/aa b=L.fv.ownBlock) w (c.setCell (aj xb 17) (.slice j l.length k))):=o.out.2.2.1.set (aF rfl) _;have H:Hid (aJ (c.setCell (aj xb 17) (.slice j l.length k)) {f with bD:=l} xb {L with fv:=.slice j l.length k,own:=gu L.own w.heap.size 0}/\(ff j l.length k).ownBlock=L.fv.ownBlock):=⟨o.out.1,o.out.2.1⟩;clear o bh xf;generalize c.setCell (aj xb 17) (.slice j l.length k)=z at*;have z0:=aG y (i:=0) rfl;have z1:=aG y (i:=1) rfl;have z2:=aG y (i:=2) rfl;have y0:=aG m1 (i:=0) rfl;have y1:=aG m1 (i:=1) rfl;have y2:=aG m1 (i:=2) rfl;have fz:=λi=>bz y i;clear y m1;go_wp2;refine gO (v:=.agg (dL t)) (by simp[results,results211,go_sem,z0,z1,z2]) rfl ⟨rfl,?_⟩;have N:∀b,b≠w.heap.size->(((z.setCell (aj w.heap.size 0) (an t.delay)).setCell (aj w.heap.size 1) (.bool t.dH)).setCell (aj w.heap.size 2) (an t.part)).heap[b]? =z.heap[b]? :=λb a=>(bH a).trans ((bH a).trans (bH a));have hs:(((z.setCell (aj w.heap.size 0) (an t.delay)).setCell (aj w.heap.size 1) (.bool t.dH)).setCell (aj w.heap.size 2) (an t.part)).heap.size=z.heap.size:=aC;refine⟨_,H.out.1.vl λb _ a=>N b λe=>a ?_,H.out.2,⟨D.out.os,by rw[hs];exact D.out.size,λb a r=>(N b ak).trans (D.out.block b a r)⟩⟩;show gu _ _ _ _=0;rw[e];exact tX (bC _)
end
section
open Go.Conc Go.RowKit
open Go.Proofs.Tryz
def Fx.held(f:Fx)(r:Rq):Bool:=f.fl.any (λb=>b.rs.any (r.touch ·))||f.K.any λo=>match o with
 |none=>av
 |some k=>k.fc f.g&&(decide (k.fst.no<r.no)&&k.fst.touch r)
def Fx.free(f:Fx)(k:Ck):Bool:=k.fc f.g&&!f.held k.fst
structure Ck.kE(k:Ck):Prop where
 out:k.out.size<=4194304
 prom:0<=k.prom/\k.prom<=4194304
 q:∀r∈k.q,r.Ok
structure Fx.kE(f:Fx):Prop where
 cl:∀k,aa k∈f.K->k.kE
 jb:∀b∈f.fl,(∀x∈b.rs,x.Ok)/\b.rs.length<=1048576
 dO:f.K.length<=65535
 jh:f.fl.length<=65535
 nj:∀(i j:Nat) (b c:Jb),f.fl[i]? =aa b->f.fl[j]? =aa c->b.order=c.order->i=j
def Fh{α:Type}(R:Nat->α->Prop)(d:α)(e:∀x a b,R x a->R x b->a=b):∃F:Nat->α,∀x a,R x a->F x=a:=by
 classical
 refine⟨λx=>if h:∃a,R x a then h.choose else d,λx a c=>?_⟩;have h:∃a,R x a:=⟨a,c⟩;simp only[h,qA];exact e x _ _ h.choose_spec c
section
variable {w W:az} {f:Fx} {xb:Nat} {L:dG}
def aJ.aI(h:aJ w f xb L){s}{l:Lc}(c:L.cs[s]? =aa (aa l)):∃k,f.K[s]? =aa (aa k)/\l.At w f.g k/\l.gW λb=>L.own b=7+2*s:=by
 have d:s<f.K.length:=by rw[<-h.cs.len];exact(eL.1 c).1
 have a:=ef d;have:=h.cs.at_ s _ _ a c;cases e:f.K[s]with
 |none=>rw[e]at this;exact absurd this (by simp[oJ])
 |some k=>rw[e]at this a;exact⟨k,a,this.1,this.2⟩
def aJ.sat(h:aJ w f xb L){s:Nat}{k:Ck}(c:f.K[s]? =aa (aa k)):∃l,L.cs[s]? =aa (aa l)/\l.At w f.g k/\l.gW λb=>L.own b=7+2*s:=by
 have d:s<L.cs.length:=by rw[h.cs.len];exact(eL.1 c).1
 have a:=ef d;have:=h.cs.at_ s _ _ c a;cases e:L.cs[s]with
 |none=>rw[e]at this;exact absurd this (by simp[oJ])
 |some l=>rw[e]at this a;exact⟨l,a,this.1,this.2⟩
def qj{cs:aB (aY Lc)}{c:Nat}:c∈cE (cs.map λl=>l.map Lc.c)↔∃(s:Nat) (l:Lc),cs[s]? =aa (aa l)/\l.c=c:=by
 simp only[cE,Hf,jH,id];constructor
 ·rintro⟨o,⟨l,a,rfl⟩,h⟩;cases l with
  |none=>simp at h
  |some l=>
   obtain⟨s,b⟩:=CK a;exact⟨s,l,b,by simpa using h⟩
 ·rintro⟨s,l,a,rfl⟩;exact⟨_,⟨aa l,gS a,rfl⟩,rfl⟩
def aJ.abn(h:aJ w f xb L)(hf:f.kE):qH w xb L.sb f.K.length (L.cs.map λl=>l.map Lc.c):=
 ⟨aG h.box rfl,by simp[h.cs.len],hf.dO,λj v a=>aG h.dO (sA a),⟨_,h.dO⟩⟩
def BL{g}{k:Ck}(a:k.kE)(hr:k.fc g=aq):k.fst.Ok:=by
 cases e:k.q with
 |nil=>simp[Ck.fc,e]at hr
 |cons r l=>simp only[Ck.fst,e];exact a.q r (by rw[e];simp)
def aJ.held(h:aJ w f xb L)(hf:f.kE)(r)(hr:r.Ok):bO 205 #[jp xb,.agg (aM r)] w (.bool (f.held r)):=by
 obtain⟨H,G⟩:=Fh (λx (k:Ck)=>∃(s:Nat) (l:Lc),f.K[s]? =aa (aa k)/\L.cs[s]? =aa (aa l)/\l.c=x) ⟨0,0,0,⟨#[]⟩,[],0,0,⟨#[]⟩,0,0,0,[]⟩ (by rintro x a b ⟨s,l,d,m,n⟩ ⟨R,l',v,I,J⟩;obtain⟨_,_,_,P⟩:=h.aI m;obtain⟨_,_,_,Q⟩:=h.aI I;have C:=P.1;have D:=Q.1;rw[n]at C;rw[J]at D;have:s=R:=ak;subst this;rw[d]at v;simpa using v)
 obtain⟨U,N⟩:=Fh (λx (b:Jb)=>∃(i:Nat) (l:Lj),f.fl[i]? =aa b/\L.js[i]? =aa l/\l.j=x) ⟨0,[],⟨0,av,0⟩,0,0⟩ (by rintro x a b ⟨s,l,d,m,n⟩ ⟨R,l',v,I,J⟩;obtain⟨_,_,_,P⟩:=h.js.at_ _ _ _ d m;obtain⟨_,_,_,Q⟩:=h.js.at_ _ _ _ v I;have C:=P.1;have D:=Q.1;rw[n]at C;rw[J]at D;have:s=R:=hf.nj _ _ _ _ d v ak;subst this;rw[d]at v;simpa using v)
 obtain⟨a,X,hv,_,_⟩:=KR h.fl.row
 have V:∀x,x<f.fl.length->∃(i:Nat) (b:Jb) (l:Lj),f.fl[i]? =aa b/\L.js[i]? =aa l/\l.j=L.hf x:=λx t=>by
  obtain⟨i,l,d,m⟩:=h.fl.bg x t;have E:i<f.fl.length:=by rw[<-h.js.len];exact(eL.1 d).1
  exact⟨i,f.fl[i],l,ef E,d,m.symm⟩
 have A:NB w xb L.sb f.K.length (L.cs.map λl=>l.map Lc.c) a f.fl.length X ((eF f.fl.length).map L.hf) r (λx=>(U x).rs.any (r.touch ·)) (λx=>(H x).fst) (λx=>(H x).fc f.g):=by
  refine⟨?_,aC,hf.jh,?_,?_,?_,h.abn hf,?_,hr,?_⟩
  ·rw[<-hv];exact aG h.box rfl
  ·intro j x t;have F:j<f.fl.length:=by have:=(eL.1 t).1;simpa using this
   obtain⟨g,c,e,z⟩:=KQ h.fl.row ak;rw[hv]at e;cases e;refine⟨g,rfl,z j _ ?_⟩;rw[Fo F];simp[F]at t;rw[t]
  ·intro g Y;exact nu h.fl.row g (by rw[hv];exact Y)
  ·intro j F W M;obtain⟨x,t,rfl⟩:=jH.1 F;obtain⟨i,b,l,d,m,n⟩:=V x (mL.1 t);obtain⟨lc,_,v,_⟩:=h.js.at_ _ _ _ d m;have B:=hf.jb b (gS d);have:=G2 l.j lc.c l.rv b.rs b.ft b.due b.order r W (v.below M) hr B.1 B.2;rw[N (L.hf x) b ⟨i,l,d,m,n⟩,<-n];exact this
  ·intro c z W M;obtain⟨s,l,d,rfl⟩:=qj.1 z;obtain⟨k,m,n,_⟩:=h.aI d;rw[G l.c k ⟨s,l,m,d,rfl⟩];have O:=hf.cl k (gS m);exact Sl _ _ _ _ _ _ _ W (n.p.old M) O.q O.out O.prom
  ·intro c z hrd;obtain⟨s,l,d,rfl⟩:=qj.1 z;obtain⟨k,m,n,_⟩:=h.aI d;rw[G l.c k ⟨s,l,m,d,rfl⟩]at hrd⊢;exact BL (hf.cl k (gS m)) hrd
 refine(G0 _ _ _ _ _ _ _ _ _ _ _ _ w A).mono ?_;rintro e w' ⟨rfl,B⟩;refine⟨?_,B⟩
 have C:((eF f.fl.length).map L.hf).any (λx=>(U x).rs.any (r.touch ·))=f.fl.any λb=>b.rs.any (r.touch ·):=by
  rw[um,pF,pF];constructor
  ·rintro⟨y,hy,u⟩;obtain⟨x,t,rfl⟩:=jH.1 hy;obtain⟨i,b,l,d,m,n⟩:=V x (mL.1 t);rw[N (L.hf x) b ⟨i,l,d,m,n⟩]at u;exact⟨b,gS d,u⟩
  ·rintro⟨b,B,u⟩;obtain⟨i,E⟩:=CK B;have S:i<L.js.length:=by rw[h.js.len];exact(eL.1 E).1
   obtain⟨x,t,n⟩:=h.fl.all i _ (ef S);refine⟨L.hf x,jH.2 ⟨x,mL.2 t,rfl⟩,?_⟩;rw[N (L.hf x) b ⟨i,_,E,ef S,n.symm⟩];exact u
 have D:(cE (L.cs.map λl=>l.map Lc.c)).any (ahead r (λx=>(H x).fst) λx=>(H x).fc f.g)=f.K.any λo=>match o with
   |none=>av
   |some k=>k.fc f.g&&(decide (k.fst.no<r.no)&&k.fst.touch r):=by
  rw[um,pF,pF];constructor
  ·rintro⟨c,z,u⟩;obtain⟨s,l,d,rfl⟩:=qj.1 z;obtain⟨k,m,n,_⟩:=h.aI d;refine⟨aa k,gS m,?_⟩;simp only[ahead,G l.c k ⟨s,l,m,d,rfl⟩]at u;exact u
  ·rintro⟨o,Z,u⟩;cases o with
   |none=>simp at u
   |some k=>
    obtain⟨s,T⟩:=CK Z;obtain⟨l,d,m,_⟩:=h.sat T;refine⟨l.c,qj.2 ⟨s,l,d,rfl⟩,?_⟩;simp only[ahead,G l.c k ⟨s,l,T,d,rfl⟩];exact u
 rw[C,D];rfl
def aJ.firstFree(h:aJ w f xb L)(hf:f.kE){s:Nat}{k:Ck}{l:Lc}(d:f.K[s]? =aa (aa k))(i:L.cs[s]? =aa (aa l)):bO 166 #[jp xb,jp l.c] w (.tuple #[.agg (aM k.fst),.bool (f.free k)]):=by obtain⟨j,b,e,_⟩:=h.aI i;rw[d]at b;cases b;have hF:=hf.cl k (gS d);exact YY xb l.c k.fst (k.fc f.g) (f.held k.fst) w (λW a=>Sl _ _ _ _ _ _ _ W (e.p.old a) hF.q hF.out hF.prom) λhr W a=>(h.below a).held hf _ (BL hF hr)
end
abbrev Fx.at (f:Fx)(s:Nat)(k:Ck):Fx:={f with K:=f.K.set s (aa k)}
abbrev qi:Rq:=⟨bh.zero,0⟩
def Fx.along(f:Fx)(s:Nat)(k:Ck)(a:aB Rq):Bool:=(f.at s k).free k&&(decide (cW k.fst.m<=k.de)&&rW (a[0]?.getD qi) (a[a.length-1]?.getD qi) k.fst f.g.mx)
def Ck.next(k:Ck):Ck:=k.bU k.fst k.q.tail
def Fx.jO(f:Fx)(s:Nat):Nat->Ck->aB Rq->Ck×aB Rq
 |0,k,a=>(k,a)
 |n+1,k,a=>if f.along s k a then f.jO s n k.next (a++[k.fst])else(k,a)
def nS(b:Jb)(fl:aB Jb):Nat:=(fl.takeWhile λx=>dU x.key b.key).length
def ji{α:Type}(p:Nat)(x:α)(l:aB α):aB α:=l.take p++x::l.drop p
def gi(b:Jb)(fl:aB Jb):aB Jb:=ji (nS b fl) b fl
def Fx.gI(f:Fx)(s:Nat)(k:Ck):Fx:=
 let p:=f.jO s k.next.q.length k.next [k.fst]
 {f.at s p.1 with bD:=f.bD.tail,bU:=f.bU+1,fl:=gi ⟨s,p.2,f.eJ,f.clock+f.eJ.delay,f.bU⟩ f.fl}
structure Ck.Go(k:Ck):Prop where
 out:k.out.size<=4194304
 prom:0<=k.prom/\k.prom<=4194304
 q:∀r∈k.q,r.Ok
 tok:0<=k.tok/\k.tok<=65535
 de:0<=k.de/\k.de<=1048576
 sv:0<=k.sv/\k.sv+k.de<=281474976710656
 bK:0<=k.bK/\k.bK+k.q.length<=1048576
def Ck.Go.fine{k:Ck}(h:k.Go):k.kE:=⟨h.out,h.prom,h.q⟩
def Ck.Go.dsp{k:Ck}(h:k.Go):k.AO:=⟨h.tok,h.de,⟨h.sv.1,by have:=h.sv;have:=h.de;omega⟩,⟨h.bK.1,by have:=h.bK;omega⟩,h.prom,h.q⟩
def XP{r:Rq}(h:r.Ok):0<=cW r.m:=by unfold cW;have:=h.mE;split<;>omega
def size_pos{r:Rq}(h:r.Ok):0<=sizeOf' r.m:=by unfold sizeOf';have:=h.mE;split<;>omega
def vL{g}{k:Ck}(h:k.fc g=aq):∃r l,k.q=r::l/\k.fst=r/\k.q.tail=l/\0<k.tok/\(k.out.size:Int)+k.prom+sizeOf' r.m<=g.ou:=by
 cases e:k.q with
 |nil=>simp[Ck.fc,e]at h
 |cons r l=>
  simp[Ck.fc,e]at h;exact⟨r,l,rfl,by simp[Ck.fst,e],aC,h.1,h.2⟩
def Ck.Go.next{k:Ck}{g:Cf}(h:k.Go)(w:g.ou<=65535)(hr:k.fc g=aq)(j:cW k.fst.m<=k.de):k.next.Go/\k.next.q.length+1=k.q.length:=by
 obtain⟨r,l,a,c,e,o,p⟩:=vL hr;have d:=h.q r (by rw[a];simp);have:=XP d;have:=size_pos d;rw[c]at j;have i:k.next=k.bU r l:=by rw[Ck.next,c,e]
 rw[i];have s:=h.tok;have t:=h.de;have u:=h.sv;have b:=h.bK;have v:=h.prom;rw[a]at b;simp at b;refine⟨⟨h.out,⟨by show 0<=k.prom+sizeOf' r.m;omega,by show k.prom+sizeOf' r.m<=4194304;omega⟩,λx n=>h.q x (by rw[a];exact jG _ n),⟨by show 0<=k.tok-1;omega,by show k.tok-1<=65535;omega⟩,⟨by show 0<=k.de-cW r.m;omega,by show k.de-cW r.m<=1048576;omega⟩,⟨by show 0<=k.sv+cW r.m;omega,by show k.sv+cW r.m+(k.de-cW r.m)<=281474976710656;omega⟩,by show 0<=k.bK+1;omega,?_⟩,by rw[a];rfl⟩;show k.bK+1+(l.length:Int)<=1048576
 push_cast at b
 omega
def zh{f:Fx}{k:Ck}(h:f.free k=aq):k.fc f.g=aq:=by simp[Fx.free]at h;exact h.1
def Fx.Wn{f:Fx}{s:Nat}{k:Ck}{a:aB Rq}(h:f.along s k a=aq):k.fc f.g=aq/\cW k.fst.m<=k.de:=by simp only[Fx.along,cM,uD]at h;exact⟨zh (f:=f.at s k) h.1,h.2.1⟩
def Fx.kE.at {f:Fx}{s:Nat}{k:Ck}(h:f.kE)(a:k.kE):(f.at s k).kE:=by
 refine⟨λx hx=>?_,h.jb,by show(f.K.set s (aa k)).length<=_;rw[oo];exact h.dO,h.jh,h.nj⟩;rcases Hg hx with hx|hx
 ·exact h.cl x hx
 ·cases hx;exact a
section
variable {W W':az} {f:Fx} {xb:Nat} {L:dG}
def fq.js'{own cj T cs cs' fl js}(a:fq W W' own cj T)(h:AU W own cs fl js)(hc:∀(s:Nat) lc,cs[s]? =aa (aa lc)->∃e,cs'[s]? =aa (aa e)/\e.c=lc.c)(j:∀b∈fl,¬T (8+2*b.order)):AU W' cj cs' fl js:=
 ⟨h.len,λi b l d g=>(h.at_ i b l d g).aside a (hc b.s) (j b (gS d))⟩
def aJ.Ov(h:aJ W f xb L){s n:Nat}{k k':Ck}{l l':Lc}{cj:Nat->Nat}(o:L.cs[s]? =aa (aa l))(hc:l'.c=l.c)(a:fq W W' L.own cj λt=>t=7+2*s\/t=8+2*n)(hf:∀b∈f.fl,b.order≠n)(hr:l'.At W' f.g k')(q:l'.gW λb=>cj b=7+2*s):
  aJ W' (f.at s k') xb {L with cs:=L.cs.set s (aa l'),own:=cj}:=by
 have b1:=a.blk h.box h.ey ak;have d:=a.blk h.dO h.iF ak;have i:=a.row h.bD h.jw ak;have j:=a.row h.log h.lR ak;have m:=a.eW h.eW h.je ak;refine⟨?_,b1.2,?_,d.2,a.Ej h.cs (λx r=>by omega) ⟨hr,q⟩,a.js' h.js (Lh o hc) (λb p=>by have:=hf b p;omega),a.oT h.fl ak,i.1,i.2,j.1,j.2,m.1,m.2⟩
 ·have e:=b1.1;simpa[jN]using e
 ·have e:=d.1;show wU W' L.sb ((L.cs.set s (aa l')).map λl=>l.map Lc.c);rw[Rl o hc];exact e
end
structure mm(W:az)(f:Fx)(xb:Nat)(L:dG)(s n j:Nat)(l:Lc)(k:Ck)(rv:aE)(rs:aB Rq):Prop where
 fx:aJ W (f.at s k) xb L
 aI:L.cs[s]? =aa (aa l)
 nh:eG W j l.c rv rs ⟨0,av,0⟩ 0 0
 tag:L.own j=8+2*n/\∀b,rv.ownBlock=aa b->L.own b=8+2*n
structure bG(w:az)(L:dG)(w':az)(a:dG):Prop where
 own:∀b,b<w.heap.size->a.own b=L.own b
 cD:aV (λb=>L.own b≠0) w w'
def bG.refl(w L):bG w L w L:=⟨λ_ _=>rfl,aV.refl _ _⟩
def bG.trans{a b c L M N}(h:bG a L b M)(k:bG b M c N):bG a L c N:=
 ⟨λx d=>(k.own x (dy d h.cD.size)).trans (h.own x d),⟨k.cD.os.trans h.cD.os,dm h.cD.size k.cD.size,λx d e=>(k.cD.block x (dy d h.cD.size) (by rw[h.own x d];exact e)).trans (h.cD.block x d e)⟩⟩
section
variable {w W:az} {f:Fx} {xb s n:Nat} {L:dG} {k:Ck} {l:Lc}
def next_eq{r t}(a:k.fst=r)(b:k.q.tail=t):k.next=k.bU r t:=by rw[Ck.next,a,b]
def BR{α:Type}{l:aB α}{i:Nat}{x y:α}(h:l[i]? =aa x):(l.set i y)[i]? =aa y:=rD (eL.1 h).1
def Y0(h:aJ w f xb L)(O:f.K[s]? =aa (aa k))(p:L.cs[s]? =aa (aa l))(J:k.Go)(hr:k.fc f.g=aq)(P:∀b∈f.fl,b.order≠n):
  Calls prog 207 #[jp l.c] w λe x=>∃j rv y E,e=aN (jp j)/\mm x f xb y s n j E k.next rv [k.fst]/\bG w L x y/\E.c=l.c:=by
 obtain⟨T,z,B,d⟩:=h.aI p;rw[O]at z;cases z;obtain⟨r,t,F,A,G,_⟩:=vL hr;have m:=B.eC;refine(Q1 _ _ _ _ _ _ _ _ r t w B F J.dsp).mono ?_;rintro e x ⟨j,rv,rfl,M,⟨o,I,R⟩,D,N,S⟩;rw[next_eq A G,A];have C:∀b,b<w.heap.size->(b=l.c\/aa b=l.q.ownBlock)->L.own b=7+2*s:=λb _ a=>a.elim (λe=>by rw[e];exact d.1) λe=>d.2.2.2.2.1 b e.symm;have i:∀b,b<w.heap.size->gu L.own w.heap.size (8+2*n) b=L.own b:=λb a=>gM a
 have H:Lc.gW ⟨l.c,l.rb,l.mb,l.ch,o,l.v⟩ λb=>gu L.own w.heap.size (8+2*n) b=7+2*s:=
  ⟨(i _ m.1).trans d.1,(i _ m.2.1).trans d.2.1,(i _ m.2.2.1).trans d.2.2.1,(i _ m.2.2.2.1).trans d.2.2.2.1,λb a=>by rw[show(Lc.mk l.c l.rb l.mb l.ch o l.v).q=o from rfl,R]at a;exact(i _ (m.2.2.2.2.1 b a)).trans (d.2.2.2.2.1 b a),λb a=>(i _ (m.2.2.2.2.2 b a)).trans (d.2.2.2.2.2 b a)⟩
 refine⟨j,rv,{L with cs:=L.cs.set s (aa ⟨l.c,l.rb,l.mb,l.ch,o,l.v⟩),own:=gu L.own w.heap.size (8+2*n)},⟨l.c,l.rb,l.mb,l.ch,o,l.v⟩,rfl,⟨h.Ov (k:=k) p rfl ⟨λb a Q=>D.block b a λu=>Q (aF (C b a u)),i⟩ P I H,BR p,M,tX N,λb a=>tX (S b a)⟩,⟨i,D.mono λb a u=>by rw[C b a u];omega⟩,rfl⟩
def at_at(f:Fx)(s:Nat)(k k':Ck):(f.at s k).at s k'=f.at s k':=by simp[Fx.at]
def X7{j:Nat}{rv:aE}{o:aB Rq}(h:mm W f xb L s n j l k rv o)(S:s<f.K.length)(J:k.Go)(hr:k.fc f.g=aq)(O:∀b∈f.fl,b.order≠n)(hm:o.length<=1048576):
  Calls prog 209 #[jp j] W λe u=>e=aN (.tuple #[])/\∃sB x l',mm u f xb x s n j l' k.next sB (o++[k.fst])/\bG W L u x/\l'.c=l.c:=by
 obtain⟨T,C,z,d⟩:=h.fx.aI h.aI;have D:(f.K.set s (aa k))[s]? =aa (aa k):=rD S;have E:aa (aa T)=aa (aa k):=C.symm.trans D;cases E;obtain⟨r,t,F,y,G,_⟩:=vL hr;have i:=z.eC;have N:j<W.heap.size:=(bp.1 h.nh.box).1;refine(Wk _ _ _ _ _ _ _ _ _ _ o r t _ _ _ W h.nh z F J.dsp hm λb hb e=>?_).mono ?_
 ·have U:=h.tag.2 b hb;have V:=d.2.2.2.2.1 b e.symm;omega
 rintro e u ⟨rfl,⟨sB,M,R⟩,⟨m,I,Q⟩,B⟩;rw[next_eq y G,y];refine⟨rfl,sB,{L with cs:=L.cs.set s (aa ⟨l.c,l.rb,l.mb,l.ch,m,l.v⟩),own:=gu L.own W.heap.size (8+2*n)},⟨l.c,l.rb,l.mb,l.ch,m,l.v⟩,?_,?_,rfl⟩
 all_goals
  have A:∀b,b<W.heap.size->(b=l.c\/b=j\/aa b=l.q.ownBlock\/aa b=rv.ownBlock)->L.own b=7+2*s\/L.own b=8+2*n:=λb _ hb=>by
   rcases hb with rfl|rfl|hb|hb
   ·exact aF d.1
   ·exact aD h.tag.1
   ·exact aF (d.2.2.2.2.1 b hb.symm)
   ·exact aD (h.tag.2 b hb.symm)
  have a:∀b,b<W.heap.size->gu L.own W.heap.size (8+2*n) b=L.own b:=λb hb=>gM hb
 ·have H:Lc.gW ⟨l.c,l.rb,l.mb,l.ch,m,l.v⟩ λb=>gu L.own W.heap.size (8+2*n) b=7+2*s:=
   ⟨(a _ i.1).trans d.1,(a _ i.2.1).trans d.2.1,(a _ i.2.2.1).trans d.2.2.1,(a _ i.2.2.2.1).trans d.2.2.2.1,λb hb=>by rw[show(Lc.mk l.c l.rb l.mb l.ch m l.v).q=m from rfl,Q]at hb;exact(a _ (i.2.2.2.2.1 b hb)).trans (d.2.2.2.2.1 b hb),λb hb=>(a _ (i.2.2.2.2.2 b hb)).trans (d.2.2.2.2.2 b hb)⟩
  have hF:=h.fx.Ov (k:=k) (n:=n) (l':=⟨l.c,l.rb,l.mb,l.ch,m,l.v⟩) (k':=k.bU r t) (cj:=gu L.own W.heap.size (8+2*n)) h.aI rfl ⟨λb hb P=>B.block b hb λp=>P (A b hb p),a⟩ O I H;rw[at_at]at hF;refine⟨hF,BR h.aI,M,(a _ N).trans h.tag.1,λb hb=>?_⟩;rcases R with hv|hv
  ·rw[hv]at hb;exact(a _ ((nu h.nh.row) b hb)).trans (h.tag.2 b hb)
  ·exact tX (hv b hb)
 ·exact⟨a,B.mono λb hb p=>by rcases A b hb p with e|e<;>rw[e]<;>omega⟩
def mm.below{W' j rv rs}(h:mm W f xb L s n j l k rv rs)(a:aL W W'):mm W' f xb L s n j l k rv rs:=
 ⟨h.fx.below a,h.aI,h.nh.below a,h.tag⟩
def X9{j rv a}(h:mm W f xb L s n j l k rv a)(A:s<f.K.length)(hf:f.kE)(o:k.Go)(h0:0<a.length)(hm:a.length<=1048576)(q:∀r∈a,r.Ok):
  bO 208 #[jp xb,jp l.c,jp j] W (.bool (f.along s k a)):=by
 obtain⟨B,i,y,C⟩:=h.fx.aI h.aI;have v:(f.K.set s (aa k))[s]? =aa (aa k):=rD A;have x:aa (aa B)=aa (aa k):=i.symm.trans v;cases x;have t:a[0]? =aa a[0]:=ef h0;have u:a[a.length-1]? =aa a[a.length-1]:=ef ak;have e:f.along s k a=((f.at s k).free k&&(decide (cW k.fst.m<=k.de)&&rW a[0] a[a.length-1] k.fst f.g.mx)):=by rw[Fx.along,t,u];rfl
 rw[e];refine l8 xb l.c j k.fst _ _ _ f.g.mx W (aG h.fx.box rfl) (h.fx.firstFree (hf.at (s:=s) o.fine) i h.aI) (λb d=>Ot l.c k.fst k.de b (bR d (aG y.p.box rfl))) λz _ b d=>?_;exact Zc j l.c rv a _ _ k.fst _ _ _ _ b (h.nh.below d) t u (BL o.fine (zh z)) (q _ (UY _)) (q _ (UY _)) hm
end
def Sc(b fl):nS b fl<=fl.length:=(List.takeWhile_sublist _).length_le
def KJ{α:Type}{p}{x:α}{l:aB α}(a:p<=l.length):(ji p x l).length=l.length+1:=by simp[ji];omega
def KL{α:Type}{p i}{x:α}{l:aB α}(a:p<=l.length)(h:i<p):(ji p x l)[i]? =l[i]? :=by rw[ji,ym bY,mK,aX h]
def KG{α:Type}{p}{x:α}{l:aB α}(a:p<=l.length):(ji p x l)[p]? =aa x:=by rw[ji,qz bY];simp[pL a]
def KH{α:Type}{p i}{x:α}{l:aB α}(a:p<=l.length)(h:p<=i):(ji p x l)[i+1]? =l[i]? :=by
 rw[ji,qz bY];simp only[rF,pL a];rw[show i+1-p=(i-p)+1 by omega,List.getElem?_cons_succ,He]
 congr 1;omega
def Z7{α:Type}{p i}{x y:α}{l:aB α}(a:p<=l.length)(h:l[i]? =aa y):(ji p x l)[if i<p then i else i+1]? =aa y:=by
 by_cases e:i<p
 ·rw[aX e,KL a e];exact h
 ·rw[aQ e,KH a ak];exact h
def KI{α g:Type}{p i:Nat}{x y:α}{u v:g}{l:aB α}{m:aB g}(d:p<=l.length)(hm:m.length=l.length)(a:(ji p x l)[i]? =aa y)(c:(ji p u m)[i]? =aa v):(y=x/\v=u)\/∃j:Nat,l[j]? =aa y/\m[j]? =aa v:=by
 rcases Vn i p with e|e|e
 ·rw[KL d e]at a;rw[KL ak e]at c;exact aD ⟨i,a,c⟩
 ·subst e;rw[KG d]at a;rw[KG ak]at c;cases a;cases c;exact aF ⟨rfl,rfl⟩
 ·obtain⟨i,rfl⟩:∃j,i=j+1:=⟨i-1,ak⟩;rw[KH d ak]at a;rw[KH ak ak]at c;exact aD ⟨i,a,c⟩
section
variable {W:az} {f:Fx} {xb:Nat} {L:dG} {b:Jb} {lj:Lj}
def ZL(h:aJ W f xb L)(hj:eV W L.own L.cs b lj)(hn:∀x∈f.fl,x.order≠b.order)(hm:f.fl.length<1048576):
  Calls prog 212 #[.pointer (aa (aj xb 18)),jp lj.j] W λe D=>e=aN (.tuple #[])/\∃Q,aJ D {f with fl:=gi b f.fl} xb Q/\bG W L D Q:=by
 obtain⟨lc,aP,Z,H⟩:=hj
 have old:∀(i:Nat) l,L.js[i]? =aa l->∃x,f.fl[i]? =aa x/\(∃lc,eG W l.j lc l.rv x.rs x.ft x.due x.order)/\L.own l.j=8+2*x.order/\l.j≠lj.j/\L.key l.j=x.key:=λi l o=>by
  have hi:i<f.fl.length:=by rw[<-h.js.len];exact(eL.1 o).1
  have d:f.fl[i]? =aa f.fl[i]:=ef hi;obtain⟨c,g,k,n⟩:=h.js.at_ i _ _ d o;refine⟨_,d,⟨_,k⟩,n.1,λe=>?_,h.fl.keys i _ _ d o⟩;have K:=n.1;rw[e,H.1]at K;exact hn _ (gS d) ak
 have C:∀x,x<f.fl.length->∃(i:Nat) (l:Lj),L.js[i]? =aa l/\L.hf x=l.j:=h.fl.bg
 let w:Nat->Key:=λx=>if x=lj.j then b.key else L.key x
 have P:∀x,x<f.fl.length->w (L.hf x)=L.key (L.hf x):=λx d=>by obtain⟨i,l,g,k⟩:=C x d;obtain⟨_,_,_,_,n,_⟩:=old i l g;show(if _ then _ else _)=_;rw[aQ (by rw[k];exact n)]
 have aC:w lj.j=b.key:=aX rfl
 have ah:∀x,x<f.fl.length->L.hf x≠lj.j:=λx d=>by obtain⟨i,l,g,k⟩:=C x d;obtain⟨_,_,_,_,n,_⟩:=old i l g;rw[k];exact n
 refine(Z5 xb 18 f.fl.length lj.j L.hv L.hf w _ _ W h.box rfl bJ h.fl.row hm (λx d=>?_) (λx d e=>?_) ?_ (λe=>?_) (λe=>?_) ?_).mono ?_
 ·obtain⟨i,l,g,k⟩:=C x d;obtain⟨y,n,⟨c,K⟩,G,X,h7⟩:=old i l g;rw[P x d,k,h7];refine⟨K.key,λe=>?_⟩;have:=h.fl.own l.j e.symm;omega
 ·obtain⟨i,l,g,k⟩:=C x d;obtain⟨y,n,_,G,_⟩:=old i l g;rw[<-k,e,h.ey]at G;omega
 ·rw[aC];exact Z.key
 ·have:=h.fl.own lj.j e.symm;have:=H.1;omega
 ·have:=H.1;rw[e,h.ey]at this;omega
 ·intro x h0 d;have:=h.fl.heap x h0 d;simp only[P x d,P (par x) (by unfold par;omega)];exact this
 rintro e D ⟨rfl,v',A,g1,g2,F,g4,V,g6⟩;have O:=Sc b f.fl;have Y:∀x,x<W.heap.size->(x=xb\/aa x=L.hv.ownBlock)->L.own x=1\/L.own x=3:=λx _ d=>d.elim (λe=>aF (by rw[e];exact h.ey)) λe=>aD (h.fl.own x e.symm);have a:fq W D L.own (gu L.own W.heap.size 3) λt=>t=1\/t=3:=⟨λx d zl=>V.block x d λN=>zl (Y x d N),λx d=>gM d⟩;have R:=a.blk h.dO h.iF ak;have S:=a.row h.bD h.jw ak;have T:=a.row h.log h.lR ak;have U:=a.eW h.eW h.je ak;have p:(gi b f.fl).length=f.fl.length+1:=KJ O;have af:L.js.length=f.fl.length:=h.js.len;have I:nS b f.fl<=L.js.length:=ak;have aV:xb<W.heap.size:=(bp.1 h.box).1;refine⟨rfl,{L with js:=ji (nS b f.fl) lj L.js,hv:=v',hf:=A,key:=w,own:=gu L.own W.heap.size 3},⟨g1,(gM aV).trans h.ey,R.1,R.2,a.cs h.cs (λs=>by omega),⟨?_,?_⟩,⟨?_,?_,?_,?_,?_,?_,?_⟩,S.1,S.2,T.1,T.2,U.1,U.2⟩,⟨λx d=>gM d,V.mono λx d N=>by rcases Y x d N with e|e<;>rw[e]<;>omega⟩⟩
 ·show(ji _ _ _).length=(gi b f.fl).length;rw[KJ I,p];omega
 ·intro i x l d o;rcases KI O af d o with⟨rfl,rfl⟩|⟨B,g,k⟩
  ·exact eV.aside a ⟨lc,aP,Z,H⟩ (λc M=>⟨c,M,rfl⟩) ak
  ·exact eV.aside a (h.js.at_ B x l g k) (λc M=>⟨c,M,rfl⟩) ak
 ·show D.ownsRow 0 _ 1 v' (gi b f.fl).length (jC (gi b f.fl).length A);rw[p];exact g2
 ·intro x d;show gu _ _ _ _=3;rcases g6 with e|e
  ·have r:L.hv.ownBlock=aa x:=by rw[<-e];exact d
   rw[gM (nu h.fl.row x r)];exact h.fl.own x r
  ·exact tX (e x d)
 ·intro x d;have r:x<f.fl.length+1:=by rw[<-p];exact d
  obtain⟨y,J,e⟩:=F.bg x r;show ∃(i:Nat) (l:Lj),(ji (nS b f.fl) lj L.js)[i]? =aa l/\A x=l.j
  by_cases an:y=f.fl.length
  ·exact⟨_,lj,KG I,by rw[e];simp[more,an]⟩
  ·obtain⟨i,l,g,k⟩:=C y ak;exact⟨_,l,Z7 I g,by rw[e];simp[more,an,k]⟩
 ·intro i l o;show ∃x,x<(gi b f.fl).length/\A x=l.j;rw[p];rcases KI (l:=L.js) (m:=L.js) I rfl o o with⟨rfl,_⟩|⟨B,g,_⟩
  ·obtain⟨x,d,e⟩:=F.all f.fl.length ak;exact⟨x,d,by rw[e];simp[more]⟩
  ·obtain⟨y,J,z⟩:=h.fl.all B l g;obtain⟨x,d,e⟩:=F.all y ak;exact⟨x,d,by rw[e];simp[more,Nat.ne_of_lt J,z]⟩
 ·intro x y d J e;have r:x<f.fl.length+1:=by rw[<-p];exact d
  have bf:y<f.fl.length+1:=by rw[<-p];exact J
  refine F.one (λu v hu hv q=>?_) x y r bf e
  by_cases z:u=f.fl.length
  ·by_cases E:v=f.fl.length
   ·omega
   ·simp[more,z,E]at q;exact absurd q.symm (ah v ak)
  ·by_cases E:v=f.fl.length
   ·simp[more,z,E]at q;exact absurd q (ah u ak)
   ·simp[more,z,E]at q;exact h.fl.one u v ak ak q
 ·intro i x l d o;show w l.j=x.key;rcases KI O af d o with⟨rfl,rfl⟩|⟨B,g,k⟩
  ·exact aC
  ·obtain⟨y,n,_,_,G,X⟩:=old B l k;rw[g]at n;cases n;show(if _ then _ else _)=_;rw[aQ G];exact X
 ·show Hp (gi b f.fl).length λx=>w (A x);rw[p];exact g4
end
end
section
attribute [local go_sem ↓] Go.wp_at_zero Go.wp_at_succ
attribute [local go_sem] bP bF
open Go.Conc Go.RowKit
open Go.Proofs.Tryz
def qU:aY aE->Nat
 |some (.slice _ n _)=>n
 |_=>0
def ZW{f:Fx}{s n:Nat}{k:Ck}{rs:aB Rq}(h:f.along s k rs=av):f.jO s n k rs=(k,rs):=by cases n<;>simp[Fx.jO,h]
def ZV{f:Fx}{s n:Nat}{k:Ck}{rs:aB Rq}(h:f.along s k rs=aq)(a:n+1=k.q.length):f.jO s k.q.length k rs=f.jO s n k.next (rs++[k.fst]):=by rw[<-a,Fx.jO,aX h]
section
variable {w W W':az} {f:Fx} {xb s n j:Nat} {L:dG} {k:Ck} {l:Lc} {rv:aE} {rs:aB Rq}
def mm.len(h:mm W f xb L s n j l k rv rs)(o:s<f.K.length):qU (W.cell? (aj l.c 13))=k.q.length:=by obtain⟨r,d,b,u⟩:=h.fx.aI h.aI;have g:(f.K.set s (aa k))[s]? =aa (aa k):=rD o;have m:aa (aa r)=aa (aa k):=d.symm.trans g;cases m;obtain⟨a,t,e,_⟩:=b.p.row.form;have:=aG b.p.box (i:=13) (v:=l.q) rfl;rw[this,e];rfl
structure wP(w:az)(L:dG)(f:Fx)(xb s n j c:Nat)(G:Ck×aB Rq)(W:az)(b:dG)(d:Lc)(a:Ck)(rv:aE)(rs:aB Rq):Prop where
 p:mm W f xb b s n j d a rv rs
 gJ:bG w L W b
 c:d.c=c
 go:a.Go
 gat:f.jO s a.q.length a rs=G
 pos:0<rs.length
 len:rs.length+a.q.length<=1048576
 ok:∀r∈rs,r.Ok
def wP.below{c G L1 l1 k1}(h:wP w L f xb s n j c G W L1 l1 k1 rv rs)(a:aL W W'):wP w L f xb s n j c G W' L1 l1 k1 rv rs:=
 ⟨h.p.below a,⟨h.gJ.own,h.gJ.cD.trans (.below a)⟩,h.c,h.go,h.gat,h.pos,h.len,h.ok⟩
def aJ.X4(h:aJ W f xb L){cj}(a:fq W W' L.own cj λt=>t=8+2*n)(hf:∀b∈f.fl,b.order≠n):aJ W' f xb {L with own:=cj}:=by have b1:=a.blk h.box h.ey ak;have c:=a.blk h.dO h.iF ak;have d:=a.row h.bD h.jw ak;have e:=a.row h.log h.lR ak;have g:=a.eW h.eW h.je ak;exact⟨b1.1,b1.2,c.1,c.2,a.cs h.cs (λ_=>by omega),a.js' h.js nU (λb i=>by have:=hf b i;omega),a.oT h.fl ak,d.1,d.2,e.1,e.2,g.1,g.2⟩
def X8(h:mm W f xb L s n j l k rv rs)(hm:f.bD.length<=1048576):
  Calls prog 211 #[jp xb] W λe d=>e=aN (.agg (dL f.eJ))/\∃m,mm d {f with bD:=f.bD.tail} xb m s n j l k rv rs/\bG W L d m:=by
 cases e:f.bD with
 |nil=>
  refine(Q7 xb (f.at s k) L W h.fx e).mono ?_;rintro p d ⟨rfl,a⟩;refine⟨rfl,L,?_,⟨λ_ _=>rfl,.below a⟩⟩;have:({f with bD:=([]:aB Ft).tail}:Fx)=f:=by cases f;cases e;rfl
  rw[this];exact h.below a
 |cons t r=>
  refine(Q8 xb (f.at s k) L t r W h.fx e (by rw[e]at hm;simp at hm;omega)).mono ?_;rintro p d ⟨rfl,v,q,x,g⟩;have u:j<W.heap.size:=(bp.1 h.nh.box).1;have o:=nu h.nh.row;have i:∀b,(b=xb\/aa b=L.fv.ownBlock)->L.own b=1\/L.own b=4:=λb a=>a.elim (λe=>aF (by rw[e];exact h.fx.ey)) λe=>aD (h.fx.jw b e.symm);refine⟨rfl,_,⟨q,h.aI,⟨vX g h.nh.box λc=>?_,gD h.nh.row λb a=>g.block b (o b a) λc=>?_⟩,(gM u).trans h.tag.1,λb a=>(gM (o b a)).trans (h.tag.2 b a)⟩,⟨λb a=>gM a,g.mono λb _ c=>by rcases i b c with e|e<;>rw[e]<;>omega⟩⟩
  ·have:=i _ c;have:=h.tag.1;omega
  ·have:=i _ c;have:=h.tag.2 b a;omega
def Y1(h:mm W f xb L s n j l k rv rs)(t:Ft)(now)(q:∀b∈f.fl,b.order≠n)(h0:0<=now)(g:now<=281474976710656)(i:0<=t.delay)(m:t.delay<=65535):
  Calls prog 210 #[jp j,an now,an n,.agg (dL t)] W λe a=>e=aN (.tuple #[])/\aJ a (f.at s k) xb L/\eV a L.own L.cs ⟨s,rs,t,now+t.delay,n⟩ ⟨j,rv⟩/\bG W L a L:=by
 refine(aed j l.c rv rs _ t 0 0 now n W h.nh h0 g i m).mono ?_;rintro e a ⟨rfl,p,d⟩;exact⟨rfl,h.fx.X4 (n:=n) ⟨λb o r=>d.block b o λe=>r (by rw[e];exact h.tag.1),λb _=>rfl⟩ q,⟨l,h.aI,p,h.tag⟩,⟨λ_ _=>rfl,d.mono λb _ e=>by rw[e,h.tag.1];omega⟩⟩
end
structure Fx.May(f:Fx):Prop where
 fine:f.kE
 ou:f.g.ou<=65535
 fresh:∀b∈f.fl,b.order<f.bU
 clock:0<=f.clock/\f.clock<=281474976710656
 bU:f.bU<=281474976710656
 bD:f.bD.length<=1048576
 eJ:0<=f.eJ.delay/\f.eJ.delay<=65535
 jh:f.fl.length<1048576
abbrev ClS(xb:Nat)(c d:Int)(W:az):Prop:=W.cell? (aj xb 13)=aa (an c)/\W.cell? (aj xb 12)=aa (an d)
def aJ.clS{W f xb L}(h:aJ W f xb L):ClS xb f.clock f.bU W:=⟨aG h.box rfl,aG h.box rfl⟩
def Yg{W f xb L}(h:aJ W f xb L):aJ (W.setCell (aj xb 12) (an ((f.bU:Int)+1))) {f with bU:=f.bU+1} xb L:=
 h.put 12 _ {f with bU:=f.bU+1} (by simp[jN]) rfl rfl rfl rfl rfl ⟨rfl,rfl,rfl⟩
def eV.put{W f xb i L b lj u}(h:aJ W f xb L)(d:eV W L.own L.cs b lj):eV (W.setCell (aj xb i) u) L.own L.cs b lj:=
 d.aside (T:=λt=>t=1) ⟨λb _ g=>bH λe=>g (by rw[e];exact h.ey),λ_ _=>rfl⟩ (λc a=>⟨c,a,rfl⟩) ak
def ZC(w f xb s L k)(l:Lc)(h:aJ w f xb L)(hk:f.K[s]? =aa (aa k))(hl:L.cs[s]? =aa (aa l))(hm:f.May)(Q:k.Go)(hr:k.fc f.g=aq)(hp:cW k.fst.m<=k.de)(hq:k.q.length<=1048576):
  Calls prog 169 #[jp xb,jp l.c] w λe a=>e=aN (.tuple #[])/\∃t,aJ a (f.gI s k) xb t/\bG w L a t:=by
 have hs:=(eL.1 hk).1;have hn:∀b∈f.fl,b.order≠f.bU:=λb hb=>Nat.ne_of_lt (hm.fresh b hb);have z:=Q.next hm.ou hr hp
 have HJ:Hid (Calls prog 207 #[jp l.c] w λe a=>∃j,e=aN (jp j)/\∃y u i rv n,wP w L f xb s f.bU j l.c (f.jO s k.next.q.length k.next [k.fst]) a y u i rv n):=by
  refine(Y0 h hk hl Q hr hn).mono ?_;rintro e a ⟨j,rv,t,R,rfl,v,x,o⟩;refine⟨j,rfl,t,R,k.next,rv,[k.fst],v,x,o,z.1,rfl,aC,by have:=z.2;simp;omega,λr aM=>?_⟩
  ·simp at aM;rw[aM];exact BL Q.fine hr
 have HM:Hid (f.May/\s<f.K.length/\∀b∈f.fl,b.order≠f.bU):=⟨hm,hs,hn⟩;have HG:Hid (f.gI s k={f.at s (f.jO s k.next.q.length k.next [k.fst]).1 with bD:=f.bD.tail,bU:=f.bU+1,fl:=gi ⟨s,(f.jO s k.next.q.length k.next [k.fst]).2,f.eJ,f.clock+f.eJ.delay,f.bU⟩ f.fl}):=rfl;generalize f.jO s k.next.q.length k.next [k.fst]=G at*
 generalize f.gI s k=F' at*;generalize l.c=c at*;go_enter func169,ntmps169;go_wp2_with (go_at_call 207;refine HJ.out.mono ?_;rintro e w1 ⟨j,rfl,hD⟩;have HD:=aT hD)
 go_loopw [] (λwr=>Hid (∃y u i rv n,wP w L f xb s f.bU j c G wr y u i rv n)) (λW=>qU (W.cell? (aj c 13)))
 case atStart=>exact HD
 case round=>
  have hR:=hrel;clear hrel;obtain⟨y,u,i,rv,n,D⟩:=hR.out;have A:=aT D
  have C:Hid (bO 208 #[jp xb,jp c,jp j] wr (.bool (f.along s i n))):=by rw[<-D.c];exact X9 D.p HM.out.2.1 HM.out.1.fine D.go D.pos (by have:=D.len;omega) D.ok
  clear D hR;cases H:f.along s i n with
  |false=>
   rw[H]at C;have hG:G=(i,n):=by rw[<-A.out.gat,ZW H]
   have X:Hid (∀W,aL wr W->Calls prog 211 #[jp xb] W λe a=>e=aN (.agg (dL f.eJ))/\∃d,mm a {f with bD:=f.bD.tail} xb d s f.bU j u i rv n/\bG w L a d):=λW P=>by have D:=A.out.below P;refine(X8 D.p HM.out.1.bD).mono ?_;rintro e a ⟨rfl,d,v,x⟩;exact⟨rfl,d,v,D.gJ.trans x⟩
   have Y:Hid (∀W d,mm W {f with bD:=f.bD.tail} xb d s f.bU j u i rv n->bG w L W d->Calls prog 210 #[jp j,an f.clock,an f.bU,.agg (dL f.eJ)] W λe a=>e=aN (.tuple #[])/\aJ a (({f with bD:=f.bD.tail}:Fx).at s i) xb d/\eV a d.own d.cs ⟨s,n,f.eJ,f.clock+f.eJ.delay,f.bU⟩ ⟨j,rv⟩/\bG w L a d):=λW d hP hT=>by refine(Y1 hP f.eJ f.clock HM.out.2.2 HM.out.1.clock.1 HM.out.1.clock.2 HM.out.1.eJ.1 HM.out.1.eJ.2).mono ?_;rintro e a ⟨rfl,v,x,o⟩;exact⟨rfl,v,x,hT.trans o⟩
   have V:=aT A.out.p.fx.clS;have HE:=aT hG;clear hG
   go_upto_region 3 with(go_at_call 208;refine C.out.mono ?_;rintro e w2 ⟨rfl,I⟩)
   have s0:ClS xb f.clock f.bU w2:=⟨bR I V.out.1,bR I V.out.2⟩;refine eD (S:=ClS xb f.clock f.bU) s0 λbL=>?_;refine tk 0 ?_;refine tk 1 ?_;refine tk 2 ?_;refine tk 3 ?_;refine tk 4 ?_;refine tk 5 ?_;refine tk 6 ?_;refine tk 7 ?_;refine tk 8 ?_;refine tk 9 ?_;refine rH 10 λK F=>?_;go_simp;go_at_call 211;refine(X.out _ (I.trans (iX (Below.refl _ _) _))).mono ?_;rintro e B ⟨rfl,d,o,E⟩;have A5:ClS xb f.clock f.bU B:=o.fx.clS;have M:Hid (mm B {f with bD:=f.bD.tail} xb d s f.bU j u i rv n/\bG w L B d):=⟨o,E⟩;clear o E;refine F.out _ _ A5 (λbJ=>?_);clear F K;refine rH 11 λK F=>?_;go_simp;go_at_call 210;refine(Y.out _ d M.out.1 M.out.2).mono ?_;rintro e J ⟨rfl,O,h6,h7⟩;have Qe:ClS xb f.clock f.bU J:=O.clS;have N:Hid (aJ J (({f with bD:=f.bD.tail}:Fx).at s i) xb d/\eV J d.own d.cs ⟨s,n,f.eJ,f.clock+f.eJ.delay,f.bU⟩ ⟨j,rv⟩/\bG w L J d):=⟨O,h6,h7⟩;clear O h6 h7;refine F.out _ _ Qe (λbK=>?_);clear F K;refine dc ?_;have bV:=Qe.2;have xf:=bz N.out.1.box 12;have hd:(f.bU:Int)<=281474976710656:=by have:=HM.out.1.bU;omega
   have HU:Hid (Calls prog 212 #[.pointer (aa (aj xb 18)),jp j] (J.setCell (aj xb 12) (an ((f.bU:Int)+1))) λe a=>e=aN (.tuple #[])/\∃t,aJ a F' xb t/\bG w L a t):=by obtain⟨T,q2,q3⟩:=N.out;refine(ZL (Yg T) (eV.put T q2) HM.out.2.2 HM.out.1.jh).mono ?_;rintro e a ⟨rfl,t,v,x⟩;refine⟨rfl,t,?_,(q3.trans ⟨λ_ _=>rfl,(aV.refl _ _).set (by show d.own xb≠0;rw[T.ey];omega) _⟩).trans x⟩;rw[HG.out,HE.out];exact v
   clear N X Y A C M;go_wp2_with (go_at_call 212;refine HU.out.mono ?_;rintro e w5 ⟨rfl,h8⟩);exact eO rfl rfl ⟨rfl,h8⟩
  |true=>
   rw[H]at C
   have HT:Hid (∀W,aL wr W->Calls prog 209 #[jp j] W λe a=>e=aN (.tuple #[])/\(∃y u i rv n,wP w L f xb s f.bU j c G a y u i rv n)/\qU (a.cell? (aj c 13))<qU (wr.cell? (aj c 13))):=λW P=>by
    have D:=A.out.below P;obtain⟨a1,a2⟩:=Fx.Wn H;refine(X7 D.p HM.out.2.1 D.go a1 HM.out.2.2 (by have:=D.len;omega)).mono ?_;rintro e a ⟨rfl,sB,t,R,v,x,o⟩;have z:=D.go.next HM.out.1.ou a1 a2
    refine⟨rfl,⟨t,R,i.next,sB,n++[i.fst],v,D.gJ.trans x,o.trans D.c,z.1,?_,aC,by have:=D.len;have:=z.2;simp;omega,λr hr=>?_⟩,?_⟩
    ·rw[<-D.gat,ZV H z.2]
    ·rcases jZ.1 hr with hr|hr
     ·exact D.ok r hr
     ·simp at hr;rw[hr];exact BL D.go.fine a1
    ·have Z:=v.len HM.out.2.1;have e2:=A.out.p.len HM.out.2.1;rw[o,D.c]at Z;rw[D.c]at e2;rw[Z,e2];have:=z.2;omega
   go_wp2_with (first
    |(go_at_call 208;refine C.out.mono ?_;rintro e w2 ⟨rfl,I⟩)
    |(go_at_call 209;refine(HT.out _ I).mono ?_;rintro e B ⟨rfl,o,E⟩;have U:Hid ((∃y u i rv n,wP w L f xb s f.bU j c G B y u i rv n)/\qU (B.cell? (aj c 13))<qU (wr.cell? (aj c 13))):=⟨o,E⟩;clear o E))
   exact⟨U.out.1,U.out.2⟩
def Fx.bq(f:Fx)(k:Ck):Ck:=if f.opn then k else k.open f.g
def Fx.turned(f:Fx)(k:Ck):Fx:={f.at f.aI (f.bq k)with opn:=aq}
def Fx.bT(f:Fx):Fx×Bool:=match f.K[f.aI]? with
 |some (aa k)=>
  if(f.turned k).free (f.bq k)then(if cW (f.bq k).fst.m<=(f.bq k).de then((f.turned k).gI f.aI (f.bq k),aq)else(f.turned k,av))
  else((f.turned k).at f.aI (f.bq k).lose,av)
 |_=>(f,av)
section
variable {w W W':az} {f:Fx} {xb s c:Nat} {L:dG} {k:Ck}
def cJ(w:az)(L:dG)(f:Fx)(xb s c:Nat)(W:az):Prop:=∃a b,aJ W f xb a/\a.cs[s]? =aa (aa b)/\b.c=c/\bG w L W a
def cJ.below(h:cJ w L f xb s c W)(b:aL W W'):cJ w L f xb s c W':=by obtain⟨d,j,e,g,i,a⟩:=h;exact⟨d,j,e.below b,g,i,⟨a.own,a.cD.trans (.below b)⟩⟩
def cJ.put(h:cJ w L f xb s c W):cJ w L {f with opn:=aq} xb s c (W.setCell (aj xb 16) (.bool aq))/\W.cell? (aj xb 16)=aa (.bool f.opn)/\W.frozen? (aj xb 16)=av:=by obtain⟨b,i,a,d,e,g⟩:=h;refine⟨⟨b,i,a.put 16 _ {f with opn:=aq} (by simp[jN]) rfl rfl rfl rfl rfl ⟨rfl,rfl,rfl⟩,d,e,g.trans ⟨λ_ _=>rfl,(aV.refl _ _).set (by show b.own xb≠0;rw[a.ey];omega) _⟩⟩,aG a.box rfl,bz a.box 16⟩
def cJ.client(h:cJ w L f xb s c W)(r:f.K[s]? =aa (aa k))(n k' v)(hc:∀a:Lc,a.c=c->a.At W f.g k->Calls prog n #[jp c] W λe d=>e=aN v/\a.At d f.g k'/\aV (λi=>i=c) W d):
  Calls prog n #[jp c] W λe d=>e=aN v/\cJ w L (f.at s k') xb s c d:=by
 obtain⟨t,a,q,l,j,x⟩:=h;obtain⟨z,o,y,m⟩:=q.aI l;rw[r]at o;cases o;refine(hc a j y).mono ?_;rintro e d ⟨rfl,u,p⟩;exact⟨rfl,_,a,q.client (cj:=t.own) l rfl r p (λb _ e=>by rw[e,<-j];exact m.1) u (λ_ _=>rfl) m,BR l,j,x.trans ⟨λ_ _=>rfl,p.mono λb _ e=>by rw[e,<-j,m.1];omega⟩⟩
def cJ.open(h:cJ w L f xb s c W)(d:f.K[s]? =aa (aa k))(i:0<=f.g.qn/\f.g.qn<=65535)(j:0<=k.wt/\k.wt<=65535)(b:0<=k.de/\k.de<=1048576):
  Calls prog 165 #[jp c] W λe l=>e=aN (.tuple #[])/\cJ w L (f.at s (k.open f.g)) xb s c l:=
 h.client d _ _ _ λm e a=>by subst e;exact V3 _ _ _ _ _ _ _ _ W a i j b
def cJ.lose(h:cJ w L f xb s c W)(b:f.K[s]? =aa (aa k)):
  Calls prog 167 #[jp c] W λe d=>e=aN (.tuple #[])/\cJ w L (f.at s k.lose) xb s c d:=
 h.client b _ _ _ λg e a=>by subst e;exact J7 _ _ _ _ _ _ _ _ W a
def cJ.free(h:cJ w L f xb s c W)(m:f.K[s]? =aa (aa k))(hf:f.kE):
  Calls prog 166 #[jp xb,jp c] W λe a=>e=aN (.tuple #[.agg (aM k.fst),.bool (f.free k)])/\cJ w L f xb s c a/\aL W a:=by
 obtain⟨i,n,b,d,j,l⟩:=h;subst j;refine(b.firstFree hf m d).mono ?_;rintro e a ⟨rfl,g⟩;exact⟨rfl,cJ.below ⟨i,n,b,d,rfl,l⟩ g,g⟩
def cJ.pay(h:cJ w L f xb s c W)(o:f.K[s]? =aa (aa k)):
  Calls prog 168 #[jp c,.agg (aM k.fst)] W λe b=>e=aN (.bool (decide (cW k.fst.m<=k.de)))/\cJ w L f xb s c b:=by
 have d:=h;obtain⟨r,q,g,i,j,t⟩:=h;subst j;obtain⟨v,a,l,u⟩:=g.aI i;rw[o]at a;cases a;refine(Ot q.c k.fst k.de W (aG l.p.box rfl)).mono ?_;rintro e b ⟨rfl,n⟩;exact⟨rfl,d.below n⟩
def cJ.gI(h:cJ w L f xb s c W)(t:f.K[s]? =aa (aa k))(hm:f.May)(r:k.Go)(hr:k.fc f.g=aq)(u:cW k.fst.m<=k.de)(v:k.q.length<=1048576):
  Calls prog 169 #[jp xb,jp c] W λe b=>e=aN (.tuple #[])/\∃a,aJ b (f.gI s k) xb a/\bG w L b a:=by
 obtain⟨d,x,l,n,o,p⟩:=h;subst o;refine(ZC W f xb s d k x l t n hm r hr u v).mono ?_;rintro e b ⟨rfl,a,i,j⟩;exact⟨rfl,a,i,p.trans j⟩
end
def zN{f:Fx}{k:Ck}(a:f.K[f.aI]? =aa (aa k)):(f.turned k).K[f.aI]? =aa (aa (f.bq k)):=BR a
def LP{f:Fx}{k:Ck}(b:f.K[f.aI]? =aa (aa k))(a:f.opn=aq):f.turned k=f:=by unfold Fx.turned Fx.bq;rw[aX a];unfold Fx.at;rw[(xJ b)];cases f;cases a;rfl
structure Fx.yU(f:Fx):Prop where
 may:f.May
 aI:f.aI<f.K.length
 qn:0<=f.g.qn/\f.g.qn<=65535
 who:∀k,f.K[f.aI]? =aa (aa k)->(0<=k.wt/\k.wt<=65535)/\(0<=k.de/\k.de<=1048576)/\(f.bq k).Go
def Fx.yU.vH{f:Fx}{k:Ck}(h:f.yU)(a:f.K[f.aI]? =aa (aa k)):(f.turned k).May:=
 have hF:=h.may.fine.at (h.who k a).2.2.fine
 ⟨⟨hF.cl,hF.jb,hF.dO,hF.jh,hF.nj⟩,h.may.ou,h.may.fresh,h.may.clock,h.may.bU,h.may.bD,h.may.eJ,h.may.jh⟩
structure qJ(w:az)(f:Fx)(xb:Nat)(L:dG)(k:Ck)(l:Lc):Prop where
 at_:aJ w f xb L
 kk:f.K[f.aI]? =aa (aa k)
 ll:L.cs[f.aI]? =aa (aa l)
 t:f.yU
 qq:k.q.length<=1048576
def qJ.cells{w f xb L k l}(h:qJ w f xb L k l):w.cell? (aj xb 9)=aa (.slice (aa (aj L.sb 0)) f.K.length f.K.length)/\w.cell? (aj xb 15)=aa (an f.aI)/\w.cell? (aj xb 16)=aa (.bool f.opn)/\w.cell? (aj L.sb f.aI)=aa (jp l.c)/\(f.aI:Int)<(f.K.length:Int):=by
 refine⟨aG h.at_.box rfl,aG h.at_.box rfl,aG h.at_.box rfl,?_,by have:=h.t.aI;omega⟩;have e:(L.cs.map λl=>l.map Lc.c)[f.aI]? =aa (aa l.c):=by rw[iT,h.ll];rfl
 exact aG h.at_.dO (sA e)
def qJ.tu{w f xb L k l}(h:qJ w f xb L k l)(n):cJ w L f xb f.aI l.c (w.drewN n):=⟨L,l,h.at_.drewN n,h.ll,rfl,⟨λ_ _=>rfl,(aV.below (iX (Below.refl _ _) n))⟩⟩
def TQ{f:Fx}{k:Ck}:(f.bq k).q=k.q:=by unfold Fx.bq;split<;>rfl
def aeZ(w f xb L k)(l:Lc)(h:qJ w f xb L k l)(m:f.opn=av)(E:(f.turned k).free (f.bq k)=av):
  Calls prog 107 #[jp xb] w λe a=>e=aN (.bool av)/\∃b,aJ a ((f.turned k).at f.aI (f.bq k).lose) xb b/\bG w L a b:=by
 obtain⟨I,H,A,K,M⟩:=h.cells;have N:=h.t.aI;rw[m]at A;have o:=zN h.kk
 have v:Hid (∀n,Calls prog 165 #[jp l.c] (w.drewN n) λe a=>e=aN (.tuple #[])/\cJ w L (f.turned k) xb f.aI l.c (a.setCell (aj xb 16) (.bool aq))/\a.cell? (aj xb 16)=aa (.bool av)/\a.frozen? (aj xb 16)=av):=λn=>by
  refine((h.tu n).open h.kk h.t.qn (h.t.who k h.kk).1 (h.t.who k h.kk).2.1).mono ?_;rintro e a ⟨rfl,d⟩;have i:=d.put;refine⟨rfl,?_,i.2.1.trans (by rw[show(f.at f.aI (k.open f.g)).opn=f.opn from rfl,m]),i.2.2⟩;have e:f.turned k={f.at f.aI (k.open f.g)with opn:=aq}:=by unfold Fx.turned Fx.bq;rw[aQ (by rw[m];decide)]
  rw[e];exact i.1
 have s:Hid (∀W,cJ w L (f.turned k) xb f.aI l.c W->Calls prog 166 #[jp xb,jp l.c] W λe a=>e=aN (.tuple #[.agg (aM (f.bq k).fst),.bool av])/\cJ w L (f.turned k) xb f.aI l.c a):=λW j=>by refine(j.free o (h.t.vH h.kk).fine).mono ?_;rintro e a ⟨rfl,d,_⟩;rw[E];exact⟨rfl,d⟩
 have u:Hid (∀W,cJ w L (f.turned k) xb f.aI l.c W->Calls prog 167 #[jp l.c] W λe a=>e=aN (.tuple #[])/\∃b,aJ a ((f.turned k).at f.aI (f.bq k).lose) xb b/\bG w L a b):=λW j=>by refine(j.lose o).mono ?_;rintro e a ⟨rfl,z,O,d,_,_,i⟩;exact⟨rfl,z,d,i⟩
 have y:Hid (∀W,cJ w L (f.turned k) xb f.aI l.c W->cJ w L (f.turned k) xb f.aI l.c (W.alloc (aA (aM (f.bq k).fst) 134))):=λW j=>j.below (bf);have x:Hid (∀W:az,cu (W.alloc (aA (aM (f.bq k).fst) 134)) W.heap.size (f.bq k).fst):=λW=>cu.of (cw W _);generalize (f.bq k).fst=r at*;generalize ((f.turned k).at f.aI (f.bq k).lose)=F' at*;generalize f.turned k=G at*;generalize l.c=c at*;go_enter func107,ntmps107;go_wp2
 go_quiet (fail)
 go_wp2_with (first
  |(go_at_call 165;refine(v.out _).mono ?_;rintro e w1 ⟨rfl,B,d16,J⟩;have p:=aT B)
  |(go_at_call 166;refine(s.out _ p.out).mono ?_;rintro e F ⟨rfl,C⟩;have q:=aT (y.out _ C);obtain⟨P,Q,R,S,T,U,V,X,Y,Z⟩:=x.out F)
  |(go_at_call 167;refine(u.out _ q.out).mono ?_;rintro e w3 ⟨rfl,D⟩))
 go_ret;exact⟨rfl,D⟩
def aeT(w f xb L k)(l:Lc)(h:qJ w f xb L k l)(o:f.opn=av)(I:(f.turned k).free (f.bq k)=aq)(H:¬cW (f.bq k).fst.m<=(f.bq k).de):
  Calls prog 107 #[jp xb] w λe a=>e=aN (.bool av)/\∃i,aJ a (f.turned k) xb i/\bG w L a i:=by
 obtain⟨N,M,D,P,Q⟩:=h.cells;have R:=h.t.aI;rw[o]at D;have p:=zN h.kk
 have y:Hid (∀n,Calls prog 165 #[jp l.c] (w.drewN n) λe a=>e=aN (.tuple #[])/\cJ w L (f.turned k) xb f.aI l.c (a.setCell (aj xb 16) (.bool aq))/\a.cell? (aj xb 16)=aa (.bool av)/\a.frozen? (aj xb 16)=av):=λn=>by
  refine((h.tu n).open h.kk h.t.qn (h.t.who k h.kk).1 (h.t.who k h.kk).2.1).mono ?_;rintro e a ⟨rfl,b⟩;have j:=b.put;refine⟨rfl,?_,j.2.1.trans (by rw[show(f.at f.aI (k.open f.g)).opn=f.opn from rfl,o]),j.2.2⟩;have e:f.turned k={f.at f.aI (k.open f.g)with opn:=aq}:=by unfold Fx.turned Fx.bq;rw[aQ (by rw[o];decide)]
  rw[e];exact j.1
 have x:Hid (∀W,cJ w L (f.turned k) xb f.aI l.c W->Calls prog 166 #[jp xb,jp l.c] W λe a=>e=aN (.tuple #[.agg (aM (f.bq k).fst),.bool aq])/\cJ w L (f.turned k) xb f.aI l.c a):=λW d=>by refine(d.free p (h.t.vH h.kk).fine).mono ?_;rintro e a ⟨rfl,b,_⟩;rw[I];exact⟨rfl,b⟩
 have z:Hid (∀W,cJ w L (f.turned k) xb f.aI l.c W->Calls prog 168 #[jp l.c,.agg (aM (f.bq k).fst)] W λe a=>e=aN (.bool av)/\cJ w L (f.turned k) xb f.aI l.c a):=λW d=>by refine(d.pay p).mono ?_;rintro e a ⟨rfl,b⟩;rw[iY H];exact⟨rfl,b⟩
 have v:Hid (∀W,cJ w L (f.turned k) xb f.aI l.c W->∃i,aJ W (f.turned k) xb i/\bG w L W i):=λW d=>by obtain⟨C,S,b,_,_,j⟩:=d;exact⟨C,b,j⟩
 have B:Hid (∀W,cJ w L (f.turned k) xb f.aI l.c W->cJ w L (f.turned k) xb f.aI l.c (W.alloc (aA (aM (f.bq k).fst) 134))):=λW d=>d.below (bf);have A:Hid (∀W:az,cu (W.alloc (aA (aM (f.bq k).fst) 134)) W.heap.size (f.bq k).fst):=λW=>cu.of (cw W _);generalize (f.bq k).fst=r at*;generalize f.turned k=K at*;generalize l.c=c at*;go_enter func107,ntmps107;go_wp2
 go_quiet (fail)
 go_wp2_with (first
  |(go_at_call 165;refine(y.out _).mono ?_;rintro e w1 ⟨rfl,E,d16,O⟩;have q:=aT E)
  |(go_at_call 166;refine(x.out _ q.out).mono ?_;rintro e J ⟨rfl,F⟩;have s:=aT (B.out _ F);obtain⟨T,U,V,X,Y,Z,s6,s7,s8,s9⟩:=A.out J)
  |(go_at_call 168;refine(z.out _ s.out).mono ?_;rintro e w3 ⟨rfl,G⟩;have u:=aT G))
 go_ret;exact⟨rfl,(v.out _ u.out)⟩
def aeW(w f xb L k)(l:Lc)(h:qJ w f xb L k l)(p:f.opn=av)(s:(f.turned k).free (f.bq k)=aq)(q:cW (f.bq k).fst.m<=(f.bq k).de):
  Calls prog 107 #[jp xb] w λe a=>e=aN (.bool aq)/\∃d,aJ a ((f.turned k).gI f.aI (f.bq k)) xb d/\bG w L a d:=by
 obtain⟨O,N,E,Q,R⟩:=h.cells;have S:=h.t.aI;rw[p]at E;have o:=zN h.kk
 have A:Hid (∀n,Calls prog 165 #[jp l.c] (w.drewN n) λe a=>e=aN (.tuple #[])/\cJ w L (f.turned k) xb f.aI l.c (a.setCell (aj xb 16) (.bool aq))/\a.cell? (aj xb 16)=aa (.bool av)/\a.frozen? (aj xb 16)=av):=λn=>by
  refine((h.tu n).open h.kk h.t.qn (h.t.who k h.kk).1 (h.t.who k h.kk).2.1).mono ?_;rintro e a ⟨rfl,i⟩;have j:=i.put;refine⟨rfl,?_,j.2.1.trans (by rw[show(f.at f.aI (k.open f.g)).opn=f.opn from rfl,p]),j.2.2⟩;have e:f.turned k={f.at f.aI (k.open f.g)with opn:=aq}:=by unfold Fx.turned Fx.bq;rw[aQ (by rw[p];decide)]
  rw[e];exact j.1
 have z:Hid (∀W,cJ w L (f.turned k) xb f.aI l.c W->Calls prog 166 #[jp xb,jp l.c] W λe a=>e=aN (.tuple #[.agg (aM (f.bq k).fst),.bool aq])/\cJ w L (f.turned k) xb f.aI l.c a):=λW b=>by refine(b.free o (h.t.vH h.kk).fine).mono ?_;rintro e a ⟨rfl,i,_⟩;rw[s];exact⟨rfl,i⟩
 have B:Hid (∀W,cJ w L (f.turned k) xb f.aI l.c W->Calls prog 168 #[jp l.c,.agg (aM (f.bq k).fst)] W λe a=>e=aN (.bool aq)/\cJ w L (f.turned k) xb f.aI l.c a):=λW b=>by refine(b.pay o).mono ?_;rintro e a ⟨rfl,i⟩;rw[jI q];exact⟨rfl,i⟩
 have y:Hid (∀W,cJ w L (f.turned k) xb f.aI l.c W->Calls prog 169 #[jp xb,jp l.c] W λe a=>e=aN (.tuple #[])/\∃d,aJ a ((f.turned k).gI f.aI (f.bq k)) xb d/\bG w L a d):=λW b=>
  b.gI o (h.t.vH h.kk) (h.t.who k h.kk).2.2 (zh s) q (by rw[TQ];exact h.qq)
 have D:Hid (∀W,cJ w L (f.turned k) xb f.aI l.c W->cJ w L (f.turned k) xb f.aI l.c (W.alloc (aA (aM (f.bq k).fst) 134))):=λW b=>b.below (bf);have C:Hid (∀W:az,cu (W.alloc (aA (aM (f.bq k).fst) 134)) W.heap.size (f.bq k).fst):=λW=>cu.of (cw W _);generalize (f.bq k).fst=r at*;generalize ((f.turned k).gI f.aI (f.bq k))=K at*;generalize f.turned k=M at*;generalize l.c=c at*;go_enter func107,ntmps107;go_wp2
 go_quiet (fail)
 go_wp2_with (first
  |(go_at_call 165;refine(A.out _).mono ?_;rintro e w1 ⟨rfl,F,d16,P⟩;have u:=aT F)
  |(go_at_call 166;refine(z.out _ u.out).mono ?_;rintro e J ⟨rfl,G⟩;have v:=aT (D.out _ G);obtain⟨T,U,V,X,Y,Z,s6,s7,s8,s9⟩:=C.out J)
  |(go_at_call 168;refine(B.out _ v.out).mono ?_;rintro e w3 ⟨rfl,I⟩;have x:=aT I)
  |(go_at_call 169;refine(y.out _ x.out).mono ?_;rintro e w4 ⟨rfl,H⟩))
 go_ret;exact⟨rfl,H⟩
def aeY(w f xb L k)(l:Lc)(h:qJ w f xb L k l)(j:f.opn=aq)(B:(f.turned k).free (f.bq k)=av):
  Calls prog 107 #[jp xb] w λe a=>e=aN (.bool av)/\∃b,aJ a ((f.turned k).at f.aI (f.bq k).lose) xb b/\bG w L a b:=by
 obtain⟨F,E,x,G,H⟩:=h.cells;have I:=h.t.aI;rw[j]at x;have i:=zN h.kk
 have q:Hid (∀n,cJ w L (f.turned k) xb f.aI l.c (w.drewN n)):=λn=>by rw[LP h.kk j];exact h.tu n
 have o:Hid (∀W,cJ w L (f.turned k) xb f.aI l.c W->Calls prog 166 #[jp xb,jp l.c] W λe a=>e=aN (.tuple #[.agg (aM (f.bq k).fst),.bool av])/\cJ w L (f.turned k) xb f.aI l.c a):=λW d=>by refine(d.free i (h.t.vH h.kk).fine).mono ?_;rintro e a ⟨rfl,g,_⟩;rw[B];exact⟨rfl,g⟩
 have p:Hid (∀W,cJ w L (f.turned k) xb f.aI l.c W->Calls prog 167 #[jp l.c] W λe a=>e=aN (.tuple #[])/\∃b,aJ a ((f.turned k).at f.aI (f.bq k).lose) xb b/\bG w L a b):=λW d=>by refine(d.lose i).mono ?_;rintro e a ⟨rfl,v,J,g,_,_,y⟩;exact⟨rfl,v,g,y⟩
 have u:Hid (∀W,cJ w L (f.turned k) xb f.aI l.c W->cJ w L (f.turned k) xb f.aI l.c (W.alloc (aA (aM (f.bq k).fst) 134))):=λW d=>d.below (bf);have s:Hid (∀W:az,cu (W.alloc (aA (aM (f.bq k).fst) 134)) W.heap.size (f.bq k).fst):=λW=>cu.of (cw W _);generalize (f.bq k).fst=r at*;generalize ((f.turned k).at f.aI (f.bq k).lose)=F' at*;generalize f.turned k=D at*;generalize l.c=c at*;go_enter func107,ntmps107;go_wp2
 go_quiet (fail)
 go_wp2_with (first
  |(go_at_call 166;refine(o.out _ (q.out _)).mono ?_;rintro e C ⟨rfl,z⟩;have m:=aT (u.out _ z);obtain⟨K,M,N,O,P,Q,R,S,T,U⟩:=s.out C)
  |(go_at_call 167;refine(p.out _ m.out).mono ?_;rintro e V ⟨rfl,A⟩))
 go_ret;exact⟨rfl,A⟩
def aeS(w f xb L k)(l:Lc)(h:qJ w f xb L k l)(j:f.opn=aq)(F:(f.turned k).free (f.bq k)=aq)(E:¬cW (f.bq k).fst.m<=(f.bq k).de):
  Calls prog 107 #[jp xb] w λe a=>e=aN (.bool av)/\∃d,aJ a (f.turned k) xb d/\bG w L a d:=by
 obtain⟨J,I,A,K,M⟩:=h.cells;have N:=h.t.aI;rw[j]at A;have i:=zN h.kk
 have u:Hid (∀n,cJ w L (f.turned k) xb f.aI l.c (w.drewN n)):=λn=>by rw[LP h.kk j];exact h.tu n
 have s:Hid (∀W,cJ w L (f.turned k) xb f.aI l.c W->Calls prog 166 #[jp xb,jp l.c] W λe a=>e=aN (.tuple #[.agg (aM (f.bq k).fst),.bool aq])/\cJ w L (f.turned k) xb f.aI l.c a):=λW b=>by refine(b.free i (h.t.vH h.kk).fine).mono ?_;rintro e a ⟨rfl,g,_⟩;rw[F];exact⟨rfl,g⟩
 have v:Hid (∀W,cJ w L (f.turned k) xb f.aI l.c W->Calls prog 168 #[jp l.c,.agg (aM (f.bq k).fst)] W λe a=>e=aN (.bool av)/\cJ w L (f.turned k) xb f.aI l.c a):=λW b=>by refine(b.pay i).mono ?_;rintro e a ⟨rfl,g⟩;rw[iY E];exact⟨rfl,g⟩
 have q:Hid (∀W,cJ w L (f.turned k) xb f.aI l.c W->∃d,aJ W (f.turned k) xb d/\bG w L W d):=λW b=>by obtain⟨z,O,g,_,_,B⟩:=b;exact⟨z,g,B⟩
 have y:Hid (∀W,cJ w L (f.turned k) xb f.aI l.c W->cJ w L (f.turned k) xb f.aI l.c (W.alloc (aA (aM (f.bq k).fst) 134))):=λW b=>b.below (bf);have x:Hid (∀W:az,cu (W.alloc (aA (aM (f.bq k).fst) 134)) W.heap.size (f.bq k).fst):=λW=>cu.of (cw W _);generalize (f.bq k).fst=r at*;generalize f.turned k=H at*;generalize l.c=c at*;go_enter func107,ntmps107;go_wp2
 go_quiet (fail)
 go_wp2_with (first
  |(go_at_call 166;refine(s.out _ (u.out _)).mono ?_;rintro e G ⟨rfl,C⟩;have o:=aT (y.out _ C);obtain⟨P,Q,R,S,T,U,V,X,Y,Z⟩:=x.out G)
  |(go_at_call 168;refine(v.out _ o.out).mono ?_;rintro e w3 ⟨rfl,D⟩;have p:=aT D))
 go_ret;exact⟨rfl,(q.out _ p.out)⟩
def aeV(w f xb L k)(l:Lc)(h:qJ w f xb L k l)(j:f.opn=aq)(p:(f.turned k).free (f.bq k)=aq)(o:cW (f.bq k).fst.m<=(f.bq k).de):
  Calls prog 107 #[jp xb] w λe a=>e=aN (.bool aq)/\∃d,aJ a ((f.turned k).gI f.aI (f.bq k)) xb d/\bG w L a d:=by
 obtain⟨J,I,B,K,M⟩:=h.cells;have N:=h.t.aI;rw[j]at B;have i:=zN h.kk
 have x:Hid (∀n,cJ w L (f.turned k) xb f.aI l.c (w.drewN n)):=λn=>by rw[LP h.kk j];exact h.tu n
 have v:Hid (∀W,cJ w L (f.turned k) xb f.aI l.c W->Calls prog 166 #[jp xb,jp l.c] W λe a=>e=aN (.tuple #[.agg (aM (f.bq k).fst),.bool aq])/\cJ w L (f.turned k) xb f.aI l.c a):=λW b=>by refine(b.free i (h.t.vH h.kk).fine).mono ?_;rintro e a ⟨rfl,g,_⟩;rw[p];exact⟨rfl,g⟩
 have y:Hid (∀W,cJ w L (f.turned k) xb f.aI l.c W->Calls prog 168 #[jp l.c,.agg (aM (f.bq k).fst)] W λe a=>e=aN (.bool aq)/\cJ w L (f.turned k) xb f.aI l.c a):=λW b=>by refine(b.pay i).mono ?_;rintro e a ⟨rfl,g⟩;rw[jI o];exact⟨rfl,g⟩
 have u:Hid (∀W,cJ w L (f.turned k) xb f.aI l.c W->Calls prog 169 #[jp xb,jp l.c] W λe a=>e=aN (.tuple #[])/\∃d,aJ a ((f.turned k).gI f.aI (f.bq k)) xb d/\bG w L a d):=λW b=>
  b.gI i (h.t.vH h.kk) (h.t.who k h.kk).2.2 (zh p) o (by rw[TQ];exact h.qq)
 have A:Hid (∀W,cJ w L (f.turned k) xb f.aI l.c W->cJ w L (f.turned k) xb f.aI l.c (W.alloc (aA (aM (f.bq k).fst) 134))):=λW b=>b.below (bf);have z:Hid (∀W:az,cu (W.alloc (aA (aM (f.bq k).fst) 134)) W.heap.size (f.bq k).fst):=λW=>cu.of (cw W _);generalize (f.bq k).fst=r at*;generalize ((f.turned k).gI f.aI (f.bq k))=G at*;generalize f.turned k=H at*;generalize l.c=c at*;go_enter func107,ntmps107;go_wp2
 go_quiet (fail)
 go_wp2_with (first
  |(go_at_call 166;refine(v.out _ (x.out _)).mono ?_;rintro e F ⟨rfl,C⟩;have q:=aT (A.out _ C);obtain⟨O,P,Q,R,S,T,U,V,X,Y⟩:=z.out F)
  |(go_at_call 168;refine(y.out _ q.out).mono ?_;rintro e Z ⟨rfl,E⟩;have s:=aT E)
  |(go_at_call 169;refine(u.out _ s.out).mono ?_;rintro e w4 ⟨rfl,D⟩))
 go_ret;exact⟨rfl,D⟩
def aeU(w f xb L)(h:aJ w f xb L)(k:f.aI<f.K.length)(a:L.cs[f.aI]? =aa ay):
  Calls prog 107 #[jp xb] w λe b=>e=aN (.bool av)/\∃m,b=w.drewN m:=by
 have g:=aO w xb 9 (.slice (aa (aj L.sb 0)) f.K.length f.K.length) h.box;have d:=aO w xb 15 (an f.aI) h.box
 have i:w.cell? (aj L.sb f.aI)=aa (.pointer ay):=by
  have e:(L.cs.map λl=>l.map Lc.c)[f.aI]? =aa ay:=by rw[iT,a];rfl
  exact aG h.dO (sA e)
 have j:(f.aI:Int)<(f.K.length:Int):=ak;clear h;go_enter func107,ntmps107;go_wp2
 go_quiet (fail)
 go_wp2;go_ret;exact⟨rfl,_,rfl⟩
def ZT(w f xb L)(h:aJ w f xb L)(g:f.yU)(t:∀k,f.K[f.aI]? =aa (aa k)->k.q.length<=1048576):
  Calls prog 107 #[jp xb] w λe o=>e=aN (.bool f.bT.2)/\∃p,aJ o f.bT.1 xb p/\bG w L o p:=by
 have v:=g.aI;have b:=ef g.aI;cases e:f.K[f.aI]with
 |none=>
  rw[e]at b;have u:f.aI<L.cs.length:=by rw[h.cs.len];exact g.aI
  have n:L.cs[f.aI]? =aa ay:=by
   have j:=ef u;have s:=h.cs.at_ _ _ _ b j;cases r:L.cs[f.aI]with
   |none=>rw[r]at j;exact j
   |some l=>rw[r]at s;exact absurd s (by simp[oJ])
  have i:f.bT=(f,av):=by unfold Fx.bT;rw[b]
  rw[i];refine(aeU w f xb L h g.aI n).mono ?_;rintro e o ⟨rfl,m,rfl⟩;exact⟨rfl,L,h.drewN m,⟨λ_ _=>rfl,aV.below (iX (Below.refl _ _) m)⟩⟩
 |some k=>
  rw[e]at b;obtain⟨l,n,_⟩:=h.sat b;have hI:qJ w f xb L k l:=⟨h,b,n,g,t k b⟩;have i:f.bT=if(f.turned k).free (f.bq k)then(if cW (f.bq k).fst.m<=(f.bq k).de then((f.turned k).gI f.aI (f.bq k),aq)else(f.turned k,av))else((f.turned k).at f.aI (f.bq k).lose,av):=by unfold Fx.bT;rw[b]
  rw[i];cases c:f.opn<;>cases d:(f.turned k).free (f.bq k)
  ·simp;exact aeZ w f xb L k l hI c d
  ·by_cases a:cW (f.bq k).fst.m<=(f.bq k).de
   ·simp only[cS,a];exact aeW w f xb L k l hI c d a
   ·simp only[cS,a,dQ];exact aeT w f xb L k l hI c d a
  ·simp only[eR,dQ];exact aeY w f xb L k l hI c d
  ·by_cases a:cW (f.bq k).fst.m<=(f.bq k).de
   ·simp only[cS,a];exact aeV w f xb L k l hI c d a
   ·simp only[cS,a,dQ];exact aeS w f xb L k l hI c d a
def Fx.pass(f:Fx):Fx:={f with aI:=(f.aI+1)%f.K.length,opn:=av}
def X0{w f xb L}(h:aJ w f xb L):aJ ((w.setCell (aj xb 15) (an (((f.aI+1)%f.K.length:Nat):Int))).setCell (aj xb 16) (.bool av)) f.pass xb L:=by have a:aJ (w.setCell (aj xb 15) (an (((f.aI+1)%f.K.length:Nat):Int))) {f with aI:=(f.aI+1)%f.K.length} xb L:=h.put 15 _ {f with aI:=(f.aI+1)%f.K.length} (by simp[jN]) rfl rfl rfl rfl rfl ⟨rfl,rfl,rfl⟩;exact a.put 16 _ f.pass (by simp[jN,Fx.pass]) rfl rfl rfl rfl rfl ⟨rfl,rfl,rfl⟩
def ZJ(w f xb L)(h:aJ w f xb L)(l:f.aI<f.K.length)(hc:f.g.cl=f.K.length)(n:f.K.length<=65535):
  Calls prog 108 #[jp xb] w λe m=>e=aN (.tuple #[])/\aJ m f.pass xb L/\bG w L m L:=by
 have b:w.cell? (aj xb 1)=aa (an f.K.length):=by rw[<-hc];exact aG h.box rfl
 have c:=aO w xb 15 (an f.aI) h.box;have o:=aO w xb 16 (.bool f.opn) h.box;have f15:=bz h.box 15;have f16:=bz h.box 16;have a:Hid (aJ ((w.setCell (aj xb 15) (an (((f.aI+1)%f.K.length:Nat):Int))).setCell (aj xb 16) (.bool av)) f.pass xb L/\L.own xb≠0):=⟨X0 h,by rw[h.ey];omega⟩;obtain⟨N,i⟩:∃N,f.K.length=N:=⟨_,rfl⟩;obtain⟨j,k⟩:∃j,f.aI=j:=⟨_,rfl⟩;rw[i]at l n b a;rw[k]at l c a;have p:¬N=0:=ak
 have q:(eP.wrap ((j:Int)+1)).tmod (N:Int)=(((j+1)%N:Nat):Int):=by rw[iG ak ak,show((j:Int)+1)=((j+1:Nat):Int) by omega];rfl
 clear h hc i k;generalize f.opn=op at*;go_enter func108,ntmps108
 go_upto_region 0 with fail
 refine iJ ?_;refine dB (S:=λW=>W.cell? (aj xb 1)=aa (an N)/\W.cell? (aj xb 15)=aa (an j)) 16 aS ⟨b,c⟩ ?_;intro hS;refine gk 0 ?_;refine gk 1 ?_;refine gk 2 ?_;refine gk 3 ?_;refine gk 4 ?_;refine gs 5 ?_;refine gk 6 ?_;refine gk 7 ?_;refine gk 8 ?_;refine gk 9 ?_;refine gk 10 ?_;refine gs 11 ?_;refine gk 12 ?_;refine gk 13 ?_;refine gk 14 ?_;refine gk 15 ?_;refine gz λK d=>?_;go_simp;refine d.out _ _ ?_;clear d K;refine eu aS ?_ _;refine gT ?_;go_wp2_with fail;exact eO rfl rfl ⟨rfl,a.out.1.drew,⟨λ_ _=>rfl,(((aV.refl _ _).set a.out.2 _).set a.out.2 _).drew⟩⟩
def Fx.turns:Nat->Nat->Fx->Fx
 |0,_,f=>f
 |n+1,p,f=>if(f.fl.length:Int)<f.g.wk/\(p:Int)<=f.g.cl then(if f.bT.2 then Fx.turns n 0 f.bT.1 else Fx.turns n (p+1) f.bT.1.pass)else f
def Fx.fuel(f:Fx)(p:Nat):Nat:=(f.g.wk.toNat-f.fl.length) *(f.g.cl.toNat+2)+(f.g.cl.toNat+1-p)
structure Abides(P:Fx->Prop):Prop where
 zM:∀f,P f->f.yU/\(∀k,f.K[f.aI]? =aa (aa k)->k.q.length<=1048576)/\f.g.cl=f.K.length/\f.K.length<=65535/\1<=f.g.wk
 used:∀f,P f->(f.fl.length:Int)<f.g.wk->f.bT.2=aq->P f.bT.1
 pass:∀f,P f->f.bT.2=av->P f.bT.1.pass
def zP(f:Fx):f.bT.1.g=f.g/\f.bT.1.K.length=f.K.length/\f.bT.1.aI=f.aI/\(f.bT.2=aq->f.bT.1.fl.length=f.fl.length+1)/\(f.bT.2=av->f.bT.1.fl=f.fl):=by
 unfold Fx.bT;split
 ·split
  ·split
   ·refine⟨rfl,by simp[Fx.gI,Fx.turned],rfl,λ_=>?_,λh=>by simp at h⟩;simp only[Fx.gI];exact KJ (Sc _ _)
   ·exact⟨rfl,by simp[Fx.turned],rfl,λh=>by simp at h,λ_=>rfl⟩
  ·exact⟨rfl,by simp[Fx.turned],rfl,λh=>by simp at h,λ_=>rfl⟩
 ·exact⟨rfl,rfl,rfl,λh=>by simp at h,λ_=>rfl⟩
def Jm{f:Fx}{p:Nat}(h:(f.fl.length:Int)<f.g.wk)(e:f.bT.2=aq):f.bT.1.fuel 0<f.fuel p:=by obtain⟨a,_,_,b,_⟩:=zP f;unfold Fx.fuel;rw[a,b e];obtain⟨d,c⟩:∃d,f.g.wk.toNat-f.fl.length=d+1:=⟨f.g.wk.toNat-f.fl.length-1,ak⟩;rw[c,show f.g.wk.toNat-(f.fl.length+1)=d by omega,gK,Nat.one_mul];omega
def Jl{f:Fx}{p:Nat}(d:(p:Int)<=f.g.cl)(c:f.bT.2=av):f.bT.1.pass.fuel (p+1)<f.fuel p:=by obtain⟨a,_,_,_,b⟩:=zP f;unfold Fx.fuel;show(f.bT.1.g.wk.toNat-f.bT.1.fl.length) *(f.bT.1.g.cl.toNat+2)+(f.bT.1.g.cl.toNat+1-(p+1))<_;rw[a,b c];omega
def TS:∀(n m p:Nat) (f:Fx),f.fuel p<=n->f.fuel p<=m->Fx.turns n p f=Fx.turns m p f:=by
 intro n;induction n with
 |zero=>
  intro m p f b hm;cases m with
  |zero=>rfl
  |succ m=>
   rw[Fx.turns,Fx.turns]
   by_cases a:(f.fl.length:Int)<f.g.wk/\(p:Int)<=f.g.cl
   ·exfalso;unfold Fx.fuel at b;have:f.g.cl.toNat+1-p=0:=ak;omega
   ·rw[aQ a]
 |succ n d=>
  intro m p f b hm;cases m with
  |zero=>
   rw[Fx.turns,Fx.turns]
   by_cases a:(f.fl.length:Int)<f.g.wk/\(p:Int)<=f.g.cl
   ·exfalso;unfold Fx.fuel at hm;have:f.g.cl.toNat+1-p=0:=ak;omega
   ·rw[aQ a]
  |succ m=>
   rw[Fx.turns,Fx.turns]
   by_cases a:(f.fl.length:Int)<f.g.wk/\(p:Int)<=f.g.cl
   ·rw[aX a,aX a];cases c:f.bT.2 with
    |true=>
     simp only[cS];have:=Jm (p:=p) a.1 c;exact d m 0 _ ak ak
    |false=>
     simp;have:=Jl (p:=p) a.2 c;exact d m (p+1) _ ak ak
   ·rw[aQ a,aQ a]
def aJ.Br{w f xb L}(h:aJ w f xb L):fI w xb 18 L.hv f.fl.length L.hf:=
 ⟨aG h.box rfl,h.fl.row,λe=>by have:=h.fl.own xb e.symm;rw[h.ey]at this;omega⟩
def bG.drewN{w W L M}(h:bG w L W M)(n):bG w L (W.drewN n) M:=⟨h.own,h.cD.trans (.below (iX (Below.refl _ _) n))⟩
structure uV(P:Fx->Prop)(w:az)(L:dG)(g:Cf)(F:Fx)(xb p:Nat)(wr:az)(f1:Fx)(a:dG):Prop where
 at_:aJ wr f1 xb a
 gJ:bG w L wr a
 pp:P f1
 gg:f1.g=g
 end_:Fx.turns (f1.fuel p) p f1=F
def uV.len{P w wr L L1 g F f1 xb p}(h:uV P w L g F xb p wr f1 L1):(g.wk.toNat-qU (wr.cell? (aj xb 18))) *(g.cl.toNat+2)+(g.cl.toNat+1-p)=f1.fuel p:=by obtain⟨a,b,e,_⟩:=h.at_.Br.form;rw[h.at_.Br.head,e];unfold Fx.fuel;rw[h.gg];rfl
def aeM{f1 F}{g:Cf}{p:Nat}(d:f1.g=g)(a:(f1.fl.length:Int)<g.wk)(c:(p:Int)<=g.cl)(b:f1.bT.2=aq)(he:Fx.turns (f1.fuel p) p f1=F):Fx.turns (f1.bT.1.fuel 0) 0 f1.bT.1=F:=by subst d;have hm:=Jm (p:=p) a b;obtain⟨m,e⟩:∃m,f1.fuel p=m+1:=⟨f1.fuel p-1,ak⟩;rw[e,Fx.turns,aX ⟨a,c⟩,aX b]at he;rw[<-he];exact TS _ _ _ _ (bC _) ak
def aeL{f1 F}{g:Cf}{p:Nat}(c:f1.g=g)(b:(f1.fl.length:Int)<g.wk)(a:(p:Int)<=g.cl)(d:f1.bT.2=av)(he:Fx.turns (f1.fuel p) p f1=F):Fx.turns (f1.bT.1.pass.fuel (p+1)) (p+1) f1.bT.1.pass=F:=by subst c;have hm:=Jl a d;obtain⟨m,e⟩:∃m,f1.fuel p=m+1:=⟨f1.fuel p-1,ak⟩;rw[e,Fx.turns,aX ⟨b,a⟩,aQ (by grind)]at he;rw[<-he];exact TS _ _ _ _ (bC _) ak
def ZP(P:Fx->Prop)(C:Abides P)(w f xb L)(h:aJ w f xb L)(D:P f):
  Calls prog 63 #[jp xb] w λe c=>e=aN (.tuple #[])/\P (Fx.turns (f.fuel 0) 0 f)/\∃b,aJ c (Fx.turns (f.fuel 0) 0 f) xb b/\bG w L c b:=by
 have I:Hid (uV P w L f.g (Fx.turns (f.fuel 0) 0 f) xb 0 w f L):=⟨h,bG.refl _ _,D,rfl,rfl⟩;have r:=aT C;have V:f.g.cl<=65535:=by have:=(C.zM f D).2.2;omega
 generalize Fx.turns (f.fuel 0) 0 f=F at*;go_enter func63,ntmps63;go_wp2
 go_loopw [2] (λA wr=>∃p:Nat,A=an p/\p<=65536/\Hid (∃f1 j,uV P w L f.g F xb p wr f1 j)) (λA W=>(f.g.wk.toNat-qU (W.cell? (aj xb 18))) *(f.g.cl.toNat+2)+(f.g.cl.toNat+1-(gU A).toNat))
 case atStart=>exact⟨0,rfl,ak,f,L,I.out⟩
 case round=>
  obtain⟨p,rfl,X,hR⟩:=hrel;obtain⟨f1,j,T⟩:=hR.out;have U:wr.cell? (aj xb 7)=aa (an f.g.wk):=by rw[<-T.gg];exact aG T.at_.box rfl
  have S:wr.cell? (aj xb 1)=aa (an f.g.cl):=by rw[<-T.gg];exact aG T.at_.box rfl
  have q:Hid (∀n,Calls prog 77 #[.pointer (aa (aj xb 18))] (wr.drewN n) λe c=>e=aN (an f1.fl.length)/\c=wr.drewN n):=λn=>Qx xb 18 _ j.hv j.hf (wr.drewN n) (T.at_.drewN n).Br;have d:=aT T;have B:Hid (∀n,F=f1->P F/\∃b,aJ (wr.drewN n) F xb b/\bG w L (wr.drewN n) b):=λn e=>by rw[e];exact⟨T.pp,j,T.at_.drewN n,T.gJ.drewN n⟩
  by_cases k:(f1.fl.length:Int)<f.g.wk
  ·have d1:=jI k
   by_cases o:(p:Int)<=f.g.cl
   ·have d2:=jI o
    have s:Hid (∀n,Calls prog 107 #[jp xb] (wr.drewN n) λe c=>e=aN (.bool f1.bT.2)/\∃b,aJ c f1.bT.1 xb b/\bG w L c b):=λn=>by have T:=d.out;have a:=r.out.zM f1 T.pp;refine(ZT (wr.drewN n) f1 xb j (T.at_.drewN n) a.1 a.2.1).mono ?_;rintro e c ⟨rfl,b,b1,m⟩;exact⟨rfl,b,b1,(T.gJ.drewN n).trans m⟩
    cases i:f1.bT.2 with
    |true=>
     rw[i]at s
     have y:Hid (∀c,(∃b,aJ c f1.bT.1 xb b/\bG w L c b)->∃b,uV P w L f.g F xb 0 c f1.bT.1 b):=λc ⟨b,b1,m⟩=>by have T:=d.out;refine⟨b,b1,m,r.out.used f1 T.pp (by rw[T.gg];exact k) i,(zP f1).1.trans T.gg,?_⟩;exact aeM T.gg k o i T.end_
     have HM:Hid (f1.bT.1.fuel 0<f1.fuel p):=Jm (by rw[d.out.gg];exact k) i;go_wp2
     go_quiet ((go_at_call 77;exact GA (q.out _)))
     go_wp2_with (go_at_call 107;refine(s.out _).mono ?_;rintro e t ⟨rfl,z⟩;have v:Hid (∃b,uV P w L f.g F xb 0 t f1.bT.1 b):=y.out _ z);obtain⟨b,l⟩:=v.out;refine⟨⟨0,rfl,ak,f1.bT.1,b,l⟩,?_⟩;have M:=l.len;have N:=d.out.len;have:=HM.out;simp only[gU,Int.toNat_zero,UN]at*;omega
    |false=>
     rw[i]at s
     have y:Hid (∀c,(∃b,aJ c f1.bT.1 xb b/\bG w L c b)->Calls prog 108 #[jp xb] c λe E=>e=aN (.tuple #[])/\∃b,uV P w L f.g F xb (p+1) E f1.bT.1.pass b):=λc ⟨b,b1,m⟩=>by have T:=d.out;have a:=r.out.zM f1 T.pp;have u:=zP f1;refine(ZJ c _ xb b b1 (by rw[u.2.2.1,u.2.1];exact a.1.aI) (by rw[u.1,u.2.1];exact a.2.2.1) (by rw[u.2.1];exact a.2.2.2.1)).mono ?_;rintro e E ⟨rfl,J,K⟩;refine⟨rfl,b,J,m.trans K,r.out.pass f1 T.pp i,u.1.trans T.gg,?_⟩;exact aeL T.gg k o i T.end_
     have HM:Hid (f1.bT.1.pass.fuel (p+1)<f1.fuel p):=Jl (by rw[d.out.gg];exact o) i;have Y:p<=65535:=ak;go_wp2
     go_quiet ((go_at_call 77;exact GA (q.out _)))
     go_wp2_with (first
      |(go_at_call 107;refine(s.out _).mono ?_;rintro e t ⟨rfl,z⟩;have v:Hid (∃b,aJ t f1.bT.1 xb b/\bG w L t b):=z)
      |(go_at_call 108;refine(y.out _ v.out).mono ?_;rintro e R ⟨rfl,Q⟩;have G:Hid (∃b,uV P w L f.g F xb (p+1) R f1.bT.1.pass b):=Q))
     obtain⟨b,l⟩:=G.out;refine⟨⟨p+1,by go_num,ak,f1.bT.1.pass,b,l⟩,?_⟩;have M:=l.len;have N:=d.out.len;have:=HM.out;have O:((p:Int)+1).toNat=p+1:=ak;simp only[gU,UN,O]at*;omega
   ·have d2:=iY o
    have hF:F=f1:=by
     rw[<-d.out.end_];cases f1.fuel p with
     |zero=>rfl
     |succ n=>rw[Fx.turns,aQ (by rw[d.out.gg];omega)]
    have H:=λn=>B.out n hF;have x:Hid (∀n,P F/\∃b,aJ (wr.drewN n) F xb b/\bG w L (wr.drewN n) b):=H;go_wp2
    go_quiet ((go_at_call 77;exact GA (q.out _)))
    go_wp2;exact eO rfl rfl ⟨rfl,x.out _⟩
  ·have d1:=iY k
   have hF:F=f1:=by
    rw[<-d.out.end_];cases f1.fuel p with
    |zero=>rfl
    |succ n=>rw[Fx.turns,aQ (by rw[d.out.gg];omega)]
   have x:Hid (∀n,P F/\∃b,aJ (wr.drewN n) F xb b/\bG w L (wr.drewN n) b):=λn=>B.out n hF;go_wp2
   go_quiet ((go_at_call 77;exact GA (q.out _)))
   go_wp2;exact eO rfl rfl ⟨rfl,x.out _⟩
def Fx.fZ(f:Fx)(j:Nat):Fx:=match f.K[j]? with
 |some (aa k)=>if k.gone then{f with K:=f.K.set j ay,opn:=if f.aI=j then av else f.opn}else f
 |_=>f
def Fx.dg(f:Fx)(j:Nat):Fx:=(eF j).foldl Fx.fZ f
def xl(f:Fx)(j:Nat):f.dg (j+1)=(f.dg j).fZ j:=by simp[Fx.dg,yq]
def Fx.uT(f:Fx):Prop:=∀b∈f.fl,∀k,f.K[b.s]? =aa (aa k)->k.gone=av
def l7{f:Fx}(h:f.uT)(j):(f.fZ j).uT/\(f.fZ j).K.length=f.K.length:=by
 unfold Fx.fZ;split
 ·split
  ·refine⟨λb c k d=>?_,aC⟩;have a:=d;rw[jF]at a;split at a
   ·split at a
    ·simp at a
    ·simp at a
   ·exact h b c k a
  ·exact⟨h,rfl⟩
 ·exact⟨h,rfl⟩
section
variable {W:az} {f:Fx} {xb j:Nat} {L:dG}
def aJ.leave(h:aJ W f xb L)(m:∀b∈f.fl,b.s≠j):aJ (W.setCell (aj L.sb j) (.pointer ay)) {f with K:=f.K.set j ay} xb {L with cs:=L.cs.set j ay}:=by
 have a:fq W (W.setCell (aj L.sb j) (.pointer ay)) L.own L.own λt=>t=2:=⟨λb c p=>bH λe=>p (by rw[e];exact h.iF),λ_ _=>rfl⟩;have b1:=a.blk h.box h.ey ak;have d:=a.row h.bD h.jw ak;have g:=a.row h.log h.lR ak;have k:=a.eW h.eW h.je ak;refine⟨?_,b1.2,?_,h.iF,a.Ej h.cs (λx _=>by omega) trivial,⟨h.js.len,λi b l c n=>?_⟩,a.oT h.fl ak,d.1,d.2,g.1,g.2,k.1,k.2⟩
 ·have e:=b1.1;simpa[jN]using e
 ·have e:=cz h.dO j (kN ay);rw[SA]at e;rw[CQ];exact e
 ·refine(h.js.at_ i b l c n).aside a (λlc o=>⟨lc,?_,rfl⟩) ak;rw[CN (dF (m b (gS c)))];exact o
end
structure oC(w:az)(L:dG)(f:Fx)(xb j:Nat)(wr:az)(a:dG):Prop where
 at_:aJ wr (f.dg j) xb a
 gJ:bG w L wr a
 sb:a.sb=L.sb
 len:(f.dg j).K.length=f.K.length
 stay:(f.dg j).uT
def oC.same{w wr L L1 f xb j}(h:oC w L f xb j wr L1)(e:(f.dg j).fZ j=f.dg j):oC w L f xb (j+1) wr L1:=by
 refine⟨?_,h.gJ,h.sb,?_,?_⟩<;>rw[xl,e]
 ·exact h.at_
 ·exact h.len
 ·exact h.stay
def oC.next{w wr L c}{f:Fx}{xb j:Nat}{k:Ck}(h:oC w L f xb j wr c)(i:(f.dg j).K[j]? =aa (aa k))(g:k.gone=aq):
  oC w L f xb (j+1) (if(f.dg j).aI=j then(wr.setCell (aj L.sb j) (.pointer ay)).setCell (aj xb 16) (.bool av)else wr.setCell (aj L.sb j) (.pointer ay)) {c with cs:=c.cs.set j ay}:=by
 have o:∀b∈(f.dg j).fl,b.s≠j:=λb n e=>by have:=h.stay b n k (by rw[e];exact i);rw[g]at this;cases this
 have d:=h.at_.leave o;have m:wr.setCell (aj c.sb j) (.pointer ay)=wr.setCell (aj L.sb j) (.pointer ay):=by rw[h.sb]
 rw[m]at d;have l:c.own L.sb≠0:=by rw[<-h.sb,h.at_.iF];omega
 have p:c.own xb≠0:=by rw[h.at_.ey];omega
 have e:(f.dg j).fZ j={f.dg j with K:=(f.dg j).K.set j ay,opn:=if(f.dg j).aI=j then av else(f.dg j).opn}:=by unfold Fx.fZ;rw[i];simp only[g,cS]
 obtain⟨q,r⟩:=l7 h.stay j;refine⟨?_,?_,h.sb,by rw[xl,r];exact h.len,by rw[xl];exact q⟩
 ·rw[xl,e]
  by_cases a:(f.dg j).aI=j
  ·rw[aX a,aX a];exact d.put 16 (.bool av) {f.dg j with K:=(f.dg j).K.set j ay,opn:=av} (by simp[jN]) rfl rfl rfl rfl rfl ⟨rfl,rfl,rfl⟩
  ·rw[aQ a,aQ a];exact d
 ·refine h.gJ.trans ⟨λ_ _=>rfl,?_⟩
  by_cases a:(f.dg j).aI=j
  ·rw[aX a];exact((aV.refl _ _).set l _).set p _
  ·rw[aQ a];exact(aV.refl _ _).set l _
def oC.cells{w wr L L1 f xb j}(h:oC w L f xb j wr L1):wr.cell? (aj xb 9)=aa (.slice (aa (aj L.sb 0)) f.K.length f.K.length)/\wr.cell? (aj xb 15)=aa (an (f.dg j).aI)/\wr.cell? (aj xb 16)=aa (.bool (f.dg j).opn)/\wr.frozen? (aj xb 16)=av/\wr.frozen? (aj L.sb j)=av/\L.sb≠xb:=by
 refine⟨?_,aG h.at_.box rfl,aG h.at_.box rfl,bz h.at_.box 16,?_,λe=>?_⟩
 ·have:=aG h.at_.box (i:=9) (v:=.slice (aa (aj L1.sb 0)) (f.dg j).K.length (f.dg j).K.length) rfl;rw[h.sb,h.len]at this;exact this
 ·rw[<-h.sb];exact bz h.at_.dO j
 ·have:=h.at_.iF;rw[h.sb,e,h.at_.ey]at this;omega
def oC.aI{w wr L L1 f xb j v}(h:oC w L f xb j wr L1)(hv:(f.dg j).K[j]? =aa v):∃u:aY Nat,wr.cell? (aj L.sb j)=aa (kN u)/\(v=ay->u=ay)/\∀k,v=aa k->∃c,u=aa c/\fu 109 #[jp c] wr (.bool k.gone):=by
 have g:j<L1.cs.length:=by rw[h.at_.cs.len];exact(eL.1 hv).1
 have b:=ef g;have hr:=h.at_.cs.at_ j _ _ hv b;have d:(L1.cs.map λl=>l.map Lc.c)[j]? =aa (L1.cs[j].map Lc.c):=by rw[iT,b];rfl
 refine⟨L1.cs[j].map Lc.c,?_,λe=>?_,λk e=>?_⟩
 ·rw[<-h.sb];exact aG h.at_.dO (sA d)
 ·subst e;cases a:L1.cs[j]with
  |none=>rfl
  |some l=>rw[a]at hr;exact absurd hr (by simp[oJ])
 ·subst e;cases a:L1.cs[j]with
  |none=>rw[a]at hr;exact absurd hr (by simp[oJ])
  |some l=>
   rw[a]at hr;exact⟨l.c,rfl,F9 _ _ _ _ _ _ _ _ wr hr.1⟩
def PK(w f xb L)(h:aJ w f xb L)(q:f.uT)(I:f.K.length<=65535):
  Calls prog 64 #[jp xb] w λe B=>e=aN (.tuple #[])/\∃g,aJ B (f.dg f.K.length) xb g/\bG w L B g:=by
 have G:=aO w xb 9 (.slice (aa (aj L.sb 0)) f.K.length f.K.length) h.box;have E:Hid (oC w L f xb 0 w L):=⟨h,bG.refl _ _,rfl,rfl,q⟩;obtain⟨N,r⟩:∃N,f.K.length=N:=⟨_,rfl⟩;have x:=aT r;rw[r]at G I⊢;clear h q r;go_enter func64,ntmps64;go_wp2
 go_loopw [9] (λi wr=>∃j:Nat,j<=N/\i=an j/\Hid (∃l,oC w L f xb j wr l)) (λi _=>N-(gU i).toNat)
 case atStart=>exact⟨0,eo _,rfl,L,E.out⟩
 case round=>
  obtain⟨j,S,rfl,y⟩:=hrel;obtain⟨l,A⟩:=y.out;obtain⟨H,P,Q,f16,R,O⟩:=A.cells;rw[x.out]at H
  by_cases M:j<N
  ·have J:decide ((j:Int)<(N:Int))=aq:=bY;obtain⟨v,hv⟩:∃v,(f.dg j).K[j]? =aa v:=⟨(f.dg j).K[j]'(by rw[A.len,x.out];exact M),by rw[ef]⟩;obtain⟨u,s,p,o⟩:=A.aI hv;cases v with
   |none=>
    rw[p rfl]at s;have a:=aT (A.same (by unfold Fx.fZ;rw[hv]));simp only[kN,Vr]at s;clear A hv p o;go_wp2;refine⟨⟨j+1,ak,by go_num,l,a.out⟩,?_⟩;simp[gU];omega
   |some k=>
    obtain⟨c,rfl,b⟩:=o k rfl;simp only[kN,tr]at s;cases d:k.gone with
    |false=>
     have a:=aT (A.same (by unfold Fx.fZ;rw[hv];simp[d]));have n:Hid (fu 109 #[jp c] wr (.bool av)):=by rw[d]at b;exact b
     clear A hv p o b d;go_wp2_with (go_at_call 109;refine n.out.mono ?_;rintro e C ⟨rfl,rfl⟩);refine⟨⟨j+1,ak,by go_num,l,a.out⟩,?_⟩;simp[gU];omega
    |true=>
     have a:Hid (∃F,oC w L f xb (j+1) (if(f.dg j).aI=j then(wr.setCell (aj L.sb j) (.pointer ay)).setCell (aj xb 16) (.bool av)else wr.setCell (aj L.sb j) (.pointer ay)) F):=⟨_,A.next hv d⟩;have n:Hid (fu 109 #[jp c] wr (.bool aq)):=by rw[d]at b;exact b
     have T:¬xb=L.sb:=λe=>O e.symm;clear A hv p o b d y;generalize (f.dg j).aI=t at*;generalize (f.dg j).opn=op at*
     by_cases m:t=j
     ·have q:((t:Int)==(j:Int))=aq:=by simp[m]
      rw[aX m]at a;clear m;go_wp2_with (go_at_call 109;refine n.out.mono ?_;rintro e C ⟨rfl,rfl⟩);refine⟨⟨j+1,ak,by go_num,a.out⟩,?_⟩;simp[gU];omega
     ·have q:((t:Int)==(j:Int))=av:=bY;rw[aQ m]at a;clear m;go_wp2_with (go_at_call 109;refine n.out.mono ?_;rintro e C ⟨rfl,rfl⟩);refine⟨⟨j+1,ak,by go_num,a.out⟩,?_⟩;simp[gU];omega
  ·have J:decide ((j:Int)<(N:Int))=av:=bY;have z:j=N:=ak;have D:Hid (∃g,aJ wr (f.dg N) xb g/\bG w L wr g):=⟨l,by rw[<-z];exact A.at_,A.gJ⟩;clear A z;go_wp2;exact eO rfl rfl ⟨rfl,D.out⟩
def Fx.halt(f:Fx):Fx:={f with stop:=aq}
def ZN(w:az)(f:Fx)(xb:Nat)(L:dG)(h:aJ w f xb L):Calls prog 42 #[jp xb] w λe a=>e=aN (.tuple #[])/\aJ a f.halt xb L/\bG w L a L:=by
 have c:=aO w xb 14 (.bool f.stop) h.box;have f14:=bz h.box 14
 have b:Hid (aJ (w.setCell (aj xb 14) (.bool aq)) f.halt xb L/\bG w L (w.setCell (aj xb 14) (.bool aq)) L):=
  ⟨h.put 14 (.bool aq) f.halt (by simp[jN,Fx.halt]) rfl rfl rfl rfl rfl ⟨rfl,rfl,rfl⟩,λ_ _=>rfl,(aV.refl _ _).set (by show L.own xb≠0;rw[h.ey];omega) _⟩
 clear h;go_enter func42,ntmps42;go_wp2;exact eO rfl rfl ⟨rfl,b.out⟩
def Fx.nobody(f:Fx)(u:Int):Prop:=∀(s:Nat) k,f.K[s]? =aa (aa k)->k.no≠u
structure Fx.Is(f:Fx)(u:Int)(s:Nat)(k:Ck):Prop where
 at_:f.K[s]? =aa (aa k)
 no:k.no=u
 one:∀(t:Nat) a,f.K[t]? =aa (aa a)->a.no=u->t=s
section
variable {w:az} {f:Fx} {xb:Nat} {L:dG}
def aJ.names(h:aJ w f xb L):∃no:Nat->Int,∀(s:Nat) l k,L.cs[s]? =aa (aa l)->f.K[s]? =aa (aa k)->no l.c=k.no/\w.cell? (aj l.c 0)=aa (an (no l.c)):=by
 obtain⟨no,z⟩:=Fh (λx (n:Int)=>∃(s:Nat) (l:Lc) (k:Ck),f.K[s]? =aa (aa k)/\L.cs[s]? =aa (aa l)/\l.c=x/\n=k.no) 0 (by rintro x a b ⟨s,l,k,q,r,t,rfl⟩ ⟨C,F,D,g,u,v,rfl⟩;obtain⟨_,_,_,A⟩:=h.aI r;obtain⟨_,_,_,B⟩:=h.aI u;have m:=A.1;have o:=B.1;rw[t]at m;rw[v]at o;have:s=C:=ak;subst this;rw[q]at g;cases g;rfl)
 refine⟨no,λs l k j i=>?_⟩;have e:=z l.c k.no ⟨s,l,k,i,j,rfl,rfl⟩;obtain⟨E,d,y,_⟩:=h.aI j;rw[i]at d;cases d;exact⟨e,by rw[e];exact aG y.p.box rfl⟩
def Jn(h:aJ w f xb L)(hf:f.K.length<=65535){u s k l}(m:f.Is u s k)(g:L.cs[s]? =aa (aa l)):bO 68 #[jp xb,an u] w (jp l.c):=by
 obtain⟨no,i⟩:=h.names;have hS:qH w xb L.sb f.K.length (L.cs.map λl=>l.map Lc.c):=⟨aG h.box rfl,by simp[h.cs.len],hf,λj v r=>aG h.dO (sA r),⟨_,h.dO⟩⟩;refine(Pn xb L.sb f.K.length _ u no w hS λc q=>?_).mono ?_
 ·obtain⟨t,n,a,rfl⟩:=qj.1 q;obtain⟨d,b,_⟩:=h.aI a;exact(i t n d a b).2
 ·rintro e z ⟨rfl,p⟩;refine⟨?_,p⟩;have o:=(i s l k g m.at_).1;have hm:=qj.2 ⟨s,l,g,rfl⟩;cases e:(cE (L.cs.map λl=>l.map Lc.c)).find? λc=>decide (no c=u)with
  |none=>
   have:=GZ.1 e l.c hm;simp[o,m.no]at this
  |some c=>
   have x:no c=u:=by grind
   obtain⟨t,n,a,rfl⟩:=qj.1 (Vb e);obtain⟨d,b,_⟩:=h.aI a;have y:=m.one t d b ((i t n d a b).1.symm.trans x);subst y;rw[g]at a;cases a;rfl
def Jo(h:aJ w f xb L)(hf:f.K.length<=65535){u}(p:f.nobody u):bO 68 #[jp xb,an u] w (.pointer ay):=by
 obtain⟨no,i⟩:=h.names;have hS:qH w xb L.sb f.K.length (L.cs.map λl=>l.map Lc.c):=⟨aG h.box rfl,by simp[h.cs.len],hf,λj v n=>aG h.dO (sA n),⟨_,h.dO⟩⟩;refine(Pn xb L.sb f.K.length _ u no w hS λc m=>?_).mono ?_
 ·obtain⟨t,g,a,rfl⟩:=qj.1 m;obtain⟨d,b,_⟩:=h.aI a;exact(i t g d a b).2
 ·rintro e q ⟨rfl,k⟩;refine⟨?_,k⟩;cases e:(cE (L.cs.map λl=>l.map Lc.c)).find? λc=>decide (no c=u)with
  |none=>rfl
  |some c=>
   have o:no c=u:=by grind
   obtain⟨t,g,a,rfl⟩:=qj.1 (Vb e);obtain⟨d,b,_⟩:=h.aI a;exact absurd ((i t g d a b).1.symm.trans o) (p t d b)
end
def Fx.send(f:Fx)(s:Nat)(k:Ck)(x:ByteArray):Fx×Int:=if k.ph=4 then(f,2)else if 1024<k.bg.size+x.size then(f,6)else(f.at s (k.send x),0)
def ZM(w f xb L)(h:aJ w f xb L)(hf:f.K.length<=65535)(u x)(g:f.nobody u):Calls prog 37 #[jp xb,an u,.string x] w λe a=>e=aN (an 2)/\aJ a f xb L/\bG w L a L:=by
 have c:Hid (Calls prog 68 #[jp xb,an u] w λe a=>e=aN (.pointer ay)/\aJ a f xb L/\bG w L a L):=by refine(Jo h hf g).mono ?_;rintro e a ⟨rfl,b⟩;exact⟨rfl,h.below b,⟨λ_ _=>rfl,.below b⟩⟩
 go_enter func37,ntmps37;go_wp2_with (go_at_call 68;refine c.out.mono ?_;rintro e i ⟨rfl,d⟩);go_ret;exact⟨rfl,d⟩
def PL(w f xb L)(h:aJ w f xb L)(hf:f.K.length<=65535)(u x s k)(o:f.Is u s k)(B:k.bg.size<=1024):Calls prog 37 #[jp xb,an u,.string x] w λe a=>e=aN (an (f.send s k x).2)/\∃i,aJ a (f.send s k x).1 xb i/\bG w L a i:=by
 obtain⟨l,t,m,n⟩:=h.sat o.at_;have v:=aT (Jn h hf o t)
 have y:Hid (∀W,aL w W->Calls prog 74 #[jp l.c,.string x] W λe a=>e=aN (an (f.send s k x).2)/\∃i,aJ a (f.send s k x).1 xb i/\bG w L a i):=λW d=>by
  have j:=h.below d;have q:bG w L W L:=⟨λ_ _=>rfl,.below d⟩
  by_cases g:k.ph=4
  ·have e:f.send s k x=(f,2):=by unfold Fx.send;rw[aX g]
   rw[e];refine(abH _ _ _ _ _ _ _ _ x W (cg.old m d) g).mono ?_;rintro e a ⟨rfl,rfl⟩;exact⟨rfl,L,j,q⟩
  ·by_cases p:1024<k.bg.size+x.size
   ·have e:f.send s k x=(f,6):=by unfold Fx.send;rw[aQ g,aX p]
    rw[e];refine(abG _ _ _ _ _ _ _ _ x W (cg.old m d) g B p).mono ?_;rintro e a ⟨rfl,rfl⟩;exact⟨rfl,L,j,q⟩
   ·have e:f.send s k x=(f.at s (k.send x),0):=by unfold Fx.send;rw[aQ g,aQ p]
    rw[e];refine(abF _ _ _ _ _ _ _ _ x W (cg.old m d) g ak).mono ?_;rintro e a ⟨rfl,z,r⟩;exact⟨rfl,_,j.client t rfl o.at_ r (λb _ e=>by rw[e];exact n.1) z (λ_ _=>rfl) n,q.trans ⟨λ_ _=>rfl,r.mono λb _ e=>by rw[e,n.1];omega⟩⟩
 generalize f.send s k x=R at*;generalize l.c=c at*;go_enter func37,ntmps37;go_wp2_with (first|(go_at_call 68;refine v.out.mono ?_;rintro e C ⟨rfl,d⟩)|(go_at_call 74;refine(y.out _ d).mono ?_;rintro e D ⟨rfl,A⟩));go_ret;exact⟨rfl,A⟩
def Ck.much(k:Ck)(n:Int):Nat:=(min n k.out.size).toNat
def Ck.takes(k:Ck)(n:Int):Ck:=if n<0 then k else k.take (k.much n)
def Ck.vq(k:Ck)(n:Int):ByteArray:=if n<0 then⟨#[]⟩else k.out.extract 0 (k.much n)
def zJ(n:Int):Int:=if n<0 then 5 else 0
def Fx.take(f:Fx)(s:Nat)(k:Ck)(n:Int):Fx:=(f.at s (k.takes n)).dg f.K.length
def ZB{W f xb s L k l}(h:aJ W f xb L)(j:f.K[s]? =aa (aa k))(t:L.cs[s]? =aa (aa l))(n)(z:k.out.size<=1048576):Calls prog 69 #[jp l.c,an n] W λe i=>e=aN (.tuple #[.string (k.vq n),an (zJ n)])/\∃m,aJ i (f.at s (k.takes n)) xb m/\bG W L i m:=by
 obtain⟨C,o,y,a⟩:=h.aI t;rw[j]at o;cases o
 by_cases d:n<0
 ·have u:f.at s (k.takes n)=f:=by
   unfold Ck.takes;rw[aX d];unfold Fx.at;rw[xJ j]
  rw[u,Ck.vq,zJ,aX d,aX d];refine(aeu l.c n W (jI d)).mono ?_;rintro e i ⟨rfl,rfl⟩;exact⟨rfl,L,h,bG.refl _ _⟩
 ·rw[Ck.takes,Ck.vq,zJ,aQ d,aQ d,aQ d];refine(aet _ _ _ _ _ _ _ _ n (k.much n) W y (by unfold Ck.much;omega) z).mono ?_;rintro e i ⟨rfl,B,w,p,x⟩;have r:∀b,b<W.heap.size->(b=l.c\/aa b=l.v.ownBlock)->L.own b=7+2*s:=λb _ g=>g.elim (λe=>by rw[e];exact a.1) λe=>a.2.2.2.2.2 b e.symm;exact⟨rfl,_,h.client (l':=⟨l.c,l.rb,l.mb,l.ch,l.q,B⟩) t rfl j p r w (λ_ _=>rfl) ⟨a.1,a.2.1,a.2.2.1,a.2.2.2.1,a.2.2.2.2.1,λb g=>a.2.2.2.2.2 b (by rw[<-x];exact g)⟩,⟨λ_ _=>rfl,p.mono λb g A=>by rw[r b g A];omega⟩⟩
def ZO(w f xb L)(h:aJ w f xb L)(hf:f.K.length<=65535)(u n s k)(j:f.Is u s k)(z:k.out.size<=1048576)(A:(f.at s (k.takes n)).uT):Calls prog 33 #[jp xb,an u,an n] w λe b=>e=aN (.tuple #[.string (k.vq n),an (zJ n)])/\∃a,aJ b (f.take s k n) xb a/\bG w L b a:=by
 obtain⟨l,m,E,F⟩:=h.sat j.at_;have q:=aT (Jn h hf j m)
 have r:Hid (∀W,aL w W->Calls prog 69 #[jp l.c,an n] W λe b=>e=aN (.tuple #[.string (k.vq n),an (zJ n)])/\∃a,aJ b (f.at s (k.takes n)) xb a/\bG w L b a):=λW g=>by refine(ZB (h.below g) j.at_ m n z).mono ?_;rintro e b ⟨rfl,a,d,i⟩;exact⟨rfl,a,d,bG.trans ⟨λ_ _=>rfl,.below g⟩ i⟩
 have p:Hid (∀W,(∃a,aJ W (f.at s (k.takes n)) xb a/\bG w L W a)->Calls prog 64 #[jp xb] W λe b=>e=aN (.tuple #[])/\∃a,aJ b (f.take s k n) xb a/\bG w L b a):=λW ⟨t,b1,v⟩=>by
  have e:(f.at s (k.takes n)).K.length=f.K.length:=by simp[Fx.at]
  refine(PK W _ xb t b1 A (by rw[e];exact hf)).mono ?_;rintro D b ⟨rfl,a,d,i⟩;rw[e]at d;exact⟨rfl,a,d,v.trans i⟩
 generalize f.take s k n=R at*;generalize f.at s (k.takes n)=R1 at*;generalize k.vq n=B at*;generalize zJ n=C at*;generalize l.c=c at*;go_enter func33,ntmps33;go_wp2_with (first|(go_at_call 68;refine q.out.mono ?_;rintro e G ⟨rfl,g⟩)|(go_at_call 69;refine(r.out _ g).mono ?_;rintro e H ⟨rfl,x⟩;have o:=aT x)|(go_at_call 64;refine(p.out _ o.out).mono ?_;rintro e I ⟨rfl,y⟩))
 go_ret2
 exact⟨rfl,y⟩
def ZQ(w f xb L)(h:aJ w f xb L)(hf:f.K.length<=65535)(u n)(g:f.nobody u):Calls prog 33 #[jp xb,an u,an n] w λe a=>e=aN (.tuple #[.string ⟨#[]⟩,an 2])/\aJ a f xb L/\bG w L a L:=by
 have c:Hid (Calls prog 68 #[jp xb,an u] w λe a=>e=aN (.pointer ay)/\aJ a f xb L/\bG w L a L):=by refine(Jo h hf g).mono ?_;rintro e a ⟨rfl,b⟩;exact⟨rfl,h.below b,⟨λ_ _=>rfl,.below b⟩⟩
 go_enter func33,ntmps33;go_wp2_with (go_at_call 68;refine c.out.mono ?_;rintro e i ⟨rfl,d⟩)
 go_ret2
 exact⟨rfl,d⟩
end
section
attribute [local go_sem ↓] Go.wp_at_zero Go.wp_at_succ
attribute [local go_sem] bP bF
open Go.RowKit
structure agf where
 rb:Nat->Nat
 mb:Nat->Nat
 ch:Nat->Nat
 k:Nat->Cl
end
section
attribute [local go_sem ↓] Go.wp_at_zero Go.wp_at_succ
open Go.RowKit
def XI{P f fn c}{a:Act}{w:az}{R:Ending->az->Prop}{n:Nat}{b:Frame}(hf:P.funcs[f]? =aa fn)(r:b.fn=f)(s:b.kind=.normal)(p:b.roundOf=ay)(h:c.wpIn jW n P (bodyPostM jW n P fn R) a w)(cs):
  ∃e d g,R e d/\Comes P (lone (b.at a [.code c]) cs w) (lone g cs d) e/\g.fn=f/\g.leaving P d e:=by
 have hr:jW.room (cs.length+1+n):=room_wide _;obtain⟨e,j,d,k,o⟩:=h b [] cs p trivial hr;have v:b.atR a [.code c]=b.at a [.code c]:=Frame.atR_of_none p _ _;rw[v]at o
 have fin:∀(m:FrameMode) (i:aB Item),LeavesInM jW n P fn j.tmps R j.defers m d->StepsIn (Machine.fenced P jW) P (lone (b.at a [.code c]) cs w) (lone {b.atR j i with mode:=m} cs d)->
   ∃e d g,R e d/\Comes P (lone (b.at a [.code c]) cs w) (lone g cs d) e/\g.fn=f/\g.leaving P d e:=λm i y A=>by
  obtain⟨u,C,g,hR,B,x,z⟩:=leaves_stepsInM j.defers m d {b.atR j i with mode:=m} cs rfl rfl rfl (by rw[<-r]at hf;exact hf) s trivial hr y;exact⟨u,C,g,hR,comesIn_wide.1 (ComesIn.of_steps A B),x.trans r,z⟩
 cases e with
 |normal=>exact fin .returning [] k (StepsIn.trans o (.one (fenced_calm (fr:=b.atR j []) trivial hr rfl) (stepR_end p)))
 |ret=>
  obtain⟨i,q⟩:=o.1 p;exact fin .returning i k q
 |panic t=>
  obtain⟨i,q⟩:=o;exact fin (.panicking t) i k q
 |exit id=>exact k.elim
 |goto l=>exact k.elim
 |outgrown=>exact⟨.outgrown,d,{b with fn:=f},k,comesIn_wide.1 (o.resolve_left (by rw[s];simp)),rfl,trivial⟩
end
section
attribute [local go_sem ↓] Go.wp_at_zero Go.wp_at_succ
attribute [local go_sem] bP bF
open Go.Proofs.Tryz
open Go.RowKit
abbrev stC:aK aE:=#[an 0,an 0,an 0,an 0,an 0,an 0,an 0,an 0]
abbrev VX(W:az)(b:Nat):Prop:=W.heap[b]? =aa (aA stC 68 (0,0))
def TA{W b}(h:VX W b):W.cell? (aj b 0)=aa (an 0)/\W.cell? (aj b 1)=aa (an 0)/\W.cell? (aj b 2)=aa (an 0)/\W.cell? (aj b 3)=aa (an 0)/\W.cell? (aj b 4)=aa (an 0)/\W.cell? (aj b 5)=aa (an 0)/\W.cell? (aj b 6)=aa (an 0)/\W.cell? (aj b 7)=aa (an 0):=
 ⟨aG h rfl,aG h rfl,aG h rfl,aG h rfl,aG h rfl,aG h rfl,aG h rfl,aG h rfl⟩
def WM{w W}(h:aL w W)(v0 v1 v2 v3 v4 v5 v6 v7):aL w ((((((((W.setCell (aj w.heap.size 0) v0).setCell (aj w.heap.size 1) v1).setCell (aj w.heap.size 2) v2).setCell (aj w.heap.size 3) v3).setCell (aj w.heap.size 4) v4).setCell (aj w.heap.size 5) v5).setCell (aj w.heap.size 6) v6).setCell (aj w.heap.size 7) v7):=
 (((((((h.setCell (bC _) v0).setCell (bC _) v1).setCell (bC _) v2).setCell (bC _) v3).setCell (bC _) v4).setCell (bC _) v5).setCell (bC _) v6).setCell (bC _) v7
def ago(n:Nat)(d:n<=65535):∃M:aK aE,∀W:az,(Cz 158 (an (n:Int)) (an (n:Int))).run prog W=.ok (.slice (aa (aj W.heap.size 0)) n n) (W.alloc (aA M 5)):=by obtain⟨a,b,c,e,f⟩:=aly infoByte;refine⟨madeCells (Value.int .u8 0).cells (((n:Nat):Int).toNat*a.size),λW=>?_⟩;simpa using(run_make W 158 5 a (.int .u8 0) underlying158 b c .i64 .i64 (n:Int) (n:Int) ak ak (by grind) ak)
def F4:(prog.info? 119).map (λi=>(i.zero,i.size,i.bytes))=aa (aa (.pointer ay),1,8):=aS
def J9(N):madeCells (AA ay).cells N=nT (nG N ay):=by apply xY;rw[show(AA ay).cells=#[.pointer ay] from rfl,toList_madeCells_one];simp[nT,kN]
def N9(N:Nat)(e:N<=65535)(W:az):(Cz 103 (an (N:Int)) (an (N:Int))).run prog W=.ok (.slice (aa (aj W.heap.size 0)) N N) (W.alloc (aA (nT (nG N ay)) 119)):=by obtain⟨d,a,b,c,f⟩:=aly F4;have h:=run_make W 103 119 d (.pointer ay) underlying103 a b .i64 .i64 (N:Int) (N:Int) ak ak (by grind) ak;rw[c]at h;simp at h;rw[J9]at h;exact h
end
section
attribute [local go_sem ↓] Go.wp_at_zero Go.wp_at_succ
attribute [local go_sem] bP bF
open Go.Conc Go.RowKit
open Go.Proofs.Tryz
def Zy(w f xb L)(h:aJ w f xb L)(hf:f.K.length<=65535)(u)(c:f.nobody u):
  bO 34 #[jp xb,an u] w (.tuple #[.agg stC,an 2]):=by
 have b:Hid (bO 68 #[jp xb,an u] (w.alloc (aA stC 68)) (.pointer ay)):=Jo (h.below (bf)) hf c;go_enter func34,ntmps34;go_wp2_with (go_at_call 68;refine b.out.mono ?_;rintro e p ⟨rfl,a⟩;have hS:=(a.block _ aC).trans (cw w _);obtain⟨d,p1,g,k,l,m,n,o⟩:=TA hS;have r:∀j,p.frozen? (aj w.heap.size j)=av:=(λj=>bz hS j);have q:=(λ(i:Nat) (v:aE) (hv:stC[i]? =aa v)=>abL hS hv));exact gO (by simp[results,results34,go_sem,d,p1,g,k,l,m,n,o]) rfl ⟨rfl,bf.trans (a.mono aC)⟩
def Zx(w f xb L)(h:aJ w f xb L)(hf:f.K.length<=65535)(u s k)(g:f.Is u s k):
  bO 34 #[jp xb,an u] w (.tuple #[.agg (stG k),an 0]):=by
 have b:=h.below ((Below.refl _ w).alloc (bC _) (aA stC 68));obtain⟨l,p,n,_⟩:=b.sat g.at_;have i:=aT (Jn b hf g p);have m:Hid (∀W,aL (w.alloc (aA stC 68)) W->bO 70 #[jp l.c] W (.agg (stG k))):=λW o=>aee _ _ _ _ _ _ _ _ W (cg.old n o);generalize l.c=c at*;go_enter func34,ntmps34
 go_wp2_with (first
  |(go_at_call 68;refine i.out.mono ?_;rintro e C ⟨rfl,a⟩)
  |(go_at_call 70;refine(m.out _ a).mono ?_;rintro e A ⟨rfl,d⟩;have hS:=(bV d ((a.block _ aC).trans (cw w _)));obtain⟨q,p1,r,t,v,x,y,z⟩:=TA hS;have B:∀j,A.frozen? ⟨w.heap.size,j,ay⟩=av:=(λj=>bz hS j)))
 exact gO (by simp[results,results34,go_sem,q,p1,r,t,v,x,y,z]) rfl ⟨rfl,WM (bf.trans ((a.mono aC).trans (d.mono (by have:=a.size;simp at this;omega)))) _ _ _ _ _ _ _ _⟩
section
variable {W W1:az} {f:Fx} {xb j:Nat} {L:dG} {k:Ck} {l:Lc}
def aJ.enter(h:aJ W f xb L)(m:aL W W1)(w:f.K[j]? =aa ay)(z:l.At W1 f.g k)(y:l.gW (W.heap.size<=·)):
  aJ (W1.setCell (aj L.sb j) (jp l.c)) {f with K:=f.K.set j (aa k)} xb {L with cs:=L.cs.set j (aa l),own:=gu L.own W.heap.size (7+2*j)}/\aV (λb=>L.own b≠0) W (W1.setCell (aj L.sb j) (jp l.c)):=by
 have F:=(bp.1 h.dO).1;have a:fq W (W1.setCell (aj L.sb j) (jp l.c)) L.own (gu L.own W.heap.size (7+2*j)) λt=>t=2:=⟨λb d B=>(bH λe=>B (by rw[e];exact h.iF)).trans (m.block b d),λb d=>gM d⟩;have b1:=a.blk h.box h.ey ak;have p:=a.row h.bD h.jw ak;have q:=a.row h.log h.lR ak;have r:=a.eW h.eW h.je ak;have C:∀b,W.heap.size<=b->b≠L.sb:=λb d e=>by omega
 have A:l.At (W1.setCell (aj L.sb j) (jp l.c)) f.g k:=cg.keep z (O:=λb=>W.heap.size<=b) y λb d _=>bH (C b d)
 have D:L.cs[j]? =aa ay:=by
  have E:j<L.cs.length:=by rw[h.cs.len];exact(eL.1 w).1
  have i:L.cs[j]? =aa L.cs[j]:=ef E;have v:=h.cs.at_ _ _ _ w i;cases u:L.cs[j]with
  |none=>rw[u]at i;exact i
  |some l=>rw[u]at v;exact absurd v (by simp[oJ])
 refine⟨⟨?_,b1.2,?_,(gM F).trans h.iF,a.Ej h.cs (λx _=>by omega) ⟨A,y.mono λb d=>tX d⟩,a.js h.js (λs lc o=>⟨lc,?_,rfl⟩) (λn=>by omega),a.oT h.fl ak,p.1,p.2,q.1,q.2,r.1,r.2⟩,?_⟩
 ·have e:=b1.1;simpa[jN]using e
 ·have e:=cz (bV m h.dO) j (kN (aa l.c));rw[SA]at e;show wU _ L.sb ((L.cs.set j (aa l)).map λl=>l.map Lc.c);rw[CQ];exact e
 ·have:s≠j:=λe=>by rw[e,D]at o;cases o
  rw[CN (dF this)];exact o
 ·exact(aV.below m).trans ((aV.refl _ _).mono (λ_ _ h=>h) |>.trans (by exact⟨rfl,aC,λb d G=>bH λe=>G (by rw[e,h.iF];omega)⟩))
def Xu{W f xb L}(h:aJ W f xb L):aJ (W.setCell (aj xb 10) (an (f.cH+1))) {f with cH:=f.cH+1} xb L:=
 h.put 10 _ {f with cH:=f.cH+1} (by simp[jN]) rfl rfl rfl rfl rfl ⟨rfl,rfl,rfl⟩
end
def aJ.EY{W f xb L}(h:aJ W f xb L)(i:Nat):(L.cs.map λl=>l.map Lc.c)[i]? =aa ay↔f.K[i]? =aa ay:=by
 rw[iT];constructor
 ·intro e;cases g:L.cs[i]? with
  |none=>rw[g]at e;cases e
  |some o=>
   rw[g]at e;cases o with
   |some l=>simp at e
   |none=>
    have j:i<f.K.length:=by rw[<-h.cs.len];exact(eL.1 g).1
    have a:=ef j;have d:=h.cs.at_ _ _ _ a g;cases b:f.K[i]with
    |none=>rw[b]at a;exact a
    |some k=>rw[b]at d;exact absurd d (by simp[oJ])
 ·intro e;have j:i<L.cs.length:=by rw[h.cs.len];exact(eL.1 e).1
  have a:=ef j;have d:=h.cs.at_ _ _ _ e a;cases b:L.cs[i]with
  |none=>rw[b]at a;rw[a];rfl
  |some l=>rw[b]at d;exact absurd d (by simp[oJ])
def Fx.nV(f:Fx)(j:Nat)(wt:Int):Fx:={f with K:=f.K.set j (aa (Ck.fresh f.cH wt f.g.bu)),cH:=f.cH+1}
def Zz(w:az)(f:Fx)(xb:Nat)(L:dG)(h:aJ w f xb L)(hf:f.K.length<=65535)(y:f.stop=av)(wt:Int)(P:iq wt 1 4=aq)(j:Nat)(k:f.K[j]? =aa ay)(x:∀i,i<j->f.K[i]? ≠aa ay)(af:0<=f.cH/\f.cH<=281474976710656):
  Calls prog 36 #[jp xb,an wt] w λe a=>e=aN (.tuple #[an f.cH,an 0])/\∃m,aJ a (f.nV j wt) xb m/\bG w L a m:=by
 have ah:j<f.K.length:=(eL.1 k).1;have ak:xb≠L.sb:=λe=>by have:=h.iF;rw[<-e,h.ey]at this;omega
 have Y:w.cell? (aj xb 14)=aa (.bool av):=by rw[<-y];exact aG h.box rfl
 have D:=aO w xb 9 (.slice (aa (aj L.sb 0)) f.K.length f.K.length) h.box;have X:=aO w xb 10 (an f.cH) h.box
 have A:Hid (fu 72 #[.slice (aa (aj L.sb 0)) f.K.length f.K.length,.pointer ay] w (an j)):=by
  refine(F0 L.sb f.K.length _ w h.dO (by simp[h.cs.len]) hf).mono ?_;rintro e a ⟨N,⟨r,u,p⟩|⟨u,p⟩⟩
  ·have:r=j:=by
    rcases Vn r j with h'|h'|h'
    ·exact absurd ((h.EY r).1 p.1) (x r h')
    ·exact h'
    ·exact absurd ((h.EY j).2 k) (p.2 j h')
   exact⟨by rw[u,this],N⟩
  ·exact absurd ((h.EY j).2 k) (p j)
 have t:Hid (FeS xb L.sb f.K.length f.g.sz f.g.cl f.g.qu f.g.mx f.g.qn f.g.rt f.g.bu f.g.wk f.g.ou w):=⟨⟨aG h.box rfl,aG h.box rfl,aG h.box rfl,aG h.box rfl,aG h.box rfl,aG h.box rfl,aG h.box rfl,aG h.box rfl,aG h.box rfl⟩,D⟩
 have C:Hid (∀W,aL w W->Calls prog 73 #[cfV f.g,an f.cH,an wt] W λe a=>∃c,e=aN (jp c)/\(∃m,aJ ((a.setCell (aj L.sb j) (jp c)).setCell (aj xb 10) (an (f.cH+1))) (f.nV j wt) xb m/\bG w L ((a.setCell (aj L.sb j) (jp c)).setCell (aj xb 10) (an (f.cH+1))) m)/\FeS xb L.sb f.K.length f.g.sz f.g.cl f.g.qu f.g.mx f.g.qn f.g.rt f.g.bu f.g.wk f.g.ou a/\a.cell? (aj L.sb j)=aa (.pointer ay)/\a.frozen? (aj L.sb j)=av/\(a.setCell (aj L.sb j) (jp c)).cell? (aj xb 10)=aa (an f.cH)/\(a.setCell (aj L.sb j) (jp c)).frozen? (aj xb 10)=av):=λW v=>by refine(Q0 f.g f.cH wt W).mono ?_;rintro e a ⟨c,T,R,E,rfl,O,d,H,I,J,M⟩;have o:=v.size;have q:aL w a:=v.trans (d.mono o);obtain⟨s,F⟩:=h.enter (l:=⟨c,T,R,E,.slice ay 0 0,.slice ay 0 0⟩) q k O ⟨dm o H,dm o I,dm o J,dm o M,λb d=>by simp[pN]at d,λb d=>by simp[pN]at d⟩;have G:=Xu s;refine⟨c,rfl,⟨_,G,⟨λb d=>gM d,F.set (by show L.own xb≠0;rw[h.ey];omega) _⟩⟩,t.out.later q,?_,bz (bV q h.dO) j,aG s.box rfl,bz s.box 10⟩;exact bR q (aG h.dO (sA ((h.EY j).2 k)))
 generalize f.nV j wt=V at*;clear h k x y;go_enter func36,ntmps36
 go_upto_region 9 with(first|(go_at_call 71;refine(vZ wt 1 4 _).mono ?_;rw[P];rintro e U ⟨rfl,rfl⟩)|(go_at_call 72;refine A.out.mono ?_;rintro e U ⟨rfl,rfl⟩))
 refine iJ ?_;refine dB (S:=FeS xb L.sb f.K.length f.g.sz f.g.cl f.g.qu f.g.mx f.g.qn f.g.rt f.g.bu f.g.wk f.g.ou) 13 aS t.out ?_;intro hS;refine gk 0 ?_;refine gk 1 ?_;refine gk 2 ?_;refine gs 3 ?_;refine gk 4 ?_;refine gk 5 ?_;refine gk 6 ?_;refine gk 7 ?_;refine gs 8 ?_;refine gk 9 ?_;refine gk 10 ?_;refine gr 11 λK n=>?_;go_simp;go_at_call 73;refine(C.out _ (iX (Below.refl _ _) _)).mono ?_;rintro e w2 ⟨c,rfl,z,Q,k3,k4,k5,k6⟩;have B:=aT z;clear z;refine n.out _ _ Q (λZ=>?_);clear n K;refine gk 12 ?_;refine gz λK n=>?_;go_simp;refine n.out _ _ ?_;clear n K;refine eu aS ?_ _;refine gT ?_;go_wp2_with fail
 go_ret2
 exact⟨rfl,B.out⟩
abbrev iM(e:En):aK aE:=#[an e.no,an e.ck,an e.kd,an e.fl,an e.of,an e.ln,an e.er]
def nC(B:aK UInt8)(e:En):ByteArray:=if e.kd=0/\e.er=0 then⟨B.extract e.of.toNat (e.of.toNat+e.ln.toNat)⟩else⟨#[]⟩
def aeI(d)(x:En)(B w)(h:¬(x.kd=0/\x.er=0)):bO 164 #[jp d,.agg (iM x)] w (.string (nC B x)):=by
 have b:nC B x=⟨#[]⟩:=aQ h;rw[b];have a:(w.alloc (aA (iM x) 96)).heap[w.heap.size]? =aa (aA (iM x) 96 (0,0)):=cw w _;have g:=aG a (i:=2) (v:=an x.kd) rfl;have j:=aG a (i:=6) (v:=an x.er) rfl;have c:Hid (aL w (w.alloc (aA (iM x) 96))):=bf
 by_cases h0:x.kd=0
 ·have f:¬x.er=0:=λe=>h ⟨h0,e⟩;have d1:(x.kd !=0)=av:=by simp[h0]
  have d2:(x.er !=0)=aq:=by simp[f]
  clear h h0 f a b;go_enter func164,ntmps164;go_wp2;go_ret;exact⟨rfl,c.out⟩
 ·have d1:(x.kd !=0)=aq:=by simp[h0]
  clear h h0 a b;go_enter func164,ntmps164;go_wp2;go_ret;exact⟨rfl,c.out⟩
def aeK(d bb db n cv)(x:En)(B D)(C:aB (Nat×aB UInt8))(w)(a:dz w d bb db cv n B D C)(h:x.kd=0/\x.er=0)(h0:0<=x.of)(k:0<=x.ln)(l:x.of+x.ln<=n):bO 164 #[jp d,.agg (iM x)] w (.string (nC B x)):=by
 have f:nC B x=⟨B.extract x.of.toNat (x.of.toNat+x.ln.toNat)⟩:=aX h;rw[f];have c:(w.alloc (aA (iM x) 96)).heap[w.heap.size]? =aa (aA (iM x) 96 (0,0)):=cw w _;have p:=aG c (i:=2) (v:=an x.kd) rfl;have q:=aG c (i:=4) (v:=an x.of) rfl;have r:=aG c (i:=5) (v:=an x.ln) rfl;have s:=aG c (i:=6) (v:=an x.er) rfl;have b:aL w (w.alloc (aA (iM x) 96)):=bf;have g:=aT b;have d1:(x.kd !=0)=av:=by simp[h.1]
 have d2:(x.er !=0)=av:=by simp[h.2]
 have j:Hid (Calls prog 54 #[jp d,an x.of,an x.ln] (w.alloc (aA (iM x) 96)) λe o=>e=aN (.string ⟨B.extract x.of.toNat (x.of.toNat+x.ln.toNat)⟩)/\o=w.alloc (aA (iM x) 96)):=by have m:dz (w.alloc (aA (iM x) 96)) d bb db cv n B D C:=⟨bV b a.box,bV b a.bytes,bV b a.fM,vN a.cache b,a.sizes,a.fits,a.apart,a.small⟩;have:=Yo d bb db n x.of.toNat x.ln.toNat cv B D C _ m ak;rw[show((x.of.toNat:Nat):Int)=x.of by omega,show((x.ln.toNat:Nat):Int)=x.ln by omega]at this;exact this
 clear h h0 k l c f b a;go_enter func164,ntmps164;go_wp2_with (go_at_call 54;refine j.out.mono ?_;rintro e t ⟨rfl,rfl⟩);go_ret;exact⟨rfl,g.out⟩
end
section
open Go.Conc Go.RowKit
open Go.Proofs.Tryz
section
variable {W:az} {f:Fx} {xb:Nat} {L:dG} {b:Jb} {r:aB Jb}
def aJ.top(h:aJ W f xb L)(hf:f.fl=b::r)(q:∀x∈r,dU b.key x.key=aq):∃a js,L.js=a::js/\L.hf 0=a.j/\eV W L.own L.cs b a:=by
 have d:=h.js.len;rw[hf]at d;cases e:L.js with
 |nil=>rw[e]at d;simp at d
 |cons a js=>
  have h0:L.js[0]? =aa a:=by rw[e];rfl
  have g:f.fl[0]? =aa b:=by rw[hf];rfl
  refine⟨a,js,rfl,?_,h.js.at_ 0 b a g h0⟩;obtain⟨u,t,n⟩:=h.fl.all 0 a h0;have p:0<f.fl.length:=by rw[hf];simp
  obtain⟨i,l,c,k⟩:=h.fl.bg 0 p;cases i with
  |zero=>rw[h0]at c;cases c;exact k
  |succ i=>
   exfalso;have o:i+1<f.fl.length:=by grind
   have s:f.fl[i+1]? =aa f.fl[i+1]:=ef o;have hm:f.fl[i+1]∈r:=by grind
   have m:=h.fl.heap.top u t;simp only[k,n,h.fl.keys _ _ _ s c,h.fl.keys _ _ _ g h0]at m;exact(DN _ _).1 (q _ hm) m
def ZK(h:aJ W f xb L)(hf:f.fl=b::r)(hs:∀x∈r,dU b.key x.key=aq)(ho:∀x∈r,x.order≠b.order)(hm:r.length<1048576):
  Calls prog 105 #[.pointer (aa (aj xb 18))] W λe A=>∃p,e=aN (.tuple #[jp (L.hf 0),.bool aq])/\p.j=L.hf 0/\∃B,aJ A {f with fl:=r} xb B/\bG W L A B/\eV A B.own B.cs b p:=by
 obtain⟨p,js,J,I,X⟩:=h.top hf hs;have hn:f.fl.length=r.length+1:=by rw[hf];simp
 have ah:=h.fl.row;have Qu:=h.fl.heap;have G:=h.fl.bg;have Z:=h.fl.all;have w:=h.fl.one;rw[hn]at ah Qu G Z w;have j0:L.js[0]? =aa p:=by rw[J];rfl
 have H:∀i:Nat,L.js[i+1]? =js[i]? :=λi=>by rw[J];rfl
 have K:∀i:Nat,f.fl[i+1]? =r[i]? :=λi=>by rw[hf];rfl
 have bf:js.length=r.length:=by have:=h.js.len;rw[J,hf]at this;simpa using this
 have old:∀(i:Nat) l,L.js[i]? =aa l->∃x,f.fl[i]? =aa x/\(∃lc,eG W l.j lc l.rv x.rs x.ft x.due x.order)/\L.own l.j=8+2*x.order/\L.key l.j=x.key:=λi l m=>by
  have hi:i<f.fl.length:=by rw[<-h.js.len];exact(eL.1 m).1
  have d:=ef hi;obtain⟨c,g,k,E⟩:=h.js.at_ i _ _ d m;exact⟨_,d,⟨_,k⟩,E.1,h.fl.keys i _ _ d m⟩
 have cA:∀(i:Nat) l,L.js[i+1]? =aa l->l.j≠p.j:=λi l m e=>by obtain⟨x,g,_,E,_⟩:=old _ l m;obtain⟨_,_,_,M⟩:=X;have F:=M.1;rw[<-e]at F;rw[K]at g;exact ho x (gS g) ak
 refine(Y7 xb 18 r.length L.hv L.hf L.key _ _ W h.box rfl bJ ah hm (λx d=>?_) (λx d e=>?_) Qu).mono ?_
 ·obtain⟨i,l,g,k⟩:=G x d;obtain⟨y,E,⟨c,M⟩,F,h7⟩:=old i l g;rw[k,h7];refine⟨M.key,λe=>?_⟩;have:=h.fl.own l.j e.symm;omega
 ·obtain⟨i,l,g,k⟩:=G x d;obtain⟨y,E,_,F,_⟩:=old i l g;rw[<-k,e,h.ey]at F;omega
 rintro e A ⟨rfl,v',q,g1,g2,D,g4,V,g6⟩;have Y:∀x,x<W.heap.size->(x=xb\/aa x=L.hv.ownBlock)->L.own x=1\/L.own x=3:=λx _ d=>d.elim (λe=>aF (by rw[e];exact h.ey)) λe=>aD (h.fl.own x e.symm);have a:fq W A L.own L.own λt=>t=1\/t=3:=⟨λx d zl=>V.block x d λO=>zl (Y x d O),λx d=>rfl⟩;have R:=a.blk h.dO h.iF ak;have S:=a.row h.bD h.jw ak;have T:=a.row h.log h.lR ak;have U:=a.eW h.eW h.je ak
 have aC:∀z,0<z->z<r.length+1->∃(i:Nat) (l:Lj),js[i]? =aa l/\L.hf z=l.j:=λz h0 Q=>by
  obtain⟨i,l,g,k⟩:=G z Q;cases i with
  |zero=>
   rw[j0]at g;cases g;have:=w z 0 Q ak (k.trans I.symm);omega
  |succ i=>rw[H]at g;exact⟨i,l,g,k⟩
 refine⟨p,rfl,I.symm,{L with js:=js,hv:=v',hf:=q},⟨g1,h.ey,R.1,R.2,a.cs h.cs (λs=>by omega),⟨bf,λi x l d m=>?_⟩,⟨g2,λx d=>h.fl.own x (by rw[<-g6];exact d),λx d=>?_,λi l m=>?_,λx y d P e=>?_,λi x l d m=>?_,g4⟩,S.1,S.2,T.1,T.2,U.1,U.2⟩,⟨λ_ _=>rfl,V.mono λx d O=>by rcases Y x d O with e|e<;>rw[e]<;>omega⟩,X.aside a (λc N=>⟨c,N,rfl⟩) ak⟩
 ·exact(h.js.at_ (i+1) x l (by rw[K];exact d) (by rw[H];exact m)).aside a (λc N=>⟨c,N,rfl⟩) ak
 ·obtain⟨y,P,e⟩:=D.bg x d
  by_cases an:y=0
  ·obtain⟨i,l,g,k⟩:=aC r.length ak ak;exact⟨i,l,g,by show q x=l.j;rw[e];simp[down,an,k]⟩
  ·obtain⟨i,l,g,k⟩:=aC y ak (Da P);exact⟨i,l,g,by show q x=l.j;rw[e];simp[down,an,k]⟩
 ·have af:L.js[i+1]? =aa l:=by rw[H];exact m
  obtain⟨z,Q,n⟩:=Z (i+1) l af;have oV:z≠0:=λe=>cA i l af (by rw[<-n,e,I])
  by_cases aT:z=r.length
  ·obtain⟨x,d,e⟩:=D.all 0 ak;exact⟨x,d,by show q x=l.j;rw[e];simp[down,<-aT,n]⟩
  ·obtain⟨x,d,e⟩:=D.all z ak;exact⟨x,d,by show q x=l.j;rw[e];simp[down,oV,n]⟩
 ·refine D.one (λu v hu hv o=>?_) x y d P e
  by_cases n:u=0
  ·by_cases C:v=0
   ·omega
   ·simp[down,n,C]at o;have:=w r.length v ak ak o;omega
  ·by_cases C:v=0
   ·simp[down,n,C]at o;have:=w u r.length ak ak o;omega
   ·simp[down,n,C]at o;exact w u v ak ak o
 ·exact h.fl.keys (i+1) x l (by rw[K];exact d) (by rw[H];exact m)
end
end
section
attribute [local go_sem ↓] Go.wp_at_zero Go.wp_at_succ
attribute [local go_sem] bP bF
open Go.Conc Go.RowKit
open Go.Proofs.Tryz
def ZA(w:az)(f:Fx)(xb:Nat)(L:dG)(h:aJ w f xb L)(a:f.stop=aq)(wt:Int):
  fu 36 #[jp xb,an wt] w (.tuple #[an 0,an 4]):=
 XM xb wt w (by rw[<-a];exact aG h.box rfl)
def ZR{W f xb L b r}(h:aJ W f xb L)(hf:f.fl=b::r)(k:∀x∈r,dU b.key x.key=aq)(now):
  ∃a,a.j=L.hf 0/\eV W L.own L.cs b a/\(fu 103 #[.pointer (aa (aj xb 18))] W (.tuple #[jp a.j,.bool aq]))/\fu 104 #[jp a.j,an now] W (.bool (decide (b.due<=now))):=by
 obtain⟨a,js,_,d,e⟩:=h.top hf k;have i:=e;obtain⟨lc,_,g,_⟩:=e;refine⟨a,d.symm,i,?_,F8 a.j lc.c a.rv b.rs b.ft b.due b.order now W g⟩;have:=QK xb 18 f.fl.length L.hv L.hf W h.Br (by rw[hf];simp);rw[d]at this;exact this
def pY(no:Int)(r:Rq)(a:Bool):En:=⟨no,r.m.ck,r.m.kd,r.m.fl,r.m.of,r.m.ln,if a then 5 else 0⟩
abbrev EnS(j c b:Nat)(no:Int)(r:Rq)(W:az):Prop:=W.cell? (aj j 0)=aa (jp c)/\cu W b r/\W.cell? (aj c 0)=aa (an no)
def EnS.old{j c b no r W W'}(h:EnS j c b no r W)(a:aL W W'):EnS j c b no r W':=⟨bR a h.1,h.2.1.old a,bR a h.2.2⟩
abbrev mC:aK aE:=#[an 0,an 0,an 0,an 0,an 0,an 0,an 0]
def YD(j c rv rs)(ft:Ft)(due order no r w)(h:eG w j c rv rs ft due order)(hc:w.cell? (aj c 0)=aa (an no)):
  bO 162 #[jp j,.agg (aM r)] w (.agg (iM (pY no r ft.dH))):=by
 have l:aL w ((w.alloc (aA (aM r) 134)).alloc (aA mC 96)):=bf.alloc aC _;have A:((w.alloc (aA (aM r) 134)).alloc (aA mC 96)).heap[w.heap.size]? =aa (aA (aM r) 134 (0,0)):=Ca w _ _;have B:((w.alloc (aA (aM r) 134)).alloc (aA mC 96)).heap[w.heap.size+1]? =aa (aA mC 96 (0,0)):=BZ w _ _;have u:=aO w j 0 (jp c) h.box;have y:=aO w j 3 (.bool ft.dH) h.box;have g:Hid (EnS j c w.heap.size no r ((w.alloc (aA (aM r) 134)).alloc (aA mC 96))/\aL w ((w.alloc (aA (aM r) 134)).alloc (aA mC 96))/\((w.alloc (aA (aM r) 134)).alloc (aA mC 96)).heap[w.heap.size+1]? =aa (aA mC 96 (0,0))/\((w.alloc (aA (aM r) 134)).alloc (aA mC 96)).cell? (aj j 3)=aa (.bool ft.dH)):=⟨⟨bR l u,cu.of A,bR l hc⟩,l,B,bR l y⟩;clear h hc l A B u y;go_enter func162,ntmps162
 go_upto_region 1 with fail
 show GC _ _ _ _ ((w.alloc (aA (aM r) 134)).alloc (aA mC 96));generalize (w.alloc (aA (aM r) 134)).alloc (aA mC 96)=b at*
 go_cut [4,5] (λp4 p5 J=>p4=aR (w.heap.size+1)/\p5=aR b.heap.size/\J.heap[b.heap.size]? =aa (aA (iM (pY no r av)) 96 (0,0))/\aL b J)
 case first=>
  refine eD (S:=EnS j c w.heap.size no r) g.out.1 λs=>?_;refine tk 0 ?_;refine tk 1 ?_;refine tk 2 ?_;refine tk 3 ?_;refine tk 5 ?_;refine tk 6 ?_;refine tk 7 ?_;refine tk 8 ?_;refine tk 9 ?_;refine tk 10 ?_;refine tk 11 ?_;refine tk 12 ?_;refine tk 13 ?_;refine tk 14 ?_;refine tk 15 ?_;refine tk 16 ?_;refine tk 17 ?_;refine tk 18 ?_;refine tk 19 ?_;have k:Hid (∀x,EnS j c w.heap.size no r (b.alloc x).drew/\(b.alloc x).drew.heap[b.heap.size]? =aa x/\aL b (b.alloc x).drew):=λx=>⟨g.out.1.old ((Below.refl _ b).alloc (bC _) x).drew,cw b _,((Below.refl _ b).alloc (bC _) x).drew⟩;refine aH [4,21] (.cons rfl (λK a=>?_) ?_)
  ·(skip)
   go_simp;go_at_call 112;refine(Fb c no _ s.2.2).mono ?_;rintro e w4 ⟨rfl,rfl⟩;refine a.out _ _ s (λo=>?_);clear a K;refine tk 20 ?_;refine rH 21 λK a=>?_;go_simp;refine a.out _ _ (k.out _).1 (λX=>?_);clear a K;refine rH 22 λK a=>?_;go_simp;refine a.out _ _ (k.out _).1 (λY=>?_);clear a K;refine dc ?_;go_wp2_with fail
   go_meet
   case rel=>exact⟨rfl,rfl,(k.out _).2.1,(k.out _).2.2⟩
  refine .cons rfl (λK a=>?_) .nil;go_simp;refine a.out _ _ (k.out _).1 (λo=>?_);clear a K;refine rH 4 λK a=>?_;go_simp;go_at_call 112;refine(Fb c no _ o.2.2).mono ?_;rintro e w4 ⟨rfl,rfl⟩;refine a.out _ _ o (λX=>?_);clear a K;refine tk 20 ?_;refine rH 22 λK a=>?_;go_simp;refine a.out _ _ (k.out _).1 (λY=>?_);clear a K;refine dc ?_;go_wp2_with fail
  go_meet
  case rel=>exact⟨rfl,rfl,(k.out _).2.1,(k.out _).2.2⟩
 case rest=>
  obtain⟨rfl,rfl,f,n⟩:=hcut;have d:wc.heap[w.heap.size+1]? =aa (aA mC 96 (0,0)):=bV n g.out.2.2.1;have z:=bR n g.out.2.2.2;have ah:w.heap.size+1<b.heap.size:=(bp.1 g.out.2.2.1).1;have t:w.heap.size<b.heap.size:=ak;have p:=aT (g.out.2.1.trans (n.mono g.out.2.1.size));clear n g;generalize b.heap.size=N at*;have s0:=aG f (i:=0) rfl;have s1:=aG f (i:=1) rfl;have s2:=aG f (i:=2) rfl;have s3:=aG f (i:=3) rfl;have s4:=aG f (i:=4) rfl;have s5:=aG f (i:=5) rfl;have s6:=aG f (i:=6) rfl;have sf:=λi=>bz f i;have L:=aG d (i:=0) rfl;have M:=aG d (i:=1) rfl;have O:=aG d (i:=2) rfl;have P:=aG d (i:=3) rfl;have Q:=aG d (i:=4) rfl;have R:=aG d (i:=5) rfl;have T:=aG d (i:=6) rfl;have zf:=λi=>bz d i;have Z:¬w.heap.size+1=N:=ak;have af:¬N=w.heap.size+1:=ak
  have q:Hid (∀W C D E F G H I,aL w W->aL w (((((((W.setCell (aj (w.heap.size+1) 0) C).setCell (aj (w.heap.size+1) 1) D).setCell (aj (w.heap.size+1) 2) E).setCell (aj (w.heap.size+1) 3) F).setCell (aj (w.heap.size+1) 4) G).setCell (aj (w.heap.size+1) 5) H).setCell (aj (w.heap.size+1) 6) I)):=λW C D E F G H I V=>
   Below.setCell (Below.setCell (Below.setCell (Below.setCell (Below.setCell (Below.setCell (Below.setCell V (kr _) _) (kr _) _) (kr _) _) (kr _) _) (kr _) _) (kr _) _) (kr _) _
  have U:Hid (aL w (wc.setCell (aj N 6) (an 5))):=Below.setCell p.out (mN t) _;clear d f ah t;cases m:ft.dH with
  |false=>
   rw[m]at z;go_wp2;refine gO (v:=.agg (iM (pY no r av))) (by simp[results,results162,go_sem,L,M,O,P,Q,R,T]) rfl ⟨by rw[m],?_⟩;exact q.out _ _ _ _ _ _ _ _ p.out
  |true=>
   rw[m]at z;go_wp2;refine gO (v:=.agg (iM (pY no r aq))) (by simp[results,results162,go_sem,L,M,O,P,Q,R,T,Z,af,pY]) rfl ⟨by rw[m],?_⟩;exact q.out _ _ _ _ _ _ _ _ U.out
structure rP:Prop where
 add:∀(B b:Nat) (d:aB aE) (s:ByteArray) (w:az),rB 301 5 B b d w->d.length+s.size<=140737488355328->B<=w.heap.size->
  Calls prog 263 #[jp b,.string s] w λe a=>e=aN (.tuple #[an s.size,.nilIface])/\(CG 301 5 B b (jp b) (d++jE s) a/\Below B w a)
 all:∀(B b:Nat) (l:aB UInt8) (w:az),rB 301 5 B b (lD l) w->B<=w.heap.size->
  Calls prog 265 #[jp b] w λe a=>e=aN (.string ⟨l.toArray⟩)/\Below B w a
 rep:∀(s:ByteArray) (c:Nat) (w:az),c<=9223372036854775807->s.size*c<=140737488355328->
  bO 264 #[.string s,an c] w (.string ⟨(Ak s.data.toList c).toArray⟩)
def Rq.piece(r:Rq):aB UInt8:=if r.m.kd=1 then r.m.dt.data.toList else if r.m.kd=3\/r.m.kd=4 then Ak [0] r.m.ln.toNat else[]
def dA(a:aB Rq):aB UInt8:=a.flatMap Rq.piece
def OJ{a:aB Rq}{i:Nat}{r:Rq}(h:a[i]? =aa r):dA (a.take (i+1))=dA (a.take i)++r.piece:=by unfold dA;rw[sX,h];simp
def XR(rs i):(dA (rs.take i)).length<=(dA rs).length:=by
 have:dA rs=dA (rs.take i)++dA (rs.drop i):=by unfold dA;rw[<-rC,pK]
 rw[this,gR];omega
def QV{T e:TypeId}{B b bs W W'}(h:rB T e B b bs W)(f:∀k,k<W.heap.size->W'.heap[k]? =W.heap[k]?):rB T e B b bs W':=by
 have one:∀p,CG T e B b p bs W->CG T e B b p bs W':=by
  rintro p ⟨s,v,c,d,t⟩;refine⟨s,v,(f b (bp.1 c).1).trans c,⟨d.1,?_⟩,t⟩;rcases d.2 with h|⟨g,i,j,l,m,a,n,o,q,r⟩
  ·exact aF h
  ·exact aD ⟨g,i,j,l,m,(f g (bp.1 a).1).trans a,n,o,q,r⟩
 exact h.imp (one _) (one _)
abbrev mw(W:az)(r:Rq):az:=W.alloc (aA (aM r) 134)
def Oh(W r):aL W (mw W r):=bf
def XS(Z:rP)(j c rv a)(ft:Ft)(due order w)(h:eG w j c rv a ft due order)(G:(dA a).length<=1048576)(hn:a.length<=1048576)(O:∀r∈a,0<=r.m.ln/\r.m.ln<=65535):
  bO 236 #[jp j] w (.string ⟨(dA a).toArray⟩):=by
 obtain⟨K,p,rfl,_⟩:=h.row.form;have z:aL w (w.alloc (aA #[.pointer ay,.slice ay 0 0] 301)):=bf;have c1:(w.alloc (aA #[.pointer ay,.slice ay 0 0] 301)).cell? (aj j 1)=aa (.slice K a.length p):=aG (h.below z).box rfl;have N:(w.alloc (aA #[.pointer ay,.slice ay 0 0] 301)).heap[w.heap.size]? =aa (aA #[.pointer ay,.slice ay 0 0] 301 (0,0)):=cw w _
 have Q:Hid (eG (w.alloc (aA #[.pointer ay,.slice ay 0 0] 301)) j c (.slice K a.length p) a ft due order/\rB 301 5 w.heap.size w.heap.size (lD []) (w.alloc (aA #[.pointer ay,.slice ay 0 0] 301))/\aL w (w.alloc (aA #[.pointer ay,.slice ay 0 0] 301))):=
  ⟨h.below z,aF ⟨bC _,_,N,⟨rfl,aF ⟨rfl,rfl⟩⟩,by simp[pN]⟩,z⟩
 have S:=aT O;have R:=aT h;clear h z N O;go_enter func236,ntmps236;go_wp2
 go_loopw [11] (λJ wr=>∃i:Nat,i<=a.length/\J=an (i:Int)/\Hid (eG wr j c (.slice K a.length p) a ft due order/\rB 301 5 w.heap.size w.heap.size (lD (dA (a.take i))) wr/\aL w wr)) (λJ _=>a.length-(gU J).toNat)
 case atStart=>exact⟨0,eo _,rfl,Q.out⟩
 case round=>
  obtain⟨i,hi,rfl,hR⟩:=hrel
  by_cases V:i<a.length
  ·have U:(i:Int)<(a.length:Int):=ak;obtain⟨r,hr⟩:∃r,a[i]? =aa r:=⟨a[i],ef V⟩;have P:r∈a:=gS hr;obtain⟨x,rfl,k0,k1,k2,k3,k4,k5,k6,k7,k8,k9⟩:=hR.out.1.row.at hr;have X:=hR.out.2.2.size;have E:=Oh wr r
   have f:Hid (eG (mw wr r) j c (.slice (aa (aj x 0)) a.length p) a ft due order/\rB 301 5 w.heap.size w.heap.size (lD (dA (a.take i))) (mw wr r)/\aL w (mw wr r)):=
    ⟨hR.out.1.below E,QV hR.out.2.1 (λk F=>E.block k F),hR.out.2.2.alloc X _⟩
   have y:(mw wr r).heap[wr.heap.size]? =aa (aA (aM r) 134 (0,0)):=cw wr _;have s2:=aG y (i:=2) (v:=an r.m.kd) rfl;have s6:=aG y (i:=6) (v:=an r.m.ln) rfl;have s7:=aG y (i:=7) (v:=.string r.m.dt) rfl;have H:=OJ hr;have I:=XR a (i+1);rw[H,gR]at I;have C:=aT f.out.2.2.size
   have fin:∀(W:az) (l:aB UInt8),r.piece=l->CG 301 5 w.heap.size w.heap.size (jp w.heap.size) (lD (dA (a.take i))++lD l) W->Below w.heap.size (mw wr r) W->
     eG W j c (.slice (aa (aj x 0)) a.length p) a ft due order/\rB 301 5 w.heap.size w.heap.size (lD (dA (a.take (i+1)))) W/\aL w W:=λW l G n b=>
    ⟨R.out.below (f.out.2.2.trans b),aD (by rw[H,G];unfold lD;rw[CP];exact n),f.out.2.2.trans b⟩
   have B:Hid (∀(W:az) (l:aB UInt8),r.piece=l->CG 301 5 w.heap.size w.heap.size (jp w.heap.size) (lD (dA (a.take i))++lD l) W->Below w.heap.size (mw wr r) W->
     eG W j c (.slice (aa (aj x 0)) a.length p) a ft due order/\rB 301 5 w.heap.size w.heap.size (lD (dA (a.take (i+1)))) W/\aL w W):=fin
   have M:=aT (dm I G);have Y:=S.out r P;clear fin H I E y P
   by_cases g:r.m.kd=1
   ·have d:r.piece=r.m.dt.data.toList:=by unfold Rq.piece;rw[aX g]
    have d1:(r.m.kd==1)=aq:=by simp[g]
    have u:=aT d
    have t:Hid ((lD (dA (a.take i))).length+r.m.dt.size<=140737488355328):=by
     have:=M.out;rw[d]at this;have e:r.m.dt.data.toList.length=r.m.dt.size:=by rw[wm];rfl
     rw[e]at this;show _<=_;rw[UR];omega
    clear d g;go_wp2_with (go_at_call 263;refine(Z.add _ _ _ _ _ f.out.2.1 t.out C.out).mono ?_;rintro e s ⟨rfl,n,b⟩);refine⟨⟨i+1,ak,by go_num,B.out _ _ u.out n b⟩,?_⟩;simp[gU];omega
   ·have d1:(r.m.kd==1)=av:=by simp[g]
    by_cases e3:r.m.kd=3\/r.m.kd=4
    ·have d:r.piece=Ak [0] r.m.ln.toNat:=by unfold Rq.piece;rw[aQ g,aX e3]
     have u:=aT d
     have t:Hid ((lD (dA (a.take i))).length+(⟨(Ak (⟨#[0]⟩:ByteArray).data.toList r.m.ln.toNat).toArray⟩:ByteArray).size<=140737488355328):=by have:=M.out;rw[d]at this;show _+(Ak [0] r.m.ln.toNat).toArray.size<=_;rw[UR,iV];omega
     have L:Hid (bO 264 #[.string ⟨#[0]⟩,an r.m.ln] (mw wr r) (.string ⟨(Ak (⟨#[0]⟩:ByteArray).data.toList r.m.ln.toNat).toArray⟩)):=by have:=Z.rep ⟨#[0]⟩ r.m.ln.toNat (mw wr r) ak (by show 1*_<=_;omega);rw[show((r.m.ln.toNat:Nat):Int)=r.m.ln by omega]at this;exact this
     have q:Hid (∀W,aL (mw wr r) W->rB 301 5 w.heap.size w.heap.size (lD (dA (a.take i))) W/\w.heap.size<=W.heap.size/\Below w.heap.size (mw wr r) W):=λW D=>
      ⟨QV f.out.2.1 λk F=>D.block k F,dm C.out D.size,D.mono C.out⟩
     clear d g;cases d3:(r.m.kd==3)with
     |true=>
      go_wp2_with (first|(go_at_call 264;refine L.out.mono ?_;rintro e s ⟨rfl,o⟩)|(go_at_call 263;refine(Z.add _ _ _ _ _ (q.out _ o).1 t.out (q.out _ o).2.1).mono ?_;rintro e s ⟨rfl,n,b⟩));refine⟨⟨i+1,ak,by go_num,B.out _ _ u.out n ((q.out _ o).2.2.trans b)⟩,?_⟩;simp[gU];omega
     |false=>
      have d4:(r.m.kd==4)=aq:=by
       rcases e3 with e3|e3
       ·rw[e3]at d3;cases d3
       ·simp[e3]
      go_wp2_with (first|(go_at_call 264;refine L.out.mono ?_;rintro e s ⟨rfl,o⟩)|(go_at_call 263;refine(Z.add _ _ _ _ _ (q.out _ o).1 t.out (q.out _ o).2.1).mono ?_;rintro e s ⟨rfl,n,b⟩));refine⟨⟨i+1,ak,by go_num,B.out _ _ u.out n ((q.out _ o).2.2.trans b)⟩,?_⟩;simp[gU];omega
    ·have d3:(r.m.kd==3)=av:=bY;have d4:(r.m.kd==4)=av:=bY;have d:r.piece=[]:=by unfold Rq.piece;rw[aQ g,aQ e3]
     have T:Hid (eG (mw wr r) j c (.slice (aa (aj x 0)) a.length p) a ft due order/\rB 301 5 w.heap.size w.heap.size (lD (dA (a.take (i+1)))) (mw wr r)/\aL w (mw wr r)):=by refine⟨f.out.1,?_,f.out.2.2⟩;rw[OJ hr,d,yl];exact f.out.2.1
     clear d g e3;go_wp2;refine⟨⟨i+1,ak,by go_num,T.out⟩,?_⟩;simp[gU];omega
  ·have U:¬(i:Int)<(a.length:Int):=ak;have e:i=a.length:=ak;subst e;rw[uy]at hR;have A:=hR;clear hR;go_wp2_with (go_at_call 265;refine(Z.all _ _ _ _ A.out.2.1 A.out.2.2.size).mono ?_;rintro e s ⟨rfl,b⟩);go_ret;exact⟨rfl,A.out.2.2.trans b⟩
def cX(a:aB Rq)(ft:Ft):aB UInt8:=if ft.dH then(dA a).take (4*min ft.part.toNat ((dA a).length / 4))else dA a
def Un(rs)(ft:Ft):(cX rs ft).length<=(dA rs).length:=by
 unfold cX;split
 ·rw[rF];omega
 ·exact bC _
def afL{rs ft}(h:(dA rs).length %4=0):∃m,(cX rs ft).length=4*m:=by
 unfold cX;split
 ·rw[rF];refine⟨min ft.part.toNat ((dA rs).length / 4),?_⟩;omega
 ·exact⟨(dA rs).length / 4,ak⟩
def YK(D:aB UInt8)(k:Nat):(⟨D.toArray⟩:ByteArray).extract 0 k=⟨(D.take k).toArray⟩:=by apply wu;rw[wq];simp
def afM(Z:rP)(j c:Nat)(rv:aE)(a:aB Rq)(ft:Ft)(due l:Int)(w:az)(h:eG w j c rv a ft due l)(o:(dA a).length<=1048576)(q:a.length<=1048576)(p:∀r∈a,0<=r.m.ln/\r.m.ln<=65535)(x:0<=ft.part/\ft.part<=9223372036854775807):
  bO 199 #[jp j] w (.string ⟨(cX a ft).toArray⟩):=by
 have i:=aT (XS Z j c rv a ft due l w h o q p);have f:=aT h;have t:cX a ft=if ft.dH=aq then(dA a).take (4*min ft.part.toNat ((dA a).length / 4))else dA a:=rfl
 rw[t];generalize dA a=D at*;have s:(⟨D.toArray⟩:ByteArray).size=D.length:=by show D.toArray.size=_;simp
 have u:=aT s;cases k:ft.dH with
 |false=>
  go_enter func199,ntmps199;go_wp2_with (go_at_call 236;refine i.out.mono ?_;rintro e d ⟨rfl,b⟩;have g:d.cell? (aj j 3)=aa (.bool ft.dH):=aG (f.out.below b).box rfl;rw[k]at g);go_ret;exact⟨aC,b⟩
 |true=>
  go_enter func199,ntmps199;go_wp2_with (go_at_call 236;refine i.out.mono ?_;rintro e d ⟨rfl,b⟩;have g:d.cell? (aj j 3)=aa (.bool ft.dH):=aG (f.out.below b).box rfl;have v:d.cell? (aj j 4)=aa (an ft.part):=aG (f.out.below b).box rfl;rw[k]at g);go_ret;refine⟨?_,b⟩;have n:(4*min ft.part ((D.length:Int) / 4)).toNat=4*min ft.part.toNat (D.length / 4):=ak;show Ending.returned (Value.string ((⟨D.toArray⟩:ByteArray).extract 0 _))=_;rw[n,YK]
structure Dk where
 B:aK UInt8
 D:aK UInt8
 C:aB (Nat×aB UInt8)
def Dk.change (d:Dk)(a:aB Rq)(ft:Ft):Dk:=match a with
 |[]=>d
 |r::_=>
  if r.m.kd=2/\ft.dH=av then⟨d.B,oX d.D d.C,[]⟩
  else if r.m.fl=1/\ft.dH=av then⟨eH d.B r.m.of.toNat (cX a ft),eH d.D r.m.of.toNat (cX a ft),stay r.m.of.toNat (r.m.of.toNat+(cX a ft).length) d.C⟩
  else⟨eH d.B r.m.of.toNat (cX a ft),d.D,d.C++secs r.m.of.toNat (cX a ft) ((cX a ft).length / 4)⟩
end
end Go.Proofs.YtpobhljcainmdaaGreat
