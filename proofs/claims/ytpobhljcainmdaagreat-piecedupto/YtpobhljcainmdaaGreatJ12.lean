/- Parts of the proof. -/
import Derived.Test.YtpobhljcainmdaaGreatJ11
set_option maxRecDepth 100000
set_option maxHeartbeats 8000000
set_option linter.all false
namespace Go.Proofs.YtpobhljcainmdaaGreat
open Go.World renaming putObj_heap_other->eX,cell?_of_block->fC,ownsRow_nil->um,size_alloc->yg
open Go renaming heap_alloc_new->bW,wp_region_noPanic->gW,callsIn_wide->fT,World->an,Value->au,bodyPost_ret->fX,run_takeDeferred->Ct,grownBy_putObj'->Cp,below_drewN->ig,maxLen->bT
open Go.Value renaming slice->eF
open Go.CallsIn renaming inRound->lV
open Go.NoPanic renaming normal->gp
open Go.Lib renaming strCells->iT,strCells_length->UA
open Go.IntKind renaming i64->gU
open Go.Fence renaming wide->jQ
open _root_.Nat renaming reduceAdd->oJ
open Go.Code renaming wp->FM
open _root_.List renaming range->dM
section
attribute [local go_sem ↓] Go.wp_at_zero Go.wp_at_succ
attribute [local go_sem] bq bg
open Go.Conc Go.RowKit
open Go.Proofs.Tryz
abbrev freed(us:List Int)(a:Int):List Int:=us.filter fun x=>decide (x≠a)
def qi(us:List Int):Prop:=us.Nodup/\∀x∈us,0<=x/\x<=65535
theorem YH(rb mb sz mx ph us ck w)(h:dz w rb mb sz mx ph us)(j:qi us)(o:0<=ck/\ck<=65535):
  Calls prog 203 #[jp rb,aj ck] w fun e l=>e=.returned (.tuple #[])/\dz l rb mb sz mx ph (freed us ck)/\aG (fun b=>b=mb) w l:=by
 have y:=aE w rb 3 (.map (some mb)) h.box;have p:=Maps.keyOf_int_mk (P:=prog) underlying3 (a:=ck) (by simp[Lit.wf,IntKind.min,IntKind.max,IntKind.signed,IntKind.bits];omega);have d:Hid (dz w rb mb sz mx ph us/\qi us):=⟨h,j⟩;have i:=aL h.uses;clear h j;go_enter func203,ntmps203;go_wp2_with (at_delete;refine wpList_delete_own _ rfl _ _ 226 3 rfl 169 (Maps.int_keyed underlying3) underlying226 _ mb us.length (Maps.setOf (.agg []) (us.map (Lit.int .i64))) rfl i.out _ _ rfl p ?_;intro B t u);have f:=u.grown
 have s:rb≠mb:=by obtain⟨A,z,m,_⟩:=i.out;exact eL d.out.1.box m aq
 refine dZ rfl rfl ⟨rfl,⟨(f.block rb (aP.1 d.out.1.box).1 (fun e=>s (by injection e))).trans d.out.1.box,aeu i.out d.out.2.1 d.out.2.2 ck o t⟩,⟨f.os,f.size,fun b n x=>f.block b n fun e=>x (by injection e)⟩⟩
def Ck.uK(k:Ck)(r:Rq)(er:UInt8)(d:ByteArray):Ck:=
 if k.ph=4 then{k with aZ:=k.aZ-1,prom:=k.prom-sizeOf' r.m}
 else{k with aZ:=k.aZ-1,prom:=k.prom-sizeOf' r.m,out:=k.out++mF er r.m.ck d,us:=freed k.us r.m.ck}
structure mm(w W:an)(c rb ch:Nat)(v0 q v:au)(g:Cf)(k:Ck)(r:Rq)(b1:Nat):Prop where
 p:cj W c rb ch q v g k
 b:W.heap[b1]? =some (.cells (aC r) 134 (0,0))
 t:aG (fun b=>b=c\/some b=v0.ownBlock) w W
section
variable {w W W':an} {c rb ch b1:Nat} {v0 q v:au} {g:Cf} {k k':Ck} {r:Rq}
theorem mm.drew(h:mm w W c rb ch v0 q v g k r b1):mm w W.drew c rb ch v0 q v g k r b1:=⟨h.p.drew,h.b,h.t.drew⟩
theorem mm.old(h:mm w W c rb ch v0 q v g k r b1)(a:aB W W'):mm w W' c rb ch v0 q v g k r b1:=⟨h.p.old a,bD a h.b,h.t.trans (aG.below a)⟩
theorem mm.put(h:mm w W c rb ch v0 q v g k r b1)(i u)(a:(iJ g k rb q v ch).setIfInBounds i u=iJ g k' rb q v ch)(f:k'.q=k.q)(d:k'.out=k.out)(e:k'.ph=k.ph):mm w (W.setCell (aa c i) u) c rb ch v0 q v g k' r b1:=
 ⟨h.p.put i u a f d e,mU h.b (eL h.b h.p.box aq) _ _,h.t.set (.inl rfl) _⟩
abbrev Al(c b1 rb:Nat)(v:au)(k:Ck)(r:Rq)(W:an):Prop:=(W.cell? (aa c 11)=some (aF rb)/\W.cell? (aa c 15)=some (aj k.prom)/\W.cell? (aa c 16)=some v)/\bQ W b1 r
theorem mm.s(h:mm w W c rb ch v0 q v g k r b1):Al c b1 rb v k r W:=⟨⟨av h.p.box rfl,av h.p.box rfl,av h.p.box rfl⟩,bQ.of h.b⟩
end
theorem VM(c rb mb ch q v g k r)(er:UInt8)(d w)(h:bM w c rb mb ch q v g k)(hr:r.Ok)(V:0<=r.m.ck/\r.m.ck<=65535)(hd:d.size<=65535)(hu:qi k.us)(hf:0<=k.aZ/\k.aZ<=1048576)(hp:0<=k.prom/\k.prom<=4194304)(ho:k.out.size<=1048576):
  Calls prog 163 #[jp c,.agg (aC r),aj (er.toNat:Int),.string d] w fun e o=>e=.returned (.tuple #[])/\∃x,bM o c rb mb ch q x g (k.uK r er d)/\aG (fun b=>b=c\/b=mb\/some b=v.ownBlock) w o/\(x.ownBlock=v.ownBlock\/∀b,x.ownBlock=some b->w.heap.size<=b):=by
 obtain⟨i0,bC,qy,bF,qz⟩:=info_parts infoByte;have e1:sizeOf' r.m=4+r.m.ln\/sizeOf' r.m=4:=by unfold sizeOf';split;exact .inl rfl;exact .inr rfl
 have b9:0<=sizeOf' r.m/\sizeOf' r.m<=65539:=by have:=hr.lR;have:=hr.pG;omega
 have b8:(mF er r.m.ck d).size<=131072:=by unfold mF;rw[ot,ot,ot];have:(⟨#[82]⟩:ByteArray).size+(⟨#[er]⟩:ByteArray).size+(⟨(jg r.m.ck).toArray⟩:ByteArray).size=4:=rfl;omega
 have R:aB w (w.alloc (.cells (aC r) 134)):=aR;have F:mm w (w.alloc (.cells (aC r) 134)) c rb ch v q v g k r w.heap.size:=⟨h.p.old R,bW w _,aG.below R⟩;have i:=aL h;have aF:=aL F;have HZ:Hid (∀W,bz 201 #[.agg (ji r.m.wh r.m.nm r.m.kd r.m.fl r.m.ck r.m.of r.m.ln r.m.dt r.m.er)] W (aj (sizeOf' r.m))):=fun W=>EJ r.m W hr.lR hr.pG;have HR:Hid (∀W,bz 202 #[aj (er.toNat:Int),aj r.m.ck,.string d] W (.string (mF er r.m.ck d))):=fun W=>RE er r.m.ck d W V.1 V.2 hd;have G:Hid (k.uK r er d=if k.ph=4 then{k with aZ:=k.aZ-1,prom:=k.prom-sizeOf' r.m}else{k with aZ:=k.aZ-1,prom:=k.prom-sizeOf' r.m,out:=k.out++mF er r.m.ck d,us:=freed k.us r.m.ck}):=rfl;have bJ:=aE (w.alloc (.cells (aC r) 134)) c 14 (aj k.aZ) F.p.box;have f14:=aS F.p.box 14;clear h F R e1;generalize k.uK r er d=kd at*;generalize sizeOf' r.m=j at*;generalize mF er r.m.ck d=f at*;generalize (er.toNat:Int)=en at*;go_enter func163,ntmps163
 go_upto_region 2 with fail
 have N:Hid (mm w ((w.alloc (.cells (aC r) 134)).setCell (aa c 14) (aj (k.aZ-1))) c rb ch v q v g {k with aZ:=k.aZ-1} r w.heap.size):=aF.out.put 14 _ rfl rfl rfl rfl;clear bJ f14 aF;generalize (w.alloc (.cells (aC r) 134)).setCell (aa c 14) (aj (k.aZ-1))=W1 at*;refine gW ?_;refine dh (S:=Al c w.heap.size rb v {k with aZ:=k.aZ-1} r) 10 aI N.out.drew.s ?_;intro hS;refine gk 0 ?_;refine gk 1 ?_;refine gk 2 ?_;refine gs 3 ?_;refine gk 4 ?_;refine gs 5 ?_;refine gr 6 fun K a=>?_;go_simp;go_at_call 201;refine(HZ.out _).mono ?_;rintro e w2 ⟨rfl,pF⟩;have D:=N.out.drew.old pF;refine a.out _ _ D.s (fun DM=>?_);clear a K;refine gk 7 ?_;refine gk 8 ?_;refine gk 9 ?_;have bK:=aE w2 c 15 (aj k.prom) D.p.box;have f15:=aS D.p.box 15;refine gz fun K a=>?_;go_simp;refine a.out _ _ ?_
 have z:Hid (mm w (w2.setCell (aa c 15) (aj (gU.wrap (k.prom-j)))) c rb ch v q v g {k with aZ:=k.aZ-1,prom:=k.prom-j} r w.heap.size):=by rw[pP ak ak];exact D.put 15 _ rfl rfl rfl rfl
 clear hS DM D bK f15 a K pF N;generalize w2.setCell (aa c 15) (aj (gU.wrap (k.prom-j)))=O at*;refine dJ aI ?_ _;refine gp ?_;have aA:=aE O c 20 (.chan (some ch)) z.out.p.box;have C:=z.out.p.chan
 by_cases A:k.ph=4
 ·have M:O.heap[ch]? =some (.chan 0 #[] true 0 0 false):=by rw[iY (show(_:Int)=4 from A)]at C;exact C
  have E:Hid (kd={k with aZ:=k.aZ-1,prom:=k.prom-j}):=by show _=_;rw[G.out,aM A]
  clear C A G;go_wp2_with (go_at_call 116;refine(Eb c ch _ aA M).mono ?_;rintro e w3 ⟨rfl,rfl⟩);obtain⟨a1,J,a3,a4,a5,a6,Q,L,a9⟩:=i.out.apart;have T:=z.out.t;refine Tx rfl rfl ⟨rfl,v,?_,T.mono (fun b _ h=>h.imp id .inr),.inl rfl⟩;rw[E.out];exact i.out.of z.out.p (T.block rb i.out.dQ.1 (by rintro(e|e);exact a1 e;exact Q e)) (T.block mb i.out.dQ.2 (by rintro(e|e);exact J e;exact L e)) rfl fun _=>rfl
 ·have M:O.heap[ch]? =some (.chan 0 #[] false 0 0 false):=by rw[ij (show ¬(_:Int)=4 from A)]at C;exact C
  have E:Hid (kd={k with aZ:=k.aZ-1,prom:=k.prom-j,out:=k.out++f,us:=freed k.us r.m.ck}/\k.ph≠4):=⟨by rw[G.out,aD A],A⟩;clear C A G
  go_upto_region 4 with(go_at_call 116;refine(yN c ch _ aA M).mono ?_;rintro e w3 ⟨rfl,rfl⟩)
  refine gW ?_;refine dh (S:=Al c w.heap.size rb v {k with aZ:=k.aZ-1,prom:=k.prom-j} r) 14 aI z.out.drew.s ?_;intro hS;refine gk 0 ?_;refine gk 1 ?_;refine gk 2 ?_;refine gk 3 ?_;refine gs 4 ?_;refine gk 5 ?_;refine gk 6 ?_;refine gk 7 ?_;refine gs 8 ?_;refine gk 9 ?_;refine gr 10 fun K a=>?_;go_simp;go_at_call 202;refine(HR.out _).mono ?_;rintro e w4 ⟨rfl,PE⟩;have u:=z.out.drew.old PE;refine a.out _ _ u.s (fun bt=>?_);clear a K;obtain⟨x,w5,DW,Y,X,Z⟩:=Nk (P:=prog) w4 158 9 158 5 i0 underlying158 underlying9 bC qy bF qz v k.out.size (iT k.out) u.p.out f ak;obtain⟨l,n,rfl⟩:=lT Y;obtain⟨P5,T5,y⟩:=u.p.tell Y X Z;have bA:some w.heap.size≠v.ownBlock:=fun e=>by have:=i.out.p.dQ.2.2.2 _ e.symm;omega
  have H:=(X.block _ (aP.1 u.b).1 bA).trans u.b;refine gr 11 fun K a=>?_;refine RB rfl rfl rfl rfl DW ?_;refine a.out _ _ ⟨⟨av y rfl,av y rfl,av y rfl⟩,bQ.of H⟩ (fun bu=>?_);clear a K;refine gk 12 ?_;refine gk 13 ?_;have bL:=aE w5 c 16 v y;have f16:=aS y 16;refine gz fun K a=>?_;go_simp;refine a.out _ _ ?_
  have B:Hid (mm w (w5.setCell (aa c 16) (.slice l (k.out.size+f.size) n)) c rb ch v q (.slice l (k.out.size+f.size) n) g {k with aZ:=k.aZ-1,prom:=k.prom-j,out:=k.out++f} r w.heap.size/\((eF l (k.out.size+f.size) n).ownBlock=v.ownBlock\/∀b,(eF l (k.out.size+f.size) n).ownBlock=some b->w.heap.size<=b)):=by refine⟨⟨P5,mU H (eL H y aq) _ _,u.t.trans (T5.mono fun b _ h=>h)⟩,Z.at_.imp id fun h b e=>?_⟩;have:=h b e;have:=u.t.size;omega
  clear hS bt bu u bL f16 a K PE z P5 T5 y H Z X Y aA M DW;generalize w5.setCell (aa c 16) (.slice l (k.out.size+f.size) n)=W6 at*;refine dJ aI ?_ _;refine gp ?_
  have HF:Hid (Calls prog 203 #[jp rb,aj r.m.ck] W6.drew fun e o=>e=.returned (.tuple #[])/\(∃x,bM o c rb mb ch q x g kd/\aG (fun b=>b=c\/b=mb\/some b=v.ownBlock) w o/\(x.ownBlock=v.ownBlock\/∀b,x.ownBlock=some b->w.heap.size<=b))/\Al c w.heap.size rb (.slice l (k.out.size+f.size) n) {k with aZ:=k.aZ-1,prom:=k.prom-j,out:=k.out++f} r o):=by
   obtain⟨a1,J,a3,a4,a5,a6,Q,L,a9⟩:=i.out.apart;obtain⟨ah,h3,h4⟩:=i.out.rd;have T:=B.out.1.t;have hrd:dz W6.drew rb mb g.sz g.mx ah k.us:=h3.keep (T.block rb i.out.dQ.1 (by rintro(e|e);exact a1 e;exact Q e)) (T.block mb i.out.dQ.2 (by rintro(e|e);exact J e;exact L e));refine(YH rb mb g.sz g.mx ah k.us r.m.ck _ hrd hu V).mono ?_;rintro e o ⟨rfl,f1,f2⟩;have P6:=B.out.1.p;obtain⟨b1,b2,b3,b4⟩:=P6.dQ
   have bD:∀b,(eF l (k.out.size+f.size) n).ownBlock=some b->b≠mb:=fun b e U=>by
    rcases B.out.2 with h|h
    ·exact L (by rw[<-h,e,U])
    ·have:=h b e;have:=i.out.dQ.2;omega
   have I:cj o c rb ch q (.slice l (k.out.size+f.size) n) g {k with aZ:=k.aZ-1,prom:=k.prom-j,out:=k.out++f}:=P6.drew.bS f2 (cW J) (cW a4) (fun b e U=>a6 (by rw[e,U])) bD;have B7:o.heap[w.heap.size]? =some (.cells (aC r) 134 (0,0)):=tM f2 B.out.1.drew.b (by have:=i.out.dQ.2;omega);refine⟨rfl,⟨_,⟨?_,ah,?_,?_⟩,(T.drew.mono fun b _ h=>h.imp id .inr).trans (f2.mono fun b _ h=>.inr (.inl h)),B.out.2⟩,⟨av I.box rfl,av I.box rfl,av I.box rfl⟩,bQ.of B7⟩
   ·rw[E.out.1];exact I.like rfl rfl rfl nD
   ·rw[E.out.1];exact f1
   ·rw[E.out.1];exact h4
  go_upto_region 5 with fail
  refine dR (S:=Al c w.heap.size rb (.slice l (k.out.size+f.size) n) {k with aZ:=k.aZ-1,prom:=k.prom-j,out:=k.out++f} r) B.out.1.drew.s fun bY=>?_;refine tk 0 ?_;refine tk 1 ?_;refine tk 2 ?_;refine tk 3 ?_;refine tk 4 ?_;refine tk 5 ?_;refine tk 6 ?_;refine rH 7 fun K a=>?_;go_simp;go_at_call 203;refine HF.out.mono ?_;rintro e w7 ⟨rfl,f1,f2⟩;refine a.out _ _ f2 (fun hH=>?_);clear a K;refine cK ?_;go_wp2;exact dZ rfl rfl ⟨rfl,f1⟩
theorem aaY(c rb mb ch q v g k s w)(h:bM w c rb mb ch q v g k)(d:k.ph=4):
  fE 74 #[jp c,.string s] w (aj 2):=by
 have a:=h.p.chan;rw[iY d]at a;have b:=aE w c 20 (.chan (some ch)) h.p.box;go_enter func74,ntmps74;go_wp2_with (go_at_call 116;refine(Eb c ch _ b a).mono ?_;rintro e f ⟨rfl,rfl⟩);go_ret;exact⟨rfl,rfl⟩
theorem aaX(c rb mb ch q v g k s w)(h:bM w c rb mb ch q v g k)(b:k.ph≠4)(j:k.aO.size<=1024)(l:1024<k.aO.size+s.size):
  fE 74 #[jp c,.string s] w (aj 6):=by
 have a:=h.p.chan;rw[ij b]at a;have d:=aE w c 20 (.chan (some ch)) h.p.box;have f:=aE w c 12 (.string k.aO) h.p.box;have i:decide ((1024:Int)-(k.aO.size:Int)<(s.size:Int))=true:=bK;clear h b;go_enter func74,ntmps74;go_wp2_with (go_at_call 116;refine(yN c ch _ d a).mono ?_;rintro e m ⟨rfl,rfl⟩);go_ret;exact⟨rfl,rfl⟩
def Ck.send(s:ByteArray)(k:Ck):Ck:={k with aO:=k.aO++s}
theorem aaW(c rb mb ch q v g k s w)(h:bM w c rb mb ch q v g k)(j:k.ph≠4)(A:k.aO.size+s.size<=1024):
  Calls prog 74 #[jp c,.string s] w fun e l=>e=.returned (aj 0)/\bM l c rb mb ch q v g (k.send s)/\aG (fun i=>i=c) w l:=by
 have f:=h.p.chan;rw[ij j]at f;have r:=aE w c 20 (.chan (some ch)) h.p.box;have o:=aE w c 12 (.string k.aO) h.p.box;have z:decide ((1024:Int)-(k.aO.size:Int)<(s.size:Int))=false:=bK;have y:¬9223372036854775807<k.aO.size+s.size:=ak;have n:=aL h;clear h j;go_enter func74,ntmps74
 go_upto_region 5 with(go_at_call 116;refine(yN c ch _ r f).mono ?_;rintro e t ⟨rfl,rfl⟩)
 refine gW ?_;refine dh (S:=fun W=>W.cell? (aa c 12)=some (.string k.aO)) 9 aI o ?_;intro hS;refine gk 0 ?_;refine gk 1 ?_;refine gk 2 ?_;refine gs 3 ?_;refine gk 4 ?_;refine gr 5 fun K b=>?_;go_simp;go_at_call 117;refine(Hq s _ ak).mono ?_;rintro e m ⟨rfl,a⟩;have d:=n.out.drew.old a;have u:=aE m c 12 (.string k.aO) d.p.box;have f12:=aS d.p.box 12;refine b.out _ _ u (fun x=>?_);clear b K;refine gk 6 ?_;refine gk 7 ?_;refine gk 8 ?_;refine gz fun K b=>?_;go_simp;refine b.out _ _ ?_;refine dJ aI ?_ _;refine gp ?_;go_wp2;go_ret;exact⟨rfl,d.put 12 _ rfl rfl rfl rfl rfl,(aG.below (X:=fun i=>i=c) (⟨a.os,a.tape,a.output,a.size,a.block⟩:aB t m)).set (p:=aa c 12) rfl _⟩
abbrev stG(k:Ck):Array au:=#[aj k.ph,aj k.aO.size,aj k.q.length,aj k.aZ,aj k.tok,aj k.de,aj k.out.size,aj k.sv]
abbrev SgS(c b:Nat)(k:Ck)(e:Option Addr)(f:Nat)(a:Option Addr)(d:Nat)(W:an):Prop:=W.cell? (aa c 12)=some (.string k.aO)/\W.cell? (aa c 13)=some (.slice e k.q.length f)/\W.cell? (aa c 14)=some (aj k.aZ)/\W.cell? (aa c 16)=some (.slice a k.out.size d)/\W.cell? (aa c 17)=some (aj k.tok)/\W.cell? (aa c 18)=some (aj k.de)/\W.cell? (aa c 19)=some (aj k.sv)
abbrev xk:Array au:=#[aj 0,aj 0,aj 0,aj 0,aj 0,aj 0,aj 0,aj 0]
theorem Wk{w W}(h:aB w W)(v0 v1 v2 v3 v4 v5 v6 v7):aB w ((((((((W.setCell (aa w.heap.size 0) v0).setCell (aa w.heap.size 1) v1).setCell (aa w.heap.size 2) v2).setCell (aa w.heap.size 3) v3).setCell (aa w.heap.size 4) v4).setCell (aa w.heap.size 5) v5).setCell (aa w.heap.size 6) v6).setCell (aa w.heap.size 7) v7):=
 cC (cC (cC (cC (cC (cC (cC (cC h _ _) _ _) _ _) _ _) _ _) _ _) _ _) _ _
theorem adz(c rb mb ch q v g k w)(h:bM w c rb mb ch q v g k):
  bz 70 #[jp c] w (.agg (stG k)):=by
 obtain⟨o,r,rfl,_⟩:=h.p.row.form;obtain⟨l,m,rfl⟩:=lT h.p.out;have f:aB w (w.alloc (.cells xk 68)):=aR;have A:=h.old f;have a:(w.alloc (.cells xk 68)).heap[w.heap.size]? =some (.cells xk 68 (0,0)):=bW w _;have t:Hid (∀n,Calls prog 114 #[jp c] ((w.alloc (.cells xk 68)).drewN n) fun e u=>e=.returned (aj k.ph)/\u=(w.alloc (.cells xk 68)).drewN n):=fun n=>Rn _ _ _ _ _ _ _ _ _ (A.drewN n);have j:SgS c w.heap.size k o r l m (w.alloc (.cells xk 68)):=⟨av A.p.box rfl,av A.p.box rfl,av A.p.box rfl,av A.p.box rfl,av A.p.box rfl,av A.p.box rfl,av A.p.box rfl⟩;have s:=aL f;clear h A f;generalize k.q.length=I at*;go_enter func70,ntmps70
 go_upto_region 1 with fail
 generalize w.alloc (.cells xk 68)=b at*;have x:=aE b w.heap.size 0 (aj 0) a;have y:=aE b w.heap.size 1 (aj 0) a;have z:=aE b w.heap.size 2 (aj 0) a;have B:=aE b w.heap.size 3 (aj 0) a;have C:=aE b w.heap.size 4 (aj 0) a;have D:=aE b w.heap.size 5 (aj 0) a;have E:=aE b w.heap.size 6 (aj 0) a;have F:=aE b w.heap.size 7 (aj 0) a;have G:∀i,b.frozen? (aa w.heap.size i)=false:=fun i=>aS a i;clear a;refine gW ?_;refine dh (S:=SgS c w.heap.size k o r l m) 34 aI j ?_;intro hS;refine gk 0 ?_;refine gk 2 ?_;refine gk 3 ?_;refine gk 4 ?_;refine gs 5 ?_;refine gk 6 ?_;refine gk 7 ?_;refine gk 8 ?_;refine gk 9 ?_;refine gs 10 ?_;refine gk 11 ?_;refine gk 12 ?_;refine gk 13 ?_;refine gk 14 ?_;refine gs 15 ?_;refine gk 16 ?_;refine gk 17 ?_;refine gk 18 ?_;refine gs 19 ?_;refine gk 20 ?_;refine gk 21 ?_;refine gk 22 ?_;refine gs 23 ?_;refine gk 24 ?_;refine gk 25 ?_;refine gk 26 ?_;refine gs 27 ?_;refine gk 28 ?_;refine gk 29 ?_;refine gk 30 ?_;refine gk 31 ?_;refine gs 32 ?_;refine gr 1 fun K d=>?_;go_simp;go_at_call 114;refine(t.out 1).mono ?_;rintro e J ⟨rfl,rfl⟩;refine d.out _ _ j (fun H=>?_);clear d K;refine gk 33 ?_;refine gz fun K d=>?_;go_simp;refine d.out _ _ ?_;refine dJ aI ?_ _;refine gp ?_;go_wp2;refine fX (v:=.agg (stG k)) (by simp[results,results70,go_sem,x,y,z,B,C,D,E,F]) rfl ⟨rfl,?_⟩;exact ig (Wk s.out _ _ _ _ _ _ _ _) 1
theorem Rj{w v o}(h:sQ w v o):∃f a,v=.slice f o.size a/\o.size<=a/\a<=bT:=by
 rcases h.2 with⟨e,b⟩|⟨g,i,j,e,_,_,c,d,_⟩
 ·exact⟨none,0,by rw[e,b],ak,by unfold bT;omega⟩
 ·exact⟨_,_,e,c,d⟩
theorem Q2{w oa cap m o}(h:sQ w (.slice oa o.size cap) o)(hm:m<=o.size):(convert 158 9 (.slice oa m cap)).run prog w=.ok (.string (o.extract 0 m)) w:=by
 have f:(o.data.toList.take m).length=m:=by rw[qP];exact oI (by simpa using hm)
 have b:(⟨(o.data.toList.take m).toArray⟩:ByteArray)=o.extract 0 m:=by apply vK;apply xz;simp[vJ]
 rcases h.2 with⟨e,h0⟩|⟨g,r,d,e,_,p,_,_,_,q⟩
 ·have n:m=0:=ak;subst n;rw[Xe];have:o.extract 0 0=⟨#[]⟩:=by rw[<-b];rfl
  rw[this]
 ·cases e
  have i:∀(j:Nat) u,(iT o)[j]? =some u->d[j]? =some u:=fun j u a=>by
   rw[<-q,lX]at a;split at a
   ·rw[<-kK];exact a
   ·cases a
  have c:=run_convert_bytes_back w 158 9 5 ⟨g,0,none⟩ cap (o.data.toList.take m) underlying158 underlying5 underlying9 (fun j k=>by
   rw[Addr.add_lit,fo];refine av p (i j _ ?_);have s:o.data.size=o.size:=rfl;rw[qP]at k;have l:j<o.data.size:=ak
   have e:(iT o)[j]? =some (.int .u8 (o.data[j].toNat:Int)):=by unfold iT;rw[kO,kK,cw l];rfl
   rw[e];simp)
  rw[f,b]at c;exact c
theorem Xo{v o}(w)(h:sQ w v o)(y:mq w v)(m)(hm:m<=o.size)(X:o.size<=bT):
  Calls prog 113 #[v,aj 0,aj m] w fun e f=>∃l,e=.returned l/\sQ f l (o.extract m o.size)/\aG (fun b=>some b=v.ownBlock) w f/\l.ownBlock=v.ownBlock/\mq f l:=by
 by_cases h0:m=0
 ·subst h0;obtain⟨T,U,rfl,s⟩:=Rj h;refine(Xv _ T o.size U rfl s.1 s.2 w).mono ?_;rintro e f ⟨rfl,rfl⟩;have n:o.extract 0 o.size=o:=aq;exact⟨_,rfl,by rw[n];exact h,aG.refl _ _,rfl,y⟩
 ·rcases h.2 with⟨_,e⟩|⟨g,q,k,rfl,_,x,M,t,p,z⟩
  ·omega
  ·rw[Nat.mul_one]at p z;have S:(iT o).length=o.size:=UA o
   have O:∀(j:Nat) u,(iT o)[j]? =some u->k[j]? =some u:=fun j u a=>by
    rw[<-z,lX]at a;split at a
    ·rw[<-kK];exact a
    ·cases a
   obtain⟨news,d⟩:∃news,news=(iT o).drop m:=⟨_,rfl⟩;have Q:news.length=o.size-m:=by rw[d,List.length_drop,S]
   have R:∀u∈news,u.oneCell'=true:=fun u a=>Lib.strCells_oneCell o u (vS (d▸a));have P:∀(j:Nat) u,news[j]? =some u->k[m+j]? =some u:=fun j u a=>O (m+j) u (by rw[d,Gg]at a;exact a);obtain⟨K,a1,A,a3,B,C,D,E⟩:=qG news 0 w.drew k x;obtain⟨L,b1,F,G,V,H,I,J⟩:=qG (List.replicate m (.int .u8 0)) (o.size-m) (w.drew.setCells g 0 news) K a1;refine(Xw g o.size q m news k w ak hm M t Q R x p P).mono ?_;rintro e f ⟨rfl,rfl⟩;have r:(o.extract m o.size).size=o.size-m:=by simp[kL]
   refine⟨_,rfl,?_,⟨J.trans E,by rw[I,D];exact aV _,fun i _ c=>(H i fun e=>c (by rw[e];rfl)).trans (C i fun e=>c (by rw[e];rfl))⟩,rfl,fun W N=>?_⟩
   ·show World.ownsRow _ 0 5 1 _ (o.extract m o.size).size _;rw[r];refine⟨by rw[UA,r];omega,.inr ⟨g,q,L,rfl,eE _,b1,ak,t,by rw[F,A,p];omega,?_⟩⟩;rw[Nat.mul_one]
    have n:iT (o.extract m o.size)=news:=by rw[d];unfold iT;rw[vJ,Array.toList_extract,List.extract_eq_take_drop,su aq,List.map_drop]
    rw[n];apply tY;intro i;rw[lX];split
    ·rename_i c;rw[kK,G i (.inl c)];have:=B i news[i] (dN ak) ak;rw[fo]at this;rw[this,dN]
    ·rename_i c;rw[xO ak]
   ·cases N;have h0:yu w.drew g:=y g rfl;refine(h0.sets _ 0 _ fun u a=>OL o u (vS (d▸a))).sets _ _ _ fun u a=>?_;rw[List.eq_of_mem_replicate a];trivial
def Ck.take(m:Nat)(k:Ck):Ck:={k with out:=k.out.extract m k.out.size}
theorem adL(c rb mb ch:Nat)(q v:au)(g:Cf)(k:Ck)(n:Int)(m:Nat)(w:an)(h:bM w c rb mb ch q v g k)(hm:(m:Int)=min n k.out.size)(V:k.out.size<=1048576):
  Calls prog 69 #[jp c,aj n] w fun e f=>e=.returned (.tuple #[.string (k.out.extract 0 m),aj 0])/\∃s,bM f c rb mb ch q s g (k.take m)/\aG (fun b=>b=c\/some b=v.ownBlock) w f/\s.ownBlock=v.ownBlock:=by
 have x:m<=k.out.size:=ak;have U:decide (n<0)=false:=bK;have T:=hm.symm;obtain⟨j,i,rfl,E⟩:=Rj h.p.out;have P:=Q2 h.p.out x;have N:=aE w c 16 (.slice j k.out.size i) h.p.box
 have B:Hid (Calls prog 113 #[.slice j k.out.size i,aj 0,aj m] w fun e f=>∃a l d,e=.returned (.slice a l d)/\(bM (f.setCell (aa c 16) (.slice a l d)) c rb mb ch q (.slice a l d) g (k.take m)/\aG (fun b=>b=c\/some b=(eF j k.out.size i).ownBlock) w (f.setCell (aa c 16) (.slice a l d))/\(eF a l d).ownBlock=(eF j k.out.size i).ownBlock)/\f.cell? (aa c 16)=some (.slice j k.out.size i)/\f.frozen? (aa c 16)=false):=by
  refine(Xo w h.p.out h.p.tv m x (by unfold bT;omega)).mono ?_;rintro e f ⟨s,rfl,d1,d2,d3,d4⟩;obtain⟨a,d,rfl⟩:=lT d1;obtain⟨a1,t,a3,M,C,u⟩:=h.p.apart;obtain⟨G,H,y,W⟩:=h.p.dQ;obtain⟨I,J,X,Y,Z,r6,K,L,r9⟩:=h.apart;have r:=(d2.block c G a3).trans h.p.box;have off:∀b,b≠c->(f.setCell (aa c 16) (.slice a (k.out.extract m k.out.size).size d)).heap[b]? =f.heap[b]? :=fun b D=>bH D;have z:∀b,(eF a (k.out.extract m k.out.size).size d).ownBlock=some b->b≠c:=fun b e o=>a3 (by rw[<-o,<-d3,e]);refine⟨a,_,d,rfl,⟨h.of ⟨bV r 16 _,gm h.p.row fun b e=>(off b fun o=>t (by rw[e,o])).trans (d2.block b (y b e) (u b e)),gm d1 fun b e=>off b (z b e),h.p.tq.keep fun b e=>(off b fun o=>t (by rw[e,o])).trans (d2.block b (y b e) (u b e)),d4.keep fun b e=>off b (z b e),(off ch (cW a1)).trans ((d2.block ch H C).trans h.p.chan)⟩ ?_ ?_ rfl fun _=>rfl,((d2.mono fun b _ h=>(.inr h:b=c\/some b=(eF j k.out.size i).ownBlock)).set (p:=aa c 16) (.inl rfl) (.slice a (k.out.extract m k.out.size).size d)),d3⟩,av r rfl,aS r 16⟩
  ·exact(off rb I).trans (d2.block rb h.dQ.1 K)
  ·exact(off mb J).trans (d2.block mb h.dQ.2 L)
 have Q:(m:Int)<=(k.out.size:Int):=ak;have S:(m:Int)<=(i:Int):=ak;have R:m<=i:=ak;obtain⟨O,F⟩:=E;unfold bT at F;clear h hm;go_enter func69,ntmps69;go_wp2_with (go_at_call 113;refine B.out.mono ?_;rintro e w2 ⟨a,l,d,rfl,d1,d2,d3⟩;have A:=aL d1;clear d1)
 go_ret2
 exact⟨rfl,_,A.out⟩
def Ck.fresh(no wt a:Int):Ck:=⟨no,wt,0,⟨#[]⟩,[],0,0,⟨#[]⟩,a,0,0,[]⟩
theorem I2(g no wt w):Calls prog 73 #[cfV g,aj no,aj wt] w fun e f=>
  ∃c d b a,e=.returned (jp c)/\bM f c d b a (.slice none 0 0) (.slice none 0 0) g (Ck.fresh no wt g.bu)/\aB w f/\w.heap.size<=c/\w.heap.size<=d/\w.heap.size<=b/\w.heap.size<=a:=by
 refine(WT g.sz g.cl g.qu g.mx g.qn g.rt g.bu g.wk g.ou no wt w).mono ?_;rintro e f ⟨c,d,b,a,rfl,h,i,j⟩;exact⟨c,d,b,a,rfl,⟨⟨i,um _ _ _ _,um _ _ _ _,zn _,zn _,h.chan⟩,h.rd⟩,j⟩
structure Ck.Am(k:Ck):Prop where
 tok:0<=k.tok/\k.tok<=65535
 de:0<=k.de/\k.de<=1048576
 sv:0<=k.sv/\k.sv<=281474976710656
 aZ:0<=k.aZ/\k.aZ<=1048576
 prom:0<=k.prom/\k.prom<=4194304
 q:∀r∈k.q,r.Ok
theorem Ck.Am.head{k:Ck}{r:Rq}{l:List Rq}(h:k.Am)(a:k.q=r::l):r.Ok:=h.q r (by rw[a];simp)
theorem row_one{W:an}{b T k:Nat}{xs:List au}(h:W.heap[b]? =some (.cells xs.toArray T (0,0)))(a:xs.length=k):W.ownsRow 0 T k (.slice (some (aa b 0)) 1 1) 1 xs:=
 ⟨by rw[a];omega,.inr ⟨b,1,_,rfl,eE _,h,aV _,by unfold bT;omega,by simp[a],(by grind)⟩⟩
theorem I3(c rb mb ch q v g k r l w)(h:bM w c rb mb ch q v g k)(n:k.q=r::l)(d:k.Am):
  Calls prog 207 #[jp c] w fun e i=>∃j rv,e=.returned (jp j)/\dU i j c rv [r] ⟨0,false,0⟩ 0 0/\(∃f,bM i c rb mb ch f v g (k.bF r l)/\f.ownBlock=q.ownBlock)/\aG (fun b=>b=c\/some b=q.ownBlock) w i/\w.heap.size<=j/\∀b,rv.ownBlock=some b->w.heap.size<=b:=by
 have t:=aL (NX c rb mb ch q v g k r l w h n (d.head n) d.tok d.de d.sv d.aZ d.prom);go_enter func207,ntmps207;go_wp2_with (go_at_call 242;refine t.out.mono ?_;rintro e a ⟨rfl,o⟩;have s:=aL o;clear o);go_ret;obtain⟨f,y,p,z⟩:=s.out;have b1:aB a (a.alloc (.cells (aC r) 134)):=aR;have m:aB a ((a.alloc (.cells (aC r) 134)).alloc (.cells (AP c (.slice (some (aa a.heap.size 0)) 1 1) ⟨0,false,0⟩ 0 0) 217)):=b1.alloc aq _;have u:((a.alloc (.cells (aC r) 134)).alloc (.cells (AP c (.slice (some (aa a.heap.size 0)) 1 1) ⟨0,false,0⟩ 0 0) 217)).heap[a.heap.size]? =some (.cells (aC r) 134 (0,0)):=(Below.heap_alloc _ _ _ aq).trans (bW a _);have x:=p.size;refine⟨a.heap.size+1,.slice (some (aa a.heap.size 0)) 1 1,rfl,⟨?_,?_⟩,⟨f,y.old m,z⟩,p.trans (aG.below m),ak,fun b e=>by cases e;exact x⟩
 ·have:=bW (a.alloc (.cells (aC r) 134)) (.cells (AP c (.slice (some (aa a.heap.size 0)) 1 1) ⟨0,false,0⟩ 0 0) 217);rw[yg]at this;exact this
 ·exact row_one (xs:=(aC r).toList) u rfl
theorem VJ(j c rb mb ch rv q v g k rs r l)(f:Ft)(due order w)(s:dU w j c rv rs f due order)(h:bM w c rb mb ch q v g k)(Q:k.q=r::l)(z:k.Am)(hn:rs.length<=1048576)(J:∀b,rv.ownBlock=some b->some b≠q.ownBlock):
  Calls prog 209 #[jp j] w fun e x=>e=.returned (.tuple #[])/\(∃rM,dU x j c rM (rs++[r]) f due order/\(rM.ownBlock=rv.ownBlock\/∀b,rM.ownBlock=some b->w.heap.size<=b))/\(∃d,bM x c rb mb ch d v g (k.bF r l)/\d.ownBlock=q.ownBlock)/\aG (fun b=>b=c\/b=j\/some b=q.ownBlock\/some b=rv.ownBlock) w x:=by
 obtain⟨i1,aO,aY,bf,bg⟩:=info_parts Qg
 have HD:Hid (∀n,Calls prog 242 #[jp c] (w.drewN n) fun e x=>e=.returned (.agg (aC r))/\(∃d,bM x c rb mb ch d v g (k.bF r l)/\d.ownBlock=q.ownBlock)/\dU x j c rv rs f due order/\aG (fun b=>b=c\/some b=q.ownBlock) w x):=fun n=>by
  refine(NX c rb mb ch q v g k r l _ (h.drewN n) Q (z.head Q) z.tok z.de z.sv z.aZ z.prom).mono ?_;rintro e x ⟨rfl,d,M,E,F⟩;have N:aG (fun b=>b=c\/some b=q.ownBlock) w x:=⟨E.os,E.size,E.block⟩
  have aQ:some j≠q.ownBlock:=fun e=>by
   rcases h.p.row.2 with⟨rfl,_⟩|⟨D,C,u,rfl,_,a,_⟩
   ·cases e
   ·cases e;exact eL s.box a aq rfl
  refine⟨rfl,⟨d,M,F⟩,⟨tM N s.box ?_,gm s.row fun b e=>N.block b (zb s.row e) ?_⟩,N⟩
  ·rintro(e|e)
   ·exact eL s.box h.p.box aq e
   ·exact aQ e
  ·rintro(e'|e')
   ·rcases s.row.2 with⟨rfl,_⟩|⟨D,C,u,rfl,_,a,_⟩
    ·cases e
    ·cases e;exact eL a h.p.box aq e'
   ·exact J b e e'
 have c0:=aE w j 0 (jp c) s.box;have c1:=aE w j 1 rv s.box;have HJ:=aL ((eL s.box h.p.box aq:j≠c));have HQ:=aL h;have Z:=aL J;clear h z s J;go_enter func209,ntmps209
 go_upto_region 0 with fail
 refine gW ?_;refine dh (S:=fun W=>W.cell? (aa j 0)=some (jp c)/\W.cell? (aa j 1)=some rv) 14 aI ⟨c0,c1⟩ ?_;intro hS;refine gk 0 ?_;refine gk 1 ?_;refine gk 2 ?_;refine gk 3 ?_;refine gs 4 ?_;refine gk 5 ?_;refine gk 6 ?_;refine gk 7 ?_;refine gs 8 ?_;refine gr 9 fun K m=>?_;go_simp;go_at_call 242;refine(HD.out 1).mono ?_;rintro e A ⟨rfl,⟨d,M,E⟩,F,T⟩;refine m.out _ _ ⟨av F.box rfl,av F.box rfl⟩ (fun Pz=>?_);clear m K;have H:aB A (A.alloc (.cells (aC r) 134)):=aR;have i:=F.below H;have t:=M.old H;have N6:=bW A (.cells (aC r) 134);refine gr 10 fun K m=>?_;go_simp;refine m.out _ _ ⟨av i.box rfl,av i.box rfl⟩ (fun bu=>?_);clear m K;obtain⟨rM,Y,DW,L,I,aX⟩:=He (P:=prog) (A.alloc (.cells (aC r) 134)) 165 165 134 i1 _ 10 96 underlying165 aO aY bf bg rfl ak (Io ⟨⟨0,⟨#[]⟩,0,0,0,0,0,⟨#[]⟩,0⟩,0⟩) rv rs.length _ i.row ⟨A.heap.size,0,none⟩ 1 1 (aC r).toList rfl (World.news_of_block N6) (by simp[Value.oneCell']) ak (by unfold bT;omega) ak;obtain⟨V,X,rfl⟩:=lT L
 have aT:some j≠rv.ownBlock:=fun e=>by
  rcases i.row.2 with⟨rfl,_⟩|⟨D,C,u,rfl,_,a,_⟩
  ·cases e
  ·cases e;exact eL i.box a aq rfl
 have B:=(I.block j (aP.1 i.box).1 aT).trans i.box;refine gr 11 fun K m=>?_;refine wY rfl rfl rfl rfl DW ?_;refine m.out _ _ ⟨av B rfl,av B rfl⟩ (fun bz=>?_);clear m K;refine gk 12 ?_;refine gk 13 ?_;have x1:=aE Y j 1 rv B;have f1:=aS B 1;refine gz fun K m=>?_;go_simp;refine m.out _ _ ?_;refine dJ aI ?_ _;refine gp ?_;go_wp2;have bC:=T.size;have bB:=H.size;have G:aG (fun b=>b=j\/some b=rv.ownBlock) (A.alloc (.cells (aC r) 134)) (Y.setCell (aa j 1) (.slice V (rs.length+1) X)):=⟨I.os,by simpa using I.size,fun b hb R=>(bH fun e=>R (.inl e)).trans (I.block b hb fun e=>R (.inr e))⟩
 have aU:∀b,(eF V (rs.length+1) X).ownBlock=some b->b≠j:=fun b e e'=>by
  rcases L.2 with⟨y,_⟩|⟨D,C,u,y,_,a,_⟩
  ·cases y
  ·cases y;cases e;exact eL a B aq e'
 have aW:d.ownBlock=q.ownBlock:=E;refine dZ rfl rfl ⟨rfl,⟨_,⟨bV B 1 _,?_⟩,aX.at_.imp id fun h b e=>?_⟩,⟨d,?_,E⟩,?_⟩
 ·show gX _ _ (rs++[r]);unfold gX;rw[ia,rW];simp;exact gm L fun b e=>bH (aU b e)
 ·have:=h b e;omega
 ·have aF:∀b,d.ownBlock=some b->¬(b=j\/some b=rv.ownBlock):=fun b e=>by
   rintro(e'|e')
   ·rcases t.p.row.2 with⟨rfl,_⟩|⟨D,C,u,rfl,_,a,_⟩
    ·cases e
    ·cases e;exact eL a i.box aq e'
   ·exact Z.out b e'.symm (by rw[<-aW,e])
  have key:∀b o,(A.alloc (.cells (aC r) 134)).heap[b]? =some o->(∀u,o≠.cells u 134 (0,0))->o≠.cells (AP c rv f due order) 217 (0,0)->¬(b=j\/some b=rv.ownBlock):=fun b o O h1 h2=>by
   rintro(e'|e')
   ·subst e';exact h2 (dm (O.symm.trans i.box))
   ·rcases i.row.2 with⟨y,_⟩|⟨D,C,u,y,_,a,_⟩
    ·rw[y]at e';cases e'
    ·rw[y]at e';cases e';exact h1 u (dm (O.symm.trans a))
  obtain⟨rp,U,r2⟩:=t.rd;obtain⟨es,cl,r3,_⟩:=U.uses;refine t.of (t.p.bS G (key c _ t.p.box aq aq) (key ch _ t.p.chan aq aq) aF fun b e=>?_) (G.block rb t.dQ.1 (key rb _ U.box aq aq)) (G.block mb t.dQ.2 (key mb _ r3 aq aq)) rfl fun _=>rfl;rcases t.p.out.2 with⟨rfl,_⟩|⟨D,C,u,rfl,_,a,_⟩
  ·cases e
  ·cases e;exact key _ _ a aq aq
 ·refine((T.mono fun b _ h=>?_).trans (aG.below H)).trans (G.mono fun b _ h=>?_)
  ·rcases h with h|h
   ·exact .inl h
   ·exact .inr (.inr (.inl h))
  ·rcases h with h|h
   ·exact .inr (.inl h)
   ·exact .inr (.inr (.inr h))
def rA(f l r:Rq)(a:Int):Bool:=(r.m.kd !=2)&&((r.m.kd==l.m.kd)&&((r.m.fl==l.m.fl)&&((r.m.of==l.m.of+l.m.ln)&&decide (r.m.of+r.m.ln-f.m.of<=a))))
abbrev uw(a b c:Nat)(r f l:Rq)(W:an):Prop:=bQ W a r/\bQ W b f/\bQ W c l
theorem bQ.old{W W' b r}(h:bQ W b r)(a:aB W W'):bQ W' b r:=by obtain⟨c,a1,d,a3,e,f,g,i,j,k⟩:=h;exact⟨bp a c,bp a a1,bp a d,bp a a3,bp a e,bp a f,bp a g,bp a i,bp a j,bp a k⟩
theorem uw.old{b4 b7 b8 r f l W W'}(h:uw b4 b7 b8 r f l W)(a:aB W W'):uw b4 b7 b8 r f l W':=⟨h.1.old a,h.2.1.old a,h.2.2.old a⟩
theorem Da{B w w' n}(h:aB (w.drewN n) w')(a:B<=w.heap.size):Below B w w':=⟨h.os,h.tape,h.output,h.size,fun k b=>h.block k (cV b a)⟩
theorem Ld(W x y):aB W ((W.alloc x).alloc y).drew:=(((Below.refl _ W).alloc (aV _) _).alloc aq _).drew
theorem Bq(W:an)(x y:Obj):((W.alloc x).alloc y).drew.heap[W.heap.size]? =some x:=(Below.heap_alloc _ _ _ aq).trans (bW W _)
theorem Bp(W:an)(x y:Obj):((W.alloc x).alloc y).drew.heap[W.heap.size+1]? =some y:=by have:=bW (W.alloc x) y;rw[yg]at this;exact this
abbrev uv(j:Nat)(rv:au)(a n:Nat)(f l:Rq)(W:an):Prop:=W.cell? (aa j 1)=some rv/\(W.cell? (aa a 0)=some (aj f.m.wh)/\W.cell? (aa a 1)=some (.string f.m.nm)/\W.cell? (aa a 2)=some (aj f.m.kd)/\W.cell? (aa a 3)=some (aj f.m.fl)/\W.cell? (aa a 4)=some (aj f.m.ck)/\W.cell? (aa a 5)=some (aj f.m.of)/\W.cell? (aa a 6)=some (aj f.m.ln)/\W.cell? (aa a 7)=some (.string f.m.dt)/\W.cell? (aa a 8)=some (aj f.m.er)/\W.cell? (aa a 9)=some (aj f.no))/\
 (W.cell? (aa a (n*10))=some (aj l.m.wh)/\W.cell? (aa a (n*10+1))=some (.string l.m.nm)/\W.cell? (aa a (n*10+2))=some (aj l.m.kd)/\W.cell? (aa a (n*10+3))=some (aj l.m.fl)/\W.cell? (aa a (n*10+4))=some (aj l.m.ck)/\W.cell? (aa a (n*10+5))=some (aj l.m.of)/\W.cell? (aa a (n*10+6))=some (aj l.m.ln)/\W.cell? (aa a (n*10+7))=some (.string l.m.dt)/\W.cell? (aa a (n*10+8))=some (aj l.m.er)/\W.cell? (aa a (n*10+9))=some (aj l.no))
theorem uv.bS{j gb n B rv f l W W'}(h:uv j rv gb n f l W)(F:aG (fun b=>B<=b) W W')(E:j<B)(c:gb<B):uv j rv gb n f l W':=by have e:∀{a o:Nat} {v:au},a<B->W.cell? (aa a o)=some v->W'.cell? (aa a o)=some v:=fun{a o v} G d=>(fC (F.block a (gM d) ak)).trans d;obtain⟨a,⟨g,a1,i,a3,k,m,p,q,r,s⟩,t,b1,u,w,x,y,z,A,C,D⟩:=h;exact⟨e E a,⟨e c g,e c a1,e c i,e c a3,e c k,e c m,e c p,e c q,e c r,e c s⟩,e c t,e c b1,e c u,e c w,e c x,e c y,e c z,e c A,e c C,e c D⟩
theorem Ys(j c:Nat)(rv:au)(i:List Rq)(f l r:Rq)(ft:Ft)(due bn P:Int)(w:an)(h:dU w j c rv i ft due bn)(hf:i[0]? =some f)(hl:i[i.length-1]? =some l)(hr:r.Ok)(ah:f.Ok)(ay:l.Ok)(bE:i.length<=1048576):
  bz 243 #[jp j,.agg (aC r),aj P] w (.bool (rA f l r P)):=by
 have bC:0<i.length:=(ed.1 hf).1;obtain⟨n,hn⟩:∃n,i.length=n+1:=⟨i.length-1,ak⟩;obtain⟨ra,B,rfl,bk⟩:=h.row.form;obtain⟨g,rfl,u⟩:=h.row.at hf;obtain⟨bA,e,Q⟩:=h.row.at hl;cases e;have M:j<w.heap.size:=(aP.1 h.box).1;have I:g<w.heap.size:=gM u.1
 have U:uv j (.slice (some (aa g 0)) i.length B) g n f l w:=by rw[show i.length-1=n by omega]at Q;simp at u;exact⟨av h.box rfl,u,Q⟩
 have E:aB w (w.alloc (.cells (aC r) 134)):=aR;have Y:=U.bS (aG.below (X:=fun b=>w.heap.size<=b) E) M I;have T:(w.alloc (.cells (aC r) 134)).heap[w.heap.size]? =some (.cells (aC r) 134 (0,0)):=bW w _;have k:Hid (uv j (.slice (some (aa g 0)) i.length B) g n f l (w.alloc (.cells (aC r) 134))/\(w.alloc (.cells (aC r) 134)).heap[w.heap.size]? =some (.cells (aC r) 134 (0,0))/\aB w (w.alloc (.cells (aC r) 134))):=⟨Y,T,E⟩;obtain⟨V,H⟩:∃V,V=rA f l r P:=⟨_,rfl⟩;rw[<-H];have t:=aL H;clear H;have o:Hid (r.Ok/\l.Ok/\f.Ok):=⟨hr,ay,ah⟩;have D:Hid (∀x:Rq,x.Ok->∀W,bz 268 #[.agg (aC x)] W (aj (x.m.of+x.m.ln))):=fun x hx W=>qE x W hx;clear h u Q hf hl hr ah ay U Y T E;generalize i.length=L at*;subst hn;have bf:(n:Int)<=1048576:=ak;have bg:(n:Int)<(n:Int)+1:=ak;go_enter func243,ntmps243
 go_upto_region 1 with fail
 generalize w.alloc (.cells (aC r) 134)=d at*;have N:j<d.heap.size:=cV M k.out.2.2.size;have J:g<d.heap.size:=cV I k.out.2.2.size
 go_cut [4,7,8] (fun p4 p7 p8 R=>∃v z,p4=aF w.heap.size/\p7=aF v/\p8=aF z/\R.heap[v]? =some (.cells (aC f) 134 (0,0))/\R.heap[z]? =some (.cells (aC l) 134 (0,0))/\aB d R)
 case first=>
  refine dR (S:=uv j (.slice (some (aa g 0)) (n+1) B) g n f l) k.out.1 fun G=>?_;refine tk 0 ?_;refine tk 1 ?_;refine tk 2 ?_;refine tk 3 ?_;refine tk 4 ?_;refine tk 5 ?_;refine tk 6 ?_;refine tk 7 ?_;refine tk 8 ?_;refine tk 9 ?_;refine tk 10 ?_;refine tk 11 ?_;refine tk 12 ?_;refine tk 13 ?_;refine tk 14 ?_;refine tk 15 ?_;rw[show gU.wrap ((n:Nat):Int)=(n:Int) from pP ak ak];refine tk 16 ?_;refine tk 17 ?_
  have q:Hid (∀x y,uv j (.slice (some (aa g 0)) (n+1) B) g n f l (d.alloc x).drew/\uv j (.slice (some (aa g 0)) (n+1) B) g n f l ((d.alloc x).alloc y).drew):=fun x y=>
   ⟨k.out.1.bS (aG.below (X:=fun b=>d.heap.size<=b) ((Below.refl _ d).alloc (aV _) x).drew) N J,k.out.1.bS (aG.below (X:=fun b=>d.heap.size<=b) (Ld d x y)) N J⟩
  refine aH [18,19] (.cons rfl (fun K a=>?_) ?_)
  ·(skip)
   go_simp;refine a.out _ _ (q.out _ (.cells #[] 0)).1 (fun aT=>?_);clear a K;refine rH 19 fun K a=>?_;go_simp;refine a.out _ _ (q.out _ _).2 (fun aU=>?_);clear a K;refine rH 20 fun K a=>?_;go_simp;refine a.out _ _ (q.out _ _).2 (fun aW=>?_);clear a K;refine rH 21 fun K a=>?_;go_simp;refine a.out _ _ (q.out _ _).2 (fun aX=>?_);clear a K;refine cK ?_;go_wp2_with fail
   go_meet
   case rel=>exact⟨d.heap.size,d.heap.size+1,rfl,rfl,rfl,Bq d _ _,Bp d _ _,Ld d _ _⟩
  refine .cons rfl (fun K a=>?_) .nil;go_simp;refine a.out _ _ (q.out _ (.cells #[] 0)).1 (fun aT=>?_);clear a K;refine rH 18 fun K a=>?_;go_simp;refine a.out _ _ (q.out _ _).2 (fun aU=>?_);clear a K;refine rH 20 fun K a=>?_;go_simp;refine a.out _ _ (q.out _ _).2 (fun aW=>?_);clear a K;refine rH 21 fun K a=>?_;go_simp;refine a.out _ _ (q.out _ _).2 (fun aX=>?_);clear a K;refine cK ?_;go_wp2_with fail
  go_meet
  case rel=>exact⟨d.heap.size+1,d.heap.size,rfl,rfl,rfl,Bp d _ _,Bq d _ _,Ld d _ _⟩
 case rest=>
  obtain⟨v,z,rfl,rfl,rfl,k7,k8,O⟩:=hcut;have k4:wc.heap[w.heap.size]? =some (.cells (aC r) 134 (0,0)):=bD O k.out.2.1;have p:=aL (k.out.2.2.trans (O.mono k.out.2.2.size));have S2:uw w.heap.size v z r f l wc:=⟨bQ.of k4,bQ.of k7,bQ.of k8⟩;have aO:r.m.of+r.m.ln-f.m.of<=131071∧-131071<=r.m.of+r.m.ln-f.m.of:=by have:=o.out.1.of0;have:=o.out.1.of1;have:=o.out.1.lR;have:=o.out.1.pG;have:=o.out.2.2.of0;have:=o.out.2.2.of1;omega
  clear k7 k8 O k4 k N J M I bk bf bg;have aI:Hid (gU.wrap (r.m.of+r.m.ln-f.m.of)=r.m.of+r.m.ln-f.m.of):=pP ak ak;clear aO
  go_upto_region 2 with fail
  refine dR (S:=uw w.heap.size v z r f l) S2 fun G=>?_;cases A:(r.m.kd !=2)with
  |false=>
   refine tk 0 ?_;refine tk 1 ?_;refine tk 2 ?_;refine tk 3 ?_;refine tk 4 ?_;refine aY 5 ?_;refine aY 6 ?_;refine aY 7 ?_;refine aY 8 ?_;refine aY 9 ?_;refine aY 10 ?_;refine aY 11 ?_;refine tk 12 ?_;refine tk 13 ?_;refine aY 14 ?_;refine aY 15 ?_;refine aY 16 ?_;refine aY 17 ?_;refine aY 18 ?_;refine aY 19 ?_;refine aY 20 ?_;refine tk 21 ?_;refine tk 22 ?_;refine aY 23 ?_;refine aY 24 ?_;refine aY 25 ?_;refine aY 26 ?_;refine aY 27 ?_;refine aY 28 ?_;refine tk 29 ?_;refine tk 30 ?_;refine aY 31 ?_;refine aY 32 ?_;refine aY 33 ?_;refine aY 34 ?_;refine aY 35 ?_;refine aY 36 ?_;refine aY 37 ?_;refine aY 38 ?_;refine tk 39 ?_;refine tk 40 ?_;refine cK ?_;go_wp2;go_ret;exact⟨by rw[t.out];simp[rA,A],p.out.trans (ig (Below.refl _ _) _)⟩
  |true=>
   cases C:(r.m.kd==l.m.kd)with
   |false=>
    refine tk 0 ?_;refine tk 1 ?_;refine tk 2 ?_;refine tk 3 ?_;refine tk 4 ?_;refine tk 5 ?_;refine tk 6 ?_;refine tk 7 ?_;refine tk 8 ?_;refine tk 9 ?_;refine tk 10 ?_;refine tk 11 ?_;refine tk 12 ?_;refine tk 13 ?_;refine aY 14 ?_;refine aY 15 ?_;refine aY 16 ?_;refine aY 17 ?_;refine aY 18 ?_;refine aY 19 ?_;refine aY 20 ?_;refine tk 21 ?_;refine tk 22 ?_;refine aY 23 ?_;refine aY 24 ?_;refine aY 25 ?_;refine aY 26 ?_;refine aY 27 ?_;refine aY 28 ?_;refine tk 29 ?_;refine tk 30 ?_;refine aY 31 ?_;refine aY 32 ?_;refine aY 33 ?_;refine aY 34 ?_;refine aY 35 ?_;refine aY 36 ?_;refine aY 37 ?_;refine aY 38 ?_;refine tk 39 ?_;refine tk 40 ?_;refine cK ?_;go_wp2;go_ret;exact⟨by rw[t.out];simp[rA,A,C],p.out.trans (ig (Below.refl _ _) _)⟩
   |true=>
    cases F:(r.m.fl==l.m.fl)with
    |false=>
     refine tk 0 ?_;refine tk 1 ?_;refine tk 2 ?_;refine tk 3 ?_;refine tk 4 ?_;refine tk 5 ?_;refine tk 6 ?_;refine tk 7 ?_;refine tk 8 ?_;refine tk 9 ?_;refine tk 10 ?_;refine tk 11 ?_;refine tk 12 ?_;refine tk 13 ?_;refine tk 14 ?_;refine tk 15 ?_;refine tk 16 ?_;refine tk 17 ?_;refine tk 18 ?_;refine tk 19 ?_;refine tk 20 ?_;refine tk 21 ?_;refine tk 22 ?_;refine aY 23 ?_;refine aY 24 ?_;refine aY 25 ?_;refine aY 26 ?_;refine aY 27 ?_;refine aY 28 ?_;refine tk 29 ?_;refine tk 30 ?_;refine aY 31 ?_;refine aY 32 ?_;refine aY 33 ?_;refine aY 34 ?_;refine aY 35 ?_;refine aY 36 ?_;refine aY 37 ?_;refine aY 38 ?_;refine tk 39 ?_;refine tk 40 ?_;refine cK ?_;go_wp2;go_ret;exact⟨by rw[t.out];simp[rA,A,C,F],p.out.trans (ig (Below.refl _ _) _)⟩
    |true=>
     cases Z:(r.m.of==l.m.of+l.m.ln)with
     |false=>
      refine tk 0 ?_;refine tk 1 ?_;refine tk 2 ?_;refine tk 3 ?_;refine tk 4 ?_;refine tk 5 ?_;refine tk 6 ?_;refine tk 7 ?_;refine tk 8 ?_;refine tk 9 ?_;refine tk 10 ?_;refine tk 11 ?_;refine tk 12 ?_;refine tk 13 ?_;refine tk 14 ?_;refine tk 15 ?_;refine tk 16 ?_;refine tk 17 ?_;refine tk 18 ?_;refine tk 19 ?_;refine tk 20 ?_;refine tk 21 ?_;refine tk 22 ?_;refine tk 23 ?_;refine tk 24 ?_;refine tk 25 ?_;refine tk 26 ?_;refine rH 27 fun K a=>?_;go_simp;go_at_call 268;refine(D.out l o.out.2.1 _).mono ?_;rintro e bu ⟨rfl,s⟩;have aS:=uw.old G s;refine a.out _ _ aS (fun Pv=>?_);clear a K;refine tk 28 ?_;refine tk 29 ?_;refine tk 30 ?_;refine aY 31 ?_;refine aY 32 ?_;refine aY 33 ?_;refine aY 34 ?_;refine aY 35 ?_;refine aY 36 ?_;refine aY 37 ?_;refine aY 38 ?_;refine tk 39 ?_;refine tk 40 ?_;refine cK ?_;go_wp2;go_ret;exact⟨by rw[t.out];simp[rA,A,C,F,Z],p.out.trans (Da s p.out.size)⟩
     |true=>
      refine tk 0 ?_;refine tk 1 ?_;refine tk 2 ?_;refine tk 3 ?_;refine tk 4 ?_;refine tk 5 ?_;refine tk 6 ?_;refine tk 7 ?_;refine tk 8 ?_;refine tk 9 ?_;refine tk 10 ?_;refine tk 11 ?_;refine tk 12 ?_;refine tk 13 ?_;refine tk 14 ?_;refine tk 15 ?_;refine tk 16 ?_;refine tk 17 ?_;refine tk 18 ?_;refine tk 19 ?_;refine tk 20 ?_;refine tk 21 ?_;refine tk 22 ?_;refine tk 23 ?_;refine tk 24 ?_;refine tk 25 ?_;refine tk 26 ?_;refine rH 27 fun K a=>?_;go_simp;go_at_call 268;refine(D.out l o.out.2.1 _).mono ?_;rintro e bu ⟨rfl,s⟩;refine a.out _ _ (uw.old G s) (fun Pv=>?_);clear a K;refine tk 28 ?_;refine tk 29 ?_;refine tk 30 ?_;refine tk 31 ?_;refine tk 33 ?_;refine tk 34 ?_;refine tk 35 ?_;refine tk 37 ?_;refine rH 32 fun K a=>?_;go_simp;go_at_call 268;refine(D.out r o.out.1 _).mono ?_;rintro e bG ⟨rfl,af⟩;refine a.out _ _ (uw.old Pv af) (fun bB=>?_);clear a K;refine tk 36 ?_;refine tk 38 ?_;refine tk 39 ?_;refine tk 40 ?_;refine cK ?_;go_wp2;go_ret;refine⟨?_,p.out.trans ((Da s p.out.size).trans (af.mono (cS p.out.size s.size)))⟩;rw[t.out];rw[aI.out];simp[rA,A,C,F,Z]
def Ck.fst(k:Ck):Rq:=match k.q with
 |[]=>⟨aQ.zero,0⟩
 |r::_=>r
def Ck.gl(g:Cf)(k:Ck):Bool:=match k.q with
 |[]=>false
 |r::_=>decide (0<k.tok)&&decide ((k.out.size:Int)+k.prom+sizeOf' r.m<=g.ou)
theorem Y0(c cap a w)(h:w.cell? (aa c 13)=some (.slice a 0 cap)):
  bz 204 #[jp c] w (.tuple #[.agg (aC ⟨aQ.zero,0⟩),.bool false]):=by
 have u:c<w.heap.size:=gM h;have g:aB w (w.alloc (.cells jL 134)):=aR;have p:jW (w.alloc (.cells jL 134)) w.heap.size:=bW w _
 have t:Hid (Calls prog 78 #[jp c] (w.alloc (.cells jL 134)) fun e i=>e=.returned (.tuple #[.agg (aC ⟨aQ.zero,0⟩),.bool false])/\aB w i/\jW i w.heap.size/\w.heap.size<i.heap.size):=by refine(OG c cap a _ ((fC (a:=aa c 13) (g.block c u)).trans h)).mono ?_;rintro e i ⟨rfl,l⟩;exact⟨rfl,g.trans (l.mono g.size),bD l p,by have:=l.size;simp at this;omega⟩
 clear h g p;go_enter func204,ntmps204
 go_upto_region 2 with(go_at_call 78;refine t.out.mono ?_;rintro e f ⟨rfl,m,q,I⟩)
 have j:aB f (f.alloc (.cells (aC ⟨aQ.zero,0⟩) 134)):=aR;have n:(f.alloc (.cells (aC ⟨aQ.zero,0⟩) 134)).heap[f.heap.size]? =some (.cells (aC ⟨aQ.zero,0⟩) 134 (0,0)):=bW f _;have s:=aL (m.trans (j.mono m.size));have r:bQ (f.alloc (.cells (aC ⟨aQ.zero,0⟩) 134)) f.heap.size ⟨aQ.zero,0⟩:=bQ.of n;have b:jW (f.alloc (.cells (aC ⟨aQ.zero,0⟩) 134)) w.heap.size:=bD j q;clear j n q m;show FM _ _ _ _ (f.alloc (.cells (aC ⟨aQ.zero,0⟩) 134));generalize f.alloc (.cells (aC ⟨aQ.zero,0⟩) 134)=d at*;have x:=aE d w.heap.size 0 (aj 0) b;have y:=aE d w.heap.size 1 (.string ⟨#[]⟩) b;have z:=aE d w.heap.size 2 (aj 0) b;have A:=aE d w.heap.size 3 (aj 0) b;have B:=aE d w.heap.size 4 (aj 0) b;have C:=aE d w.heap.size 5 (aj 0) b;have D:=aE d w.heap.size 6 (aj 0) b;have E:=aE d w.heap.size 7 (.string ⟨#[]⟩) b;have F:=aE d w.heap.size 8 (aj 0) b;have G:=aE d w.heap.size 9 (aj 0) b;have H:∀k,d.frozen? (aa w.heap.size k)=false:=fun k=>aS b k;refine gW ?_;refine dh (S:=fun W=>bQ W f.heap.size ⟨aQ.zero,0⟩) 16 aI r ?_;intro hS;clear b;simp only[aQ.zero]at r hS;refine gs 0 ?_;refine gk 1 ?_;refine gk 2 ?_;refine g0 3 ?_;refine g0 4 ?_;refine g0 5 ?_;refine g0 6 ?_;refine g0 7 ?_;refine gk 8 ?_;refine gk 9 ?_;refine g0 10 ?_;refine g0 11 ?_;refine g0 12 ?_;refine g0 13 ?_;refine g0 14 ?_;refine gk 15 ?_;refine gz fun K o=>?_;go_simp;refine o.out _ _ ?_;clear o K;refine ga 17 ?_;refine dJ aI ?_ _;refine gp ?_;go_wp2;refine fX (v:=.tuple #[.agg (aC ⟨aQ.zero,0⟩),.bool false]) (by simp[results,results204,go_sem,x,y,z,A,B,C,D,E,F,G]) rfl ⟨rfl,?_⟩;exact Dd s.out _ _ _ _ _ _ _ _ _ _
theorem RA(c rb ch q v g k w)(h:cj w c rb ch q v g k)(m:∀r∈k.q,r.Ok)(j:k.out.size<=4194304)(l:0<=k.prom/\k.prom<=4194304):
  bz 204 #[jp c] w (.tuple #[.agg (aC k.fst),.bool (k.gl g)]):=by
 obtain⟨n,o,rfl⟩:=lT h.out;unfold Ck.fst Ck.gl;cases d:k.q with
 |nil=>
  obtain⟨a,f,rfl,_⟩:=h.row.form;have:=av (i:=13) h.box rfl;rw[d]at this;exact Y0 c f a w this
 |cons r rest=>
  have hr:=h.row;rw[d]at hr
  by_cases h0:0<k.tok
  ·refine(Y2 c k.out.size o n k.prom g.ou q r rest k.tok w (av h.box rfl) hr (av h.box rfl) h0 (m r (by rw[d];simp)) j l (av h.box rfl) (av h.box rfl) (av h.box rfl)).mono ?_;rintro e p ⟨rfl,b⟩;exact⟨by simp[h0],b⟩
  ·refine(Y1 c q r rest k.tok w (av h.box rfl) hr (av h.box rfl) h0).mono ?_;rintro e p ⟨rfl,b⟩;exact⟨by simp[h0],b⟩
theorem aez(a n cap w):Calls prog 266 #[.slice a n cap] w fun e b=>e=.returned (.func (.func 281) #[] #[aF w.heap.size])/\b=w.alloc (.cells #[.slice a n cap] 107):=by go_enter func266,ntmps266;go_wp2;go_ret;exact⟨rfl,rfl⟩
theorem VG(hb ho n a cap w)(h:w.cell? (aa hb ho)=some (.slice a n cap)):Calls prog 239 #[.pointer (some (aa hb ho))] w fun e b=>e=.returned (.func (.func 281) #[] #[aF w.heap.size])/\b=w.alloc (.cells #[.slice a n cap] 107):=by go_enter func239,ntmps239;go_wp2_with (go_at_call 266;refine(aez a n cap _).mono ?_;rintro e c ⟨rfl,rfl⟩);go_ret;exact⟨rfl,rfl⟩
end
section
attribute [local go_sem] Oper.semAt_some
attribute [local go_sem] bq bg
open Go.Proofs.Tryz
open Go.RowKit Go.Shelf
theorem SY{α:Type}{l:List α}{j:Nat}{x:α}(h:l[j]? =some x):l.take (j+1)=l.take j++[x]:=by rw[sr,h];rfl
theorem aey(n)(Q:1<=n)(cb a N cap l W)(K:W.cell? (aa cb 0)=some (.slice a N cap))(O:l.length=N)(H:N<=65535)(y:∀(j:Nat) x,l[j]? =some x->∃g,a=some ⟨g,0,none⟩/\W.cell? (aa g j)=some (jp x)):
  Iter jQ n prog 281 #[aF cb] wZ (fun _=>False) (fun A B=>∀g,(eF a N cap).ownBlock=some g->B.heap[g]? =A.heap[g]?) (fun h=>∃r,l=h++r)
   (fun h _=>h=l) (fun pre _=>∃r,l=pre++r) W:=by
 intro lp J D F G w s;refine callsIn_of_wp func281 rfl trivial ?_ rfl;simp only[ntmps281,iH,eD,iF,oJ,Nat.reduceSub,tR,tS,ud,tX,pW,jR]
 gi_wp2
 gi_loopw [7] (fun i wr=>∃j:Nat,j<=N/\i=aj j/\Hid (J (l.take j) wr/\∀g,(eF a N cap).ownBlock=some g->wr.heap[g]? =W.heap[g]?)) (fun i _=>N-(intOf i).toNat)
 case atStart=>exact⟨0,eE _,rfl,s,fun _ _=>rfl⟩
 case round=>
  obtain⟨j,L,rfl,c⟩:=hrel
  by_cases P:j<N
  ·have C:decide ((j:Int)<(N:Int))=true:=bK;obtain⟨x,f⟩:∃x,l[j]? =some x:=⟨l[j],by rw[dN]⟩;obtain⟨g,rfl,z⟩:=y j x f
   have I:wr.cell? (aa g j)=some (jp x):=by rw[fC (c.out.2 g rfl)];exact z
   have k:Hid (∃r,l=(l.take j++[x])++r):=⟨l.drop (j+1),by rw[<-SY f,oH]⟩;obtain⟨E,S,assign,body,R,v⟩:=w (l.take j) x wr c.out.1 k.out;have p:=aL c.out.2
   gi_wp2
   refine v.mono ?_;rintro e m (⟨rfl,t,o⟩|⟨rfl,u,o⟩)
   ·have d:Hid (J (l.take (j+1)) m/\∀b,(eF (some (aa g 0)) N cap).ownBlock=some b->m.heap[b]? =W.heap[b]?):=⟨by rw[(aL (SY f)).out];exact t,fun b e=>(o b e).trans (p.out b e)⟩
    gi_wp2
    go_roundw
    case rel=>exact⟨j+1,ak,by go_num,d.out⟩
    case measure=>simp[intOf];omega
   ·have d:=aL u
    gi_wp2
    refine fX (results_none rfl _ _ _) rfl ?_;exact⟨⟨_,rfl⟩,.inr ⟨_,k.out,d.out⟩⟩
  ·have C:decide ((j:Int)<(N:Int))=false:=bK;have M:j=N:=ak
   have q:Hid (J l wr):=by have:=c.out.1;rw[su ak]at this;exact this
   gi_wp2
   exact dZ rfl rfl ⟨⟨_,rfl⟩,.inl ⟨_,rfl,q.out⟩⟩
structure MT(w:an)(xb sb M:Nat)(cs:List (Option Nat))(a:Option Addr)(N cap:Nat)(l:List Nat)(r:Rq)(b:Nat->Bool)(fr:Nat->Rq)(rd:Nat->Bool):Prop where
 head:w.cell? (aa xb 18)=some (.slice a N cap)
 len:l.length=N
 small:N<=65535
 row:∀(j:Nat) x,l[j]? =some x->∃g,a=some ⟨g,0,none⟩/\w.cell? (aa g j)=some (jp x)
 EM:∀g,(eF a N cap).ownBlock=some g->g<w.heap.size
 touch:∀j∈l,∀W,aB w W->bz 240 #[jp j,.agg (aC r)] W (.bool (b j))
 dA:sS w xb sb M cs
 ready:∀c∈cu cs,∀W,aB w W->bz 204 #[jp c] W (.tuple #[.agg (aC (fr c)),.bool (rd c)])
 ok:r.Ok/\∀c∈cu cs,rd c=true->(fr c).Ok
def ahead(r:Rq)(fr:Nat->Rq)(rd:Nat->Bool)(c:Nat):Bool:=rd c&&(decide ((fr c).no<r.no)&&(fr c).touch r)
def mP(w:an)(r:Rq)(p:Nat->Bool)(pre:List Nat)(W:an):Prop:=
 aB w W/\W.heap[w.heap.size]? =some (.cells (aC r) 134 (0,0))/\W.heap[w.heap.size+1]? =some (.cells #[.bool false] 4 (0,0))/\(∀c∈pre,p c=false)/\w.heap.size+2<=W.heap.size
def sO(w:an)(p:Nat->Bool)(pre:List Nat)(W:an):Prop:=
 aB w W/\W.heap[w.heap.size+1]? =some (.cells #[.bool true] 4 (0,0))/\(∃c∈pre,p c=true)/\w.heap.size+2<=W.heap.size
theorem mP.bears{w r p B}(j:w.heap.size+2<=B):Bears (fun x=>False\/x=B+1) (mP w r p):=by
 rintro pre W i row ⟨c,d,f,g,h⟩ a hr;have b:∀x,row=some x->x=B+1:=fun x e=>by grind
 exact⟨c.grown a c.size (fun k e=>by have:=b k e;omega),mz d a (fun e=>by have:=b _ e;omega),mz f a (fun e=>by have:=b _ e;omega),g,cS h a.size⟩
theorem sO.bears{w p B}(i:w.heap.size+2<=B):Bears (fun x=>False\/x=B+1) (sO w p):=by
 rintro pre W h row ⟨b,d,f,g⟩ a hr;have c:∀x,row=some x->x=B+1:=fun x e=>by grind
 exact⟨b.grown a b.size (fun k e=>by have:=c k e;omega),mz d a (fun e=>by have:=c _ e;omega),f,cS g a.size⟩
abbrev ihA(xb:Nat)(r:Rq)(B j:Nat):Act:=
 {tmps:=#[jp xb,.agg (aC r),undef,aF B,aF (B+1),jp j,undef,undef,undef,jp xb,aF xb,.pointer (some (aa xb 18)),.func (.func 281) #[] #[aF (B+1+1)],jp j,undef,undef,undef,undef,undef,undef,undef,undef,undef,undef,undef,undef,undef,undef,undef,undef,undef,undef,undef,undef,undef,undef,undef,undef],defers:=[]}
abbrev ihB(xb:Nat)(r:Rq)(B a c:Nat):Act:=
 {tmps:=#[jp xb,.agg (aC r),undef,aF B,aF (B+1),undef,jp c,undef,undef,jp xb,aF xb,.pointer (some (aa xb 18)),.func (.func 281) #[] #[aF (B+1+1)],undef,undef,undef,undef,jp xb,.func (.func 96) #[] #[aF a],jp c,undef,undef,undef,undef,undef,undef,undef,undef,undef,undef,undef,undef,undef,undef,undef,undef,undef,undef],defers:=[]}
abbrev ihW(w:an)(r:Rq)(v:au):an:=((w.alloc (.cells (aC r) 134)).alloc (.cells #[.bool false] 4)).alloc (.cells #[v] 107)
theorem x8(xb sb M cs a N cap l r tj fr rd w)(h:MT w xb sb M cs a N cap l r tj fr rd):
  bz 205 #[jp xb,.agg (aC r)] w (.bool (l.any tj||(cu cs).any (ahead r fr rd))):=by
 refine fT.1 (?_:CallsIn jQ 3 prog _ _ w _);have Ho:=h.head;have dc:xb<w.heap.size:=gM Ho;have bO:((w.alloc (.cells (aC r) 134)).alloc (.cells #[.bool false] 4)).cell? (aa xb 18)=some (.slice a N cap):=bp (aR.alloc aq _) Ho;have q:=aL h;clear h Ho;refine callsIn_of_wp_marks func205 rfl trivial ?_ rfl;simp only[ntmps205,iH,eD,iF,oJ,Nat.reduceSub,tR,tS,ud,tX,pW,jR]
 gi_wp2_with (first|(refine⟨trivial,?_⟩;gi_at_call 239;refine(fT.2 (VG xb 18 N a cap _ bO)).mono ?_;rintro e f ⟨rfl,rfl⟩))
 have az:aB w (ihW w r (.slice a N cap)):=(aR.alloc aq _).alloc bK _;have aO:(ihW w r (.slice a N cap)).heap.size=w.heap.size+3:=aq;have e1:(ihW w r (.slice a N cap)).heap[w.heap.size]? =some (.cells (aC r) 134 (0,0)):=fI (fI (new1 rfl));have e2:(ihW w r (.slice a N cap)).heap[w.heap.size+1]? =some (.cells #[.bool false] 4 (0,0)):=fI (new1 aq);have e3:(ihW w r (.slice a N cap)).heap[w.heap.size+1+1]? =some (.cells #[.slice a N cap] 107 (0,0)):=new1 aq;show Code.wpIn jQ 3 prog _ _ _ (ihW w r (.slice a N cap));generalize ihW w r (.slice a N cap)=W0 at*;have bY:mP w r tj [] W0:=⟨az,e1,e2,fun c h=>(by cases h),ak⟩
 refine yW (w:=W0) rfl cq (gf:=281) (lb:=#[aF (w.heap.size+1+1)]) rfl trivial (enters_of func281 aI rfl) (encs:=wZ) (fun _=>rfl)
  (R:=fun _=>False) (Kp:=fun A B=>∀g,(eF a N cap).ownBlock=some g->B.heap[g]? =A.heap[g]?) (V:=fun t=>∃r,l=t++r) (S:=fun t _=>t=l) (Sp:=fun pre _=>∃r,l=pre++r)
  (fun W hW=>?seq) (fun r h=>h.elim) (fun h k g e=>(k g e).trans (h g e)) (fun W o g e=>eX (by have:=q.out.EM g e;omega)) (fun t W X row h _ _=>h) (fun t W X row h _ _=>h)
  (mP w r tj) (sO w tj) (mP.bears ak) (sO.bears ak) bY (fun j a _=>a=ihA xb r w.heap.size j) (fun c a W X row h _ _=>h) ?assign ?body ?done ?stop
 case seq=>
  have bk:aB w W:=az.grown hW az.size (fun k e=>by cases e);have wE:=mz e3 hW aq;refine aey 2 cq (w.heap.size+1+1) a N cap l W (av wE rfl) q.out.len q.out.small fun j x P=>?_;obtain⟨g,e,L⟩:=q.out.row j x P;exact⟨g,e,bp bk L⟩
 case assign=>
  rintro lp pre c W K d hv fN hK
  gi_wp2
  exact hK _ W ⟨rfl,rfl⟩ (fun _ _=>rfl) d rfl
 case body=>
  rintro lp pre j a' W d rfl ⟨rr,hv⟩ fN;have C:j∈l:=by rw[hv];simp
  obtain⟨k0,k1,k2,k3,k4,k5,k6,k7,k8,k9⟩:=bQ.of d.2.1;have cR:=aE W (w.heap.size+1) 0 (.bool false) d.2.2.1;have E:=aL (q.out.touch j C W d.1);have s:=aL d;have af:w.heap.size+2<=W.heap.size:=d.2.2.2.2;clear d;cases ve:tj j with
  |true=>
   rw[ve]at E
   gi_wp2_with (first|(refine⟨trivial,?_⟩;gi_at_call 240;refine(lV lp (fT.2 E.out)).mono ?_;rintro e f ⟨rfl,b⟩;have d2:=bD b s.out.2.2.1;have aj:=aE f (w.heap.size+1) 0 (.bool false) d2;have ay:=aS d2 0))
   obtain⟨m,y,G,D,Q⟩:=s.out;have O:=b.size;rw[aO];refine⟨⟨(bH ak).trans (b.block _ ak),(bH ak).trans (b.block _ ak)⟩,fun g e=>(bH (by have:=q.out.EM g e;omega)).trans (b.block _ (by have:=q.out.EM g e;omega)),(m.trans (b.mono m.size)).setCell (p:=aa (w.heap.size+1) 0) (ju _) _,bV d2 0 _,⟨j,aq,ve⟩,by simpa using cS af O⟩
  |false=>
   rw[ve]at E
   gi_wp2_with (first|(refine⟨trivial,?_⟩;gi_at_call 240;refine(lV lp (fT.2 E.out)).mono ?_;rintro e f ⟨rfl,b⟩))
   obtain⟨m,y,G,D,Q⟩:=s.out;have O:=b.size;rw[aO];refine⟨⟨b.block _ ak,b.block _ ak⟩,fun g e=>b.block _ (by have:=q.out.EM g e;omega),m.trans (b.mono m.size),bD b y,bD b G,fun c hc=>?_,cS af O⟩;rcases kU.1 hc with h|h
   ·exact D c h
   ·rw[mM.1 h];exact ve
 case stop=>
  rintro pre W ⟨rr,hv⟩ P Y;have HX:=aL P;clear P
  gi_wp2
  obtain⟨m,y,⟨j,C,bl⟩,D⟩:=HX.out;have J:=av (w:=W.putObj W0.heap.size (.deferred none)) ((eX ak).trans y) (i:=0) (v:=.bool true) rfl;refine⟨aq,.inl ⟨_,_,rfl,Ct Y,.bool true,by simp[results,results205,go_sem,J],?_,?_⟩⟩
  ·have:l.any tj=true:=qM.2 ⟨j,by rw[hv];simp[C],bl⟩;rw[this];rfl
  ·exact m.grown (Cp _ _ _) m.size (fun k e=>by cases e;omega)
 case done=>
  rintro t W rfl d Y
  have b9:t.any tj=false:=by rw[Gb];intro j C;rw[d.2.2.2.1 j C];simp
  have s:Hid (mP w r (ahead r fr rd) [] W):=⟨d.1,d.2.1,d.2.2.1,fun c h=>(by cases h),d.2.2.2.2⟩;have c9:W.heap.size≥w.heap.size+2:=d.2.2.2.2;rw[aO]at Y⊢;have Zy:w.heap.size+3<W.heap.size:=(aP.1 Y).1;have HN:=aL b9;clear d bY az e1 e2 e3 bO b9 aO
  gi_wp2_with (first|(refine⟨trivial,?_⟩;gi_at_call 59;refine(fT.2 (EP xb _)).mono ?_;rintro e f ⟨rfl,rfl⟩))
  have g1:=World.grownBy_alloc W (.cells #[aF xb] 36) none;have bf:mP w r (ahead r fr rd) [] (W.alloc (.cells #[aF xb] 36)):=mP.bears (B:=w.heap.size+3) ak _ _ _ none s.out g1 (fun r e=>by cases e);have cC:(W.alloc (.cells #[aF xb] 36)).heap[W.heap.size]? =some (.cells #[aF xb] 36 (0,0)):=bW W _;have cz:(W.alloc (.cells #[aF xb] 36)).heap[(w.heap.size+3)]? =some (.deferred (some [])):=(Below.heap_alloc _ _ _ Zy).trans Y;have c8:(W.alloc (.cells #[aF xb] 36)).heap.size=W.heap.size+1:=aq;generalize W.alloc (.cells #[aF xb] 36)=u at*;have aG:sb<w.heap.size:=by obtain⟨o,ho⟩:=q.out.dA.row;exact(aP.1 ho).1
  refine yW (w:=u) rfl cq (gf:=96) (lb:=#[aF W.heap.size]) rfl trivial (enters_of func96 aI rfl) (encs:=wZ) (fun _=>rfl)
   (R:=fun _=>False) (Kp:=fun A B=>B.heap[sb]? =A.heap[sb]?) (V:=fun t=>∃r,cu cs=t++r) (S:=fun t _=>t=cu cs) (Sp:=fun pre _=>∃r,cu cs=pre++r)
   (fun V hV=>?seq) (fun r h=>h.elim) (fun h k=>k.trans h) (fun V o=>eX ak) (fun t W X row h _ _=>h) (fun t W X row h _ _=>h)
   (fun pre W=>mP w r (ahead r fr rd) pre W/\W.heap[(w.heap.size+3)]? =some (.deferred (some []))) (fun pre W=>sO w (ahead r fr rd) pre W/\W.heap[(w.heap.size+3)]? =some (.deferred (some [])))
   (fun pre A B row h L hr=>⟨mP.bears (B:=u.heap.size) ak pre A B row h.1 L hr,mz h.2 L (fun e=>by rcases hr _ e with h|h;exact h;omega)⟩) (fun pre A B row h L hr=>⟨sO.bears (B:=u.heap.size) ak pre A B row h.1 L hr,mz h.2 L (fun e=>by rcases hr _ e with h|h;exact h;omega)⟩)
   ⟨bf,cz⟩ (fun c a _=>a=ihB xb r w.heap.size W.heap.size c) (fun c a W X row h _ _=>h) ?assign ?body ?done ?stop
  case seq=>
   have bk:aB w V:=bf.1.grown hV bf.1.size (fun k e=>by cases e);have uU:=q.out.dA.old bk;exact ES 2 cq W.heap.size xb sb M cs V (av (mz cC hV aq) rfl) uU.sl uU.len uU.small uU.at_
  case assign=>
   rintro lp pre c A K d hv fN hK
   gi_wp2
   exact hK _ A ⟨rfl,rfl⟩ rfl d rfl
  case body=>
   rintro lp pre c a' A ⟨d,F⟩ rfl ⟨rr,hv⟩ fN;have hc:c∈cu cs:=by rw[hv];simp
   obtain⟨k0,k1,k2,k3,k4,k5,k6,k7,k8,k9⟩:=bQ.of d.2.1;have cR:=aE A (w.heap.size+1) 0 (.bool false) d.2.2.1;have T:=aL (q.out.ready c hc A d.1);have s:Hid (mP w r (ahead r fr rd) pre A/\A.heap[(w.heap.size+3)]? =some (.deferred (some []))):=⟨d,F⟩;have af:w.heap.size+2<=A.heap.size:=d.2.2.2.2;have c7:u.heap.size+2<=A.heap.size:=fN;have E:Hid (rd c=true->∀V,bz 241 #[.agg (aC (fr c)),.agg (aC r)] V (.bool ((fr c).touch r))):=fun e V=>Tg (fr c) r V (q.out.ok.2 c hc e) q.out.ok.1;have HH:Hid (ahead r fr rd c=(rd c&&(decide ((fr c).no<r.no)&&(fr c).touch r))):=rfl;clear d F;have aH:∀V,aB A V->Two u.heap.size A V/\V.heap[sb]? =A.heap[sb]? :=fun V n=>⟨⟨n.block _ ak,n.block _ ak⟩,n.block _ ak⟩
   have aU:Hid (∀V,aB A V->ahead r fr rd c=false->roundEnd u.heap.size (fun A B=>B.heap[sb]? =A.heap[sb]?) (fun pre W=>mP w r (ahead r fr rd) pre W/\W.heap[w.heap.size+3]? =some (.deferred (some []))) (fun pre W=>sO w (ahead r fr rd) pre W/\W.heap[w.heap.size+3]? =some (.deferred (some []))) (pre++[c]) A .normal (ihB xb r w.heap.size W.heap.size c) V):=fun V n hn=>by
    obtain⟨⟨m,y,G,D,Q⟩,i6⟩:=s.out;refine⟨(aH V n).1,(aH V n).2,⟨m.trans (n.mono m.size),bD n y,bD n G,fun c' J=>?_,cS af n.size⟩,bD n i6⟩;rcases kU.1 J with h|h
    ·exact D c' h
    ·rw[mM.1 h];exact hn
   have ck:Hid (∀V,aB A V->ahead r fr rd c=true->roundEnd u.heap.size (fun A B=>B.heap[sb]? =A.heap[sb]?) (fun pre W=>mP w r (ahead r fr rd) pre W/\W.heap[w.heap.size+3]? =some (.deferred (some []))) (fun pre W=>sO w (ahead r fr rd) pre W/\W.heap[w.heap.size+3]? =some (.deferred (some []))) (pre++[c]) A .ret (ihB xb r w.heap.size W.heap.size c) (V.setCell (aa (w.heap.size+1) 0) (.bool true))):=fun V n hn=>by obtain⟨⟨m,y,G,D,Q⟩,i6⟩:=s.out;have aG:=aH V n;have hs:=n.size;exact⟨⟨(bH ak).trans aG.1.1,(bH ak).trans aG.1.2⟩,(bH ak).trans aG.2,⟨(m.trans (n.mono m.size)).setCell (p:=aa (w.heap.size+1) 0) (ju _) _,bV (bD n G) 0 _,⟨c,aq,hn⟩,by simpa using cS af hs⟩,mU (bD n i6) ak _ _⟩
   have z:Hid (A.heap[w.heap.size]? =some (.cells (aC r) 134 (0,0))/\A.heap[w.heap.size+1]? =some (.cells #[.bool false] 4 (0,0))):=⟨s.out.1.2.1,s.out.1.2.2.1⟩;clear aH s;generalize ahead r fr rd c=ah at*;cases hrd:rd c with
   |false=>
    rw[hrd]at T
    gi_wp2_with (first|(refine⟨trivial,?_⟩;gi_at_call 204;refine(lV lp (fT.2 T.out)).mono ?_;rintro e f ⟨rfl,b⟩;have I:aB A (f.alloc (.cells (aC (fr c)) 134)):=b.alloc b.size _;have H:=bQ.of (bD I z.out.1);obtain⟨q0,q1,q2,q3,q4,q5,q6,q7,q8,q9⟩:=H;have O:=b.size;have IS:w.heap.size≠f.heap.size:=ak;have d2:=bD b z.out.2;have aj:=aE f (w.heap.size+1) 0 (.bool false) d2;have ay:=aS d2 0)|(refine⟨trivial,?_⟩))
    exact aU.out _ (b.alloc b.size _) (by rw[HH.out,hrd];rfl)
   |true=>
    rw[hrd]at T;cases bq:decide ((fr c).no<r.no)with
    |false=>
     gi_wp2_with (first|(refine⟨trivial,?_⟩;gi_at_call 204;refine(lV lp (fT.2 T.out)).mono ?_;rintro e f ⟨rfl,b⟩;have I:aB A (f.alloc (.cells (aC (fr c)) 134)):=b.alloc b.size _;have H:=bQ.of (bD I z.out.1);obtain⟨q0,q1,q2,q3,q4,q5,q6,q7,q8,q9⟩:=H;have O:=b.size;have IS:w.heap.size≠f.heap.size:=ak;have d2:=bD b z.out.2;have aj:=aE f (w.heap.size+1) 0 (.bool false) d2;have ay:=aS d2 0)|(refine⟨trivial,?_⟩))
     exact aU.out _ (b.alloc b.size _) (by rw[HH.out,hrd,bq];rfl)
    |true=>
     have U:=E.out hrd;cases aQ:(fr c).touch r with
     |false=>
      rw[aQ]at U;have aW:=aL U;clear E U
      gi_wp2_with (first|(refine⟨trivial,?_⟩;gi_at_call 204;refine(lV lp (fT.2 T.out)).mono ?_;rintro e f ⟨rfl,b⟩;have I:aB A (f.alloc (.cells (aC (fr c)) 134)):=b.alloc b.size _;have H:=bQ.of (bD I z.out.1);obtain⟨q0,q1,q2,q3,q4,q5,q6,q7,q8,q9⟩:=H;have O:=b.size;have IS:w.heap.size≠f.heap.size:=ak;have d2:=bD b z.out.2;have aj:=aE f (w.heap.size+1) 0 (.bool false) d2;have ay:=aS d2 0)|(refine⟨trivial,?_⟩;gi_at_call 241;refine(lV lp (fT.2 (aW.out _))).mono ?_;rintro e w2 ⟨rfl,pF⟩))
      have Z:aB A (f.alloc (.cells (aC (fr c)) 134)):=b.alloc b.size _;exact aU.out _ (Z.trans (pF.mono Z.size)) (by rw[HH.out,hrd,bq,aQ];rfl)
     |true=>
      rw[aQ]at U;have aW:=aL U;clear E U
      gi_wp2_with (first|(refine⟨trivial,?_⟩;gi_at_call 204;refine(lV lp (fT.2 T.out)).mono ?_;rintro e f ⟨rfl,b⟩;have I:aB A (f.alloc (.cells (aC (fr c)) 134)):=b.alloc b.size _;have H:=bQ.of (bD I z.out.1);obtain⟨q0,q1,q2,q3,q4,q5,q6,q7,q8,q9⟩:=H;have O:=b.size;have IS:w.heap.size≠f.heap.size:=ak;have d2:=bD b z.out.2;have aj:=aE f (w.heap.size+1) 0 (.bool false) d2;have ay:=aS d2 0)|(refine⟨trivial,?_⟩;gi_at_call 241;refine(lV lp (fT.2 (aW.out _))).mono ?_;rintro e w2 ⟨rfl,pF⟩;have Z:aB A (f.alloc (.cells (aC (fr c)) 134)):=b.alloc b.size _;have b8:=Z.trans (pF.mono Z.size);have d3:=bD b8 z.out.2;have cY:=aE w2 (w.heap.size+1) 0 (.bool false) d3;have c6:=aS d3 0))
      exact ck.out _ b8 (by rw[HH.out,hrd,bq,aQ];rfl)
  case stop=>
   rintro pre A ⟨rr,hv⟩ ⟨P,F⟩ aZ;have HX:Hid (sO w (ahead r fr rd) pre A/\A.heap[(w.heap.size+3)]? =some (.deferred (some []))):=⟨P,F⟩;clear P F
   gi_wp2
   obtain⟨⟨m,y,⟨j,C,bl⟩,D⟩,Q⟩:=HX.out;have bu:(A.putObj u.heap.size (.deferred none)).heap[(w.heap.size+3)]? =some (.deferred (some [])):=(eX ak).trans Q;have J:=av (w:=(A.putObj u.heap.size (.deferred none)).putObj (w.heap.size+3) (.deferred none)) ((eX ak).trans ((eX ak).trans y)) (i:=0) (v:=.bool true) rfl;refine⟨aq,.inl ⟨_,_,rfl,Ct aZ,aq,.inl ⟨_,_,rfl,Ct bu,.bool true,by simp[results,results205,go_sem,J],?_,?_⟩⟩⟩
   ·have:(cu cs).any (ahead r fr rd)=true:=qM.2 ⟨j,by rw[hv];simp[C],bl⟩;rw[this,Bool.or_true]
   ·exact(m.grown (Cp _ _ _) m.size (fun k e=>by cases e;omega)).grown (Cp _ _ _) (by have:=m.size;simpa using this) (fun k e=>by cases e;omega)
  case done=>
   rintro ys A rfl ⟨d,F⟩ aZ;have cR:=aE A (w.heap.size+1) 0 (.bool false) d.2.2.1;have fR:=aS d.2.2.1 0;have s:Hid (mP w r (ahead r fr rd) (cu cs) A/\A.heap[(w.heap.size+3)]? =some (.deferred (some []))):=⟨d,F⟩;clear d F
   gi_wp2
   obtain⟨⟨m,y,G,D,i6⟩,Q⟩:=s.out;have cB:(A.setCell (aa (w.heap.size+1) 0) (.bool false)).heap[u.heap.size]? =some (.deferred (some [])):=mU aZ ak _ _;have bu:((A.setCell (aa (w.heap.size+1) 0) (.bool false)).putObj u.heap.size (.deferred none)).heap[(w.heap.size+3)]? =some (.deferred (some [])):=(eX ak).trans (mU Q ak _ _);have IB:(A.setCell (aa (w.heap.size+1) 0) (.bool false)).heap[w.heap.size+1]? =some (.cells #[.bool false] 4 (0,0)):=bV G 0 _;have J:=av (w:=((A.setCell (aa (w.heap.size+1) 0) (.bool false)).putObj u.heap.size (.deferred none)).putObj (w.heap.size+3) (.deferred none)) ((eX ak).trans ((eX ak).trans IB)) (i:=0) (v:=.bool false) rfl;refine⟨aq,.inl ⟨_,_,rfl,Ct cB,aq,.inl ⟨_,_,rfl,Ct bu,.bool false,by simp[results,results205,go_sem,J],?_,?_⟩⟩⟩
   ·have:(cu cs).any (ahead r fr rd)=false:=by
     rw[Gb];intro j C;rw[D j C];simp
    rw[this,HN.out];rfl
   ·have bt:=m.setCell (p:=aa (w.heap.size+1) 0) (ju _) (.bool false);exact(bt.grown (Cp _ _ _) bt.size (fun k e=>by cases e;omega)).grown (Cp _ _ _) (by have:=bt.size;simpa using this) (fun k e=>by cases e;omega)
end
section
attribute [local go_sem ↓] Go.wp_at_zero Go.wp_at_succ
attribute [local go_sem] bq bg
open Go.Conc Go.RowKit
open Go.Proofs.Tryz
theorem adP{w W}(h:aB w W)(u0 u1 u2 u3 u4 u5 u6 u7 u8 u9):aB w ((((((((((W.setCell (aa w.heap.size 0) u0).setCell (aa w.heap.size 1) u1).setCell (aa w.heap.size 2) u2).setCell (aa w.heap.size 3) u3).setCell (aa w.heap.size 4) u4).setCell (aa w.heap.size 5) u5).setCell (aa w.heap.size 6) u6).setCell (aa w.heap.size 7) u7).setCell (aa w.heap.size 8) u8).setCell (aa w.heap.size 9) u9):=
 cC (cC (cC (cC (cC (cC (cC (cC (cC (cC h _ _) _ _) _ _) _ _) _ _) _ _) _ _) _ _) _ _) _ _
theorem jW.cells{W B}(h:jW W B):(W.cell? (aa B 0)=some (aj 0)/\W.cell? (aa B 1)=some (.string ⟨#[]⟩)/\W.cell? (aa B 2)=some (aj 0)/\W.cell? (aa B 3)=some (aj 0)/\W.cell? (aa B 4)=some (aj 0)/\W.cell? (aa B 5)=some (aj 0)/\W.cell? (aa B 6)=some (aj 0)/\W.cell? (aa B 7)=some (.string ⟨#[]⟩)/\W.cell? (aa B 8)=some (aj 0)/\W.cell? (aa B 9)=some (aj 0))/\∀i,W.frozen? (aa B i)=false:=
 ⟨⟨av h rfl,av h rfl,av h rfl,av h rfl,av h rfl,av h rfl,av h rfl,av h rfl,av h rfl,av h rfl⟩,fun i=>aS h i⟩
theorem Yo(xb c f rd hd w)(hR:∀W,aB w W->bz 204 #[jp c] W (.tuple #[.agg (aC f),.bool rd]))(C:rd=true->∀W,aB w W->bz 205 #[jp xb,.agg (aC f)] W (.bool hd)):
  bz 166 #[jp xb,jp c] w (.tuple #[.agg (aC f),.bool (rd&&!hd)]):=by
 have j:aB w (w.alloc (.cells jL 134)):=aR;have D:jW (w.alloc (.cells jL 134)) w.heap.size:=bW w _
 have B:Hid (Calls prog 204 #[jp c] (w.alloc (.cells jL 134)) fun e b=>e=.returned (.tuple #[.agg (aC f),.bool rd])/\aB w b/\jW b w.heap.size/\w.heap.size<b.heap.size):=by refine(hR _ j).mono ?_;rintro e b ⟨rfl,g⟩;exact⟨rfl,j.trans (g.mono j.size),bD g D,by have:=g.size;simp at this;omega⟩
 have m:=aL C;clear hR C j D;go_enter func166,ntmps166
 go_upto_region 2 with(go_at_call 204;refine B.out.mono ?_;rintro e a ⟨rfl,o,E,M⟩)
 have n:aB a (a.alloc (.cells (aC f) 134)):=aR;have k:(a.alloc (.cells (aC f) 134)).heap[a.heap.size]? =some (.cells (aC f) 134 (0,0)):=bW a _;have i:=aL (o.trans (n.mono o.size));have h:jW (a.alloc (.cells (aC f) 134)) w.heap.size:=bD n E;clear n E o B;show FM _ _ _ _ (a.alloc (.cells (aC f) 134));generalize a.alloc (.cells (aC f) 134)=l at*;have F:bQ l a.heap.size f:=bQ.of k;cases rd with
 |false=>
  obtain⟨⟨p,q,r,s,t,u,x,y,z,A⟩,H⟩:=jW.cells h;refine gW ?_;refine dh (S:=fun W=>bQ W a.heap.size f) 8 aI F ?_;intro hS;clear h k m;refine gs 0 ?_;refine gk 1 ?_;refine gk 2 ?_;refine g0 3 ?_;refine g0 4 ?_;refine g0 5 ?_;refine g0 6 ?_;refine gk 7 ?_;refine gz fun K d=>?_;go_simp;refine d.out _ _ ?_;clear d K;refine ga 9 ?_;refine dJ aI ?_ _;refine gp ?_;go_wp2;refine fX (v:=.tuple #[.agg (aC f),.bool false]) (by simp[results,results166,go_sem,p,q,r,s,t,u,x,y,z,A]) rfl ⟨rfl,?_⟩;exact Dd i.out _ _ _ _ _ _ _ _ _ _
 |true=>
  have G:Hid (Calls prog 205 #[jp xb,.agg (aC f)] l.drew fun e b=>e=.returned (.bool hd)/\aB w b/\jW b w.heap.size/\b.heap[a.heap.size]? =some (.cells (aC f) 134 (0,0))):=by refine(m.out rfl l.drew i.out.drew).mono ?_;rintro e b ⟨rfl,g⟩;exact⟨rfl,i.out.drew.trans (g.mono i.out.size),bD g h,bD g k⟩
  refine gW ?_;refine dh (S:=fun W=>bQ W a.heap.size f) 8 aI F ?_;intro hS;clear h k m;refine gs 0 ?_;refine gk 1 ?_;refine gk 2 ?_;refine gk 3 ?_;refine gs 4 ?_;refine gr 5 fun K d=>?_;go_simp;go_at_call 205;refine G.out.mono ?_;rintro e N ⟨rfl,J,h,I⟩;refine d.out _ _ (bQ.of I) (fun L=>?_);clear d K;obtain⟨⟨p,q,r,s,t,u,x,y,z,A⟩,H⟩:=jW.cells h;refine gk 6 ?_;refine gk 7 ?_;refine gz fun K d=>?_;go_simp;refine d.out _ _ ?_;clear d K;refine ga 9 ?_;refine dJ aI ?_ _;refine gp ?_;go_wp2;refine fX (v:=.tuple #[.agg (aC f),.bool (!hd)]) (by simp[results,results166,go_sem,p,q,r,s,t,u,x,y,z,A]) rfl ⟨aq,?_⟩;exact(adP J _ _ _ _ _ _ _ _ _ _)
abbrev ux(xb b:Nat)(a:Int)(f:Rq)(W:an):Prop:=W.cell? (aa xb 3)=some (aj a)/\bQ W b f
theorem ux.old{xb b mx f W W'}(h:ux xb b mx f W)(a:aB W W'):ux xb b mx f W':=⟨bp a h.1,h.2.old a⟩
theorem Zq(xb c j f fr h ft mx w)(v:w.cell? (aa xb 3)=some (aj mx))(hF:bz 166 #[jp xb,jp c] w (.tuple #[.agg (aC f),.bool fr]))(s:∀W,aB w W->bz 168 #[jp c,.agg (aC f)] W (.bool h))(t:fr=true->h=true->∀W,aB w W->bz 243 #[jp j,.agg (aC f),aj mx] W (.bool ft)):
  bz 208 #[jp xb,jp c,jp j] w (.bool (fr&&(h&&ft))):=by
 have m:=aL hF;have n:=aL s;have z:=aL t;have A:=aL v;clear hF s t v;go_enter func208,ntmps208
 go_upto_region 2 with(go_at_call 166;refine m.out.mono ?_;rintro e a ⟨rfl,l⟩)
 have o:aB a (a.alloc (.cells (aC f) 134)):=aR;have p:(a.alloc (.cells (aC f) 134)).heap[a.heap.size]? =some (.cells (aC f) 134 (0,0)):=bW a _;have b:=aL (l.trans (o.mono l.size));clear o l m;show FM _ _ _ _ (a.alloc (.cells (aC f) 134));generalize a.alloc (.cells (aC f) 134)=y at*;have C:ux xb a.heap.size mx f y:=⟨bp b.out A.out,bQ.of p⟩;clear p;refine dR (S:=ux xb a.heap.size mx f) C fun r=>?_;cases fr with
 |false=>
  refine tk 0 ?_;refine tk 1 ?_;refine aY 2 ?_;refine aY 3 ?_;refine aY 4 ?_;refine tk 5 ?_;refine tk 6 ?_;refine aY 7 ?_;refine aY 8 ?_;refine aY 9 ?_;refine aY 10 ?_;refine aY 11 ?_;refine aY 12 ?_;refine aY 13 ?_;refine aY 14 ?_;refine tk 15 ?_;refine tk 16 ?_;refine cK ?_;go_wp2;go_ret;exact⟨rfl,b.out.trans (ig (Below.refl _ _) _)⟩
 |true=>
  cases h with
  |false=>
   refine tk 0 ?_;refine tk 1 ?_;refine tk 2 ?_;refine tk 3 ?_;refine rH 4 fun K d=>?_;go_simp;go_at_call 168;refine(n.out _ (b.out.trans (ig (Below.refl _ _) _))).mono ?_;rintro e x ⟨rfl,g⟩;have k:=ux.old r g;refine d.out _ _ k (fun q=>?_);clear d K;refine tk 5 ?_;refine tk 6 ?_;refine aY 7 ?_;refine aY 8 ?_;refine aY 9 ?_;refine aY 10 ?_;refine aY 11 ?_;refine aY 12 ?_;refine aY 13 ?_;refine aY 14 ?_;refine tk 15 ?_;refine tk 16 ?_;refine cK ?_;go_wp2;go_ret;exact⟨rfl,b.out.trans (Da g b.out.size)⟩
  |true=>
   refine tk 0 ?_;refine tk 1 ?_;refine tk 2 ?_;refine tk 3 ?_;refine rH 4 fun K d=>?_;go_simp;go_at_call 168;refine(n.out _ (b.out.trans (ig (Below.refl _ _) _))).mono ?_;rintro e x ⟨rfl,g⟩;have k:=ux.old r g;refine d.out _ _ k (fun q=>?_);clear d K;refine tk 5 ?_;refine tk 6 ?_;refine tk 7 ?_;refine tk 8 ?_;refine tk 9 ?_;refine tk 10 ?_;refine tk 11 ?_;refine tk 12 ?_;refine tk 13 ?_;refine rH 14 fun K d=>?_;go_simp;go_at_call 243;have i:aB w x:=b.out.trans (Da g b.out.size);refine(z.out rfl rfl _ i).mono ?_;rintro e E ⟨rfl,u⟩;have B:=ux.old q u;refine d.out _ _ B (fun D=>?_);clear d K;refine tk 15 ?_;refine tk 16 ?_;refine cK ?_;go_wp2;go_ret;exact⟨aq,i.trans (u.mono i.size)⟩
end
section
open Go.Conc Go.RowKit
open Go.Proofs.Tryz
structure Jb where
 s:Nat
 rs:List Rq
 ft:Ft
 due:Int
 order:Nat
abbrev Jb.key(b:Jb):Key:=(b.due,(b.order:Int))
structure En where
 no:Int
 ck:Int
 kd:Int
 fl:Int
 of:Int
 ln:Int
 er:Int
abbrev lP(e:En):List au:=[aj e.no,aj e.ck,aj e.kd,aj e.fl,aj e.of,aj e.ln,aj e.er]
structure Fx where
 g:Cf
 K:List (Option Ck)
 dw:Int
 acc:Int
 bF:Nat
 clock:Int
 stop:Bool
 az:Nat
 opn:Bool
 bL:List Ft
 fl:List Jb
 B:Array UInt8
 D:Array UInt8
 C:List (Nat×List UInt8)
 log:List En
structure Lc where
 c:Nat
 rb:Nat
 mb:Nat
 ch:Nat
 q:au
 v:au
def Lc.gw(l:Lc)(P:Nat->Prop):Prop:=P l.c/\P l.rb/\P l.mb/\P l.ch/\(∀b,l.q.ownBlock=some b->P b)/\∀b,l.v.ownBlock=some b->P b
theorem Lc.gw.mono{l:Lc}{P Q:Nat->Prop}(h:l.gw P)(hm:∀b,P b->Q b):l.gw Q:=⟨hm _ h.1,hm _ h.2.1,hm _ h.2.2.1,hm _ h.2.2.2.1,fun b a=>hm _ (h.2.2.2.2.1 b a),fun b a=>hm _ (h.2.2.2.2.2 b a)⟩
structure Lj where
 j:Nat
 rv:au
def Lj.gw(l:Lj)(P:Nat->Prop):Prop:=P l.j/\∀b,l.rv.ownBlock=some b->P b
structure cQ where
 sb:Nat
 cs:List (Option Lc)
 js:List Lj
 hv:au
 hf:Nat->Nat
 key:Nat->Key
 fv:au
 lv:au
 d:Nat
 bb:Nat
 db:Nat
 cv:au
 own:Nat->Nat
abbrev kr(f:Fx)(L:cQ):Array au:=
 #[aj f.g.sz,aj f.g.cl,aj f.g.qu,aj f.g.mx,aj f.g.qn,aj f.g.rt,aj f.g.bu,aj f.g.wk,aj f.g.ou,.slice (some (aa L.sb 0)) f.K.length f.K.length,aj f.dw,aj f.acc,aj f.bF,aj f.clock,.bool f.stop,aj f.az,.bool f.opn,L.fv,L.hv,aF L.d,L.lv]
abbrev Lc.At(l:Lc)(W:an)(g:Cf)(k:Ck):Prop:=bM W l.c l.rb l.mb l.ch l.q l.v g k
theorem Lc.At.dQ{l:Lc}{W:an}{g:Cf}{k:Ck}(h:l.At W g k):l.gw (·<W.heap.size):=
 ⟨h.p.dQ.1,(bM.dQ h).1,(bM.dQ h).2,h.p.dQ.2.1,h.p.dQ.2.2.1,h.p.dQ.2.2.2⟩
def nN(W:an)(own:Nat->Nat)(g:Cf)(s:Nat):Option Ck->Option Lc->Prop
 |none,none=>True
 |some k,some l=>l.At W g k/\l.gw fun b=>own b=7+2*s
 |_,_=>False
structure vZ(W:an)(own:Nat->Nat)(g:Cf)(K:List (Option Ck))(cs:List (Option Lc)):Prop where
 len:cs.length=K.length
 at_:∀(s:Nat) a b,K[s]? =some a->cs[s]? =some b->nN W own g s a b
def eC(W:an)(own:Nat->Nat)(cs:List (Option Lc))(b:Jb)(l:Lj):Prop:=
 ∃lc,cs[b.s]? =some (some lc)/\dU W l.j lc.c l.rv b.rs b.ft b.due b.order/\l.gw fun x=>own x=8+2*b.order
structure As(W:an)(own:Nat->Nat)(cs:List (Option Lc))(fl:List Jb)(js:List Lj):Prop where
 len:js.length=fl.length
 at_:∀(i:Nat) b l,fl[i]? =some b->js[i]? =some l->eC W own cs b l
structure GM(W:an)(own:Nat->Nat)(xb:Nat)(hv:au)(hf:Nat->Nat)(key:Nat->Key)(fl:List Jb)(js:List Lj):Prop where
 row:W.ownsRow 0 130 1 hv fl.length (iQ fl.length hf)
 own:∀b,hv.ownBlock=some b->own b=3
 aO:∀x,x<fl.length->∃(i:Nat) (l:Lj),js[i]? =some l/\hf x=l.j
 all:∀(i:Nat) (l:Lj),js[i]? =some l->∃x,x<fl.length/\hf x=l.j
 one:∀x y,x<fl.length->y<fl.length->hf x=hf y->x=y
 keys:∀(i:Nat) b l,fl[i]? =some b->js[i]? =some l->key l.j=b.key
 heap:Hp fl.length fun x=>key (hf x)
structure ay(W:an)(f:Fx)(xb:Nat)(L:cQ):Prop where
 box:W.heap[xb]? =some (.cells (kr f L) 112 (0,0))
 dX:L.own xb=1
 dA:wu W L.sb (L.cs.map fun l=>l.map Lc.c)
 gT:L.own L.sb=2
 cs:vZ W L.own f.g f.K L.cs
 js:As W L.own L.cs f.fl L.js
 fl:GM W L.own xb L.hv L.hf L.key f.fl L.js
 bL:W.ownsRow 0 188 3 L.fv f.bL.length (f.bL.flatMap fun t=>(dI t).toList)
 kg:∀b,L.fv.ownBlock=some b->L.own b=4
 log:W.ownsRow 0 96 7 L.lv f.log.length (f.log.flatMap lP)
 lu:∀b,L.lv.ownBlock=some b->L.own b=5
 ey:cZ W L.d L.bb L.db L.cv f.B.size f.B f.D f.C
 iw:L.own L.d=6/\L.own L.bb=6/\L.own L.db=6/\∀b,L.cv.ownBlock=some b->L.own b=6
def fP(own:Nat->Nat)(n t:Nat):Nat->Nat:=fun b=>if b<n then own b else t
theorem jj{own n t b}(h:b<n):fP own n t b=own b:=by simp[fP,h]
theorem vk{own n t b}(h:n<=b):fP own n t b=t:=by simp[fP];omega
structure eH(W W':an)(own bR:Nat->Nat)(T:Nat->Prop):Prop where
 keep:∀b,b<W.heap.size->¬T (own b)->W'.heap[b]? =W.heap[b]?
 own:∀b,b<W.heap.size->bR b=own b
section
variable {W W':an} {own bR:Nat->Nat} {T:Nat->Prop}
theorem rK{S k n v xs}(h:W.ownsRow 0 S k v n xs):∀b,v.ownBlock=some b->b<W.heap.size:=fun b a=>(h.lt b a).2
theorem eH.row{S k n o v xs}(a:eH W W' own bR T)(h:W.ownsRow 0 S k v n xs)(d:∀b,v.ownBlock=some b->own b=o)(e:¬T o):W'.ownsRow 0 S k v n xs/\∀b,v.ownBlock=some b->bR b=o:=
 ⟨gm h fun b c=>a.keep b (rK h b c) (by grind),fun b c=>(a.own b (rK h b c)).trans (d b c)⟩
theorem eH.blk{b o x}(a:eH W W' own bR T)(h:W.heap[b]? =some x)(d:own b=o)(e:¬T o):W'.heap[b]? =some x/\bR b=o:=
 have c:=(aP.1 h).1
 ⟨(a.keep b c (by grind)).trans h,(a.own b c).trans d⟩
theorem eH.az{g:Cf}{s:Nat}{k:Option Ck}{l:Option Lc}(a:eH W W' own bR T)(h:nN W own g s k l)(n:¬T (7+2*s)):nN W' bR g s k l:=by cases k<;>cases l<;>simp only[nN]at h⊢;rename_i k l;obtain⟨i,d⟩:=h;have e:=i.dQ;have j:l.gw fun b=>own b=7+2*s/\b<W.heap.size:=⟨⟨d.1,e.1⟩,⟨d.2.1,e.2.1⟩,⟨d.2.2.1,e.2.2.1⟩,⟨d.2.2.2.1,e.2.2.2.1⟩,fun b c=>⟨d.2.2.2.2.1 b c,e.2.2.2.2.1 b c⟩,fun b c=>⟨d.2.2.2.2.2 b c,e.2.2.2.2.2 b c⟩⟩;refine⟨bM.keep i (O:=fun b=>own b=7+2*s) d fun b c m=>a.keep b m (by grind),j.mono fun b c=>(a.own b c.2).trans c.1⟩
theorem eC.aside{cs cs' b l}(a:eH W W' own bR T)(h:eC W own cs b l)(hc:∀lc,cs[b.s]? =some (some lc)->∃i,cs'[b.s]? =some (some i)/\i.c=lc.c)(k:¬T (8+2*b.order)):eC W' bR cs' b l:=by obtain⟨lc,m,e,g⟩:=h;obtain⟨i,n,o⟩:=hc lc m;have j:=(aP.1 e.box).1;have hr:=rK e.row;refine⟨i,n,?_,(a.own _ j).trans g.1,fun x d=>(a.own x (hr x d)).trans (g.2 x d)⟩;rw[o];exact⟨(a.keep _ j (by rw[g.1];exact k)).trans e.box,gm e.row fun x d=>a.keep x (hr x d) (by rw[g.2 x d];exact k)⟩
theorem eH.ey{d bb db n cv B D C}(a:eH W W' own bR T)(h:cZ W d bb db cv n B D C)(c:own d=6/\own bb=6/\own db=6/\∀b,cv.ownBlock=some b->own b=6)(e:¬T 6):cZ W' d bb db cv n B D C/\bR d=6/\bR bb=6/\bR db=6/\∀b,cv.ownBlock=some b->bR b=6:=by have b1:=a.blk h.box c.1 e;have g:=a.blk h.bytes c.2.1 e;have i:=a.blk h.fL c.2.2.1 e;have j:=a.row h.cache c.2.2.2 e;exact⟨⟨b1.1,g.1,i.1,j.1,h.sizes,h.fits,h.apart,h.small⟩,b1.2,g.2,i.2,j.2⟩
theorem eH.cs{g K cs}(a:eH W W' own bR T)(h:vZ W own g K cs)(b:∀s,¬T (7+2*s)):vZ W' bR g K cs:=⟨h.len,fun s x y c d=>a.az (h.at_ s x y c d) (b s)⟩
theorem eH.Du{g K cs s k l}(a:eH W W' own bR T)(h:vZ W own g K cs)(i:∀x,x≠s->¬T (7+2*x))(d:nN W' bR g s k l):vZ W' bR g (K.set s k) (cs.set s l):=by
 refine⟨by simp[h.len],fun x y z b c=>?_⟩
 by_cases e:x=s
 ·subst e;have j:x<K.length:=by grind
  rw[pU j]at b;rw[pU (by grind)]at c;cases b;cases c;exact d
 ·rw[BS (cW e)]at b c;exact a.az (h.at_ x y z b c) (i x e)
theorem eH.js{cs cs' fl js}(a:eH W W' own bR T)(h:As W own cs fl js)(hc:∀(s:Nat) lc,cs[s]? =some (some lc)->∃d,cs'[s]? =some (some d)/\d.c=lc.c)(j:∀n,¬T (8+2*n)):As W' bR cs' fl js:=
 ⟨h.len,fun i b l e g=>(h.at_ i b l e g).aside a (hc b.s) (j _)⟩
theorem eH.nS{xb hv hf key fl js}(a:eH W W' own bR T)(h:GM W own xb hv hf key fl js)(c:¬T 3):GM W' bR xb hv hf key fl js:=
 have b:=a.row h.row h.own c
 ⟨b.1,b.2,h.aO,h.all,h.one,h.keys,h.heap⟩
theorem nj{cs:List (Option Lc)}:∀(s:Nat) lc,cs[s]? =some (some lc)->∃a,cs[s]? =some (some a)/\a.c=lc.c:=fun s lc h=>⟨lc,h,rfl⟩
theorem Ks{cs:List (Option Lc)}{t:Nat}{l l':Lc}(b:cs[t]? =some (some l))(hc:l'.c=l.c):∀(s:Nat) lc,cs[s]? =some (some lc)->∃a,(cs.set t (some l'))[s]? =some (some a)/\a.c=lc.c:=fun s lc h=>by grind
theorem QC{cs:List (Option Lc)}{t:Nat}{l l':Lc}(a:cs[t]? =some (some l))(hc:l'.c=l.c):(cs.set t (some l')).map (fun l=>l.map Lc.c)=cs.map fun l=>l.map Lc.c:=by
 refine tY fun s=>?_;rw[kO,kO]
 by_cases e:s=t
 ·subst e;rw[pU (ed.1 a).1,a];simp[hc]
 ·rw[BS (cW e)]
end
section
variable {W W':an} {f:Fx} {xb:Nat} {L:cQ}
theorem ay.old(h:ay W f xb L)(j:∀b,b<W.heap.size->W'.heap[b]? =W.heap[b]?):ay W' f xb L:=by have a:eH W W' L.own L.own fun _=>False:=⟨fun b i _=>j b i,fun b _=>rfl⟩;have n:∀{p:Prop},¬(False/\p):=fun h=>h.1;have b1:=a.blk h.box h.dX id;have c:=a.blk h.dA h.gT id;have d:=a.row h.bL h.kg id;have e:=a.row h.log h.lu id;have g:=a.ey h.ey h.iw id;exact⟨b1.1,b1.2,c.1,c.2,a.cs h.cs (fun _=>id),a.js h.js nj (fun _=>id),a.nS h.fl id,d.1,d.2,e.1,e.2,g.1,g.2⟩
theorem ay.below(h:ay W f xb L)(a:aB W W'):ay W' f xb L:=h.old fun b c=>a.block b c
theorem ay.drewN(h:ay W f xb L)(n):ay (W.drewN n) f xb L:=h.old fun b a=>rfl
theorem ay.drew(h:ay W f xb L):ay W.drew f xb L:=h.old fun b a=>rfl
theorem ay.client(h:ay W f xb L){s:Nat}{k k':Ck}{l l':Lc}{bR:Nat->Nat}(q:L.cs[s]? =some (some l))(hc:l'.c=l.c)(y:f.K[s]? =some (some k)){X:Nat->Prop}(w:aG X W W')(v:∀b,b<W.heap.size->X b->L.own b=7+2*s)(hr:l'.At W' f.g k')(u:∀b,b<W.heap.size->bR b=L.own b)(d:l'.gw fun b=>bR b=7+2*s):
  ay W' {f with K:=f.K.set s (some k')} xb {L with cs:=L.cs.set s (some l'),own:=bR}:=by
 have a:eH W W' L.own bR fun t=>t=7+2*s:=⟨fun b p d=>w.block b p fun r=>d (v b p r),u⟩;have b1:=a.blk h.box h.dX ak;have i:=a.blk h.dA h.gT ak;have j:=a.row h.bL h.kg ak;have m:=a.row h.log h.lu ak;have o:=a.ey h.ey h.iw ak;refine⟨?_,b1.2,?_,i.2,a.Du h.cs (fun x r=>by omega) ⟨hr,d⟩,a.js h.js (Ks q hc) (fun n=>by omega),a.nS h.fl ak,j.1,j.2,m.1,m.2,o.1,o.2⟩
 ·have e:=b1.1;simpa[kr]using e
 ·have e:=i.1;show wu W' L.sb ((L.cs.set s (some l')).map fun l=>l.map Lc.c);rw[QC q hc];exact e
theorem ay.put(h:ay W f xb L)(i u f')(d:(kr f L).setIfInBounds i u=kr f' L)(o:f'.g=f.g)(p:f'.K=f.K)(n:f'.fl=f.fl)(q:f'.bL=f.bL)(r:f'.log=f.log)(c:f'.B=f.B/\f'.D=f.D/\f'.C=f.C):ay (W.setCell (aa xb i) u) f' xb L:=by
 have a:eH W (W.setCell (aa xb i) u) L.own L.own fun t=>t=1:=⟨fun b d v=>bH (fun e=>v (by rw[e];exact h.dX)),fun b d=>rfl⟩;have j:=a.blk h.dA h.gT ak;have k:=a.row h.bL h.kg ak;have l:=a.row h.log h.lu ak;have m:=a.ey h.ey h.iw ak;refine⟨?_,h.dX,j.1,j.2,?_,?_,?_,?_,k.2,?_,l.2,?_,m.2⟩
 ·rw[<-d];exact bV h.box i u
 ·rw[o,p];exact a.cs h.cs (fun s=>by omega)
 ·rw[n];exact a.js h.js nj (fun s=>by omega)
 ·rw[n];exact a.nS h.fl ak
 ·rw[q];exact k.1
 ·rw[r];exact l.1
 ·rw[c.1,c.2.1,c.2.2];exact m.1
end
end
section
attribute [local go_sem ↓] Go.wp_at_zero Go.wp_at_succ
attribute [local go_sem] bq bg
open Go.Conc Go.RowKit
open Go.Proofs.Tryz
section
variable {W W1:an} {f:Fx} {xb:Nat} {L:cQ} {X:Nat->Prop}
theorem aG.asd{t bR}(g:aG X W W1)(d:∀b,b<W.heap.size->X b->L.own b=t)(c:∀b,b<W.heap.size->bR b=L.own b):eH W W1 L.own bR fun x=>x=t:=⟨fun b a e=>g.block b a fun h=>e (d b a h),c⟩
theorem ay.RN(h:ay W f xb L){i t v' bR}(q:aG X W W1)(l:∀b,b<W.heap.size->X b->L.own b=t)(c:t≠1){S k n xs}(hr:W1.ownsRow 0 S k v' n xs)(d:∀b,b<W.heap.size->bR b=L.own b)(j:∀b,v'.ownBlock=some b->bR b=t):
  eH W (W1.setCell (aa xb i) v') L.own bR (fun x=>x=t\/x=1)/\(W1.setCell (aa xb i) v').ownsRow 0 S k v' n xs/\(W1.setCell (aa xb i) v').heap[xb]? =some (.cells ((kr f L).setIfInBounds i v') 112 (0,0)):=by
 have a:=q.asd l d;have m:=a.blk h.box h.dX (cW c);have r:xb<W.heap.size:=(aP.1 h.box).1;refine⟨?_,gm hr fun b o=>bH fun e=>?_,bV m.1 i v'⟩
 ·refine⟨fun b p g=>?_,a.own⟩;rw[bH fun e=>g (.inr (by grind))];exact a.keep b p fun e=>g (.inl e)
 ·have:=j b o;rw[e,d xb r,h.dX]at this;exact c this.symm
theorem ay.eu(h:ay W f xb L){c l bR}(m:aG X W W1)(k:∀b,b<W.heap.size->X b->L.own b=4)(hr:W1.ownsRow 0 188 3 c l.length (l.flatMap fun t=>(dI t).toList))(j:∀b,b<W.heap.size->bR b=L.own b)(i:∀b,c.ownBlock=some b->bR b=4):
  ay (W1.setCell (aa xb 17) c) {f with bL:=l} xb {L with fv:=c,own:=bR}:=by
 obtain⟨a,n,o⟩:=h.RN m k ak hr j i;have d:=a.blk h.dA h.gT ak;have e:=a.row h.log h.lu ak;have g:=a.ey h.ey h.iw ak;exact⟨o,(j xb ((aP.1 h.box).1)).trans h.dX,d.1,d.2,a.cs h.cs (fun s=>by omega),a.js h.js nj (fun s=>by omega),a.nS h.fl ak,n,i,e.1,e.2,g.1,g.2⟩
theorem ay.logs(h:ay W f xb L){c l bR}(m:aG X W W1)(k:∀b,b<W.heap.size->X b->L.own b=5)(hr:W1.ownsRow 0 96 7 c l.length (l.flatMap lP))(j:∀b,b<W.heap.size->bR b=L.own b)(i:∀b,c.ownBlock=some b->bR b=5):
  ay (W1.setCell (aa xb 20) c) {f with log:=l} xb {L with lv:=c,own:=bR}:=by
 obtain⟨a,n,o⟩:=h.RN m k ak hr j i;have d:=a.blk h.dA h.gT ak;have e:=a.row h.bL h.kg ak;have g:=a.ey h.ey h.iw ak;exact⟨o,(j xb ((aP.1 h.box).1)).trans h.dX,d.1,d.2,a.cs h.cs (fun s=>by omega),a.js h.js nj (fun s=>by omega),a.nS h.fl ak,e.1,e.2,n,i,g.1,g.2⟩
theorem ay.Xy(h:ay W f xb L){cv B D C bR}(o:aG X W W1)(m:∀b,b<W.heap.size->X b->L.own b=6)(n:cZ W1 L.d L.bb L.db cv B.size B D C)(l:∀b,b<W.heap.size->bR b=L.own b)(k:∀b,cv.ownBlock=some b->bR b=6):
  ay W1 {f with B:=B,D:=D,C:=C} xb {L with cv:=cv,own:=bR}:=by
 have a:=o.asd m l;have b1:=a.blk h.box h.dX ak;have c:=a.blk h.dA h.gT ak;have e:=a.row h.bL h.kg ak;have g:=a.row h.log h.lu ak;have i:=a.own _ (aP.1 h.ey.bytes).1;have j:=a.own _ (aP.1 h.ey.fL).1;exact⟨b1.1,b1.2,c.1,c.2,a.cs h.cs (fun s=>by omega),a.js h.js nj (fun s=>by omega),a.nS h.fl ak,e.1,e.2,g.1,g.2,n,(a.own _ (aP.1 h.ey.box).1).trans h.iw.1,i.trans h.iw.2.1,j.trans h.iw.2.2.1,k⟩
theorem ay.owns(h:ay W f xb L)(bR)(i:∀b,b<W.heap.size->bR b=L.own b):ay W f xb {L with own:=bR}:=by have a:eH W W L.own bR fun _=>False:=⟨fun b j _=>rfl,i⟩;have b1:=a.blk h.box h.dX id;have c:=a.blk h.dA h.gT id;have d:=a.row h.bL h.kg id;have e:=a.row h.log h.lu id;have g:=a.ey h.ey h.iw id;exact⟨b1.1,b1.2,c.1,c.2,a.cs h.cs (fun _=>id),a.js h.js nj (fun _=>id),a.nS h.fl id,d.1,d.2,e.1,e.2,g.1,g.2⟩
theorem ay.sZ(h:ay W f xb L)(j:∀b,b<W.heap.size->L.own b≠0->W1.heap[b]? =W.heap[b]?):ay W1 f xb L:=by have a:eH W W1 L.own L.own fun t=>t=0:=⟨fun b i k=>j b i k,fun b _=>rfl⟩;have b1:=a.blk h.box h.dX ak;have c:=a.blk h.dA h.gT ak;have d:=a.row h.bL h.kg ak;have e:=a.row h.log h.lu ak;have g:=a.ey h.ey h.iw ak;exact⟨b1.1,b1.2,c.1,c.2,a.cs h.cs (fun _=>by omega),a.js h.js nj (fun _=>by omega),a.nS h.fl ak,d.1,d.2,e.1,e.2,g.1,g.2⟩
end
def Fx.eu(f:Fx):Ft:=match f.bL with
 |[]=>⟨1,false,0⟩
 |t::_=>t
theorem YL(t:Ft):(dI t).toList.length=3:=rfl
theorem YM(l:List Ft):∀u∈l.flatMap (fun t=>(dI t).toList),u.oneCell'=true:=fun u a=>by obtain⟨t,_,h⟩:=BW.1 a;simp[dI]at h;rcases h with rfl|rfl|rfl<;>rfl
theorem Kc{w:an}{T k n:Nat}{v:au}{xs:List au}(h:w.ownsRow 0 T k v n xs):∃a b,v=.slice a n b/\n<=b/\b<=bT:=by
 rcases h.2 with⟨c,d⟩|⟨g,b,i,c,_,_,e,f,_⟩
 ·exact⟨none,0,by rw[c,d],ak,by unfold bT;omega⟩
 ·exact⟨_,b,c,e,f⟩
theorem RO{w:an}{T k n:Nat}{v:au}{xs:List au}(h:w.ownsRow 0 T k v n xs)(h0:0<n):∃g b,v=.slice (some (aa g 0)) n b/\∀j u,xs[j]? =some u->w.cell? (aa g j)=some u:=by
 rcases h.2 with⟨c,d⟩|⟨g,b,f,c,_,d,_,_,i,e⟩
 ·omega
 ·refine⟨g,b,c,fun j u a=>av d ?_⟩;rw[<-e,lX]at a;split at a
  ·rw[kK]at a;exact a
  ·cases a
theorem I9(xb f L w)(h:ay w f xb L)(hf:f.bL=[]):
  bz 211 #[jp xb] w (.agg (dI f.eu)):=by
 obtain⟨a,b,e,_⟩:=Kc h.bL
 have c:w.cell? (aa xb 17)=some (.slice a 0 b):=by have:=av h.box (i:=17) (v:=L.fv) rfl;rw[this,e,hf];rfl
 have d:xb<w.heap.size:=(aP.1 h.box).1;have d17:(w.alloc (.cells #[aj 0,.bool false,aj 0] 188)).cell? (aa xb 17)=some (.slice a 0 b):=bp (aR) c;have hF:f.eu=⟨1,false,0⟩:=by simp[Fx.eu,hf]
 rw[hF];clear h e hF hf;go_enter func211,ntmps211;go_wp2;refine fX (v:=.agg (dI ⟨1,false,0⟩)) (by simp[results,results211,go_sem]) rfl ⟨rfl,?_⟩;exact aR
theorem J1(xb:Nat)(f:Fx)(L:cQ)(t:Ft)(l:List Ft)(w:an)(h:ay w f xb L)(hf:f.bL=t::l)(hm:l.length<=1048576):
  Calls prog 211 #[jp xb] w fun e Y=>e=.returned (.agg (dI f.eu))/\∃v,ay Y {f with bL:=l} xb {L with fv:=v,own:=fP L.own w.heap.size 0}/\v.ownBlock=L.fv.ownBlock/\aG (fun b=>b=xb\/some b=L.fv.ownBlock) w Y:=by
 have p:=h.bL;rw[hf]at p;obtain⟨g,q,e,A⟩:=RO p aq
 have M:w.cell? (aa xb 17)=some (.slice (some (aa g 0)) (l.length+1) q):=by have:=av h.box (i:=17) (v:=L.fv) rfl;rw[this,e];rfl
 have g0:w.cell? (aa g 0)=some (aj t.delay):=A 0 _ rfl;have g1:w.cell? (aa g 1)=some (.bool t.cM):=A 1 _ rfl;have g2:w.cell? (aa g 2)=some (aj t.part):=A 2 _ rfl;have P:xb<w.heap.size:=(aP.1 h.box).1;have hg:g<w.heap.size:=rK p g (by rw[e];rfl);have m:aB w (w.alloc (.cells #[aj 0,.bool false,aj 0] 188)):=aR;have d17:=bp m M;have d0:=bp m g0;have d1:=bp m g1;have d2:=bp m g2;have K:aB w ((w.alloc (.cells #[aj 0,.bool false,aj 0] 188)).alloc (.cells (dI t) 188)):=m.alloc m.size _;have W:((w.alloc (.cells #[aj 0,.bool false,aj 0] 188)).alloc (.cells (dI t) 188)).heap[w.heap.size]? =some (.cells #[aj 0,.bool false,aj 0] 188 (0,0)):=Bq w _ _;have X:((w.alloc (.cells #[aj 0,.bool false,aj 0] 188)).alloc (.cells (dI t) 188)).heap[w.heap.size+1]? =some (.cells (dI t) 188 (0,0)):=Bp w _ _;have C:Hid (ay w f xb L/\L.fv=.slice (some (aa g 0)) (l.length+1) q/\f.eu=t/\g<w.heap.size/\xb<w.heap.size):=⟨h,by rw[e];rfl,by simp[Fx.eu,hf],hg,P⟩;have J:Hid (w.ownsRow 0 188 3 (.slice (some (aa g 0)) (l.length+1) q) (l.length+1) ((dI t).toList++l.flatMap fun t=>(dI t).toList)):=by rw[e]at p;exact p
 have aE:g≠xb:=fun e'=>by have h1:=h.kg g (by rw[e];rfl);rw[e',h.dX]at h1;omega
 have n:=aL K;have I:Hid (((w.alloc (.cells #[aj 0,.bool false,aj 0] 188)).alloc (.cells (dI t) 188)).heap[w.heap.size]? =some (.cells #[aj 0,.bool false,aj 0] 188 (0,0))/\((w.alloc (.cells #[aj 0,.bool false,aj 0] 188)).alloc (.cells (dI t) 188)).heap[w.heap.size+1]? =some (.cells (dI t) 188 (0,0))):=⟨W,X⟩;have G:f.eu=t:=C.out.2.2.1;rw[G];clear h p e A hf G W X K m;go_enter func211,ntmps211
 go_upto_region 4 with fail
 clear d17 d0 d1 d2;show FM _ _ _ _ ((w.alloc (.cells #[aj 0,.bool false,aj 0] 188)).alloc (.cells (dI t) 188));generalize (w.alloc (.cells #[aj 0,.bool false,aj 0] 188)).alloc (.cells (dI t) 188)=B at*;have d17:=bp n.out M
 have Z:Hid (Calls prog 244 #[.slice (some (aa g 0)) (l.length+1) q,aj 0,aj 1] B fun e c=>∃d,(∃j k,d=.slice j l.length k)/\e=.returned d/\ay (c.setCell (aa xb 17) d) {f with bL:=l} xb {L with fv:=d,own:=fP L.own w.heap.size 0}/\d.ownBlock=L.fv.ownBlock/\aG (fun b=>b=xb\/some b=L.fv.ownBlock) w c/\c.heap[xb]? =B.heap[xb]? /\c.heap[w.heap.size]? =some (.cells #[aj 0,.bool false,aj 0] 188 (0,0))/\c.heap[w.heap.size+1]? =some (.cells (dI t) 188 (0,0))):=by
  obtain⟨u,hv,_,_,_⟩:=C.out;refine(Xq B (vq J.out n.out) (YL t) (YM l)).mono ?_;rintro e c ⟨d,rfl,hr,x,ho⟩;have O:d.ownBlock=L.fv.ownBlock:=by rw[ho,hv]
  have hn:∀b,d.ownBlock=some b->fP L.own w.heap.size 0 b=4:=fun b a=>by
   have s:L.fv.ownBlock=some b:=by rw[<-O];exact a
   rw[jj (rK u.bL b s)];exact u.kg b s
  have r:∀b,some b=(eF (some (aa g 0)) (l.length+1) q).ownBlock->b=g:=fun b a=>by simpa[Value.ownBlock]using a
  obtain⟨j,k,E,_⟩:=Kc hr;refine⟨d,⟨j,k,E⟩,rfl,((u.owns (fP L.own w.heap.size 0) fun b a=>jj a).below n.out).eu x (fun b _ a=>by have s:L.fv.ownBlock=some b:=(by rw[hv];exact a.symm);exact(jj (rK u.bL b s)).trans (u.kg b s)) hr (fun _ _=>rfl) hn,O,(aG.below n.out).trans (x.mono fun b _ a=>.inr (by rw[hv];exact a)),x.block _ (cV P n.out.size) (fun a=>aE (r _ a).symm),tM x I.out.1 (fun a=>by have:=r _ a;omega),tM x I.out.2 (fun a=>by have:=r _ a;omega)⟩
 clear J;have aO:=aL (bD n.out C.out.1.box)
 go_upto_region 5 with(go_at_call 244;refine Z.out.mono ?_;rintro e c ⟨d,⟨j,k,E⟩,rfl,Q,R,S,T,U,V⟩;have F:=T.trans aO.out;have aQ:=av F (i:=17) (v:=L.fv) rfl;have xf:=aS F 17;have o:Hid (ay (c.setCell (aa xb 17) d) {f with bL:=l} xb {L with fv:=d,own:=fP L.own w.heap.size 0}/\d.ownBlock=L.fv.ownBlock/\aG (fun b=>b=xb\/some b=L.fv.ownBlock) w c/\c.heap[w.heap.size]? =some (.cells #[aj 0,.bool false,aj 0] 188 (0,0))/\c.heap[w.heap.size+1]? =some (.cells (dI t) 188 (0,0))):=⟨Q,R,S,U,V⟩;clear Q R S T U V F;subst E)
 have y:(c.setCell (aa xb 17) (.slice j l.length k)).heap[w.heap.size]? =some (.cells #[aj 0,.bool false,aj 0] 188 (0,0)):=(bH ak).trans o.out.2.2.2.1;have m1:(c.setCell (aa xb 17) (.slice j l.length k)).heap[w.heap.size+1]? =some (.cells (dI t) 188 (0,0)):=(bH ak).trans o.out.2.2.2.2;have D:Hid (aG (fun b=>b=xb\/some b=L.fv.ownBlock) w (c.setCell (aa xb 17) (.slice j l.length k))):=o.out.2.2.1.set (.inl rfl) _;have H:Hid (ay (c.setCell (aa xb 17) (.slice j l.length k)) {f with bL:=l} xb {L with fv:=.slice j l.length k,own:=fP L.own w.heap.size 0}/\(eF j l.length k).ownBlock=L.fv.ownBlock):=⟨o.out.1,o.out.2.1⟩;clear o aQ xf;generalize c.setCell (aa xb 17) (.slice j l.length k)=z at*;have z0:=av y (i:=0) rfl;have z1:=av y (i:=1) rfl;have z2:=av y (i:=2) rfl;have y0:=av m1 (i:=0) rfl;have y1:=av m1 (i:=1) rfl;have y2:=av m1 (i:=2) rfl;have fz:=fun i=>aS y i;clear y m1;go_wp2;refine fX (v:=.agg (dI t)) (by simp[results,results211,go_sem,z0,z1,z2]) rfl ⟨rfl,?_⟩;have N:∀b,b≠w.heap.size->(((z.setCell (aa w.heap.size 0) (aj t.delay)).setCell (aa w.heap.size 1) (.bool t.cM)).setCell (aa w.heap.size 2) (aj t.part)).heap[b]? =z.heap[b]? :=fun b a=>(bH a).trans ((bH a).trans (bH a));have hs:(((z.setCell (aa w.heap.size 0) (aj t.delay)).setCell (aa w.heap.size 1) (.bool t.cM)).setCell (aa w.heap.size 2) (aj t.part)).heap.size=z.heap.size:=aq;refine⟨_,H.out.1.sZ fun b _ a=>N b fun e=>a ?_,H.out.2,⟨D.out.os,by rw[hs];exact D.out.size,fun b a r=>(N b ak).trans (D.out.block b a r)⟩⟩;show fP _ _ _ _=0;rw[e];exact vk (aV _)
end
section
open Go.Conc Go.RowKit
open Go.Proofs.Tryz
def Fx.held(f:Fx)(r:Rq):Bool:=f.fl.any (fun b=>b.rs.any (r.touch ·))||f.K.any fun o=>match o with
 |none=>false
 |some k=>k.gl f.g&&(decide (k.fst.no<r.no)&&k.fst.touch r)
def Fx.free(f:Fx)(k:Ck):Bool:=k.gl f.g&&!f.held k.fst
structure Ck.jD(k:Ck):Prop where
 out:k.out.size<=4194304
 prom:0<=k.prom/\k.prom<=4194304
 q:∀r∈k.q,r.Ok
structure Fx.jD(f:Fx):Prop where
 cl:∀k,some k∈f.K->k.jD
 jb:∀b∈f.fl,(∀x∈b.rs,x.Ok)/\b.rs.length<=1048576
 dA:f.K.length<=65535
 ku:f.fl.length<=65535
 nZ:∀(i j:Nat) (b c:Jb),f.fl[i]? =some b->f.fl[j]? =some c->b.order=c.order->i=j
theorem JM{α:Type}(R:Nat->α->Prop)(d:α)(e:∀x a b,R x a->R x b->a=b):∃F:Nat->α,∀x a,R x a->F x=a:=by
 classical
 refine⟨fun x=>if h:∃a,R x a then h.choose else d,fun x a c=>?_⟩;have h:∃a,R x a:=⟨a,c⟩;simp only[h,qW];exact e x _ _ h.choose_spec c
section
variable {w W:an} {f:Fx} {xb:Nat} {L:cQ}
theorem ay.az(h:ay w f xb L){s}{l:Lc}(c:L.cs[s]? =some (some l)):∃k,f.K[s]? =some (some k)/\l.At w f.g k/\l.gw fun b=>L.own b=7+2*s:=by
 have d:s<f.K.length:=by rw[<-h.cs.len];exact(ed.1 c).1
 have a:=dN d;have:=h.cs.at_ s _ _ a c;cases e:f.K[s]with
 |none=>rw[e]at this;exact absurd this (by simp[nN])
 |some k=>rw[e]at this a;exact⟨k,a,this.1,this.2⟩
theorem ay.sat(h:ay w f xb L){s:Nat}{k:Ck}(c:f.K[s]? =some (some k)):∃l,L.cs[s]? =some (some l)/\l.At w f.g k/\l.gw fun b=>L.own b=7+2*s:=by
 have d:s<L.cs.length:=by rw[h.cs.len];exact(ed.1 c).1
 have a:=dN d;have:=h.cs.at_ s _ _ c a;cases e:L.cs[s]with
 |none=>rw[e]at this;exact absurd this (by simp[nN])
 |some l=>rw[e]at this a;exact⟨l,a,this.1,this.2⟩
theorem tK{cs:List (Option Lc)}{c:Nat}:c∈cu (cs.map fun l=>l.map Lc.c)↔∃(s:Nat) (l:Lc),cs[s]? =some (some l)/\l.c=c:=by
 simp only[cu,Gj,iV,id];constructor
 ·rintro⟨o,⟨l,a,rfl⟩,h⟩;cases l with
  |none=>simp at h
  |some l=>
   obtain⟨s,b⟩:=Gh a;exact⟨s,l,b,by simpa using h⟩
 ·rintro⟨s,l,a,rfl⟩;exact⟨_,⟨some l,iG a,rfl⟩,rfl⟩
theorem ay.aaH(h:ay w f xb L)(hf:f.jD):sS w xb L.sb f.K.length (L.cs.map fun l=>l.map Lc.c):=
 ⟨av h.box rfl,by simp[h.cs.len],hf.dA,fun j v a=>av h.dA (tH a),⟨_,h.dA⟩⟩
theorem Bd{g}{k:Ck}(a:k.jD)(hr:k.gl g=true):k.fst.Ok:=by
 cases e:k.q with
 |nil=>simp[Ck.gl,e]at hr
 |cons r l=>simp only[Ck.fst,e];exact a.q r (by rw[e];simp)
theorem ay.held(h:ay w f xb L)(hf:f.jD)(r)(hr:r.Ok):bz 205 #[jp xb,.agg (aC r)] w (.bool (f.held r)):=by
 obtain⟨H,G⟩:=JM (fun x (k:Ck)=>∃(s:Nat) (l:Lc),f.K[s]? =some (some k)/\L.cs[s]? =some (some l)/\l.c=x) ⟨0,0,0,⟨#[]⟩,[],0,0,⟨#[]⟩,0,0,0,[]⟩ (by rintro x a b ⟨s,l,d,m,n⟩ ⟨R,l',v,I,J⟩;obtain⟨_,_,_,P⟩:=h.az m;obtain⟨_,_,_,Q⟩:=h.az I;have C:=P.1;have D:=Q.1;rw[n]at C;rw[J]at D;have:s=R:=ak;subst this;rw[d]at v;simpa using v)
 obtain⟨U,N⟩:=JM (fun x (b:Jb)=>∃(i:Nat) (l:Lj),f.fl[i]? =some b/\L.js[i]? =some l/\l.j=x) ⟨0,[],⟨0,false,0⟩,0,0⟩ (by rintro x a b ⟨s,l,d,m,n⟩ ⟨R,l',v,I,J⟩;obtain⟨_,_,_,P⟩:=h.js.at_ _ _ _ d m;obtain⟨_,_,_,Q⟩:=h.js.at_ _ _ _ v I;have C:=P.1;have D:=Q.1;rw[n]at C;rw[J]at D;have:s=R:=hf.nZ _ _ _ _ d v ak;subst this;rw[d]at v;simpa using v)
 obtain⟨a,X,hv,_,_⟩:=Kc h.fl.row
 have V:∀x,x<f.fl.length->∃(i:Nat) (b:Jb) (l:Lj),f.fl[i]? =some b/\L.js[i]? =some l/\l.j=L.hf x:=fun x t=>by
  obtain⟨i,l,d,m⟩:=h.fl.aO x t;have E:i<f.fl.length:=by rw[<-h.js.len];exact(ed.1 d).1
  exact⟨i,f.fl[i],l,dN E,d,m.symm⟩
 have A:MT w xb L.sb f.K.length (L.cs.map fun l=>l.map Lc.c) a f.fl.length X ((dM f.fl.length).map L.hf) r (fun x=>(U x).rs.any (r.touch ·)) (fun x=>(H x).fst) (fun x=>(H x).gl f.g):=by
  refine⟨?_,aq,hf.ku,?_,?_,?_,h.aaH hf,?_,hr,?_⟩
  ·rw[<-hv];exact av h.box rfl
  ·intro j x t;have F:j<f.fl.length:=by have:=(ed.1 t).1;simpa using this
   obtain⟨g,c,e,z⟩:=RO h.fl.row ak;rw[hv]at e;cases e;refine⟨g,rfl,z j _ ?_⟩;rw[EA F];simp[F]at t;rw[t]
  ·intro g Y;exact rK h.fl.row g (by rw[hv];exact Y)
  ·intro j F W M;obtain⟨x,t,rfl⟩:=iV.1 F;obtain⟨i,b,l,d,m,n⟩:=V x (lY.1 t);obtain⟨lc,_,v,_⟩:=h.js.at_ _ _ _ d m;have B:=hf.jb b (iG d);have:=y7 l.j lc.c l.rv b.rs b.ft b.due b.order r W (v.below M) hr B.1 B.2;rw[N (L.hf x) b ⟨i,l,d,m,n⟩,<-n];exact this
  ·intro c z W M;obtain⟨s,l,d,rfl⟩:=tK.1 z;obtain⟨k,m,n,_⟩:=h.az d;rw[G l.c k ⟨s,l,m,d,rfl⟩];have O:=hf.cl k (iG m);exact RA _ _ _ _ _ _ _ W (n.p.old M) O.q O.out O.prom
  ·intro c z hrd;obtain⟨s,l,d,rfl⟩:=tK.1 z;obtain⟨k,m,n,_⟩:=h.az d;rw[G l.c k ⟨s,l,m,d,rfl⟩]at hrd⊢;exact Bd (hf.cl k (iG m)) hrd
 refine(x8 _ _ _ _ _ _ _ _ _ _ _ _ w A).mono ?_;rintro e w' ⟨rfl,B⟩;refine⟨?_,B⟩
 have C:((dM f.fl.length).map L.hf).any (fun x=>(U x).rs.any (r.touch ·))=f.fl.any fun b=>b.rs.any (r.touch ·):=by
  rw[xC,qM,qM];constructor
  ·rintro⟨y,hy,u⟩;obtain⟨x,t,rfl⟩:=iV.1 hy;obtain⟨i,b,l,d,m,n⟩:=V x (lY.1 t);rw[N (L.hf x) b ⟨i,l,d,m,n⟩]at u;exact⟨b,iG d,u⟩
  ·rintro⟨b,B,u⟩;obtain⟨i,E⟩:=Gh B;have S:i<L.js.length:=by rw[h.js.len];exact(ed.1 E).1
   obtain⟨x,t,n⟩:=h.fl.all i _ (dN S);refine⟨L.hf x,iV.2 ⟨x,lY.2 t,rfl⟩,?_⟩;rw[N (L.hf x) b ⟨i,_,E,dN S,n.symm⟩];exact u
 have D:(cu (L.cs.map fun l=>l.map Lc.c)).any (ahead r (fun x=>(H x).fst) fun x=>(H x).gl f.g)=f.K.any fun o=>match o with
   |none=>false
   |some k=>k.gl f.g&&(decide (k.fst.no<r.no)&&k.fst.touch r):=by
  rw[xC,qM,qM];constructor
  ·rintro⟨c,z,u⟩;obtain⟨s,l,d,rfl⟩:=tK.1 z;obtain⟨k,m,n,_⟩:=h.az d;refine⟨some k,iG m,?_⟩;simp only[ahead,G l.c k ⟨s,l,m,d,rfl⟩]at u;exact u
  ·rintro⟨o,Z,u⟩;cases o with
   |none=>simp at u
   |some k=>
    obtain⟨s,T⟩:=Gh Z;obtain⟨l,d,m,_⟩:=h.sat T;refine⟨l.c,tK.2 ⟨s,l,d,rfl⟩,?_⟩;simp only[ahead,G l.c k ⟨s,l,T,d,rfl⟩];exact u
 rw[C,D];rfl
theorem ay.firstFree(h:ay w f xb L)(hf:f.jD){s:Nat}{k:Ck}{l:Lc}(d:f.K[s]? =some (some k))(i:L.cs[s]? =some (some l)):bz 166 #[jp xb,jp l.c] w (.tuple #[.agg (aC k.fst),.bool (f.free k)]):=by obtain⟨j,b,e,_⟩:=h.az i;rw[d]at b;cases b;have hF:=hf.cl k (iG d);exact Yo xb l.c k.fst (k.gl f.g) (f.held k.fst) w (fun W a=>RA _ _ _ _ _ _ _ W (e.p.old a) hF.q hF.out hF.prom) fun hr W a=>(h.below a).held hf _ (Bd hF hr)
end
end
end Go.Proofs.YtpobhljcainmdaaGreat
