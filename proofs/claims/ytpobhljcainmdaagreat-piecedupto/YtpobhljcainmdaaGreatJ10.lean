/- Parts of the proof. -/
import Derived.Laws.IdiomCopy
import Derived.Lib.LazyBuf
import Derived.Test.YtpobhljcainmdaaGreatJ09
set_option maxRecDepth 100000
set_option maxHeartbeats 8000000
set_option linter.all false
namespace Go.Proofs.YtpobhljcainmdaaGreat
open Go.World renaming cell?_of_block->fC,news_of_block->Mv,setCell->fD
open Go renaming heap_alloc_new->bW,Value->au,World->an,bodyPost_ret->fX,step_append_lies->MG,maxLen->bT,sizeOf->FZ,TypeId->aK
open Go.Builtin renaming zeroCells->lU,copy_->rS
open Go.IntKind renaming i64->gU
open Go.Value renaming slice->eF,ownBlock->uk
open Go.RowKit renaming intOf->gu
open Go.Region renaming wanted->cL
open _root_.List renaming take_succ->UL
open Go.Addr renaming add_lit->Lp
section
attribute [local go_sem ↓] Go.wp_at_zero Go.wp_at_succ
attribute [local go_sem] bq bg
open Go.Proofs.Tryz
open Go.RowKit
abbrev down(f:Nat->Nat)(m:Nat):Nat->Nat:=fun x=>if x=0 then f m else f x
theorem ZR{m}{f:Nat->Nat}{K:Nat->Key}(h:Hp (m+1) fun x=>K (f x)):uz m (fun x=>K (down f m x)) 0:=by refine⟨fun x h0 b a=>?_,fun h0=>by omega⟩;have:=h x h0 ak;simp only[down];rw[aD a,aD ak];exact this
theorem U3{w hb ho m g cap d d' f K iy cur}{c:aK}(B:w.heap[hb]? =some (.cells iy c (0,0)))(E:ho<iy.size)(D:w.heap[g]? =some (.cells cur 130 (0,0)))(I:m+1<=cap)(hm:cap<=bT)(hc:cur.size=cap)(i:hb≠g)(F:∀x,x<m+1->cur[x]? =some (jp (f x)))(A:Keyed w (.slice (some (aa g 0)) (m+1) cap) (m+1) f K)(C:∀x,x<m+1->f x≠hb):
  ∃W,((((w.drewN d).setCell (aa g 0) (jp (f m))).drewN d').setCells g m [.pointer none]).setCell (aa hb ho) (.slice (some (aa g 0)) m cap)=W/\W.heap[hb]? =some (.cells (iy.setIfInBounds ho (.slice (some (aa g 0)) m cap)) c (0,0))/\
   fq W hb ho (.slice (some (aa g 0)) m cap) m (down f m)/\Keyed W (.slice (some (aa g 0)) m cap) m (down f m) K/\aG (fun b=>b=hb\/b=g) w W/\((((w.drewN d).setCell (aa g 0) (jp (f m))).drewN d').setCells g m [.pointer none]).heap[hb]? =some (.cells iy c (0,0)):=by
 have g0:(w.drewN d).heap[g]? =some (.cells cur 130 (0,0)):=D;have z:(((w.drewN d).setCell (aa g 0) (jp (f m))).drewN d').heap[g]? =_:=(bV g0 0 (jp (f m)));obtain⟨q,r,s,t,G,n,u,v⟩:=qG [.pointer none] m _ _ z;have b1:((((w.drewN d).setCell (aa g 0) (jp (f m))).drewN d').setCells g m [.pointer none]).heap[hb]? =some (.cells iy c (0,0)):=(n hb i).trans ((bH i).trans B);have l:=bV b1 ho (.slice (some (aa g 0)) m cap)
 have bS:aG (fun b=>b=hb\/b=g) w (((((w.drewN d).setCell (aa g 0) (jp (f m))).drewN d').setCells g m [.pointer none]).setCell (aa hb ho) (.slice (some (aa g 0)) m cap)):=
  ⟨v,by simp;rw[u];simp,fun b H j=>(bH (fun e=>j (.inl e))).trans ((n b fun e=>j (.inr e)).trans (bH fun e=>j (.inr e)))⟩
 refine⟨_,rfl,l,⟨av l (by simp[E]),⟨by simp[iQ],.inr ⟨g,cap,q,rfl,eE _,(bH (fun e=>i e.symm)).trans r,ak,hm,by simp at s;omega,?_⟩⟩,fun e=>i (by simpa[uk]using e)⟩,fun x J=>?_,bS,b1⟩
 ·refine tY fun x=>?_;rw[lX];split
  ·rename_i h;have o:x<m:=ak;rw[EA o,kK,t x (.inl o)];simp only[down]
   by_cases e:x=0
   ·subst e;rw[aM rfl,FJ,aM ak]
   ·rw[aD e,dx ak];exact F x ak
  ·exact(xO bK).symm
 ·have key:∀y,y<m+1->kY (((((w.drewN d).setCell (aa g 0) (jp (f m))).drewN d').setCells g m [.pointer none]).setCell (aa hb ho) (.slice (some (aa g 0)) m cap)) (f y) (K (f y))/\some (f y)≠some g:=fun y p=>by
   obtain⟨a,b⟩:=A y p;have k:f y≠g:=fun e=>b (by rw[e];rfl);exact⟨a.bS bS (fun e=>e.elim (C y p) k),fun e=>k (by simpa using e)⟩
  simp only[down]
  by_cases e:x=0
  ·rw[aM e];exact key m ak
  ·rw[aD e];exact key x ak
theorem U2(hb ho m v f K0 iy Th w)(o:w.heap[hb]? =some (.cells iy Th (0,0)))(t:iy[ho]? =some v)(V:Th≠130)(u:w.ownsRow 0 130 1 v (m+1) (iQ (m+1) f))(hn:m<1048576)(h:Keyed w v (m+1) f K0)(W:∀x,x<m+1->f x≠hb)(U:Hp (m+1) fun x=>K0 (f x)):
  Calls prog 105 #[.pointer (some (aa hb ho))] w fun e c=>e=.returned (.tuple #[jp (f 0),.bool true])/\∃z k,c.heap[hb]? =some (.cells (iy.setIfInBounds ho z) Th (0,0))/\c.ownsRow 0 130 1 z m (iQ m k)/\kZ m (down f m) k/\Hp m (fun x=>K0 (k x))/\aG (fun b=>b=hb\/some b=v.ownBlock) w c/\z.ownBlock=v.ownBlock:=by
 have X:some hb≠v.ownBlock:=fun e=>by
  rcases u.2 with⟨s,_⟩|⟨g',aA,aB,s,_,A,_⟩
  ·rw[s]at e;cases e
  ·rw[s]at e;cases e;rw[o]at A;cases A;exact V rfl
 have l:fq w hb ho v (m+1) f:=⟨av o t,u,X⟩;obtain⟨g,a,R,rfl,j,E,F,Y,G,i⟩:=l.full ak;have r:=l.head;have c1:=av j (i m ak);have fz:=aS j 0;have c2:w.cell? (aa g 0)=some (jp (f 0)):=av j (i 0 ak);have O:Hid (∀d,Calls prog 103 #[.pointer (some (aa hb ho))] (w.drewN d) fun e c=>e=.returned (.tuple #[jp (f 0),.bool true])/\c=w.drewN d):=fun d=>Qb hb ho (m+1) _ f (w.drewN d) (l.drewN d) ak;have HM:Hid (∀d d',_):=fun d d'=>U3 (d:=d) (d':=d') o ((aP.1 t).1) j E F Y G i h W;obtain⟨P,C,H,I,J,L,y⟩:=HM.out 1 1
 have N:Hid (Calls prog 159 #[.slice (some (aa g 0)) (m+1) a,aj m,aj ((m:Int)+1)] ((w.drewN 1).setCell (aa g 0) (jp (f m))) fun e c=>e=.returned (.slice (some (aa g 0)) m a)/\c.cell? (aa hb ho)=some (.slice (some (aa g 0)) (m+1) a)/\c.frozen? (aa hb ho)=false/\
   (c.setCell (aa hb ho) (.slice (some (aa g 0)) m a)).heap[hb]? =some (.cells (iy.setIfInBounds ho (.slice (some (aa g 0)) m a)) Th (0,0))/\fq (c.setCell (aa hb ho) (.slice (some (aa g 0)) m a)) hb ho (.slice (some (aa g 0)) m a) m (down f m)/\Keyed (c.setCell (aa hb ho) (.slice (some (aa g 0)) m a)) (.slice (some (aa g 0)) m a) m (down f m) K0/\aG (fun b=>b=hb\/b=g) w (c.setCell (aa hb ho) (.slice (some (aa g 0)) m a))):=by
  have g0:(w.drewN 1).heap[g]? =some (.cells R 130 (0,0)):=j;have key:Calls prog 159 #[.slice (some (aa g 0)) (m+1) a,aj m,aj ((m:Int)+1)] ((w.drewN 1).setCell (aa g 0) (jp (f m))) fun e c=>e=.returned (.slice (some (aa g 0)) m a)/\c=(((w.drewN 1).setCell (aa g 0) (jp (f m))).drewN 1).setCells g m [.pointer none]:=Xr g (m+1) a _ _ ak E F (bV g0 0 (jp (f m))) bK;refine key.mono ?_;rintro e c ⟨rfl,rfl⟩;refine⟨rfl,av y t,aS y ho,?_⟩;have T:((((w.drewN 1).setCell (aa g 0) (jp (f m))).drewN 1).setCells g m [.pointer none]).setCell (aa hb ho) (.slice (some (aa g 0)) m a)=P:=C;change(fD ((((w.drewN 1).setCell (aa g 0) (jp (f m))).drewN 1).setCells g m [.pointer none]) ⟨hb,ho,none⟩ (.slice (some (aa g 0)) m a)).heap[hb]? =_/\fq (fD ((((w.drewN 1).setCell (aa g 0) (jp (f m))).drewN 1).setCells g m [.pointer none]) ⟨hb,ho,none⟩ (.slice (some (aa g 0)) m a)) _ _ _ _ _/\Keyed (fD ((((w.drewN 1).setCell (aa g 0) (jp (f m))).drewN 1).setCells g m [.pointer none]) ⟨hb,ho,none⟩ (.slice (some (aa g 0)) m a)) _ _ _ _/\aG _ _ (fD ((((w.drewN 1).setCell (aa g 0) (jp (f m))).drewN 1).setCells g m [.pointer none]) ⟨hb,ho,none⟩ (.slice (some (aa g 0)) m a));rw[T];exact⟨H,I,J,L⟩
 have Q:((w.drewN 1).setCell (aa g 0) (jp (f m))).cell? (aa hb ho)=some (.slice (some (aa g 0)) (m+1) a):=eZ r G;have aQ:(m:Int)<(m:Int)+1:=ak;have aO:(0:Int)<(m:Int)+1:=ak;clear HM H I J L y i h u l j o C;go_enter func105,ntmps105
 go_upto_region 4 with(go_at_call 103;refine(O.out 0).mono ?_;rintro e w1 ⟨rfl,rfl⟩)
 refine dR (S:=fun c=>c.cell? (aa hb ho)=some (.slice (some (aa g 0)) (m+1) a)) r fun aI=>?_;refine tk 0 ?_;refine tk 1 ?_;refine tk 2 ?_;refine tk 3 ?_;refine tk 4 ?_;refine tk 5 ?_;refine tk 6 ?_;refine tk 7 ?_;refine tk 8 ?_;refine tk 9 ?_;refine rH 10 fun K h=>?_;go_simp;refine h.out _ _ r (fun hA=>?_);clear h K;refine tk 11 ?_;refine rH 12 fun K h=>?_;go_simp;refine h.out _ _ Q (fun hB=>?_);clear h K;refine cK ?_
 go_wp2_with (first
  |(go_at_call 159;refine N.out.mono ?_;rintro e w5 ⟨rfl,c5,f5,B⟩;have q:=aL B;clear B)
  |(go_at_call 160;refine(abt hb ho m 0 _ (down f m) K0 _ q.out.2.1 ak ak q.out.2.2.1 (ZR U)).mono ?_;rintro e w7 ⟨rfl,k,M,Z,r3,p⟩))
 go_ret2
 obtain⟨a1,a2,a3,n⟩:=q.out;exact⟨rfl,_,k,(p.block hb (aP.1 a1).1 M.bU).trans a1,M.row,Z,r3,⟨p.os.trans n.os,cS n.size p.size,fun b D i=>(p.block b (cV D n.size) (fun e=>i (.inr e))).trans (n.block b D (fun e=>i (e.elim .inl fun e=>.inr (by rw[e];rfl))))⟩,rfl⟩
abbrev bN(x:UInt8):au:=.int .u8 (x.toNat:Int)
def dV:Array UInt8->Nat->List UInt8->Array UInt8
 |B,_,[]=>B
 |B,o,x::a=>dV (B.setIfInBounds o x) (o+1) a
theorem yQ:∀(xs:List UInt8) (B:Array UInt8) (o:Nat),(dV B o xs).size=B.size
 |[],_,_=>rfl
 |x::xs,B,o=>by rw[dV,yQ xs];simp
abbrev nL(W:an)(b:Nat)(B:Array UInt8):Prop:=W.heap[b]? =some (.cells (B.map bN) 5 (0,0))
theorem yX{g}:∀(xs:List UInt8) (o:Nat) (W:an) (B:Array UInt8),nL W g B->
  nL (W.setCells g o (xs.map bN)) g (dV B o xs)/\(∀k,k≠g->(W.setCells g o (xs.map bN)).heap[k]? =W.heap[k]?)/\(W.setCells g o (xs.map bN)).heap.size=W.heap.size/\(W.setCells g o (xs.map bN)).os=W.os
 |[],o,W,B,h=>⟨h,fun _ _=>rfl,rfl,rfl⟩
 |x::xs,o,W,B,h=>by
  have f:nL (W.setCell (aa g o) (bN x)) g (B.setIfInBounds o x):=by
   have:=bV h o (bN x);unfold nL;rw[this]
   congr 2
   exact(Array.map_setIfInBounds ..).symm
  obtain⟨a,b,c,d⟩:=yX xs (o+1) _ _ f;exact⟨a,fun k e=>(b k e).trans (bH e),c.trans aq,d.trans rfl⟩
theorem JX{W b B}(h:nL W b B){i}(a:i<B.size):W.cell? (aa b i)=some (bN B[i]):=av h (by simp[a])
abbrev dB(c:Nat×List UInt8):List au:=aj (c.1:Int)::c.2.map bN
structure cZ(W:an)(d bb db:Nat)(cv:au)(n:Nat)(B D:Array UInt8)(C:List (Nat×List UInt8)):Prop where
 box:W.heap[d]? =some (.cells #[.slice (some (aa bb 0)) n n,.slice (some (aa db 0)) n n,cv] 161 (0,0))
 bytes:nL W bb B
 fL:nL W db D
 cache:W.ownsRow 0 274 5 cv C.length (C.flatMap dB)
 sizes:B.size=n/\D.size=n
 fits:∀c∈C,c.1+4<=n/\c.2.length=4
 apart:bb≠db
 small:n<=65536
theorem Oa(d a db n off len cv B D)(C:List (Nat×List UInt8))(w)(h:cZ w d a db cv n B D C)(q:off+len<=n):
  fE 54 #[jp d,aj off,aj len] w (.string ⟨B.extract off (off+len)⟩):=by
 have i:=aE w d 0 (.slice (some (aa a 0)) n n) h.box
 obtain⟨A,c⟩:∃A:Addr,(if n=off then some (⟨a,0,none⟩:Addr)else some ⟨a,off,none⟩)=some A:=by
  by_cases e:n=off
  ·exact⟨_,aM e⟩
  ·exact⟨_,aD e⟩
 have r:=h.small;have s:=h.sizes.1
 have m:∀b,(convert 158 9 (.slice (some A) len b)).run prog w=.ok (.string ⟨B.extract off (off+len)⟩) w:=fun b=>by
  have f:(B.extract off (off+len)).toList.length=len:=bK
  have:=run_convert_bytes_back w 158 9 5 A b (B.extract off (off+len)).toList underlying158 underlying5 underlying9 (fun j o=>by have p:j<len:=ak;have g:¬n=off:=ak;rw[aD g]at c;cases c;rw[Lp,JX h.bytes ak];simp)
  rw[f]at this;exact this
 have k:((off:Int)+(len:Int))<=(n:Int):=ak;have l:(off:Int)<=(off:Int)+(len:Int):=ak
 trace_state
 go_enter func54,ntmps54;go_wp2;go_ret;exact⟨rfl,rfl⟩
theorem Rg(l:List UInt8):∀u∈l.map bN,u.oneCell'=true:=fun u a=>by obtain⟨x,_,rfl⟩:=iV.1 a;rfl
theorem Ki{P}(w:an)(c n p d:aK)(b o a f:Nat)(t:ByteArray)(l:List UInt8)(k:P.underlying c=some (.slice d))(m:∀w,(FZ d).run P w=.ok 1 w)(g:t.data.toList.take a=l)
  (hc:∀j,j<l.length->(w.cell? (aa b (o+j))).isSome=true) (hf:∀j,j<l.length->w.frozen? (aa b (o+j))=false):
  ∃r,(rS #[c,n] p #[.slice (some (aa b o)) a f,.string t]).run P w=.ok r (w.setCells b o (l.map bN)):=by
 have e:=run_storeCells_cells (P:=P) b o (l.map bN) 0 w (by simpa using hc) (by simpa using hf) (Rg l);simp at e;have q:t.data.toList.length=t.size:=rfl
 have i:List.take (Nat.min t.size a) (t.data.toList.map bN)=l.map bN:=by
  rw[<-List.map_take,<-g]
  congr 1
  by_cases h:t.size<=a
  ·rw[show Nat.min t.size a=t.size from oI h,su ak,su ak]
  ·rw[show Nat.min t.size a=a from Nat.min_eq_right ak]
 refine⟨goInt (Nat.min t.size a),?_⟩;simp[rS,run_underlying k,Builtin.lenOf,Builtin.firstCells,m];rw[show List.take (t.size.min a) (List.map (fun b=>Value.int IntKind.u8 ↑b.toNat) t.data.toList)=l.map bN from i,e];rfl
theorem EZ(w):(FZ 5).run prog w=.ok 1 w:=by obtain⟨e,a,c,b,d⟩:=info_parts infoByte;simp[FZ,typeInfo,a,b]
def secs(off:Nat)(s:List UInt8)(q:Nat):List (Nat×List UInt8):=(List.range q).map fun i=>(off+4*i,(s.drop (4*i)).take 4)
theorem aaN(off s q):secs off s (q+1)=secs off s q++[(off+4*q,(s.drop (4*q)).take 4)]:=by simp[secs,xP]
def CS(w W:an)(d c f n off:Nat)(B D:Array UInt8)(C:List (Nat×List UInt8))(e:au)(s:List UInt8)(q:Nat):Prop:=
 ∃a,cZ W d c f a n B D (C++secs off s q)/\aG (fun b=>b=d\/b=c\/some b=e.ownBlock) w W/\(a.ownBlock=e.ownBlock\/∀g,a.ownBlock=some g->w.heap.size<=g)
theorem l9:(prog.info? 274).map (fun i=>(i.zero,i.size,i.bytes))=some (some (.agg #[aj 0,.int .u8 0,.int .u8 0,.int .u8 0,.int .u8 0]),5,16):=aI
theorem EE{P o a w w' K Q y sl x}{t u:aK}{v v' z}(d:cL o y=true)(b:o.op=.call {callee:=.builtin .copy,args:=#[sl,x],argTypes:=#[t,u]}) (c:a.eval sl=v) (e:a.eval x=z) (hr:(rS #[t,u] o.type #[v,z]).run P w=.ok v' w') (h:K (a.put o.dst v') w'):
  if cL o y=true then Oper.wp P o a w K Q else K (a.put o.dst undef) w:=by
 rw[aM d];unfold Oper.wp execOp;simp only[b,resolve,invoke,builtin,Sem.run_bind,Sem.run_pure,Result.andThen_ok,qQ,rZ,vQ,c,e,hr];exact h
abbrev dS(o:Int)(a b1 b c:UInt8):Array au:=#[aj o,bN a,bN b1,bN b,bN c]
theorem aaK{wr}(o)(b b1 c d:UInt8)(k):
  ∃a,((wr.alloc (.cells (dS o 0 0 0 0) 274)).drewN k).setCells wr.heap.size 1 ([b,b1,c,d].map bN)=a/\a.heap[wr.heap.size]? =some (.cells (dS o b b1 c d) 274 (0,0))/\aB wr a/\a.heap.size=wr.heap.size+1:=by
 have h0:((wr.alloc (.cells (dS o 0 0 0 0) 274)).drewN k).heap[wr.heap.size]? =some (.cells (dS o 0 0 0 0) 274 (0,0)):=bW wr _;have g:aB wr ((wr.alloc (.cells (dS o 0 0 0 0) 274)).drewN k):=below_drewN (aR) _;have e:=bV (bV h0 1 (bN b)) 2 (bN b1);have f:=bV (bV e 3 (bN c)) 4 (bN d);refine⟨_,rfl,f,?_,by simp[World.setCells]⟩;exact(((g.setCell (aV _) _).setCell (aV _) _).setCell (aV _) _).setCell (aV _) _
theorem cZ.below{w w' d bb db n cv B D C}(h:cZ w d bb db cv n B D C)(a:aB w w'):cZ w' d bb db cv n B D C:=by
 refine⟨bD a h.box,bD a h.bytes,bD a h.fL,⟨h.cache.1,?_⟩,h.sizes,h.fits,h.apart,h.small⟩;rcases h.cache.2 with b|⟨g,c,e,b,f,i,j⟩
 ·exact .inl b
 ·exact .inr ⟨g,c,e,b,f,bD a i,j⟩
theorem cZ.bU{w d bb db n cv B D C}(h:cZ w d bb db cv n B D C){k x}{T:aK}(f:w.heap[k]? =some (.cells x T (0,0)))(c:T≠274):some k≠cv.ownBlock:=fun e=>by
 rcases h.cache.2 with⟨a,_⟩|⟨j,g,i,a,_,b,_⟩
 ·rw[a]at e;cases e
 ·rw[a]at e;cases e;rw[f]at b;cases b;exact c rfl
theorem Km{a p i:an}{d k l n g cap:Nat}{j:au}{B D:Array UInt8}{f:List (Nat×List UInt8)}{x:Obj}{news:List au}{c:Nat×List UInt8}(R:cZ a d k l j n B D f)(u:i.ownsRow 0 274 5 (.slice (some (aa g 0)) (f.length+1) cap) (f.length+1) (f.flatMap dB++news))(s:p.grownBy i j.ownBlock)(t:p.heap=(a.alloc x).heap)(G:p.os=a.os)(z:j.ownBlock=some g\/g=a.heap.size+1)(hc:news=dB c)(E:c.1+4<=n/\c.2.length=4):
  i.cell? (aa d 2)=some j/\i.frozen? (aa d 2)=false/\cZ (i.setCell (aa d 2) (.slice (some (aa g 0)) (f.length+1) cap)) d k l (.slice (some (aa g 0)) (f.length+1) cap) n B D (f++[c])/\aG (fun b=>b=d\/some b=j.ownBlock) a (i.setCell (aa d 2) (.slice (some (aa g 0)) (f.length+1) cap)):=by
 have old:∀b,b<a.heap.size->some b≠j.ownBlock->i.heap[b]? =a.heap[b]? :=fun b r m=>(s.block b (by rw[t];simp;omega) m).trans (by rw[t];exact Below.heap_alloc a _ b r);have lt:∀{b:Nat} {o:Obj},a.heap[b]? =some o->b<a.heap.size:=fun h=>(aP.1 h).1;have q:i.heap[d]? =_:=(old d (lt R.box) (R.bU R.box cq)).trans R.box;have A:k≠d:=eL R.bytes R.box aq;have C:l≠d:=eL R.fL R.box aq
 have F:g≠d:=fun e=>by
  rcases z with h|h
  ·exact R.bU R.box cq (by rw[h,e])
  ·have:=lt R.box;omega
 have v:=s.size;rw[t]at v;simp at v;refine⟨av q rfl,aS q _,⟨(bV q 2 (.slice (some (aa g 0)) (f.length+1) cap)),(bH A).trans ((old k (lt R.bytes) (R.bU R.bytes cq)).trans R.bytes),(bH C).trans ((old l (lt R.fL) (R.bU R.fL cq)).trans R.fL),?_,R.sizes,?_,R.apart,R.small⟩,⟨s.os.trans G,bK,fun b r m=>(bH (fun e=>m (.inl e))).trans (old b r fun e=>m (.inr e))⟩⟩
 ·rw[ia,rW];have e:[c].flatMap dB=news:=by simp[hc]
  rw[e];refine⟨u.1,?_⟩;rcases u.2 with⟨h,_⟩|⟨N,M,w,I,J,K,L⟩
  ·cases h
  ·cases I;exact .inr ⟨g,cap,w,rfl,J,(bH F).trans K,L⟩
 ·intro y H;rcases kU.1 H with h|h
  ·exact R.fits y h
  ·have:y=c:=by simpa using h
   rw[this];exact E
theorem XK(d k db n off m cv B D)(C:List (Nat×List UInt8))(s w)(h:cZ w d k db cv n B D C)(b8:off<n)(hl:off+s.size<=n)(hm:s.size=4*m)(hC:C.length+m<=1099511627776):
  Calls prog 200 #[jp d,aj off,.string s] w fun e w'=>e=.returned (.tuple #[])/\CS w w' d k db n off (dV B off s.data.toList) D C cv s.data.toList m:=by
 have hn:=h.small;have hz:=h.sizes.1;have c0:=aE w d 0 (.slice (some (aa k 0)) n n) h.box;have e0:(off:Int)<=(n:Int):=ak;have b7:¬n=off:=ak
 obtain⟨r,PK⟩:∃r,(rS #[158,9] 3 #[.slice (some (aa k off)) (n-off) (n-off),.string s]).run prog w=.ok r (w.setCells k off (s.data.toList.map bN)):=by have bX:s.data.toList.length=s.size:=rfl;exact Ki w 158 9 3 5 k off (n-off) (n-off) s s.data.toList underlying158 EZ (su ak) (fun j W=>by rw[JX h.bytes ak];rfl) (fun j W=>aS h.bytes _)
 have H1:Hid (CS w (w.setCells k off (s.data.toList.map bN)) d k db n off (dV B off s.data.toList) D C cv s.data.toList 0):=by
  obtain⟨a1,U,a3,a4⟩:=yX s.data.toList off w B h.bytes;have bB:d≠k:=eL h.box h.bytes aq
  have bA:some k≠cv.ownBlock:=fun e=>by
   rcases h.cache.2 with⟨F,_⟩|⟨H,aT,aU,F,_,M,_⟩
   ·rw[F]at e;cases e
   ·rw[F]at e;cases e;exact eL h.bytes M aq rfl
  refine⟨cv,⟨(U d bB).trans h.box,a1,(U db (fun e=>h.apart e.symm)).trans h.fL,?_,⟨by rw[yQ];exact hz,h.sizes.2⟩,by simpa[secs]using h.fits,h.apart,hn⟩,⟨a4,ak,fun b _ V=>U b fun e=>V (.inr (.inl e))⟩,.inl rfl⟩;have:C++secs off s.data.toList 0=C:=by simp[secs]
  rw[this];refine⟨h.cache.1,?_⟩;rcases h.cache.2 with F|⟨H,aT,aU,F,M,h3,h4⟩
  ·exact .inl F
  ·refine .inr ⟨H,aT,aU,F,M,(U H fun e=>bA (by rw[F,<-e];rfl)).trans h3,h4⟩
 generalize w.setCells k off (s.data.toList.map bN)=W1 at*;have HM:=aL hm;clear h hm;go_enter func200,ntmps200;go_wp2
 go_loopw [6] (fun iv wr=>∃t q:Nat,iv=aj (t:Int)/\Hid (t=4*q/\q<=m/\CS w wr d k db n off (dV B off s.data.toList) D C cv s.data.toList q)) (fun iv _=>4*m-(gu iv).toNat)
 case atStart=>exact⟨0,0,rfl,rfl,eE _,H1.out⟩
 case round=>
  obtain⟨t,q,rfl,hR⟩:=hrel
  by_cases bY:t<s.size
  ·have h4:(t:Int)<(s.size:Int):=ak;have cg:t+4<=s.size:=by have:=hR.out.1;have:=HM.out;omega
   obtain⟨p,R,T,O⟩:=hR.out.2.2;have c2:=aE wr d 2 p R.box;have HR:Hid (cZ wr d k db p n (dV B off s.data.toList) D (C++secs off s.data.toList q)/\aG (fun b=>b=d\/b=k\/some b=cv.ownBlock) w wr/\(p.ownBlock=cv.ownBlock\/∀g,p.ownBlock=some g->w.heap.size<=g)):=⟨R,T,O⟩;have hd:d<wr.heap.size:=(aP.1 R.box).1;have bZ:t<=s.size:=ak
   obtain⟨v,b1,y,z,bg⟩:∃v b1 y z:UInt8,(s.data.toList.drop t).take 4=[v,b1,y,z]:=by
    have bC:((s.data.toList.drop t).take 4).length=4:=by have:s.data.toList.length=s.size:=rfl;simp;omega
    match(s.data.toList.drop t).take 4,bC with
    |[v,b1,y,z],_=>exact⟨v,b1,y,z,rfl⟩
   obtain⟨f,bf,J,aR,bn⟩:=aaK (wr:=wr) ((off:Int)+(t:Int)) v b1 y z 1
   obtain⟨r2,AL⟩:∃r2,(rS #[158,9] 3 #[.slice (some (aa wr.heap.size 1)) 4 4,.string (s.extract t s.size)]).run prog (wr.alloc (.cells (dS ((off:Int)+(t:Int)) 0 0 0 0) 274)).drew=.ok r2 f:=by
    have h0:(wr.alloc (.cells (dS ((off:Int)+(t:Int)) 0 0 0 0) 274)).drew.heap[wr.heap.size]? =some (.cells (dS ((off:Int)+(t:Int)) 0 0 0 0) 274 (0,0)):=bW wr _;rw[<-bf];refine Ki _ 158 9 3 5 wr.heap.size 1 4 4 (s.extract t s.size) [v,b1,y,z] underlying158 EZ ?_ (fun j W=>?_) (fun j W=>aS h0 _)
    ·rw[<-bg];simp;rw[List.take_take,oI ak]
    ·match j,W with
     |0,_|1,_|2,_|3,_=>rw[av h0 (i:=_) rfl];rfl
   have bq:=aL AL;clear R T O AL bf
   go_upto_region 5 with fail
   refine dR (S:=fun _=>True) trivial fun bR=>?_;refine tk 0 ?_;refine tk 1 ?_;refine tk 2 ?_;refine tk 3 ?_;refine tk 4 ?_;refine rH 5 fun K a=>?_
   (refine EE rfl rfl rfl rfl bq.out ?_;simp)
   refine a.out _ _ (trivial) (fun bQ=>?_);clear a K;refine cK ?_;obtain⟨c,N⟩:∃c,C++secs off s.data.toList q=c:=⟨_,rfl⟩;have E:Hid (cZ f d k db p n (dV B off s.data.toList) D c/\aG (fun b=>b=d\/b=k\/some b=cv.ownBlock) w f/\(p.ownBlock=cv.ownBlock\/∀g,p.ownBlock=some g->w.heap.size<=g)):=⟨N▸HR.out.1.below aR,HR.out.2.1.trans (.below aR),HR.out.2.2⟩;have ah:Hid (∀x,(f.alloc x).ownsRow 0 274 5 p c.length (c.flatMap dB)):=fun x=>E.out.1.cache.alloc x;have Z:Hid (∀u∈dB (off+t,[v,b1,y,z]),u.oneCell'=true):=Eu rfl
   have b9:c.length+1<=1099511627776:=by have F:=hR.out.1;have M:=HM.out;rw[<-N];simp[secs];omega
   have Y:Hid ((off+t,[v,b1,y,z]).1+4<=n/\(off+t,[v,b1,y,z]).2.length=4):=⟨by show off+t+4<=n;omega,rfl⟩;obtain⟨iS,aA,aB,aC,fN⟩:=info_parts l9;have bM:=aE f d 2 p E.out.1.box;have k0:=aE f wr.heap.size 0 (aj ((off:Int)+(t:Int))) J;have k1:=aE f wr.heap.size 1 (bN v) J;have k2:=aE f wr.heap.size 2 (bN b1) J;have k3:=aE f wr.heap.size 3 (bN y) J;have k4:=aE f wr.heap.size 4 (bN z) J;have bU:d<f.heap.size:=ak;have bH:=aL N;have HW:=aL bn
   have X:Hid (∀(g l:Nat) (A:an),(cZ (A.setCell (aa d 2) (.slice (some (aa g 0)) (c.length+1) l)) d k db (.slice (some (aa g 0)) (c.length+1) l) n (dV B off s.data.toList) D (c++[(off+t,[v,b1,y,z])])/\aG (fun b=>b=d\/some b=p.ownBlock) f (A.setCell (aa d 2) (.slice (some (aa g 0)) (c.length+1) l))/\(p.ownBlock=some g\/g=f.heap.size+1))->
     (∃t1 q1:Nat,Value.int gU ((t:Int)+4)=aj (t1:Int)/\Hid (t1=4*q1/\q1<=m/\CS w (A.setCell (aa d 2) (.slice (some (aa g 0)) (c.length+1) l)) d k db n off (dV B off s.data.toList) D C cv s.data.toList q1))/\4*m-(gu (aj ((t:Int)+4))).toNat<4*m-(gu (aj (t:Int))).toNat):=fun g l A P=>by
    have F:=hR.out.1;have M:=HM.out;refine⟨⟨t+4,q+1,by go_num,ak,ak,.slice (some (aa g 0)) (c.length+1) l,?_,?_,?_⟩,by simp[gu];omega⟩
    ·rw[aaN,<-BQ,N,<-F,bg];exact P.1
    ·refine⟨P.2.1.os.trans E.out.2.1.os,cS E.out.2.1.size P.2.1.size,fun b V hx=>(P.2.1.block b (cV V E.out.2.1.size) (fun e=>?_)).trans (E.out.2.1.block b V hx)⟩;rcases e with e|e
     ·exact hx (.inl e)
     ·rcases E.out.2.2 with o|o
      ·exact hx (.inr (.inr (e.trans o)))
      ·have:=o b e.symm;omega
    ·rcases P.2.2 with o|o
     ·rcases E.out.2.2 with o2|o2
      ·exact .inl (by rw[<-o2,o];rfl)
      ·refine .inr fun H e=>?_;have e':g=H:=by simpa[uk]using e
       exact o2 H (by rw[o,e'])
     ·refine .inr fun H e=>?_;have e':g=H:=by simpa[uk]using e
      have:=E.out.2.1.size;omega
   clear J aR bn N
   go_upto_region 6 with fail
   refine dR (S:=fun _=>True) trivial fun ZC=>?_;refine tk 0 ?_;refine tk 1 ?_;refine tk 2 ?_;refine tk 3 ?_;refine aH [4,5] (.cons rfl (fun K a=>?_) ?_)
   ·go_simp;refine a.out _ _ (trivial) (fun hA=>?_);clear a K;refine rH 5 fun K a=>?_;go_simp;refine a.out _ _ (trivial) (fun hB=>?_);clear a K;refine rH 6 fun K a=>?_;go_simp;refine a.out _ _ (trivial) (fun hC=>?_);clear a K;refine rH 7 fun K a=>?_
    (refine MG _ (by rfl) _ _ 159 (by rfl) 0 274 iS _ 5 16 underlying159 aA aB aC fN (by rfl) ak p c.length (c.flatMap dB) (by rfl) (ah.out _) ⟨f.heap.size,0,none⟩ 1 1 (dB (off+t,[v,b1,y,z])) (by rfl) (by rfl) (Mv (bW f _)) (Z.out) ak (by unfold bT;omega) ak aq (f.heap.size+1) aq ?_;intro g l A I Q G bk;obtain⟨f1,f2,f3,f4⟩:=Km E.out.1 I Q rfl rfl G rfl Y.out;have L:Hid (cZ (A.setCell (aa d 2) (.slice (some (aa g 0)) (c.length+1) l)) d k db (.slice (some (aa g 0)) (c.length+1) l) n (dV B off s.data.toList) D (c++[(off+t,[v,b1,y,z])])/\aG (fun b=>b=d\/some b=p.ownBlock) f (A.setCell (aa d 2) (.slice (some (aa g 0)) (c.length+1) l))/\(p.ownBlock=some g\/g=f.heap.size+1)):=⟨f3,f4,G⟩;clear f3 f4 I G)
    refine a.out _ _ (trivial) (fun hG=>?_);clear a K;refine tk 8 ?_;refine tk 9 ?_;refine rH 10 fun K a=>?_;go_simp;refine a.out _ _ (trivial) (fun hH=>?_);clear a K;refine cK ?_;go_wp2;exact X.out g l A L.out
   refine .cons rfl (fun K a=>?_) .nil;go_simp;refine a.out _ _ (trivial) (fun hA=>?_);clear a K;refine aH [4,6] (.cons rfl (fun K a=>?_) ?_)
   ·go_simp;refine a.out _ _ (trivial) (fun hB=>?_);clear a K;refine rH 6 fun K a=>?_;go_simp;refine a.out _ _ (trivial) (fun hC=>?_);clear a K;refine rH 7 fun K a=>?_
    (refine MG _ (by rfl) _ _ 159 (by rfl) 0 274 iS _ 5 16 underlying159 aA aB aC fN (by rfl) ak p c.length (c.flatMap dB) (by rfl) (ah.out _) ⟨f.heap.size,0,none⟩ 1 1 (dB (off+t,[v,b1,y,z])) (by rfl) (by rfl) (Mv (bW f _)) (Z.out) ak (by unfold bT;omega) ak aq (f.heap.size+1) aq ?_;intro g l A I Q G bk;obtain⟨f1,f2,f3,f4⟩:=Km E.out.1 I Q rfl rfl G rfl Y.out;have L:Hid (cZ (A.setCell (aa d 2) (.slice (some (aa g 0)) (c.length+1) l)) d k db (.slice (some (aa g 0)) (c.length+1) l) n (dV B off s.data.toList) D (c++[(off+t,[v,b1,y,z])])/\aG (fun b=>b=d\/some b=p.ownBlock) f (A.setCell (aa d 2) (.slice (some (aa g 0)) (c.length+1) l))/\(p.ownBlock=some g\/g=f.heap.size+1)):=⟨f3,f4,G⟩;clear f3 f4 I G)
    refine a.out _ _ (trivial) (fun hG=>?_);clear a K;refine tk 8 ?_;refine tk 9 ?_;refine rH 10 fun K a=>?_;go_simp;refine a.out _ _ (trivial) (fun hH=>?_);clear a K;refine cK ?_;go_wp2;exact X.out g l A L.out
   refine .cons rfl (fun K a=>?_) .nil;go_simp;refine a.out _ _ (trivial) (fun hB=>?_);clear a K;refine rH 4 fun K a=>?_;go_simp;refine a.out _ _ (trivial) (fun hC=>?_);clear a K;refine rH 7 fun K a=>?_
   (refine MG _ (by rfl) _ _ 159 (by rfl) 0 274 iS _ 5 16 underlying159 aA aB aC fN (by rfl) ak p c.length (c.flatMap dB) (by rfl) (ah.out _) ⟨f.heap.size,0,none⟩ 1 1 (dB (off+t,[v,b1,y,z])) (by rfl) (by rfl) (Mv (bW f _)) (Z.out) ak (by unfold bT;omega) ak aq (f.heap.size+1) aq ?_;intro g l A I Q G bk;obtain⟨f1,f2,f3,f4⟩:=Km E.out.1 I Q rfl rfl G rfl Y.out;have L:Hid (cZ (A.setCell (aa d 2) (.slice (some (aa g 0)) (c.length+1) l)) d k db (.slice (some (aa g 0)) (c.length+1) l) n (dV B off s.data.toList) D (c++[(off+t,[v,b1,y,z])])/\aG (fun b=>b=d\/some b=p.ownBlock) f (A.setCell (aa d 2) (.slice (some (aa g 0)) (c.length+1) l))/\(p.ownBlock=some g\/g=f.heap.size+1)):=⟨f3,f4,G⟩;clear f3 f4 I G)
   refine a.out _ _ (trivial) (fun hG=>?_);clear a K;refine tk 8 ?_;refine tk 9 ?_;refine rH 10 fun K a=>?_;go_simp;refine a.out _ _ (trivial) (fun hH=>?_);clear a K;refine cK ?_;go_wp2;exact X.out g l A L.out
  ·have h4:¬(t:Int)<(s.size:Int):=ak;go_wp2;have bE:q=m:=by have:=hR.out;have:=HM.out;omega
   exact dZ rfl rfl ⟨rfl,bE▸hR.out.2.2⟩
theorem A9(db n o)(c b1 d f:UInt8)(D w)(h:nL w db D)(J:D.size=n)(H:o+4<=n)(F:n<=65536):
  Calls prog 224 #[.agg (dS o c b1 d f),.slice (some (aa db 0)) n n] w fun e k=>e=.returned (.tuple #[])/\nL k db (dV D o [c,b1,d,f])/\aG (·=db) w k:=by
 have z:db<w.heap.size:=(aP.1 h).1;have m:(w.alloc (.cells (dS o c b1 d f) 274)).heap[w.heap.size]? =some (.cells (dS o c b1 d f) 274 (0,0)):=bW w _;have g:(w.alloc (.cells (dS o c b1 d f) 274)).drew.heap[db]? =some (.cells (D.map bN) 5 (0,0)):=(Below.heap_alloc w _ db z).trans h;have s:=aE (w.alloc (.cells (dS o c b1 d f) 274)) w.heap.size 0 (aj (o:Int)) m;have G:¬n=o:=ak;have I:(o:Int)<=(n:Int):=ak
 have u:Hid ((rS #[158,158] 3 #[.slice (some (aa db o)) (n-o) (n-o),.slice (some (aa w.heap.size 1)) 4 4]).run prog (w.alloc (.cells (dS o c b1 d f) 274)).drew=.ok (goInt 4) ((w.alloc (.cells (dS o c b1 d f) 274)).drew.setCells db o ([c,b1,d,f].map bN))):=by
  refine run_copy_cells (P:=prog) _ 158 158 3 5 db o (n-o) (n-o) ⟨w.heap.size,1,none⟩ 4 4 ([c,b1,d,f].map bN) underlying158 aI ?_ ?_ ?_ ?_ (Rg _)
  ·show 4=Nat.min 4 (n-o);exact(oI ak).symm
  ·intro j v i;rw[Lp]
   match j with
   |0|1|2|3=>exact(av m rfl).trans i
   |j+4=>simp at i
  ·intro j i;have E:j<4:=i;rw[av g (cw bK)];rfl
  ·exact fun j i=>aS g _
 have p:Hid (nL ((w.alloc (.cells (dS o c b1 d f) 274)).drew.setCells db o ([c,b1,d,f].map bN)) db (dV D o [c,b1,d,f])/\aG (·=db) w ((w.alloc (.cells (dS o c b1 d f) 274)).drew.setCells db o ([c,b1,d,f].map bN))):=by obtain⟨a1,l,a3,q⟩:=yX [c,b1,d,f] o (w.alloc (.cells (dS o c b1 d f) 274)).drew D g;exact⟨a1,q,by rw[a3];simp,fun b y A=>(l b A).trans (Below.heap_alloc w _ b y)⟩
 have t:((w.alloc (.cells (dS o c b1 d f) 274)).drew.setCells db o ([c,b1,d,f].map bN)).cell? (aa w.heap.size 0)=some (aj (o:Int)):=by obtain⟨a1,l,a3,q⟩:=yX [c,b1,d,f] o (w.alloc (.cells (dS o c b1 d f) 274)).drew D g;exact(fC (a:=aa w.heap.size 0) (l w.heap.size ak)).trans s
 have x:=aL t;clear h m g t;go_enter func224,ntmps224
 go_upto_region 1 with fail
 refine dR (S:=fun k=>k.cell? (aa w.heap.size 0)=some (aj (o:Int))) s fun C=>?_;refine tk 0 ?_;refine tk 1 ?_;refine tk 2 ?_;refine tk 3 ?_;refine tk 4 ?_;refine tk 5 ?_;refine rH 6 fun K r=>?_
 (refine EE rfl rfl rfl rfl u.out ?_;simp)
 refine r.out _ _ x.out (fun B=>?_);clear r K;refine cK ?_;go_wp2;exact dZ rfl rfl ⟨rfl,p.out.1,p.out.2⟩
def nU(D:Array UInt8)(C:List (Nat×List UInt8)):Array UInt8:=C.foldl (fun D c=>dV D c.1 c.2) D
theorem Qq(D):∀(C:List (Nat×List UInt8)),(nU D C).size=D.size:=by
 intro C;induction C generalizing D with
 |nil=>rfl
 |cons c C a=>exact(a (dV D c.1 c.2)).trans (yQ _ _ _)
theorem A5(D)(C:List (Nat×List UInt8))(c:Nat×List UInt8):nU D (C++[c])=dV (nU D C) c.1 c.2:=by simp[nU]
theorem RZ{w:an}{g:Nat}{k:Array au}{C:List (Nat×List UInt8)}(f:w.heap[g]? =some (.cells k 274 (0,0)))(p:k.toList.take (C.length*5)=C.flatMap dB){i:Nat}{o:Nat}{a b1 b d:UInt8}(m:C[i]? =some (o,[a,b1,b,d]))(hf:∀c∈C,c.2.length=4):
  w.cell? (aa g (i*5))=some (aj (o:Int))/\w.cell? (aa g (i*5+1))=some (bN a)/\w.cell? (aa g (i*5+2))=some (bN b1)/\w.cell? (aa g (i*5+3))=some (bN b)/\w.cell? (aa g (i*5+4))=some (bN d):=by
 have key:∀(C:List (Nat×List UInt8)) (i:Nat),(∀c∈C,c.2.length=4)->C[i]? =some (o,[a,b1,b,d])->∀j,j<5->(C.flatMap dB)[i*5+j]? =(dB (o,[a,b1,b,d]))[j]? :=by
  intro C;induction C with
  |nil=>intro i _ h;simp at h
  |cons c C q=>
   intro i hf h j l;have n:(dB c).length=5:=by simp[dB,hf c (iU ..)]
   rw[vO];cases i with
   |zero=>
    have e:c=(o,[a,b1,b,d]):=by simpa using h
    rw[xN ak,sC,fo,e]
   |succ i=>
    rw[qN ak,n,show(i+1) *5+j-5=i*5+j by omega];exact q i (fun c h=>hf c (jS _ h)) (by simpa using h) j l
 have r:i<C.length:=(ed.1 m).1
 have cell:∀j,j<5->k[i*5+j]? =(dB (o,[a,b1,b,d]))[j]? :=fun j l=>by rw[<-key C i hf m j l,<-p,lX,aM ak,kK]
 exact⟨av f (cell 0 ak),av f (cell 1 ak),av f (cell 2 ak),av f (cell 3 ak),av f (cell 4 ak)⟩
def CB(w W:an)(d b a:Nat)(cv:au)(n:Nat)(B D:Array UInt8)(C:List (Nat×List UInt8))(i:Nat):Prop:=
 cZ W d b a cv n B (nU D (C.take i)) C/\aG (·=a) w W
theorem YA(d bb db n cv B D)(C:List (Nat×List UInt8))(w)(h:cZ w d bb db cv n B D C)(hC:C.length<=1099511627776):
  Calls prog 197 #[jp d] w fun e p=>e=.returned (.tuple #[])/\cZ p d bb db (.slice none 0 0) n B (nU D C) []/\aG (fun b=>b=d\/b=db) w p:=by
 have X:Hid (CB w w d bb db cv n B D C 0):=⟨h,aG.refl _ _⟩;obtain⟨A,u,rfl⟩:=lT h.cache;have c2:=aE w d 2 (.slice A C.length u) h.box;have hd:d<w.heap.size:=(aP.1 h.box).1;clear h;go_enter func197,ntmps197;go_wp2
 go_loopw [9] (fun H wr=>∃i:Nat,i<=C.length/\H=aj (i:Int)/\Hid (CB w wr d bb db (.slice A C.length u) n B D C i)) (fun H _=>C.length-(gu H).toNat)
 case atStart=>exact⟨0,eE _,rfl,X⟩
 case round=>
  obtain⟨i,hi,rfl,hR⟩:=hrel
  by_cases aQ:i<C.length
  ·have F:(i:Int)<(C.length:Int):=ak;obtain⟨c,z⟩:∃c,C[i]? =some c:=⟨C[i],dN aQ⟩;obtain⟨az,f4⟩:=hR.out.1.fits c (iG z);obtain⟨o,J⟩:=c
   obtain⟨f,b1,j,l,rfl⟩:∃f b1 j l:UInt8,J=[f,b1,j,l]:=by
    match J,f4 with
    |[f,b1,j,l],_=>exact⟨f,b1,j,l,rfl⟩
   obtain⟨g,v,rfl,Q,U⟩:∃g v,A=some ⟨g,0,none⟩/\wr.heap[g]? =some (.cells v 274 (0,0))/\v.toList.take (C.length*5)=C.flatMap dB:=by
    rcases hR.out.1.cache.2 with⟨q,m⟩|⟨g,L,v,q,_,m,_,_,_,r⟩
    ·omega
    ·cases q;exact⟨g,v,rfl,m,r⟩
   obtain⟨k0,k1,k2,k3,k4⟩:=RZ Q U z (fun c h=>(hR.out.1.fits c h).2);have c1:=aE wr d 1 (.slice (some (aa db 0)) n n) hR.out.1.box;have aI:d<wr.heap.size:=(aP.1 hR.out.1.box).1;have P:d≠db:=eL hR.out.1.box hR.out.1.fL aq;have bl:db<wr.heap.size:=(aP.1 hR.out.1.fL).1;have M:(wr.alloc (.cells (dS o f b1 j l) 274)).heap[wr.heap.size]? =some (.cells (dS o f b1 j l) 274 (0,0)):=bW wr _;have t:aB wr (wr.alloc (.cells (dS o f b1 j l) 274)):=aR
   have I:Hid (∀W,aG (·=db) (wr.alloc (.cells (dS o f b1 j l) 274)) W->W.cell? (aa d 1)=some (.slice (some (aa db 0)) n n)/\W.cell? (aa wr.heap.size 0)=some (aj (o:Int))/\W.cell? (aa wr.heap.size 1)=some (bN f)/\W.cell? (aa wr.heap.size 2)=some (bN b1)/\W.cell? (aa wr.heap.size 3)=some (bN j)/\W.cell? (aa wr.heap.size 4)=some (bN l)):=fun W O=>by have e1:W.heap[d]? =wr.heap[d]? :=(O.block d bK P).trans (Below.heap_alloc wr _ d aI);have y:W.heap[wr.heap.size]? =some (.cells (dS o f b1 j l) 274 (0,0)):=(O.block wr.heap.size aq ak).trans M;exact⟨(fC (a:=aa d 1) e1).trans c1,av y rfl,av y rfl,av y rfl,av y rfl,av y rfl⟩
   have Z:Hid (∀k,Calls prog 224 #[.agg (dS o f b1 j l),.slice (some (aa db 0)) n n] ((wr.alloc (.cells (dS o f b1 j l) 274)).drewN k) fun e p=>e=.returned (.tuple #[])/\aG (·=db) (wr.alloc (.cells (dS o f b1 j l) 274)) p/\CB w p d bb db (.slice (some (aa g 0)) C.length u) n B D C (i+1)):=fun k=>by
    have R:=hR.out.1.below t;refine(A9 db n o f b1 j l (nU D (C.take i)) _ (show nL ((wr.alloc (.cells (dS o f b1 j l) 274)).drewN k) db _ from R.fL) R.sizes.2 az R.small).mono ?_;rintro e p ⟨rfl,q,m⟩;have E:aG (·=db) (wr.alloc (.cells (dS o f b1 j l) 274)) p:=⟨m.os,m.size,m.block⟩;have old:∀{b:Nat} {x:Obj},(wr.alloc (.cells (dS o f b1 j l) 274)).heap[b]? =some x->b≠db->p.heap[b]? =some x:=fun s aT=>(E.block _ (aP.1 s).1 aT).trans s;refine⟨rfl,E,⟨old R.box P,old R.bytes R.apart,?_,⟨R.cache.1,?_⟩,⟨R.sizes.1,by rw[Qq];have:=R.sizes.2;rw[Qq]at this;exact this⟩,R.fits,R.apart,R.small⟩,(hR.out.2.trans ⟨t.os,t.size,fun b s _=>t.block b s⟩).trans E⟩
    ·rw[UL,z];show nL p db (nU D (C.take i++[(o,[f,b1,j,l])]));rw[A5];exact q
    ·rcases R.cache.2 with r|⟨g',L,ah,r,F,h5,h6⟩
     ·exact .inl r
     ·exact .inr ⟨g',L,ah,r,F,old h5 (fun e=>R.bU R.fL cq (by rw[r,<-e];rfl)),h6⟩
   have s0:=I.out _ (aG.refl _ _);clear Q U M t
   go_upto_region 3 with fail
   refine dR (S:=fun W=>W.cell? (aa d 1)=some (.slice (some (aa db 0)) n n)/\W.cell? (aa wr.heap.size 0)=some (aj (o:Int))/\W.cell? (aa wr.heap.size 1)=some (bN f)/\W.cell? (aa wr.heap.size 2)=some (bN b1)/\W.cell? (aa wr.heap.size 3)=some (bN j)/\W.cell? (aa wr.heap.size 4)=some (bN l)) s0 fun bg=>?_;refine tk 0 ?_;refine tk 1 ?_;refine tk 2 ?_;refine tk 3 ?_;refine tk 4 ?_;refine rH 5 fun K N=>?_;go_simp;go_at_call 224;refine(Z.out 1).mono ?_;rintro e w5 ⟨rfl,q,m⟩;have Y:=aL m;refine N.out _ _ (I.out _ q) (fun hH=>?_);clear N K m;refine cK ?_;go_wp2;refine⟨⟨i+1,ak,by go_num,Y⟩,?_⟩;simp[gu];omega
  ·have F:¬(i:Int)<(C.length:Int):=ak;have aO:i=C.length:=ak
   have G:Hid (cZ wr d bb db (.slice A C.length u) n B (nU D C) C/\aG (·=db) w wr):=by have:=hR.out;rw[aO]at this;unfold CB at this;rw[vT]at this;exact this
   have aX:=aE wr d 2 (.slice A C.length u) G.out.1.box;have aY:wr.frozen? (aa d 2)=false:=aS G.out.1.box _;go_wp2;obtain⟨R,T⟩:=G.out;have m:=bV R.box 2 (.slice none 0 0);have wN:bb≠d:=eL R.bytes R.box aq;have aH:db≠d:=eL R.fL R.box aq;exact dZ rfl rfl ⟨rfl,⟨m,(bH wN).trans R.bytes,(bH aH).trans R.fL,World.ownsRow_nil _ _ _ _,R.sizes,fun c z=>(by cases z),R.apart,R.small⟩,⟨T.os,by simpa using T.size,fun b s V=>(bH (fun e=>V (.inl e))).trans (T.block b s fun e=>V (.inr e))⟩⟩
def iN(off a:Nat)(c:Nat×List UInt8):Bool:=decide (off<=c.1)&&decide (c.1<a)
structure sM(w:an)(c a off b:Nat):Prop where
 from_:w.cell? (aa c 0)=some (aj (off:Int))
 till:w.cell? (aa a 0)=some (aj (b:Int))
theorem sM.below{w w' ob eb off en}(h:sM w ob eb off en)(a:aB w w'):sM w' ob eb off en:=
 ⟨(fC (a.block ob (gM h.from_))).trans h.from_,(fC (a.block eb (gM h.till))).trans h.till⟩
theorem PN(c b off a o:Nat)(d b1 e f:UInt8)(w:an)(h:sM w c b off a):
  bz 235 #[.agg (dS o d b1 e f),jp c,jp b] w (.bool (iN off a (o,[d,b1,e,f]))):=by
 have k:=gM h.from_;have l:=gM h.till;obtain⟨p,q⟩:=h;have r:c≠w.heap.size:=by have:c<w.heap.size:=k;omega
 have s:b≠w.heap.size:=by have:b<w.heap.size:=l;omega
 have key:∀x:Bool,iN off a (o,[d,b1,e,f])=x->bz 235 #[.agg (dS o d b1 e f),jp c,jp b] w (.bool x):=by
  intro x g
  by_cases i:off<=o
  ·have m:(off:Int)<=(o:Int):=ak
   by_cases j:o<a
   ·have n:(o:Int)<(a:Int):=ak;have:x=true:=by rw[<-g];simp[iN,i,j]
    subst this;go_enter func235,ntmps235;go_wp2;go_ret;exact⟨rfl,aR⟩
   ·have n:¬(o:Int)<(a:Int):=ak;have:x=false:=by rw[<-g];simp[iN,i,j]
    subst this;go_enter func235,ntmps235;go_wp2;go_ret;exact⟨rfl,aR⟩
  ·have m:¬(off:Int)<=(o:Int):=ak;have:x=false:=by rw[<-g];simp[iN,i]
   subst this;go_enter func235,ntmps235;go_wp2;go_ret;exact⟨rfl,aR⟩
 exact key _ rfl
abbrev IL(b a:Nat):au:=.func (.func 235) #[] #[jp b,jp a]
theorem aaL{w:an}{g cap n:Nat}{C:List (Nat×List UInt8)}(h:w.ownsRow 0 274 5 (.slice (some (aa g 0)) C.length cap) C.length (C.flatMap dB))(hf:∀c∈C,c.1+4<=n/\c.2.length=4){i:Nat}(m:i<C.length):
  ∃o a b1 b d,C[i]? =some (o,[a,b1,b,d])/\w.cell? (aa g (i*5))=some (aj ((o:Nat):Int))/\w.cell? (aa g (i*5+1))=some (bN a)/\w.cell? (aa g (i*5+2))=some (bN b1)/\w.cell? (aa g (i*5+3))=some (bN b)/\w.cell? (aa g (i*5+4))=some (bN d):=by
 obtain⟨c,f⟩:∃c,C[i]? =some c:=⟨C[i],dN m⟩;obtain⟨r,f4⟩:=hf c (iG f);obtain⟨o,j⟩:=c
 obtain⟨a,b1,b,d,rfl⟩:∃a b1 b d:UInt8,j=[a,b1,b,d]:=by
  match j,f4 with
  |[a,b1,b,d],_=>exact⟨a,b1,b,d,rfl⟩
 rcases h.2 with⟨e,k⟩|⟨s,p,q,e,_,k,_,_,_,l⟩
 ·cases e
 ·cases e;exact⟨o,a,b1,b,d,f,RZ k l f (fun c h=>(hf c h).2)⟩
theorem j6(q cap ob eb off en n)(C:List (Nat×List UInt8))(w)(h:w.ownsRow 0 274 5 (.slice q C.length cap) C.length (C.flatMap dB))(hf:∀c∈C,c.1+4<=n/\c.2.length=4)(B:sM w ob eb off en)(K:C.length<=1099511627776):
  Calls prog 262 #[.slice q C.length cap,IL ob eb] w fun e r=>aB w r/\((e=.returned (aj (-1))/\∀c∈C,iN off en c=false)\/∃i,e=.returned (aj ((i:Nat):Int))/\i<C.length/\(∀j c,j<i->C[j]? =some c->iN off en c=false)/\∃c,C[i]? =some c/\iN off en c=true):=by
 have s:Hid (w.ownsRow 0 274 5 (.slice q C.length cap) C.length (C.flatMap dB)/\sM w ob eb off en):=⟨h,B⟩;go_enter func262,ntmps262;go_wp2
 go_loopw [8] (fun v wr=>∃i:Nat,i<=C.length/\v=aj (i:Int)/\Hid (aB w wr/\∀j c,j<i->C[j]? =some c->iN off en c=false)) (fun v _=>C.length-(gu v).toNat)
 case atStart=>exact⟨0,eE _,rfl,Below.refl _ _,fun j c p=>by omega⟩
 case round=>
  obtain⟨i,L,rfl,hR⟩:=hrel
  by_cases z:i<C.length
  ·have A:(i:Int)<(C.length:Int):=ak
   obtain⟨g,rfl⟩:∃g,q=some ⟨g,0,none⟩:=by
    rcases s.out.1.2 with⟨x,J⟩|⟨g,H,I,x,_⟩
    ·omega
    ·cases x;exact⟨g,rfl⟩
   obtain⟨o,f,b1,k,l,y,N,O,P,Q,R⟩:=aaL (vq s.out.1 hR.out.1) hf z
   have d:Hid (Calls prog 235 #[.agg (dS o f b1 k l),jp ob,jp eb] wr fun e r=>e=.returned (.bool (iN off en (o,[f,b1,k,l])))/\aB w r):=by refine(PN ob eb off en o f b1 k l wr (s.out.2.below hR.out.1)).mono ?_;rintro e r ⟨rfl,E⟩;exact⟨rfl,hR.out.1.trans (E.mono hR.out.1.size)⟩
   cases m:iN off en (o,[f,b1,k,l])with
   |true=>
    rw[m]at d;go_wp2_with (go_at_call 235;refine d.out.mono ?_;rintro e G ⟨rfl,t⟩);go_ret;exact⟨t,.inr ⟨i,rfl,z,hR.out.2,_,y,m⟩⟩
   |false=>
    rw[m]at d;go_wp2_with (go_at_call 235;refine d.out.mono ?_;rintro e G ⟨rfl,t⟩);refine⟨⟨i+1,ak,by go_num,t,fun j c p u=>?_⟩,?_⟩
    ·by_cases e:j=i
     ·subst e;rw[y]at u;cases u;exact m
     ·exact hR.out.2 j c ak u
    ·simp[gu];omega
  ·have A:¬(i:Int)<(C.length:Int):=ak
   have F:∀a b,(a,b)∈C->iN off en (a,b)=false:=fun a b D=>by obtain⟨j,p⟩:=sj.1 D;have M:=(ed.1 p).1;exact hR.out.2 j _ ak p
   go_wp2;go_ret;exact⟨hR.out.1,.inl ⟨rfl,F⟩⟩
abbrev stay(off a:Nat)(C:List (Nat×List UInt8)):List (Nat×List UInt8):=C.filter fun c=>!iN off a c
structure kV(w W:an)(g cap off b:Nat)(C:List (Nat×List UInt8))(i j:Nat):Prop where
 row:∃a,W.heap[g]? =some (.cells a 274 (0,0))/\a.size=cap*5/\(∀x,x<i*5->a[x]? =((stay off b (C.take j)).flatMap dB)[x]?)/\∀x,j*5<=x->x<C.length*5->a[x]? =(C.flatMap dB)[x]?
 many:i=(stay off b (C.take j)).length
 lt:i<j
 le:j<=C.length
 bS:aG (·=g) w W
theorem KJ(off en)(C:List (Nat×List UInt8)){j c}(h:C[j]? =some c):stay off en (C.take (j+1))=stay off en (C.take j)++(if iN off en c=true then[]else[c]):=by
 unfold stay;rw[UL,h,Option.toList_some,List.filter_append]
 congr 1
 cases a:iN off en c<;>simp[a]
theorem yJ{C:List (Nat×List UInt8)}(hf:∀c∈C,c.2.length=4):(C.flatMap dB).length=C.length*5:=by
 induction C with
 |nil=>rfl
 |cons c C b=>
  have a:=b fun c h=>hf c (jS _ h);rw[vO,ia,a];simp[dB,(hf c (iU ..))];omega
theorem kV.pass{w W W' g cap off en i j C c}(h:kV w W g cap off en C i j)(hc:C[j]? =some c)(o:iN off en c=true)(a:aB W W'):kV w W' g cap off en C i (j+1):=by
 obtain⟨d,f,k,l,m⟩:=h.row;have e:stay off en (C.take (j+1))=stay off en (C.take j):=by rw[KJ off en C hc,aM o,xK]
 exact⟨⟨d,bD a f,k,by rw[e];exact l,fun x q p=>m x ak p⟩,by rw[e];exact h.many,Cd h.lt,(ed.1 hc).1,h.bS.trans ⟨a.os,a.size,fun b n _=>a.block b n⟩⟩
theorem kV.keep{w W W' g cap off en i j o}{a b1 d f:UInt8}{C:List (Nat×List UInt8)}(h:kV w W g cap off en C i j)(J:C.length<=cap)(hf:∀c∈C,c.2.length=4)(hc:C[j]? =some (o,[a,b1,d,f]))(D:iN off en (o,[a,b1,d,f])=false)(k:aB W W'):
  kV w (W'.setCells g (i*5) (dB (o,[a,b1,d,f]))) g cap off en C (i+1) (j+1):=by
 obtain⟨r,y,I,z,A⟩:=h.row;have K:j<C.length:=(ed.1 hc).1;have e:stay off en (C.take (j+1))=stay off en (C.take j)++[(o,[a,b1,d,f])]:=by rw[KJ off en C hc,aD (by rw[D];simp)]
 have N:=h.lt;have M:(j+1) *5<=cap*5:=xU 5 ak;obtain⟨q,s,G,m,t,u,H,v⟩:=qG (dB (o,[a,b1,d,f])) (i*5) W' r (bD k y);have L:(dB (o,[a,b1,d,f])).length=5:=rfl
 have E:((stay off en (C.take j)).flatMap dB).length=i*5:=by rw[yJ (fun c hc=>hf c (oF (vR.1 hc).1)),h.many]
 refine⟨⟨q,s,ak,fun x l=>?_,fun x l F=>?_⟩,by rw[e,ia,<-h.many];rfl,ak,ak,h.bS.trans ⟨v.trans k.os,by have:=k.size;omega,fun b B l=>(u b l).trans (k.block b B)⟩⟩
 ·rw[e,rW]
  by_cases p:x<i*5
  ·rw[m x (.inl p),xN ak];exact z x p
  ·rw[qN ak,E];have:([(o,[a,b1,d,f])].flatMap dB)=dB (o,[a,b1,d,f]):=aq;rw[this];have n:x-i*5<(dB (o,[a,b1,d,f])).length:=ak;have:=t (x-i*5) _ (dN n) ak;rw[show i*5+(x-i*5)=x by omega]at this;rw[this,dN n]
 ·rw[m x (.inr ak)];exact A x ak F
theorem kV.cells{w W}{g cap off q i j n:Nat}{C:List (Nat×List UInt8)}(h:kV w W g cap off q C i j)(z:C.length<=cap)(hf:∀c∈C,c.1+4<=n/\c.2.length=4)(m:j<C.length):
  ∃o a b1 b d,C[j]? =some (o,[a,b1,b,d])/\W.cell? (aa g (j*5))=some (aj ((o:Nat):Int))/\W.cell? (aa g (j*5+1))=some (bN a)/\W.cell? (aa g (j*5+2))=some (bN b1)/\W.cell? (aa g (j*5+3))=some (bN b)/\W.cell? (aa g (j*5+4))=some (bN d):=by
 obtain⟨p,e,x,y,r⟩:=h.row;obtain⟨c,f⟩:∃c,C[j]? =some c:=⟨C[j],dN m⟩;obtain⟨v,f4⟩:=hf c (iG f);obtain⟨o,l⟩:=c
 obtain⟨a,b1,b,d,rfl⟩:∃a b1 b d:UInt8,l=[a,b1,b,d]:=by
  match l,f4 with
  |[a,b1,b,d],_=>exact⟨a,b1,b,d,rfl⟩
 have A:=yJ (C:=C) (fun c h=>(hf c h).2)
 have key:∀k,k<5->p[j*5+k]? =(dB (o,[a,b1,b,d]))[k]? :=fun k t=>by
  rw[r (j*5+k) ak ak]
  have s:C=C.take j++(o,[a,b1,b,d])::C.drop (j+1):=by have:=oH j C;rw[zT m]at this;rw[(ed.1 f).2]at this;exact this.symm
  have u:((C.take j).flatMap dB).length=j*5:=by rw[yJ (fun c h=>(hf c (oF h)).2),qP,oI ak]
  rw[s,rW,vO,qN ak,u,ue,xN (by show k<5;exact t)]
 exact⟨o,a,b1,b,d,f,av e (key 0 ak),av e (key 1 ak),av e (key 2 ak),av e (key 3 ak),av e (key 4 ak)⟩
theorem kV.room{w W g cap off en i j C}(h:kV w W g cap off en C i j)(f:C.length<=cap):∃a,W.heap[g]? =some (.cells a 274 (0,0))/\a.size=cap*5/\i*5+5<=a.size:=by obtain⟨a,b,c,_⟩:=h.row;have d:=h.lt;have e:=h.le;have:(i+1) *5<=cap*5:=xU 5 ak;exact⟨a,b,c,ak⟩
theorem kV.first {w W g cap off en i n}{C:List (Nat×List UInt8)}(h:w.ownsRow 0 274 5 (.slice (some (aa g 0)) C.length cap) C.length (C.flatMap dB))(hf:∀c∈C,c.1+4<=n/\c.2.length=4)(d:aB w W)(E:i<C.length)(v:∀j c,j<i->C[j]? =some c->iN off en c=false){c:Nat×List UInt8}(hc:C[i]? =some c)(t:iN off en c=true):kV w W g cap off en C i (i+1):=by
 have e:stay off en (C.take i)=C.take i:=by
  refine Ge.2 fun x a=>?_;obtain⟨j,f⟩:=sj.1 a;rw[lX]at f;split at f
  ·rename_i u;rw[v j x u f];rfl
  ·cases f
 have m:stay off en (C.take (i+1))=C.take i:=by rw[KJ off en C hc,aM t,xK,e]
 rcases h.2 with⟨k,o⟩|⟨z,y,l,k,_,o,A,B,p,q⟩
 ·cases k
 ·cases k;have D:=yJ (C:=C) (fun c h=>(hf c h).2)
  have cell:∀x,x<C.length*5->l[x]? =(C.flatMap dB)[x]? :=fun x a=>by rw[<-q,lX,aM a,kK]
  refine⟨⟨l,bD d o,p,fun x a=>?_,fun x _ a=>cell x a⟩,by rw[m,qP,oI ak],ak,ak,⟨d.os,d.size,fun b r _=>d.block b r⟩⟩;rw[m,cell x ak];have s:C.flatMap dB=(C.take i).flatMap dB++(C.drop i).flatMap dB:=by rw[<-rW,oH]
  have F:((C.take i).flatMap dB).length=i*5:=by rw[yJ (fun c h=>(hf c (oF h)).2),qP,oI ak]
  rw[s,xN ak]
abbrev vw:au:=.agg #[aj 0,.int .u8 0,.int .u8 0,.int .u8 0,.int .u8 0]
theorem RY:vw.cells=#[aj 0,.int .u8 0,.int .u8 0,.int .u8 0,.int .u8 0]:=aI
theorem aaJ(m):∀u∈(lU vw.cells m).toList,u.oneCell'=true:=fun u a=>by
 rw[RY]at a;simp only[lU,BD,iV]at a;obtain⟨k,_,rfl⟩:=a;have b:k %5<5:=xT _ ak;generalize k %5=q at b
 match q,b with
 |0,_|1,_|2,_|3,_|4,_=>rfl
theorem aaI(m):(lU vw.cells m).toList.length=m*5:=by rw[vH,size_zeroCells,RY];rfl
theorem kV.over{w W g cap off en i n C}(h:kV w W g cap off en C i C.length)(z:C.length<=cap)(q:cap<=bT)(hf:∀c∈C,c.1+4<=n/\c.2.length=4)(zs):
  (W.setCells g (i*5) zs).ownsRow 0 274 5 (.slice (some (aa g 0)) i cap) (stay off en C).length ((stay off en C).flatMap dB)/\aG (·=g) w (W.setCells g (i*5) zs):=by
 obtain⟨f,o,v,d,y⟩:=h.row;have hm:=h.many;rw[vT]at hm d;obtain⟨e,j,s,k,t,l,u,m⟩:=qG zs (i*5) W f o;have B:=h.lt
 have r:((stay off en C).flatMap dB).length=i*5:=by rw[yJ (fun c p=>(hf c (vR.1 p).1).2),hm]
 have A:=xU 5 ak;refine⟨⟨by rw[r,<-hm],.inr ⟨g,cap,e,by rw[<-hm],eE _,j,ak,q,ak,?_⟩⟩,h.bS.trans ⟨m,ak,fun b _ a=>l b a⟩⟩;rw[<-hm];refine tY fun x=>?_;rw[lX];split
 ·rename_i a;rw[kK,k x (.inl a),d x a]
 ·exact(xO ak).symm
theorem Xu(r cap ob eb off en n)(C:List (Nat×List UInt8))(w)(h:w.ownsRow 0 274 5 (.slice r C.length cap) C.length (C.flatMap dB))(hf:∀c∈C,c.1+4<=n/\c.2.length=4)(I:sM w ob eb off en)(hC:C.length<=1099511627776)(aH:∀g,r=some ⟨g,0,none⟩->ob≠g/\eb≠g):
  Calls prog 234 #[.slice r C.length cap,IL ob eb] w fun e S=>∃M,e=.returned M/\S.ownsRow 0 274 5 M (stay off en C).length ((stay off en C).flatMap dB)/\aG (fun b=>some b=(eF r C.length cap).ownBlock) w S/\M.ownBlock=(eF r C.length cap).ownBlock:=by
 have q:Hid (w.ownsRow 0 274 5 (.slice r C.length cap) C.length (C.flatMap dB)/\sM w ob eb off en):=⟨h,I⟩;have N:=j6 r cap ob eb off en n C w h hf I hC;have V:=aL N;have ay:=lT h;clear h I N;go_enter func234,ntmps234;go_wp2_with (go_at_call 262;refine V.out.mono ?_;rintro e w1 ⟨y,ah⟩;rcases ah with⟨rfl,E⟩|⟨i,rfl,hi,E,c,t,u⟩)
 ·have e:stay off en C=C:=Ge.2 fun c t=>by rw[E c t];rfl
  go_ret;exact⟨_,rfl,by rw[e];exact vq q.out.1 y,⟨y.os,y.size,fun b J _=>y.block b J⟩,rfl⟩
 ·obtain⟨g,D,rfl⟩:∃g,C.length<=cap/\r=some ⟨g,0,none⟩:=by
   rcases q.out.1.2 with⟨f,F⟩|⟨g,Y,z,f,_,_,G,_⟩
   ·omega
   ·cases f;exact⟨g,G,rfl⟩
  have ZN:cap<=bT:=by
   rcases q.out.1.2 with⟨f,F⟩|⟨g,Y,z,f,_,_,G,H,_⟩
   ·cases f
   ·cases f;exact H
  have T:=aL (kV.first q.out.1 hf y hi E t u);obtain⟨aI,aO⟩:=aH g rfl;have U:Hid (∀W,aG (·=g) w W->sM W ob eb off en):=fun W Q=>⟨(fC (a:=aa ob 0) (Q.block ob (gM q.out.2.from_) aI)).trans q.out.2.from_,(fC (a:=aa eb 0) (Q.block eb (gM q.out.2.till) aO)).trans q.out.2.till⟩;have aF:((i:Int)==-1)=false:=aq;clear y E t u ay;rw[aF]
  go_loopw [5,6] (fun iv K wr=>∃i j:Nat,iv=aj (i:Int)/\K=aj (j:Int)/\Hid (kV w wr g cap off en C i j)) (fun _ K _=>C.length-(gu K).toNat)
  case atStart=>exact⟨i,i+1,rfl,by go_num,T⟩
  case round=>
   obtain⟨i,j,rfl,rfl,hR⟩:=hrel;have bk:=hR.out.le;have bg:=hR.out.lt
   by_cases aC:j<C.length
   ·have H:(j:Int)<(C.length:Int):=ak;obtain⟨o,l,b1,m,p,t,k0,k1,k2,k3,k4⟩:=hR.out.cells D hf aC;have aY:g<wr.heap.size:=by obtain⟨z,f,_⟩:=hR.out.row;exact(aP.1 f).1
    have v:aB wr (wr.alloc (.cells (dS o l b1 m p) 274)):=aR;have Z:(wr.alloc (.cells (dS o l b1 m p) 274)).heap[wr.heap.size]? =some (.cells (dS o l b1 m p) 274 (0,0)):=bW wr _
    have B:Hid (bz 235 #[.agg (dS o l b1 m p),jp ob,jp eb] (wr.alloc (.cells (dS o l b1 m p) 274)) (.bool (iN off en (o,[l,b1,m,p])))):=
     PN ob eb off en o l b1 m p _ ((U.out _ hR.out.bS).below v)
    have X:Hid (∀d,aB (wr.alloc (.cells (dS o l b1 m p) 274)) d->(∀k,k<5->∃x,d.cell? (aa g (i*5+k))=some x)/\∀k,d.frozen? (aa g k)=false):=fun d s=>by obtain⟨z,f,F,G⟩:=hR.out.room D;have O:d.heap[g]? =some (.cells z 274 (0,0)):=bD s (bD v f);exact⟨fun k R=>⟨_,av O (cw ak)⟩,fun k=>aS O k⟩
    cases u:iN off en (o,[l,b1,m,p])with
    |true=>
     rw[u]at B;go_wp2_with (go_at_call 235;refine B.out.mono ?_;rintro e d ⟨rfl,s⟩);refine⟨⟨i,j+1,rfl,by go_num,hR.out.pass t u (v.trans (s.mono v.size))⟩,?_⟩;simp[gu];omega
    |false=>
     rw[u]at B;go_wp2_with (go_at_call 235;refine B.out.mono ?_;rintro e d ⟨rfl,s⟩;have hv:d.heap[wr.heap.size]? =some (.cells (dS o l b1 m p) 274 (0,0)):=bD s Z;have m0:=aE d wr.heap.size 0 (aj (o:Int)) hv;have m1:=aE d wr.heap.size 1 (bN l) hv;have m2:=aE d wr.heap.size 2 (bN b1) hv;have m3:=aE d wr.heap.size 3 (bN m) hv;have m4:=aE d wr.heap.size 4 (bN p) hv;obtain⟨hr,fr⟩:=X.out d s;obtain⟨x0,r0⟩:=hr 0 ak;obtain⟨x1,r1⟩:=hr 1 ak;obtain⟨x2,r2⟩:=hr 2 ak;obtain⟨x3,r3⟩:=hr 3 ak;obtain⟨x4,r4⟩:=hr 4 ak;rw[Nat.add_zero]at r0;clear hr hv);refine⟨⟨i+1,j+1,by go_num,by go_num,hR.out.keep D (fun c h=>(hf c h).2) t u (v.trans (s.mono v.size))⟩,?_⟩;simp[gu];omega
   ·have H:¬(j:Int)<(C.length:Int):=ak;have aA:j=C.length:=ak;have hv:∀w,(zeroValue 274).run prog w=.ok vw w:=zeroValue274
    have IF:∀L,(Builtin.clear_ #[159] L #[.slice (some (aa g (i*5))) (C.length-i) (cap-i)]).run prog wr=.ok (.tuple #[]) (wr.setCells g (i*5) (lU vw.cells (C.length-i)).toList):=fun L=>by
     obtain⟨z,f,F,_⟩:=hR.out.row
     have DU:i*5+(C.length-i) *5<=cap*5:=by rw[<-Nat.add_mul];exact xU 5 ak
     refine EN (P:=prog) wr 159 274 L _ underlying159 hv g (i*5) (C.length-i) (cap-i) ak _ rfl (aaJ _) ?_ (fun k _=>aS f _);intro k R;rw[aaI]at R;rw[av f (cw ak)];rfl
    have A:Hid ((wr.setCells g (i*5) (lU vw.cells (C.length-i)).toList).ownsRow 0 274 5 (.slice (some (aa g 0)) i cap) (stay off en C).length ((stay off en C).flatMap dB)/\aG (·=g) w (wr.setCells g (i*5) (lU vw.cells (C.length-i)).toList)):=(aA▸hR.out:kV w wr g cap off en C i C.length).over D ZN hf _;generalize wr.setCells g (i*5) (lU vw.cells (C.length-i)).toList=W9 at*;have aZ:(i:Int)<=(cap:Int):=ak;have bf:(i:Int)<=(C.length:Int):=ak;clear hv;go_wp2;go_ret;exact⟨_,rfl,A.out.1,⟨A.out.2.os,A.out.2.size,fun b J hx=>A.out.2.block b J fun e=>hx (by rw[e];rfl)⟩,rfl⟩
theorem NI{P b off n B s}(w)(c:P.underlying 158=some (.slice 5))(d:∀w,(FZ 5).run P w=.ok 1 w)(h:nL w b B)(e:B.size=n)(f:off+s.size<=n):
  ∃r,(rS #[158,9] 3 #[.slice (some (aa b off)) (n-off) (n-off),.string s]).run P w=.ok r (w.setCells b off (s.data.toList.map bN)):=by
 have g:s.data.toList.length=s.size:=rfl;exact Ki w 158 9 3 5 b off (n-off) (n-off) s s.data.toList c d (su ak) (fun j a=>by rw[JX h ak];rfl) (fun j a=>aS h _)
theorem cZ.lay{w d bb db n off cv B D C}(h:cZ w d bb db cv n B D C)(s):cZ (w.setCells bb off (s.map bN)) d bb db cv n (dV B off s) D C/\aG (·=bb) w (w.setCells bb off (s.map bN)):=by
 obtain⟨a1,a,a3,g⟩:=yX s off w B h.bytes;have p:d≠bb:=eL h.box h.bytes aq;refine⟨⟨(a d p).trans h.box,a1,(a db (fun e=>h.apart e.symm)).trans h.fL,⟨h.cache.1,?_⟩,⟨by rw[yQ];exact h.sizes.1,h.sizes.2⟩,h.fits,h.apart,h.small⟩,⟨g,ak,fun b _ o=>a b o⟩⟩;rcases h.cache.2 with c|⟨f,i,j,c,k,l,m⟩
 ·exact .inl c
 ·exact .inr ⟨f,i,j,c,k,(a f fun e=>h.bU h.bytes cq (by rw[c,<-e];rfl)).trans l,m⟩
theorem cZ.A8{w d bb db n off cv B D C}(h:cZ w d bb db cv n B D C)(s):cZ (w.setCells db off (s.map bN)) d bb db cv n B (dV D off s) C/\aG (·=db) w (w.setCells db off (s.map bN)):=by
 obtain⟨a1,a,a3,g⟩:=yX s off w D h.fL;refine⟨⟨(a d (eL h.box h.fL aq)).trans h.box,(a bb h.apart).trans h.bytes,a1,⟨h.cache.1,?_⟩,⟨h.sizes.1,by rw[yQ];exact h.sizes.2⟩,h.fits,h.apart,h.small⟩,⟨g,ak,fun b _ o=>a b o⟩⟩;rcases h.cache.2 with c|⟨f,i,j,c,k,l,m⟩
 ·exact .inl c
 ·exact .inr ⟨f,i,j,c,k,(a f fun e=>h.bU h.fL cq (by rw[c,<-e];rfl)).trans l,m⟩
theorem adQ(d f i n off cv B D)(C:List (Nat×List UInt8))(s w)(h:cZ w d f i cv n B D C)(bQ:off<n)(hl:off+s.size<=n)(hC:C.length<=1099511627776):
  Calls prog 198 #[jp d,aj off,.string s] w fun e u=>e=.returned (.tuple #[])/\∃NS,cZ u d f i NS n (dV B off s.data.toList) (dV D off s.data.toList) (stay off (off+s.size) C)/\aG (fun b=>b=d\/b=f\/b=i\/some b=cv.ownBlock) w u/\NS.ownBlock=cv.ownBlock:=by
 have hn:=h.small;obtain⟨l,k,rfl⟩:=lT h.cache;have H:aB w (w.alloc (.cells #[aj (off:Int)] 3)):=aR;have X:(w.alloc (.cells #[aj (off:Int)] 3)).heap[w.heap.size]? =some (.cells #[aj (off:Int)] 3 (0,0)):=bW w _;have M:∀{W:an} {b:Nat} {o:Obj},W.heap[b]? =some o->b<W.heap.size:=fun h=>(aP.1 h).1
 have G:cZ (w.alloc (.cells #[aj (off:Int)] 3)).drew d f i (.slice l C.length k) n B D C:=by have:=h.below H;exact⟨this.box,this.bytes,this.fL,this.cache,this.sizes,this.fits,this.apart,this.small⟩
 obtain⟨r1,ay⟩:=NI (P:=prog) (off:=off) (s:=s) (w.alloc (.cells #[aj (off:Int)] 3)).drew underlying158 EZ G.bytes G.sizes.1 hl;obtain⟨m,A⟩:=G.lay (off:=off) s.data.toList;have Y:((w.alloc (.cells #[aj (off:Int)] 3)).drew.setCells f off (s.data.toList.map bN)).heap[w.heap.size]? =some (.cells #[aj (off:Int)] 3 (0,0)):=(A.block w.heap.size aq (by have:=M h.bytes;omega)).trans X;have IX:w.heap.size+1<=((w.alloc (.cells #[aj (off:Int)] 3)).drew.setCells f off (s.data.toList.map bN)).heap.size:=by have:=A.size;simpa using this
 have Z:aG (fun b=>b=d\/b=f\/b=i\/some b=(eF l C.length k).ownBlock) w ((w.alloc (.cells #[aj (off:Int)] 3)).drew.setCells f off (s.data.toList.map bN)):=⟨A.os.trans H.os,by have:=A.size;have:=H.size;simp at*;omega,fun b r v=>(A.block b bK (fun e=>v (.inr (.inl e)))).trans (H.block b r)⟩;have aI:=aL ay;clear ay A;generalize (w.alloc (.cells #[aj (off:Int)] 3)).drew.setCells f off (s.data.toList.map bN)=p at*;have Q:cZ p.drew d f i (.slice l C.length k) n (dV B off s.data.toList) D C:=⟨m.box,m.bytes,m.fL,m.cache,m.sizes,m.fits,m.apart,m.small⟩;obtain⟨r2,AL⟩:=NI (P:=prog) (off:=off) (s:=s) p.drew underlying158 EZ Q.fL Q.sizes.2 hl;obtain⟨y,E⟩:=Q.A8 (off:=off) s.data.toList;have R:(p.drew.setCells i off (s.data.toList.map bN)).heap[w.heap.size]? =some (.cells #[aj (off:Int)] 3 (0,0)):=(E.block w.heap.size (by show w.heap.size<p.heap.size;omega) (by have:=M h.fL;omega)).trans Y;have bu:w.heap.size+1<=(p.drew.setCells i off (s.data.toList.map bN)).heap.size:=cS IX E.size;have z:aG (fun b=>b=d\/b=f\/b=i\/some b=(eF l C.length k).ownBlock) w (p.drew.setCells i off (s.data.toList.map bN)):=Z.trans ⟨E.os,E.size,fun b r v=>E.block b r fun e=>v (.inr (.inr (.inl e)))⟩;have aO:=aL AL;clear AL E Z Q;generalize p.drew.setCells i off (s.data.toList.map bN)=a at*;have c0:=aE (w.alloc (.cells #[aj (off:Int)] 3)) d 0 (.slice (some (aa f 0)) n n) G.box;have k0:=aE (w.alloc (.cells #[aj (off:Int)] 3)) w.heap.size 0 (aj (off:Int)) X;have c1:=aE p d 0 (.slice (some (aa f 0)) n n) m.box;have aX:=aE p d 1 (.slice (some (aa i 0)) n n) m.box;have k1:=aE p w.heap.size 0 (aj (off:Int)) Y;have c2:=aE a d 1 (.slice (some (aa i 0)) n n) y.box;have bI:=aE a d 2 (.slice l C.length k) y.box;have k2:=aE a w.heap.size 0 (aj (off:Int)) R;have bO:¬n=off:=ak;have uW:(off:Int)<=(n:Int):=ak;have bL:d<a.heap.size:=M y.box;have H2:Hid (cZ a d f i (.slice l C.length k) n (dV B off s.data.toList) (dV D off s.data.toList) C/\aG (fun b=>b=d\/b=f\/b=i\/some b=(eF l C.length k).ownBlock) w a/\a.heap[w.heap.size]? =some (.cells #[aj (off:Int)] 3 (0,0))):=⟨y,z,R⟩;have ng:w.heap.size<a.heap.size:=ak
 have aQ:Hid (Calls prog 234 #[.slice l C.length k,IL w.heap.size a.heap.size] (a.alloc (.cells #[aj ((off:Int)+(s.size:Int))] 3)) fun e u=>∃t U L F,t=.slice U L F/\e=.returned t/\u.cell? (aa d 2)=some (.slice l C.length k)/\u.frozen? (aa d 2)=false/\cZ (u.setCell (aa d 2) t) d f i t n (dV B off s.data.toList) (dV D off s.data.toList) (stay off (off+s.size) C)/\aG (fun b=>b=d\/b=f\/b=i\/some b=(eF l C.length k).ownBlock) w (u.setCell (aa d 2) t)/\t.ownBlock=(eF l C.length k).ownBlock):=by
  have I:aB a (a.alloc (.cells #[aj ((off:Int)+(s.size:Int))] 3)):=aR;have j:=y.below I;have af:(a.alloc (.cells #[aj ((off:Int)+(s.size:Int))] 3)).heap[a.heap.size]? =some (.cells #[aj ((off:Int)+(s.size:Int))] 3 (0,0)):=bW a _;have ah:(a.alloc (.cells #[aj ((off:Int)+(s.size:Int))] 3)).heap[w.heap.size]? =some (.cells #[aj (off:Int)] 3 (0,0)):=bD I R;refine(Xu l k w.heap.size a.heap.size off (off+s.size) n C _ j.cache j.fits ⟨av ah rfl,by rw[Int.natCast_add];exact av af rfl⟩ hC ?_).mono ?_
  ·intro g hg;have e1:=j.bU ah cq;have e2:=j.bU af cq;exact⟨fun e=>e1 (by rw[hg,e];rfl),fun e=>e2 (by rw[hg,e];rfl)⟩
  ·rintro e u ⟨t,rfl,V,N,O⟩;have old:∀{b:Nat} {x:Array au} {T:aK},(a.alloc (.cells #[aj ((off:Int)+(s.size:Int))] 3)).heap[b]? =some (.cells x T (0,0))->T≠274->u.heap[b]? =some (.cells x T (0,0)):=fun r hT=>(N.block _ (M r) (j.bU r hT)).trans r;have b1:=old j.box cq;have b2:=bV b1 2 t;have wN:f≠d:=eL j.bytes j.box aq;have bt:i≠d:=eL j.fL j.box aq;obtain⟨U,F,bz⟩:=lT V;refine⟨t,U,_,F,bz,rfl,av b1 rfl,aS b1 _,⟨b2,(bH wN).trans (old j.bytes cq),(bH bt).trans (old j.fL cq),⟨V.1,?_⟩,j.sizes,fun c hc=>j.fits c (vR.1 hc).1,j.apart,j.small⟩,⟨by show u.os=w.os;exact N.os.trans (I.os.trans z.os),by have:=N.size;have:=I.size;have:=z.size;simp at*;omega,fun b r v=>?_⟩,O⟩
   ·rcases V.2 with q|⟨g,F,aZ,q1,q2,q3,q4⟩
    ·exact .inl q
    ·refine .inr ⟨g,F,aZ,q1,q2,(bH fun e=>?_).trans q3,q4⟩;exact j.bU j.box cq (by rw[<-O,q1,<-e];rfl)
   ·have bp:b<a.heap.size:=cV r z.size;exact(bH (fun e=>v (.inl e))).trans ((N.block b bK (fun e=>v (.inr (.inr (.inr e))))).trans ((I.block b bp).trans (z.block b r v)))
 clear h H X G m y z Y R IX bu M;go_enter func198,ntmps198
 go_upto_region 1 with fail
 refine dR (S:=fun W=>W.cell? (aa d 0)=some (.slice (some (aa f 0)) n n)/\W.cell? (aa w.heap.size 0)=some (aj (off:Int))) ⟨c0,k0⟩ fun bJ=>?_;refine tk 0 ?_;refine tk 1 ?_;refine tk 2 ?_;refine tk 3 ?_;refine tk 4 ?_;refine tk 5 ?_;refine tk 6 ?_;refine rH 7 fun K J=>?_
 (refine EE rfl rfl rfl rfl aI.out ?_;simp)
 refine J.out _ _ ⟨c1,k1⟩ (fun hH=>?_);clear J K;refine cK ?_
 go_upto_region 2 with fail
 refine dR (S:=fun W=>W.cell? (aa d 1)=some (.slice (some (aa i 0)) n n)/\W.cell? (aa w.heap.size 0)=some (aj (off:Int))) ⟨aX,k1⟩ fun ZC=>?_;refine tk 0 ?_;refine tk 1 ?_;refine tk 2 ?_;refine tk 3 ?_;refine tk 4 ?_;refine tk 5 ?_;refine tk 6 ?_;refine rH 7 fun K J=>?_
 (refine EE rfl rfl rfl rfl aO.out ?_;simp)
 refine J.out _ _ ⟨c2,k2⟩ (fun hH=>?_);clear J K;refine cK ?_;go_wp2_with (go_at_call 234;refine aQ.out.mono ?_;rintro e w5 ⟨t,U,L,F,rfl,rfl,V,N,O⟩;have H5:=aL O;clear O);exact dZ rfl rfl ⟨rfl,_,H5.out⟩
structure Rq where
 m:aQ
 no:Int
abbrev aC(r:Rq):Array au:=#[aj r.m.wh,.string r.m.nm,aj r.m.kd,aj r.m.fl,aj r.m.ck,aj r.m.of,aj r.m.ln,.string r.m.dt,aj r.m.er,aj r.no]
structure Rq.Ok(r:Rq):Prop where
 of0:0<=r.m.of
 of1:r.m.of<=65535
 lR:0<=r.m.ln
 pG:r.m.ln<=65535
def Rq.touch(a b:Rq):Bool:=!(decide (a.m.kd=0)&&decide (b.m.kd=0))&&(decide (a.m.of<b.m.of+b.m.ln)&&decide (b.m.of<a.m.of+a.m.ln))
theorem EJ(m w)(h0:0<=m.ln)(h:m.ln<=65535):
  bz 201 #[.agg (eU m)] w (aj (sizeOf' m)):=by
 obtain⟨j,i,b,g,c,of,ln,d,f⟩:=m;dsimp only at h0 h⊢
 by_cases a:b=0
 ·subst a;go_enter func201,ntmps201;go_wp2;go_ret;exact⟨rfl,aR⟩
 ·have k:(b==0)=false:=by simp[a]
  have e:sizeOf' ⟨j,i,b,g,c,of,ln,d,f⟩=4:=by simp[sizeOf',a]
  rw[e];go_enter func201,ntmps201;go_wp2;go_ret;exact⟨rfl,aR⟩
theorem Rx(r w):
  bz 206 #[.agg (aC r)] w (aj (cJ r.m)):=by
 obtain⟨⟨i,h,b,g,c,of,ln,d,f⟩,no⟩:=r
 by_cases a:b=2
 ·subst a;go_enter func206,ntmps206;go_wp2;go_ret;exact⟨rfl,aR⟩
 ·have j:(b==2)=false:=by simp[a]
  have e:cJ ⟨i,h,b,g,c,of,ln,d,f⟩=ln:=by simp[cJ,a]
  rw[e];go_enter func206,ntmps206;go_wp2;go_ret;exact⟨rfl,aR⟩
theorem qE(r w)(h:r.Ok):
  bz 268 #[.agg (aC r)] w (aj (r.m.of+r.m.ln)):=by
 obtain⟨h0,a,b,c⟩:=h;obtain⟨⟨k,j,i,g,d,of,ln,e,f⟩,no⟩:=r;dsimp only at h0 a b c⊢;go_enter func268,ntmps268;go_wp2;go_ret;exact⟨rfl,aR⟩
theorem aY{P ops Q b S oi fuel listed a a' w}(i)(h:wpAnyH P b ops Q S fuel (listed.setIfInBounds i true) a' w)(hS:S w:=by assumption) (f:ops[i]? =some oi:=by rfl) (g:Region.noSelect ops=true:=by kernel_rfl) (hf:Region.free b ops listed i=true:=by kernel_rfl) (hr:(Region.ready b ops listed).contains i=true:=by kernel_rfl) (d:∀c a w,Q (.panic c) (a.put oi.dst undef) w->Q (.panic c) a w:=by exact fun _ _ _ h=>h) (j:cL oi (yielded ops a.tmps)=false:=by rfl) (e:a.put oi.dst undef=a':=by(first|(simp only[Act.put,tZ,qO,rY,qR,qT,qS];rfl)|rfl)):wpAnyH P b ops Q S (fuel+1) listed a w:=
 wpAnyH_take f g hf hr d (.inr ⟨j,rfl⟩) hS (e▸h)
abbrev bQ(W:an)(b:Nat)(r:Rq):Prop:=
 W.cell? (aa b 0)=some (aj r.m.wh)/\W.cell? (aa b 1)=some (.string r.m.nm)/\W.cell? (aa b 2)=some (aj r.m.kd)/\W.cell? (aa b 3)=some (aj r.m.fl)/\W.cell? (aa b 4)=some (aj r.m.ck)/\W.cell? (aa b 5)=some (aj r.m.of)/\W.cell? (aa b 6)=some (aj r.m.ln)/\W.cell? (aa b 7)=some (.string r.m.dt)/\W.cell? (aa b 8)=some (aj r.m.er)/\W.cell? (aa b 9)=some (aj r.no)
theorem bQ.of{W b r}(h:W.heap[b]? =some (.cells (aC r) 134 (0,0))):bQ W b r:=
 ⟨av h rfl,av h rfl,av h rfl,av h rfl,av h rfl,av h rfl,av h rfl,av h rfl,av h rfl,av h rfl⟩
theorem Tg(a b w)(R:a.Ok)(T:b.Ok):
  bz 241 #[.agg (aC a),.agg (aC b)] w (.bool (a.touch b)):=by
 have N:aB w ((w.alloc (.cells (aC a) 134)).alloc (.cells (aC b) 134)):=aR.alloc aq _;have O:((w.alloc (.cells (aC a) 134)).alloc (.cells (aC b) 134)).heap[w.heap.size]? =some (.cells (aC a) 134 (0,0)):=(Below.heap_alloc _ _ _ aq).trans (bW w _)
 have P:((w.alloc (.cells (aC a) 134)).alloc (.cells (aC b) 134)).heap[w.heap.size+1]? =some (.cells (aC b) 134 (0,0)):=by have:=bW (w.alloc (.cells (aC a) 134)) (.cells (aC b) 134);simpa using this
 have B:Hid (∀W,Below ((w.alloc (.cells (aC a) 134)).alloc (.cells (aC b) 134)).heap.size ((w.alloc (.cells (aC a) 134)).alloc (.cells (aC b) 134)) W->bQ W w.heap.size a/\bQ W (w.heap.size+1) b):=fun W Q=>⟨bQ.of (bD Q O),bQ.of (bD Q P)⟩;have F:=B.out _ (Below.refl _ _);have x:Hid (a.Ok/\b.Ok/\aB w ((w.alloc (.cells (aC a) 134)).alloc (.cells (aC b) 134))):=⟨R,T,N⟩;clear O P R T N;obtain⟨⟨v,u,z,t,q,of,ln,r,s⟩,no⟩:=a;obtain⟨⟨p,n,i,m,j,d,f,k,l⟩,o⟩:=b
 by_cases U:z=0/\i=0
 ·obtain⟨rfl,rfl⟩:=U;have e:Rq.touch ⟨⟨v,u,0,t,q,of,ln,r,s⟩,no⟩ ⟨⟨p,n,0,m,j,d,f,k,l⟩,o⟩=false:=by simp[Rq.touch]
  rw[e];go_enter func241,ntmps241;go_wp2;go_ret;exact⟨rfl,x.out.2.2⟩
 ·by_cases L:z=0
  ·subst L;have V:¬i=0:=fun h=>U ⟨rfl,h⟩;have X:(i==0)=false:=by simp[V]
   have e:Rq.touch ⟨⟨v,u,0,t,q,of,ln,r,s⟩,no⟩ ⟨⟨p,n,i,m,j,d,f,k,l⟩,o⟩=(decide (of<d+f)&&decide (d<of+ln)):=by simp[Rq.touch,V]
   rw[e]
   by_cases E:of<d+f
   ·by_cases G:d<of+ln
    ·rw[iY E,iY G];go_enter func241,ntmps241
     go_upto_region 3 with fail
     refine dR (S:=fun W=>bQ W w.heap.size ⟨⟨v,u,0,t,q,of,ln,r,s⟩,no⟩/\bQ W (w.heap.size+1) ⟨⟨p,n,i,m,j,d,f,k,l⟩,o⟩) F fun I=>?_;refine tk 0 ?_;refine tk 1 ?_;refine tk 2 ?_;refine tk 3 ?_;refine rH 4 fun K g=>?_;go_simp;go_at_call 268;refine(qE ⟨⟨p,n,i,m,j,d,f,k,l⟩,o⟩ _ x.out.2.1).mono ?_;rintro e D ⟨rfl,c⟩;have y:Hid (Below ((w.alloc (.cells (aC ⟨⟨v,u,0,t,q,of,ln,r,s⟩,no⟩) 134)).alloc (.cells (aC ⟨⟨p,n,i,m,j,d,f,k,l⟩,o⟩) 134)).heap.size ((w.alloc (.cells (aC ⟨⟨v,u,0,t,q,of,ln,r,s⟩,no⟩) 134)).alloc (.cells (aC ⟨⟨p,n,i,m,j,d,f,k,l⟩,o⟩) 134)) D):=⟨c.os,c.tape,c.output,c.size,c.block⟩;refine g.out _ _ (B.out _ y.out) (fun H=>?_);clear g K c;refine tk 5 ?_;refine tk 6 ?_;refine tk 7 ?_;refine tk 8 ?_;refine tk 9 ?_;refine tk 10 ?_;refine rH 11 fun K g=>?_;go_simp;go_at_call 268;refine(qE ⟨⟨v,u,0,t,q,of,ln,r,s⟩,no⟩ _ x.out.1).mono ?_;rintro e M ⟨rfl,C⟩;have A:=aL (y.out.trans (C.mono y.out.size));refine g.out _ _ (B.out _ A.out) (fun J=>?_);clear g K C;refine tk 12 ?_;refine tk 13 ?_;refine tk 14 ?_;refine cK ?_;go_wp2;go_ret;exact⟨rfl,x.out.2.2.trans (A.out.mono x.out.2.2.size)⟩
    ·rw[iY E,ij G];go_enter func241,ntmps241
     go_upto_region 3 with fail
     refine dR (S:=fun W=>bQ W w.heap.size ⟨⟨v,u,0,t,q,of,ln,r,s⟩,no⟩/\bQ W (w.heap.size+1) ⟨⟨p,n,i,m,j,d,f,k,l⟩,o⟩) F fun I=>?_;refine tk 0 ?_;refine tk 1 ?_;refine tk 2 ?_;refine tk 3 ?_;refine rH 4 fun K g=>?_;go_simp;go_at_call 268;refine(qE ⟨⟨p,n,i,m,j,d,f,k,l⟩,o⟩ _ x.out.2.1).mono ?_;rintro e D ⟨rfl,c⟩;have y:Hid (Below ((w.alloc (.cells (aC ⟨⟨v,u,0,t,q,of,ln,r,s⟩,no⟩) 134)).alloc (.cells (aC ⟨⟨p,n,i,m,j,d,f,k,l⟩,o⟩) 134)).heap.size ((w.alloc (.cells (aC ⟨⟨v,u,0,t,q,of,ln,r,s⟩,no⟩) 134)).alloc (.cells (aC ⟨⟨p,n,i,m,j,d,f,k,l⟩,o⟩) 134)) D):=⟨c.os,c.tape,c.output,c.size,c.block⟩;refine g.out _ _ (B.out _ y.out) (fun H=>?_);clear g K c;refine tk 5 ?_;refine tk 6 ?_;refine tk 7 ?_;refine tk 8 ?_;refine tk 9 ?_;refine tk 10 ?_;refine rH 11 fun K g=>?_;go_simp;go_at_call 268;refine(qE ⟨⟨v,u,0,t,q,of,ln,r,s⟩,no⟩ _ x.out.1).mono ?_;rintro e M ⟨rfl,C⟩;have A:=aL (y.out.trans (C.mono y.out.size));refine g.out _ _ (B.out _ A.out) (fun J=>?_);clear g K C;refine tk 12 ?_;refine tk 13 ?_;refine tk 14 ?_;refine cK ?_;go_wp2;go_ret;exact⟨rfl,x.out.2.2.trans (A.out.mono x.out.2.2.size)⟩
   ·rw[ij E];go_enter func241,ntmps241
    go_upto_region 3 with fail
    refine dR (S:=fun W=>bQ W w.heap.size ⟨⟨v,u,0,t,q,of,ln,r,s⟩,no⟩/\bQ W (w.heap.size+1) ⟨⟨p,n,i,m,j,d,f,k,l⟩,o⟩) F fun I=>?_;refine tk 0 ?_;refine tk 1 ?_;refine tk 2 ?_;refine tk 3 ?_;refine rH 4 fun K g=>?_;go_simp;go_at_call 268;refine(qE ⟨⟨p,n,i,m,j,d,f,k,l⟩,o⟩ _ x.out.2.1).mono ?_;rintro e D ⟨rfl,c⟩;have y:Hid (Below ((w.alloc (.cells (aC ⟨⟨v,u,0,t,q,of,ln,r,s⟩,no⟩) 134)).alloc (.cells (aC ⟨⟨p,n,i,m,j,d,f,k,l⟩,o⟩) 134)).heap.size ((w.alloc (.cells (aC ⟨⟨v,u,0,t,q,of,ln,r,s⟩,no⟩) 134)).alloc (.cells (aC ⟨⟨p,n,i,m,j,d,f,k,l⟩,o⟩) 134)) D):=⟨c.os,c.tape,c.output,c.size,c.block⟩;refine g.out _ _ (B.out _ y.out) (fun H=>?_);clear g K c;refine tk 5 ?_;refine tk 6 ?_;refine aY 7 ?_;refine aY 8 ?_;refine aY 9 ?_;refine aY 10 ?_;refine aY 11 ?_;refine aY 12 ?_;refine tk 13 ?_;refine tk 14 ?_;refine cK ?_;go_wp2;go_ret;exact⟨rfl,x.out.2.2.trans (y.out.mono x.out.2.2.size)⟩
  ·have X:(z==0)=false:=by simp[L]
   have e:Rq.touch ⟨⟨v,u,z,t,q,of,ln,r,s⟩,no⟩ ⟨⟨p,n,i,m,j,d,f,k,l⟩,o⟩=(decide (of<d+f)&&decide (d<of+ln)):=by simp[Rq.touch,L]
   rw[e]
   by_cases E:of<d+f
   ·by_cases G:d<of+ln
    ·rw[iY E,iY G];go_enter func241,ntmps241
     go_upto_region 3 with fail
     refine dR (S:=fun W=>bQ W w.heap.size ⟨⟨v,u,z,t,q,of,ln,r,s⟩,no⟩/\bQ W (w.heap.size+1) ⟨⟨p,n,i,m,j,d,f,k,l⟩,o⟩) F fun I=>?_;refine tk 0 ?_;refine tk 1 ?_;refine tk 2 ?_;refine tk 3 ?_;refine rH 4 fun K g=>?_;go_simp;go_at_call 268;refine(qE ⟨⟨p,n,i,m,j,d,f,k,l⟩,o⟩ _ x.out.2.1).mono ?_;rintro e D ⟨rfl,c⟩;have y:Hid (Below ((w.alloc (.cells (aC ⟨⟨v,u,z,t,q,of,ln,r,s⟩,no⟩) 134)).alloc (.cells (aC ⟨⟨p,n,i,m,j,d,f,k,l⟩,o⟩) 134)).heap.size ((w.alloc (.cells (aC ⟨⟨v,u,z,t,q,of,ln,r,s⟩,no⟩) 134)).alloc (.cells (aC ⟨⟨p,n,i,m,j,d,f,k,l⟩,o⟩) 134)) D):=⟨c.os,c.tape,c.output,c.size,c.block⟩;refine g.out _ _ (B.out _ y.out) (fun H=>?_);clear g K c;refine tk 5 ?_;refine tk 6 ?_;refine tk 7 ?_;refine tk 8 ?_;refine tk 9 ?_;refine tk 10 ?_;refine rH 11 fun K g=>?_;go_simp;go_at_call 268;refine(qE ⟨⟨v,u,z,t,q,of,ln,r,s⟩,no⟩ _ x.out.1).mono ?_;rintro e M ⟨rfl,C⟩;have A:=aL (y.out.trans (C.mono y.out.size));refine g.out _ _ (B.out _ A.out) (fun J=>?_);clear g K C;refine tk 12 ?_;refine tk 13 ?_;refine tk 14 ?_;refine cK ?_;go_wp2;go_ret;exact⟨rfl,x.out.2.2.trans (A.out.mono x.out.2.2.size)⟩
    ·rw[iY E,ij G];go_enter func241,ntmps241
     go_upto_region 3 with fail
     refine dR (S:=fun W=>bQ W w.heap.size ⟨⟨v,u,z,t,q,of,ln,r,s⟩,no⟩/\bQ W (w.heap.size+1) ⟨⟨p,n,i,m,j,d,f,k,l⟩,o⟩) F fun I=>?_;refine tk 0 ?_;refine tk 1 ?_;refine tk 2 ?_;refine tk 3 ?_;refine rH 4 fun K g=>?_;go_simp;go_at_call 268;refine(qE ⟨⟨p,n,i,m,j,d,f,k,l⟩,o⟩ _ x.out.2.1).mono ?_;rintro e D ⟨rfl,c⟩;have y:Hid (Below ((w.alloc (.cells (aC ⟨⟨v,u,z,t,q,of,ln,r,s⟩,no⟩) 134)).alloc (.cells (aC ⟨⟨p,n,i,m,j,d,f,k,l⟩,o⟩) 134)).heap.size ((w.alloc (.cells (aC ⟨⟨v,u,z,t,q,of,ln,r,s⟩,no⟩) 134)).alloc (.cells (aC ⟨⟨p,n,i,m,j,d,f,k,l⟩,o⟩) 134)) D):=⟨c.os,c.tape,c.output,c.size,c.block⟩;refine g.out _ _ (B.out _ y.out) (fun H=>?_);clear g K c;refine tk 5 ?_;refine tk 6 ?_;refine tk 7 ?_;refine tk 8 ?_;refine tk 9 ?_;refine tk 10 ?_;refine rH 11 fun K g=>?_;go_simp;go_at_call 268;refine(qE ⟨⟨v,u,z,t,q,of,ln,r,s⟩,no⟩ _ x.out.1).mono ?_;rintro e M ⟨rfl,C⟩;have A:=aL (y.out.trans (C.mono y.out.size));refine g.out _ _ (B.out _ A.out) (fun J=>?_);clear g K C;refine tk 12 ?_;refine tk 13 ?_;refine tk 14 ?_;refine cK ?_;go_wp2;go_ret;exact⟨rfl,x.out.2.2.trans (A.out.mono x.out.2.2.size)⟩
   ·rw[ij E];go_enter func241,ntmps241
    go_upto_region 3 with fail
    refine dR (S:=fun W=>bQ W w.heap.size ⟨⟨v,u,z,t,q,of,ln,r,s⟩,no⟩/\bQ W (w.heap.size+1) ⟨⟨p,n,i,m,j,d,f,k,l⟩,o⟩) F fun I=>?_;refine tk 0 ?_;refine tk 1 ?_;refine tk 2 ?_;refine tk 3 ?_;refine rH 4 fun K g=>?_;go_simp;go_at_call 268;refine(qE ⟨⟨p,n,i,m,j,d,f,k,l⟩,o⟩ _ x.out.2.1).mono ?_;rintro e D ⟨rfl,c⟩;have y:Hid (Below ((w.alloc (.cells (aC ⟨⟨v,u,z,t,q,of,ln,r,s⟩,no⟩) 134)).alloc (.cells (aC ⟨⟨p,n,i,m,j,d,f,k,l⟩,o⟩) 134)).heap.size ((w.alloc (.cells (aC ⟨⟨v,u,z,t,q,of,ln,r,s⟩,no⟩) 134)).alloc (.cells (aC ⟨⟨p,n,i,m,j,d,f,k,l⟩,o⟩) 134)) D):=⟨c.os,c.tape,c.output,c.size,c.block⟩;refine g.out _ _ (B.out _ y.out) (fun H=>?_);clear g K c;refine tk 5 ?_;refine tk 6 ?_;refine aY 7 ?_;refine aY 8 ?_;refine aY 9 ?_;refine aY 10 ?_;refine aY 11 ?_;refine aY 12 ?_;refine tk 13 ?_;refine tk 14 ?_;refine cK ?_;go_wp2;go_ret;exact⟨rfl,x.out.2.2.trans (y.out.mono x.out.2.2.size)⟩
theorem Yt{α:Type}(F:α->List au)(k)(hF:∀x,(F x).length=k):∀(l:List α) (i:Nat) (x:α),l[i]? =some x->∀j,j<k->(l.flatMap F)[i*k+j]? =(F x)[j]? :=by
 intro l;induction l with
 |nil=>intro i x h;simp at h
 |cons c l d=>
  intro i x h j b;rw[vO];cases i with
  |zero=>
   have e:c=x:=by simpa using h
   rw[xN (by grind),sC,fo,e]
  |succ i=>
   have a:(i+1) *k+j=k+(i*k+j):=by grind
   rw[a,qN (by grind),hF,ue];exact d i x (by simpa using h) j b
abbrev gX(w:an)(v:au)(q:List Rq):Prop:=w.ownsRow 0 134 10 v q.length (q.flatMap fun r=>(aC r).toList)
theorem gX.form{w v q}(h:gX w v q):∃a b,v=.slice a q.length b/\q.length<=b/\b<=bT:=by
 rcases h.2 with⟨c,d⟩|⟨g,b,i,c,_,_,e,f,_⟩
 ·exact⟨none,0,by rw[c,d],ak,by unfold bT;omega⟩
 ·exact⟨_,b,c,e,f⟩
theorem gX.at {w a n cap q}(h:gX w (.slice a n cap) q){i r}(d:q[i]? =some r):∃g,a=some ⟨g,0,none⟩/\
  (w.cell? (aa g (i*10))=some (aj r.m.wh)/\w.cell? (aa g (i*10+1))=some (.string r.m.nm)/\w.cell? (aa g (i*10+2))=some (aj r.m.kd)/\w.cell? (aa g (i*10+3))=some (aj r.m.fl)/\w.cell? (aa g (i*10+4))=some (aj r.m.ck)/\w.cell? (aa g (i*10+5))=some (aj r.m.of)/\w.cell? (aa g (i*10+6))=some (aj r.m.ln)/\w.cell? (aa g (i*10+7))=some (.string r.m.dt)/\w.cell? (aa g (i*10+8))=some (aj r.m.er)/\w.cell? (aa g (i*10+9))=some (aj r.no)):=by
 have p:i<q.length:=(ed.1 d).1;rcases h.2 with⟨c,b⟩|⟨g,l,e,c,_,b,_,_,o,f⟩
 ·omega
 ·cases c
  have cell:∀j,j<10->e[i*10+j]? =(aC r).toList[j]? :=fun j k=>by rw[<-Yt (fun r=>(aC r).toList) 10 (fun _=>rfl) q i r d j k,<-f,lX,aM ak,kK]
  exact⟨g,rfl,av b (cell 0 ak),av b (cell 1 ak),av b (cell 2 ak),av b (cell 3 ak),av b (cell 4 ak),av b (cell 5 ak),av b (cell 6 ak),av b (cell 7 ak),av b (cell 8 ak),av b (cell 9 ak)⟩
abbrev KU(r:Rq):au:=.func (.func 241) #[.agg (aC r)] #[]
theorem j7(v q r w)(h:gX w v q)(hr:r.Ok)(y:∀x∈q,x.Ok)(J:q.length<=1048576):
  Calls prog 282 #[v,KU r] w fun e l=>aB w l/\∃i:Int,e=.returned (aj i)/\decide (0<=i)=q.any (r.touch ·):=by
 obtain⟨a,u,rfl,G,hm⟩:=h.form;generalize C:q.any (r.touch ·)=B;have t:=aL C;have m:Hid (gX w (.slice a q.length u) q/\r.Ok/\∀x∈q,x.Ok):=⟨h,hr,y⟩;clear h hr y;go_enter func282,ntmps282;go_wp2
 go_loopw [8] (fun s wr=>∃i:Nat,i<=q.length/\s=aj (i:Int)/\Hid (aB w wr/\∀j x,j<i->q[j]? =some x->r.touch x=false)) (fun s _=>q.length-(gu s).toNat)
 case atStart=>exact⟨0,eE _,rfl,Below.refl _ _,fun j c k=>by omega⟩
 case round=>
  obtain⟨i,H,rfl,hR⟩:=hrel
  by_cases E:i<q.length
  ·have A:(i:Int)<(q.length:Int):=ak;obtain⟨x,b⟩:∃x,q[i]? =some x:=⟨q[i],dN E⟩;have z:gX wr (.slice a q.length u) q:=vq m.out.1 hR.out.1;obtain⟨g,rfl,K,L,M,N,O,P,Q,R,S,T⟩:=z.at b
   have d:Hid (Calls prog 241 #[.agg (aC r),.agg (aC x)] wr fun e l=>e=.returned (.bool (r.touch x))/\aB w l):=by refine(Tg r x wr m.out.2.1 (m.out.2.2 x (iG b))).mono ?_;rintro e l ⟨rfl,D⟩;exact⟨rfl,hR.out.1.trans (D.mono hR.out.1.size)⟩
   clear z;cases f:r.touch x with
   |true=>
    have n:q.any (r.touch ·)=true:=qM.2 ⟨x,iG b,f⟩;rw[f]at d;go_wp2_with (go_at_call 241;refine d.out.mono ?_;rintro e F ⟨rfl,o⟩);go_ret;exact⟨o,(i:Int),rfl,by rw[<-t.out,n];simp⟩
   |false=>
    rw[f]at d;go_wp2_with (go_at_call 241;refine d.out.mono ?_;rintro e F ⟨rfl,o⟩);refine⟨⟨i+1,ak,by go_num,o,fun j c k p=>?_⟩,?_⟩
    ·by_cases e:j=i
     ·subst e;rw[b]at p;cases p;exact f
     ·exact hR.out.2 j c ak p
    ·simp[gu];omega
  ·have A:¬(i:Int)<(q.length:Int):=ak
   have n:q.any (r.touch ·)=false:=by rw[Gb];intro x b;obtain⟨j,k⟩:=sj.1 b;have I:j<q.length:=(ed.1 k).1;rw[hR.out.2 j x ak k];simp
   go_wp2;go_ret;exact⟨hR.out.1,-1,rfl,by rw[<-t.out,n];rfl⟩
theorem Xd(v q r w)(h:gX w v q)(hr:r.Ok)(f:∀x∈q,x.Ok)(d:q.length<=1048576):
  bz 267 #[v,KU r] w (.bool (q.any (r.touch ·))):=by
 generalize a:q.any (r.touch ·)=B;go_enter func267,ntmps267;go_wp2_with (go_at_call 282;refine(aL (a▸j7 v q r w h hr f d)).out.mono ?_;rintro e g ⟨b,i,rfl,c⟩);go_ret;exact⟨by rw[<-c];rfl,b⟩
structure Ft where
 delay:Int
 cM:Bool
 part:Int
abbrev AP(c:Nat)(rv:au)(f:Ft)(due a:Int):Array au:=#[jp c,rv,aj f.delay,.bool f.cM,aj f.part,aj due,aj a]
structure dU(W:an)(j c:Nat)(rv:au)(q:List Rq)(f:Ft)(due order:Int):Prop where
 box:W.heap[j]? =some (.cells (AP c rv f due order) 217 (0,0))
 row:gX W rv q
theorem dU.key{W j c rv q f due order}(h:dU W j c rv q f due order):kY W j (due,order):=⟨av h.box rfl,av h.box rfl⟩
theorem dU.below{w w' j c rv q f due order}(h:dU w j c rv q f due order)(a:aB w w'):dU w' j c rv q f due order:=⟨bD a h.box,vq h.row a⟩
theorem dU.drewN{w j c rv q f due order}(h:dU w j c rv q f due order)(d):dU (w.drewN d) j c rv q f due order:=⟨h.box,h.row⟩
theorem n9(j c rv q)(f:Ft)(due order now w)(h:dU w j c rv q f due order):
  fE 104 #[jp j,aj now] w (.bool (decide (due<=now))):=by
 have a:=aE w j 5 (aj due) h.box;go_enter func104,ntmps104;go_wp2;go_ret;exact⟨rfl,rfl⟩
theorem y7(j c rv q)(f:Ft)(due order r w)(h:dU w j c rv q f due order)(hr:r.Ok)(p:∀x∈q,x.Ok)(u:q.length<=1048576):
  bz 240 #[jp j,.agg (aC r)] w (.bool (q.any (r.touch ·))):=by
 have b:aB w (w.alloc (.cells (aC r) 134)):=aR;have i:(w.alloc (.cells (aC r) 134)).heap[w.heap.size]? =some (.cells (aC r) 134 (0,0)):=bW w _;have g:Hid (∀W,aB (w.alloc (.cells (aC r) 134)) W->W.cell? (aa j 1)=some rv/\bQ W w.heap.size r):=fun W n=>⟨av (bD n (bD b h.box)) rfl,bQ.of (bD n i)⟩;have z:=g.out _ (Below.refl _ _);generalize l:q.any (r.touch ·)=B
 have t:Hid (∀k,Calls prog 267 #[rv,KU r] ((w.alloc (.cells (aC r) 134)).drewN k) fun e s=>e=.returned (.bool B)/\aB (w.alloc (.cells (aC r) 134)) s):=fun k=>by rw[<-l];refine(Xd rv q r _ ((h.below b).drewN k).row hr p u).mono ?_;rintro e s ⟨rfl,a⟩;exact⟨rfl,a.os,a.tape,a.output,a.size,a.block⟩
 have d:=aL b;obtain⟨v,y,rfl,_⟩:=h.row.form;clear h hr p i b l;go_enter func240,ntmps240
 go_upto_region 1 with fail
 refine dR (S:=fun W=>W.cell? (aa j 1)=some (.slice v q.length y)/\bQ W w.heap.size r) z fun C=>?_;refine tk 0 ?_;refine tk 1 ?_;refine tk 2 ?_;refine tk 3 ?_;refine tk 4 ?_;refine tk 5 ?_;refine rH 6 fun K m=>?_;go_simp;go_at_call 267;refine(t.out 1).mono ?_;rintro e D ⟨rfl,o⟩;refine m.out _ _ (g.out _ o) (fun A=>?_);clear m K;refine tk 7 ?_;refine cK ?_;go_wp2;go_ret;exact⟨rfl,d.out.trans (o.mono d.out.size)⟩
theorem gN{W:an}{a b o x:Nat}{u v:au}(h:W.drew.cell? (aa a o)=some v)(c:a≠b):(W.setCell (aa b x) u).drew.cell? (aa a o)=some v:=by exact eZ h c
theorem dU.drew{w j c rv q f due order}(h:dU w j c rv q f due order):dU w.drew j c rv q f due order:=⟨h.box,h.row⟩
theorem aG.drew{X w W}(h:aG X w W):aG X w W.drew:=⟨h.os,h.size,h.block⟩
abbrev dI(f:Ft):Array au:=#[aj f.delay,.bool f.cM,aj f.part]
theorem ady(j c rv q)(f0 f:Ft)(Oc Ri l order w)(h:dU w j c rv q f0 Oc Ri)(h0:0<=l)(L:l<=281474976710656)(y:0<=f.delay)(z:f.delay<=65535):
  Calls prog 210 #[jp j,aj l,aj order,.agg (dI f)] w fun e A=>e=.returned (.tuple #[])/\dU A j c rv q f (l+f.delay) order/\aG (·=j) w A:=by
 obtain⟨a,d,part⟩:=f;dsimp only at y z;have r:aB w (w.alloc (.cells (dI ⟨a,d,part⟩) 188)):=aR;have n:(w.alloc (.cells (dI ⟨a,d,part⟩) 188)).heap[w.heap.size]? =some (.cells (dI ⟨a,d,part⟩) 188 (0,0)):=bW w _;have hj:j<w.heap.size:=(aP.1 h.box).1;have m:=bD r h.box;have s:(w.alloc (.cells (dI ⟨a,d,part⟩) 188)).cell? (aa w.heap.size 0)=some (aj a)/\(w.alloc (.cells (dI ⟨a,d,part⟩) 188)).cell? (aa w.heap.size 1)=some (.bool d)/\(w.alloc (.cells (dI ⟨a,d,part⟩) 188)).cell? (aa w.heap.size 2)=some (aj part):=⟨av n rfl,av n rfl,av n rfl⟩;have i:w.heap.size≠j:=ak;have Q:=aE (w.alloc (.cells (dI ⟨a,d,part⟩) 188)) j 2 (aj f0.delay) m;have R:=aE (w.alloc (.cells (dI ⟨a,d,part⟩) 188)) j 3 (.bool f0.cM) m;have T:=aE (w.alloc (.cells (dI ⟨a,d,part⟩) 188)) j 4 (aj f0.part) m;have U:=aE (w.alloc (.cells (dI ⟨a,d,part⟩) 188)) j 5 (aj Oc) m;have V:=aE (w.alloc (.cells (dI ⟨a,d,part⟩) 188)) j 6 (aj Ri) m;have X:∀k,(w.alloc (.cells (dI ⟨a,d,part⟩) 188)).frozen? (aa j k)=false:=fun k=>aS m k
 have x:Hid (dU ((((((w.alloc (.cells (dI ⟨a,d,part⟩) 188)).setCell (aa j 2) (aj a)).setCell (aa j 3) (.bool d)).setCell (aa j 4) (aj part)).setCell (aa j 5) (aj (gU.wrap (l+a)))).setCell (aa j 6) (aj order)) j c rv q ⟨a,d,part⟩ (gU.wrap (l+a)) order/\aG (·=j) w ((((((w.alloc (.cells (dI ⟨a,d,part⟩) 188)).setCell (aa j 2) (aj a)).setCell (aa j 3) (.bool d)).setCell (aa j 4) (aj part)).setCell (aa j 5) (aj (gU.wrap (l+a)))).setCell (aa j 6) (aj order))):=by
  have F:=bV m 2 (aj a);have G:=bV F 3 (.bool d);have H:=bV G 4 (aj part);have I:=bV H 5 (aj (gU.wrap (l+a)));have J:=bV I 6 (aj order);have off:∀b,b≠j->((((((w.alloc (.cells (dI ⟨a,d,part⟩) 188)).setCell (aa j 2) (aj a)).setCell (aa j 3) (.bool d)).setCell (aa j 4) (aj part)).setCell (aa j 5) (aj (gU.wrap (l+a)))).setCell (aa j 6) (aj order)).heap[b]? =(w.alloc (.cells (dI ⟨a,d,part⟩) 188)).heap[b]? :=fun b p=>(bH p).trans ((bH p).trans ((bH p).trans ((bH p).trans (bH p))));refine⟨⟨J,(h.below r).row.1,?_⟩,⟨r.os,aq,fun b p M=>(off b M).trans (r.block b p)⟩⟩;rcases(h.below r).row.2 with u|⟨g,C,E,u,N,v,O⟩
  ·exact .inl u
  ·refine .inr ⟨g,C,E,u,N,(off g fun e=>?_).trans v,O⟩;rw[e,m]at v;cases v
 have B:Hid (gU.wrap (l+a)=l+a):=(by rw[IntKind.wrap_i64];omega:gU.wrap (l+a)=l+a);clear h r n m h0 L y z;go_enter func210,ntmps210
 go_upto_region 1 with fail
 generalize w.alloc (.cells (dI ⟨a,d,part⟩) 188)=P at*;refine dR (S:=fun W=>W.cell? (aa w.heap.size 0)=some (aj a)/\W.cell? (aa w.heap.size 1)=some (.bool d)/\W.cell? (aa w.heap.size 2)=some (aj part)) s fun Z=>?_;refine tk 0 ?_;refine tk 1 ?_;refine tk 2 ?_;refine tk 3 ?_;refine tk 4 ?_;refine tk 5 ?_;refine tk 6 ?_;refine tk 7 ?_;generalize gU.wrap (l+a)=D at*;refine tk 8 ?_;refine tk 9 ?_;refine tk 10 ?_;refine rH 11 fun K o=>?_;go_simp;refine o.out _ _ ⟨gN (gN (gN s.1 i) i) i,gN (gN (gN s.2.1 i) i) i,gN (gN (gN s.2.2 i) i) i⟩ (fun n=>?_);clear o K;refine tk 12 ?_;refine tk 13 ?_;refine rH 14 fun K o=>?_;go_simp;refine o.out _ _ ⟨gN n.1 i,gN n.2.1 i,gN n.2.2 i⟩ (fun t=>?_);clear o K;refine tk 15 ?_;refine tk 16 ?_;refine rH 17 fun K o=>?_;go_simp;refine o.out _ _ ⟨gN t.1 i,gN t.2.1 i,gN t.2.2 i⟩ (fun Y=>?_);clear o K;refine cK ?_;go_wp2;have e:=B.out;subst e;exact dZ rfl rfl ⟨rfl,x.out.1.drew,x.out.2.drew⟩
abbrev clG(no wt sz cl e b d rt a f c:Int)(rb:Nat)(s:ByteArray)(q:au)(aZ prom:Int)(out:au)(tok de sv:Int)(ch:Nat):Array au:=
 #[aj no,aj wt,aj sz,aj cl,aj e,aj b,aj d,aj rt,aj a,aj f,aj c,aF rb,.string s,q,aj aZ,aj prom,out,aj tok,aj de,aj sv,.chan (some ch)]
theorem OG(c cap a w)(h:w.cell? (aa c 13)=some (.slice a 0 cap)):
  bz 78 #[jp c] w (.tuple #[Z4,.bool false]):=by
 have b:=gM h;go_enter func78,ntmps78;go_wp2;refine fX (by simp[results,results78,go_sem]) rfl ⟨rfl,?_⟩
 repeat (refine Below.setCell ?_ (aV _) _)
 exact aR
theorem Ij(c v r q w)(h:w.cell? (aa c 13)=some v)(b:gX w v (r::q)):
  bz 78 #[jp c] w (.tuple #[.agg (aC r),.bool true]):=by
 have C:=gM h;obtain⟨a,B,rfl,_⟩:=b.form;obtain⟨g,rfl,d,l,m,n,o,p,s,t,u,x⟩:=b.at (i:=0) rfl;simp at d l m n o p s t u x;have D:g<w.heap.size:=gM d;have E:(((r::q).length:Int)==0)=false:=by simp only[eD,sG,ne_eq];omega
 have F:(0:Int)<((r::q).length:Int):=by simp only[eD];omega
 generalize (r::q).length=L at*;obtain⟨⟨A,z,y,k,e,of,ln,f,j⟩,no⟩:=r;clear b;go_enter func78,ntmps78;go_wp2;refine fX (v:=.tuple #[.agg (aC ⟨⟨A,z,y,k,e,of,ln,f,j⟩,no⟩),.bool true]) (by simp[results,results78,go_sem]) rfl ⟨rfl,?_⟩
 repeat (refine Below.setCell ?_ (aV _) _)
 exact aR
theorem IC(c:Nat)(w:an)(b:Option Addr)(n cap:Nat)(k prom a:Int)(j:n<=4194304)(i:0<=k/\k<=131072)(l:0<=prom/\prom<=4194304)(h:w.cell? (aa c 16)=some (.slice b n cap))(f:w.cell? (aa c 15)=some (aj prom))(g:w.cell? (aa c 10)=some (aj a)):
  Calls prog 225 #[jp c,aj k] w fun e d=>e=.returned (.bool (decide ((n:Int)+prom+k<=a)))/\∃m,d=w.drewN m:=by
 go_enter func225,ntmps225;go_wp2
 go_quiet (fail)
 go_wp2;go_ret;exact⟨rfl,_,rfl⟩
theorem NA(c r de w)(h:w.cell? (aa c 18)=some (aj de)):
  bz 168 #[jp c,.agg (aC r)] w (.bool (decide (cJ r.m<=de))):=by
 have q:c<w.heap.size:=gM h;have d:aB w (w.alloc (.cells (aC r) 134)):=aR;have i:(w.alloc (.cells (aC r) 134)).heap[w.heap.size]? =some (.cells (aC r) 134 (0,0)):=bW w _
 have g:Hid (∀W,aB (w.alloc (.cells (aC r) 134)) W->W.cell? (aa c 18)=some (aj de)/\bQ W w.heap.size r):=fun W l=>
  ⟨(fC (a:=aa c 18) ((l.block c bK).trans (d.block c q))).trans h,bQ.of (bD l i)⟩
 have s:=g.out _ (Below.refl _ _);have f:=aL d
 have p:Hid (∀k,Calls prog 206 #[.agg (aC r)] ((w.alloc (.cells (aC r) 134)).drewN k) fun e o=>e=.returned (aj (cJ r.m))/\aB (w.alloc (.cells (aC r) 134)) o):=fun k=>by refine(Rx r _).mono ?_;rintro e o ⟨rfl,b⟩;exact⟨rfl,b.os,b.tape,b.output,b.size,b.block⟩
 clear d i;generalize cJ r.m=t at*;go_enter func168,ntmps168
 go_upto_region 1 with fail
 refine dR (S:=fun W=>W.cell? (aa c 18)=some (aj de)/\bQ W w.heap.size r) s fun v=>?_;refine tk 0 ?_;refine tk 2 ?_;refine tk 3 ?_;refine tk 4 ?_;refine tk 5 ?_;refine rH 1 fun K j=>?_;go_simp;go_at_call 206;refine(p.out 1).mono ?_;rintro e x ⟨rfl,n⟩;refine j.out _ _ (g.out _ n) (fun u=>?_);clear j K;refine tk 6 ?_;refine tk 7 ?_;refine cK ?_;go_wp2;go_ret;exact⟨rfl,f.out.trans (n.mono f.out.size)⟩
theorem Below.drew'{B w W}(h:Below B w W):Below B w W.drew:=⟨h.os,h.tape,h.output,h.size,h.block⟩
theorem cC{B w W}(h:Below B w W)(k v):Below B w (W.setCell (aa B k) v):=Below.setCell h (aV _) _
theorem Dd{B w W}(h:Below B w W)(v0 v1 v2 v3 v4 v5 v6 v7 v8 v9):Below B w ((((((((((W.setCell (aa B 0) v0).setCell (aa B 1) v1).setCell (aa B 2) v2).setCell (aa B 3) v3).setCell (aa B 4) v4).setCell (aa B 5) v5).setCell (aa B 6) v6).setCell (aa B 7) v7).setCell (aa B 8) v8).setCell (aa B 9) v9).drew:=
 Below.drew' (cC (cC (cC (cC (cC (cC (cC (cC (cC (cC h _ _) _ _) _ _) _ _) _ _) _ _) _ _) _ _) _ _) _ _)
abbrev jL:Array au:=#[aj 0,.string ⟨#[]⟩,aj 0,aj 0,aj 0,aj 0,aj 0,.string ⟨#[]⟩,aj 0,aj 0]
abbrev jW(W:an)(b:Nat):Prop:=W.heap[b]? =some (.cells jL 134 (0,0))
theorem Y1(c v r q tok w)(h:w.cell? (aa c 13)=some v)(D:gX w v (r::q))(E:w.cell? (aa c 17)=some (aj tok))(h0:¬0<tok):
  bz 204 #[jp c] w (.tuple #[.agg (aC r),.bool false]):=by
 have C:c<w.heap.size:=gM h;have s:aB w (w.alloc (.cells jL 134)):=aR;have B:jW (w.alloc (.cells jL 134)) w.heap.size:=bW w _
 have R:Hid (Calls prog 78 #[jp c] (w.alloc (.cells jL 134)) fun e u=>e=.returned (.tuple #[.agg (aC r),.bool true])/\aB w u/\jW u w.heap.size/\w.heap.size<u.heap.size):=by refine(Ij c v r q _ ((fC (a:=aa c 13) (s.block c C)).trans h) (vq D s)).mono ?_;rintro e u ⟨rfl,z⟩;exact⟨rfl,s.trans (z.mono s.size),bD z B,by have:=z.size;simp at this;omega⟩
 have T:Hid (∀W,aB w W->W.cell? (aa c 17)=some (aj tok)):=fun W X=>(fC (a:=aa c 17) (X.block c C)).trans E;obtain⟨⟨p,n,m,l,g,of,ln,i,j⟩,no⟩:=r;clear h D E s B;go_enter func204,ntmps204
 go_upto_region 2 with(go_at_call 78;refine R.out.mono ?_;rintro e o ⟨rfl,A,F,aO⟩)
 have y:aB o (o.alloc (.cells (aC ⟨⟨p,n,m,l,g,of,ln,i,j⟩,no⟩) 134)):=aR;have t:(o.alloc (.cells (aC ⟨⟨p,n,m,l,g,of,ln,i,j⟩,no⟩) 134)).heap[o.heap.size]? =some (.cells (aC ⟨⟨p,n,m,l,g,of,ln,i,j⟩,no⟩) 134 (0,0)):=bW o _;have x:=aL (A.trans (y.mono A.size));have s0:(o.alloc (.cells (aC ⟨⟨p,n,m,l,g,of,ln,i,j⟩,no⟩) 134)).cell? (aa c 17)=some (aj tok)/\bQ (o.alloc (.cells (aC ⟨⟨p,n,m,l,g,of,ln,i,j⟩,no⟩) 134)) o.heap.size ⟨⟨p,n,m,l,g,of,ln,i,j⟩,no⟩:=⟨T.out _ x.out,bQ.of t⟩;have d:jW (o.alloc (.cells (aC ⟨⟨p,n,m,l,g,of,ln,i,j⟩,no⟩) 134)) w.heap.size:=bD y F;clear y t F A;generalize o.alloc (.cells (aC ⟨⟨p,n,m,l,g,of,ln,i,j⟩,no⟩) 134)=f at*;have G:=aE f w.heap.size 0 (aj 0) d;have H:=aE f w.heap.size 1 (.string ⟨#[]⟩) d;have I:=aE f w.heap.size 2 (aj 0) d;have J:=aE f w.heap.size 3 (aj 0) d;have L:=aE f w.heap.size 4 (aj 0) d;have M:=aE f w.heap.size 5 (aj 0) d;have N:=aE f w.heap.size 6 (aj 0) d;have O:=aE f w.heap.size 7 (.string ⟨#[]⟩) d;have P:=aE f w.heap.size 8 (aj 0) d;have Q:=aE f w.heap.size 9 (aj 0) d;have fz:∀k,f.frozen? (aa w.heap.size k)=false:=fun k=>aS d k;refine dR (S:=fun _=>True) trivial fun aI=>?_;obtain⟨aQ,Y,m1,m2,Z,m4,m5,m6,m7,m8,m9⟩:=s0;dsimp only at Y m1 m2 Z m4 m5 m6 m7 m8 m9;clear d;have aG:decide (0<tok)=false:=ij ak;refine tk 1 ?_;refine tk 2 ?_;refine tk 3 ?_;refine tk 4 ?_;refine tk 5 ?_;refine aH [0,6] (.cons rfl (fun K b=>?_) ?_)
 ·go_simp;refine b.out _ _ trivial (fun U=>?_);clear b K;refine rH 6 fun K b=>?_;go_simp;refine b.out _ _ trivial (fun t=>?_);clear b K;refine tk 7 ?_;refine tk 8 ?_;refine tk 9 ?_;refine aY 10 ?_;refine aY 11 ?_;refine aY 12 ?_;refine aY 13 ?_;refine aY 14 ?_;refine tk 15 ?_;refine rH 16 fun K b=>?_;go_simp;refine b.out _ _ trivial (fun V=>?_);clear b K;refine tk 17 ?_;refine cK ?_;go_wp2;refine fX (v:=.tuple #[.agg (aC ⟨⟨p,n,m,l,g,of,ln,i,j⟩,no⟩),.bool false]) (by simp[results,results204,go_sem,G,H,I,J,L,M,N,O,P,Q]) rfl ⟨rfl,?_⟩;exact Dd x.out _ _ _ _ _ _ _ _ _ _
 refine .cons rfl (fun K b=>?_) .nil;go_simp;refine b.out _ _ trivial (fun U=>?_);clear b K;refine tk 7 ?_;refine tk 8 ?_;refine tk 9 ?_;refine aY 10 ?_;refine aY 11 ?_;refine aY 12 ?_;refine aY 13 ?_;refine aY 14 ?_;refine tk 15 ?_;refine rH 0 fun K b=>?_;go_simp;refine b.out _ _ trivial (fun t=>?_);clear b K;refine rH 16 fun K b=>?_;go_simp;refine b.out _ _ trivial (fun V=>?_);clear b K;refine tk 17 ?_;refine cK ?_;go_wp2;refine fX (v:=.tuple #[.agg (aC ⟨⟨p,n,m,l,g,of,ln,i,j⟩,no⟩),.bool false]) (by simp[results,results204,go_sem,G,H,I,J,L,M,N,O,P,Q]) rfl ⟨rfl,?_⟩;exact Dd x.out _ _ _ _ _ _ _ _ _ _
theorem Wm{B w W}(h:Below B w W)(v0 v1 v2 v3 v4 v5 v6 v7 v8 v9 m):Below B w (((((((((((W.setCell (aa B 0) v0).setCell (aa B 1) v1).setCell (aa B 2) v2).setCell (aa B 3) v3).setCell (aa B 4) v4).setCell (aa B 5) v5).setCell (aa B 6) v6).setCell (aa B 7) v7).setCell (aa B 8) v8).setCell (aa B 9) v9).drewN m):=
 below_drewN (cC (cC (cC (cC (cC (cC (cC (cC (cC (cC h _ _) _ _) _ _) _ _) _ _) _ _) _ _) _ _) _ _) _ _) _
abbrev nM(W:an)(c:Nat)(tok:Int)(b:Nat)(r:Rq):Prop:=W.cell? (aa c 17)=some (aj tok)/\bQ W b r
theorem nM.old{W W' c b tok r}(h:nM W c tok b r)(q:aB W W'):nM W' c tok b r:=by have e:∀{a k:Nat} {v:au},W.cell? (aa a k)=some v->W'.cell? (aa a k)=some v:=fun{a k v} d=>(fC (q.block a (gM d))).trans d;obtain⟨p,f,a1,g,a3,i,j,l,m,n,o⟩:=h;exact⟨e p,e f,e a1,e g,e a3,e i,e j,e l,e m,e n,e o⟩
theorem nM.put{W c b B tok r}(h:nM W c tok b r)(hc:c≠B)(a:b≠B)(k v):nM (W.setCell (aa B k) v) c tok b r:=by obtain⟨n,d,a1,e,a3,f,g,i,j,l,m⟩:=h;exact⟨eZ n hc,eZ d a,eZ a1 a,eZ e a,eZ a3 a,eZ f a,eZ g a,eZ i a,eZ j a,eZ l a,eZ m a⟩
theorem nM.drewN{W c b tok r}(h:nM W c tok b r)(m):nM (W.drewN m) c tok b r:=h
theorem Y2(c n cap oa prom E v r q tok w)(h:w.cell? (aa c 13)=some v)(R:gX w v (r::q))(T:w.cell? (aa c 17)=some (aj tok))(h0:0<tok)(hr:r.Ok)(hn:n<=4194304)(hp:0<=prom/\prom<=4194304)(O:w.cell? (aa c 16)=some (.slice oa n cap))(Q:w.cell? (aa c 15)=some (aj prom))(P:w.cell? (aa c 10)=some (aj E)):
  bz 204 #[jp c] w (.tuple #[.agg (aC r),.bool (decide ((n:Int)+prom+sizeOf' r.m<=E))]):=by
 have L:c<w.heap.size:=gM h;have D:aB w (w.alloc (.cells jL 134)):=aR;have N:jW (w.alloc (.cells jL 134)) w.heap.size:=bW w _
 have Z:Hid (Calls prog 78 #[jp c] (w.alloc (.cells jL 134)) fun e B=>e=.returned (.tuple #[.agg (aC r),.bool true])/\aB w B/\jW B w.heap.size/\w.heap.size<B.heap.size):=by refine(Ij c v r q _ ((fC (a:=aa c 13) (D.block c L)).trans h) (vq R D)).mono ?_;rintro e B ⟨rfl,I⟩;exact⟨rfl,D.trans (I.mono D.size),bD I N,by have:=I.size;simp at this;omega⟩
 have HT:Hid (∀W,aB w W->W.cell? (aa c 17)=some (aj tok)):=fun W z=>(fC (a:=aa c 17) (z.block c L)).trans T
 have HM:Hid (∀W,aB w W->(bz 201 #[.agg (ji r.m.wh r.m.nm r.m.kd r.m.fl r.m.ck r.m.of r.m.ln r.m.dt r.m.er)] W (aj (sizeOf' r.m)))/\Calls prog 225 #[jp c,aj (sizeOf' r.m)] W fun e B=>e=.returned (.bool (decide ((n:Int)+prom+sizeOf' r.m<=E)))/\∃m,B=W.drewN m):=fun W z=>by
  have old:∀(k:Nat) (x:au),w.cell? (aa c k)=some x->W.cell? (aa c k)=some x:=fun k x hx=>(fC (a:=aa c k) (z.block c L)).trans hx
  have hs:0<=sizeOf' r.m/\sizeOf' r.m<=131072:=by have h1:=hr.lR;have h2:=hr.pG;unfold sizeOf';split<;>omega
  exact⟨EJ r.m W hr.lR hr.pG,IC c W oa n cap _ prom E hn hs hp (old _ _ O) (old _ _ Q) (old _ _ P)⟩
 generalize sizeOf' r.m=sm at*;generalize decide ((n:Int)+prom+sm<=E)=ok at*;obtain⟨⟨t,s,p,j,f,of,ln,g,i⟩,no⟩:=r;clear h R T D N O Q P hr;go_enter func204,ntmps204
 go_upto_region 2 with(go_at_call 78;refine Z.out.mono ?_;rintro e b ⟨rfl,J,U,bq⟩)
 have G:aB b (b.alloc (.cells (aC ⟨⟨t,s,p,j,f,of,ln,g,i⟩,no⟩) 134)):=aR;have H:(b.alloc (.cells (aC ⟨⟨t,s,p,j,f,of,ln,g,i⟩,no⟩) 134)).heap[b.heap.size]? =some (.cells (aC ⟨⟨t,s,p,j,f,of,ln,g,i⟩,no⟩) 134 (0,0)):=bW b _;have y:=aL (J.trans (G.mono J.size));have X:nM (b.alloc (.cells (aC ⟨⟨t,s,p,j,f,of,ln,g,i⟩,no⟩) 134)) c tok b.heap.size ⟨⟨t,s,p,j,f,of,ln,g,i⟩,no⟩:=⟨HT.out _ y.out,bQ.of H⟩;have V:jW (b.alloc (.cells (aC ⟨⟨t,s,p,j,f,of,ln,g,i⟩,no⟩) 134)) w.heap.size:=bD G U;clear G H U J;generalize b.alloc (.cells (aC ⟨⟨t,s,p,j,f,of,ln,g,i⟩,no⟩) 134)=M at*
 have F:Hid (∀W,aB M W->(W.cell? (aa w.heap.size 0)=some (aj 0)/\W.cell? (aa w.heap.size 1)=some (.string ⟨#[]⟩)/\W.cell? (aa w.heap.size 2)=some (aj 0)/\W.cell? (aa w.heap.size 3)=some (aj 0)/\W.cell? (aa w.heap.size 4)=some (aj 0)/\W.cell? (aa w.heap.size 5)=some (aj 0)/\W.cell? (aa w.heap.size 6)=some (aj 0)/\W.cell? (aa w.heap.size 7)=some (.string ⟨#[]⟩)/\W.cell? (aa w.heap.size 8)=some (aj 0)/\W.cell? (aa w.heap.size 9)=some (aj 0))/\(∀k,W.frozen? (aa w.heap.size k)=false)/\nM W c tok b.heap.size ⟨⟨t,s,p,j,f,of,ln,g,i⟩,no⟩):=fun W z=>by have d:=bD z V;exact⟨⟨av d rfl,av d rfl,av d rfl,av d rfl,av d rfl,av d rfl,av d rfl,av d rfl,av d rfl,av d rfl⟩,fun k=>aS d k,X.old z⟩
 have o:c≠w.heap.size:=ak;have l:b.heap.size≠w.heap.size:=ak;have bf:decide (0<tok)=true:=iY h0;clear V;refine dR (S:=fun W=>nM W c tok b.heap.size ⟨⟨t,s,p,j,f,of,ln,g,i⟩,no⟩) X fun bp=>?_;refine tk 0 ?_;refine tk 1 ?_;refine tk 2 ?_;refine tk 3 ?_;refine tk 4 ?_;refine tk 5 ?_;refine tk 6 ?_;refine tk 7 ?_;refine tk 8 ?_;refine tk 9 ?_;refine tk 10 ?_;refine tk 11 ?_;refine tk 12 ?_;refine rH 13 fun K u=>?_;go_simp;go_at_call 201;refine(HM.out _ (Below.drew' y.out)).1.mono ?_;rintro e w2 ⟨rfl,A⟩;have C:Hid (aB M w2):=⟨A.os,A.tape,A.output,A.size,A.block⟩;refine u.out _ _ (F.out _ C.out).2.2 (fun hA=>?_);clear u K A;refine rH 14 fun K u=>?_;go_simp;go_at_call 225;refine(HM.out _ (y.out.trans (C.out.mono y.out.size))).2.mono ?_;rintro e w3 ⟨rfl,m,rfl⟩;refine u.out _ _ ((F.out _ C.out).2.2.drewN m) (fun H=>?_);clear u K;obtain⟨⟨z0,z1,z2,z3,z4,z5,z6,z7,z8,z9⟩,fz,Y⟩:=F.out _ C.out;have af:=aL Y;clear Y;refine tk 15 ?_;refine rH 16 fun K u=>?_;go_simp;refine u.out _ _ (nM.drewN (((((((((((af.out.put o l _ _).put o l _ _).put o l _ _).put o l _ _).put o l _ _).put o l _ _).put o l _ _).put o l _ _).put o l _ _).put o l _ _)) m) (fun hC=>?_);clear u K;refine tk 17 ?_;refine cK ?_;go_wp2;refine fX (v:=.tuple #[.agg (aC ⟨⟨t,s,p,j,f,of,ln,g,i⟩,no⟩),.bool ok]) (by simp[results,results204,go_sem,z0,z1,z2,z3,z4,z5,z6,z7,z8,z9]) rfl ⟨rfl,?_⟩;exact Wm (y.out.trans (C.out.mono y.out.size)) _ _ _ _ _ _ _ _ _ _ m
end
end Go.Proofs.YtpobhljcainmdaaGreat
