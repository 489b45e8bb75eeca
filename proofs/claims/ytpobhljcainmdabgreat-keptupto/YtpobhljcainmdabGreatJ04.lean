/- Parts of the proof. -/
import Derived.Laws.OwnMore
import Derived.Lib.Builder
import Derived.Lib.Repeat
import Derived.Shelf.Strings.Repeat
import Derived.Test.YtpobhljcainmdabGreatJ03
set_option maxRecDepth 100000
set_option maxHeartbeats 8000000
set_option linter.all false
namespace Go.Proofs.YtpobhljcainmdabGreat
abbrev _root_.Go.StepsIn.t:=@Go.StepsIn.trans
open Go.Value renaming slice->ζ,string->ξ,pointer->π,bool->ω,tuple->θ,agg->ν,int->ι
open Go.World renaming putObj_heap_other->gq,cell?_of_block->iO,news_of_block->wu,size_alloc->zT
open Go renaming World->aq,Value->aB,run_takeDeferred->rU,bodyPost_ret->iB,below_drewN->jj,grownBy_putObj'->FM,execOp_congr->Cq,FuncId->aZ,Code->fu,info_parts->nG,results_none->zX,comesIn_wide->QS,maxLen->cP,TypeId->aY,Program->bM
open Go.Lib renaming byteCells->lR,IsBuilder->sU,BuilderAt->Fb,repeatL->BN,byteCells_length->w9
open Go.Fence renaming wide->ig
open _root_.List renaming range->dA,range_succ_eq_map->C5,takeWhile_cons->C7,replicate->rP,foldl_map->A8
open Go.CallsIn renaming inRound->rI
open Go.Value renaming slice->fM,ownBlock->lW,oneCell'->zS,pointer->Co
open Go.Calls renaming quiet_of_same->ur
open Go.IntKind renaming i64->cJ
open Go.RowKit renaming intOf->dw,wrap64->CE
open _root_.Classical renaming axiomOfChoice->Zy
open Go.Region renaming wanted->cY
open Go.Maps renaming keyOf_int_inv->D9
open _root_.Nat renaming lt_trichotomy->E7,reduceAdd->rS,reduceSub->FB,beq->vY
open Go.Frame renaming atR_of_none->ZN
open Go.Value.slice renaming injEq->G8
open Go.ComesIn renaming of_steps->ZC
open Go.WideElems renaming rd_key->G9,rd_val->H7
open Go.Ending renaming returned->JN
open Go.Instr renaming makeSlice->JY
open Go.Obj.cells renaming injEq->F4
open _root_.Array renaming replicate->oG
open Go.Machine renaming fenced->D7
open _root_.Prod renaming fst->KG
open Go.Addr.mk renaming injEq->Zm
open Go.Obj.map renaming injEq->F5
open Go.Code renaming wpIn->Qd,wp->JK
open Go.Exit renaming inBlock->ER
open Go.Value.pointer renaming injEq->xa
open Go renaming undef->y
open Go.Ending renaming returned->aG
open Go.Obj renaming cells->au
open _root_.Bool renaming false->aa,true->M
open _root_.Option renaming none->aj,some->Z
open _root_.Or renaming inl->aA,inr->az
attribute [local go_sem ↓] Go.wp_at_zero Go.wp_at_succ
attribute [local go_sem] cz cE
open Go.Conc Go.RowKit
open Go.Proofs.Tryz
structure Ck.CL(k:Ck):Prop where
 tok:0<=k.tok/\k.tok<=65535
 de:0<=k.de/\k.de<=1048576
 sv:0<=k.sv/\k.sv<=281474976710656
 bw:0<=k.bw/\k.bw<=1048576
 prom:0<=k.prom/\k.prom<=4194304
 q:∀r∈k.q,r.Ok
def Ck.CL.head{k:Ck}{r l}(h:k.CL)(a:k.q=r::l):r.Ok:=h.q r (by rw[a];simp)
def row_one{W:aq}{b T k:Nat}{xs:av aB}(h:W.heap[b]? =Z (au xs.toArray T (0,0)))(hl:xs.length=k):W.ownsRow 0 T k (ζ (Z<|F b 0) 1 1) 1 xs:=⟨by rw[hl];omega,az ⟨b,1,_,U,cO _,h,aR _,by unfold cP;omega,by simp[hl],j4⟩⟩
def aee(c rb mb ch q v g k r l w)(h:cg w c rb mb ch q v g k)(m:k.q=r::l)(hd:k.CL):
  Calls prog 201 #[jp c] w λe f=>∃j rv,e=aG (jp j)/\fA f j c rv [r] ⟨0,aa,0⟩ 0 0/\(∃d,cg f c rb mb ch d v g (k.bO r l)/\d.ownBlock=q.ownBlock)/\aS (λb=>b=c\/Z b=q.ownBlock) w f/\w.heap.size<=j/\∀b,rv.ownBlock=Z b->w.heap.size<=b:=by
 go_enter func201,ntmps201;go_wp2_with (go_at_call 239;apply(aX<|Ti c rb mb ch q v g k r l w h m (hd.head m) hd.tok hd.de hd.sv hd.bw hd.prom).m;rintro e a ⟨rfl,t⟩;have o:=aX t);go_ret
 let⟨d,p1,n,u⟩:=o
 have i:aK a ((a.alloc<|au (aU r) 205).alloc<|au (DD c (ζ (Z<|F a.heap.size 0) 1 1) ⟨0,aa,0⟩ 0 0) 231):=bq.alloc ay _;have s:=n.size;refine⟨a.heap.size+1,ζ (Z<|F a.heap.size 0) 1 1,U,⟨?_,?_⟩,⟨d,p1.old i,u⟩,n.t<|aS.below i,Y,λb e=>by cases e;exact s⟩;have:=heap_alloc_new (a.alloc<|au (aU r) 205) (au (DD c (ζ (Z<|F a.heap.size 0) 1 1) ⟨0,aa,0⟩ 0 0) 231)
 rwa [zT]at this
 exact row_one (xs:=(aU r).toList) ((Below.heap_alloc _ _ _ ay).t (heap_alloc_new a _)) U
def N7(j c rb mb ch rv q v g k rs r l)(f:Ft)(due order w)(s:fA w j c rv rs f due order)(h:cg w c rb mb ch q v g k)(R:k.q=r::l)(hd:k.CL)(hn:rs.length<=1048576)(L:∀b,rv.ownBlock=Z b->Z b≠q.ownBlock):
  Calls prog 203 #[jp j] w λe x=>e=aG (θ #[])/\(∃tV,fA x j c tV (rs++[r]) f due order/\(tV.ownBlock=rv.ownBlock\/∀b,tV.ownBlock=Z b->w.heap.size<=b))/\(∃d,cg x c rb mb ch d v g (k.bO r l)/\d.ownBlock=q.ownBlock)/\aS (λb=>b=c\/b=j\/Z b=q.ownBlock\/Z b=rv.ownBlock) w x:=by
 let⟨i1,aT,bn,bt,bu⟩:=nG Vv
 have HD:Hid (∀n,Calls prog 239 #[jp c] (w.drewN n) λe x=>e=aG (ν<|aU r)/\(∃d,cg x c rb mb ch d v g (k.bO r l)/\d.ownBlock=q.ownBlock)/\fA x j c rv rs f due order/\aS (λb=>b=c\/Z b=q.ownBlock) w x):=λn=>by
  apply(Ti c rb mb ch q v g k r l _ (h.drewN n) R (hd.head R) hd.tok hd.de hd.sv hd.bw hd.prom).m;rintro e x ⟨rfl,d,p1,D,E⟩;have O:aS (λb=>b=c\/Z b=q.ownBlock) w x:=⟨D.os,D.size,D.block⟩;have aW:Z j≠q.ownBlock:=λe=>by rcases h.p.row.2 with⟨rfl,_⟩|⟨C,cap,u,rfl,_,a,_⟩;cases e;cases e;exact fO s.box a ay rfl
  refine⟨U,⟨d,p1,E⟩,⟨ze O s.box ?_,eF s.row λb e=>O.block b (Be s.row e) ?_⟩,O⟩;rintro(e|e);exact fO s.box h.p.box ay e;exact aW e;rintro(e'|e');rcases s.row.2 with⟨rfl,_⟩|⟨C,cap,u,rfl,_,a,_⟩;cases e;cases e;exact fO a h.p.box ay e';exact L b e e'
 have c0:=aJ w j 0 (jp c) s.box;have c1:=aJ w j 1 rv s.box;have HJ:=aX ((fO s.box h.p.box ay:j≠c));have HQ:=aX h;have HA:=aX L;clear h hd s L;go_enter func203,ntmps203
 go_upto_region 0 with fail
 refine gY (S:=λW=>W.cell? (F j 0)=Z (jp c)/\W.cell? (F j 1)=Z rv) 14 ⟨c0,c1⟩ λhS=>?_;apply tg [0,1,2,3,4,5,6,7];apply tg [8];refine gr 9 λK m=>?_;go_simp;go_at_call 239;apply(HD 1).m;rintro e A ⟨rfl,⟨d,p1,D⟩,E,V⟩;refine m _ _ ⟨aD E.box U,aD E.box U⟩<|λUI=>?_;clear m K;have H:aK A (A.alloc<|au (aU r) 205):=bq;have i:=E.below H;have t:=p1.old H;have N6:=heap_alloc_new A (au (aU r) 205);refine gr 10 λK m=>?_;go_simp;refine m _ _ ⟨aD i.box U,aD i.box U⟩<|λbH=>?_;clear m K
 let⟨tV,w7,Hj,N,J,bl⟩:=LH (P:=prog) (A.alloc<|au (aU r) 205) 160 160 205 i1 _ 10 96 underlying160 aT bn bt bu U Y (Mo ⟨⟨0,⟨#[]⟩,0,0,0,0,0,⟨#[]⟩,0⟩,0⟩) rv rs.length _ i.row ⟨A.heap.size,0,aj⟩ 1 1 (aU r).toList U (wu N6) ack Y B5 Y
 obtain⟨ra,rc,rfl⟩:=gP N
 have bg:Z j≠rv.ownBlock:=λe=>by rcases i.row.2 with⟨rfl,_⟩|⟨C,cap,u,rfl,_,a,_⟩;cases e;cases e;exact fO i.box a ay rfl
 have B:=(J.block j (bf.1 i.box).1 bg).t i.box;refine gr 11 λK m=>?_;apply yU U U U U Hj;refine m _ _ ⟨aD B U,aD B U⟩<|λbJ=>?_;clear m K;apply tg [12,13];have x1:=aJ w7 j 1 rv B;have f1:=bp B 1;refine gz λK m=>?_;go_simp;apply m _ _;refine gl ?_;go_wp2;have bP:=V.size;have bN:=H.size;have G:aS (λb=>b=j\/Z b=rv.ownBlock) (A.alloc<|au (aU r) 205) (w7.setCell (F j 1)<|ζ ra (rs.length+1) rc):=⟨J.os,by simpa using J.size,λb hb T=>(bC λe=>T (aA e)).t (J.block b hb λe=>T (az e))⟩
 have bh:∀b,(fM ra (rs.length+1) rc).ownBlock=Z b->b≠j:=λb e e'=>by rcases N.2 with⟨z,_⟩|⟨C,cap,u,z,_,a,_⟩;cases z;cases z;cases e;exact fO a B ay e'
 have bk:d.ownBlock=q.ownBlock:=D;refine fC U U ⟨U,⟨_,⟨bG B 1 _,?_⟩,bl.at_.imp id λh b e=>?_⟩,⟨d,?_,D⟩,?_⟩;show kr _ _ (rs++[r]);unfold kr;rw[fQ,rL];simp;exact eF N λb e=>bC (bh b e);have:=h b e;omega
 have aN:∀b,d.ownBlock=Z b->¬(b=j\/Z b=rv.ownBlock):=λb e=>by rintro(e'|e');rcases t.p.row.2 with⟨rfl,_⟩|⟨C,cap,u,rfl,_,a,_⟩;cases e;cases e;exact fO a i.box ay e';exact HA.u b e'.y (by rw[<-bk,e])
 have key:∀b o,(A.alloc<|au (aU r) 205).heap[b]? =Z o->(∀u,o≠au u 205 (0,0))->o≠au (DD c rv f due order) 231 (0,0)->¬(b=j\/Z b=rv.ownBlock):=λb o Q h1 h2=>by rintro(e'|e');subst e';exact h2<|ey<|Q.y.t i.box;rcases i.row.2 with⟨z,_⟩|⟨C,cap,u,z,_,a,_⟩;rw[z]at e';cases e';rw[z]at e';cases e';exact h1 u<|ey<|Q.y.t a
 let⟨rp,X,r2⟩:=t.rd
 let⟨es,cl,r3,_⟩:=X.uses
 refine t.of (t.p.cy G (key c _ t.p.box ay ay) (key ch _ t.p.chan ay ay) aN λb e=>?_) (G.block rb t.eE.1<|key rb _ X.box ay ay) (G.block mb t.eE.2<|key mb _ r3 ay ay) U λ_=>U;rcases t.p.u.2 with⟨rfl,_⟩|⟨C,cap,u,rfl,_,a,_⟩;cases e;cases e;exact key _ _ a ay ay;refine((V.m λb _ h=>?_).t<|aS.below H).t<|G.m λb _ h=>?_;rcases h with h|h;exact aA h;exact az<|az<|aA h;rcases h with h|h;exact az<|aA h;exact az<|az<|az h
def tN(f l r:Rq)(a:Int):Bool:=(r.m.kd !=2)&&((r.m.kd==l.m.kd)&&((r.m.fl==l.m.fl)&&((r.m.of==l.m.of+l.m.ln)&&decide (r.m.of+r.m.ln-f.m.of<=a))))
abbrev du(a b c:Nat)(r f l:Rq)(W:aq):Prop:=dD W a r/\dD W b f/\dD W c l
def dD.old{W W' b r}(h:dD W b r)(a:aK W W'):dD W' b r:=by let⟨c,a1,d,a3,e,f,g,i,j,k⟩:=h;exact⟨bH a c,bH a a1,bH a d,bH a a3,bH a e,bH a f,bH a g,bH a i,bH a j,bH a k⟩
def du.old{b4 b7 b8 r f l W W'}(h:du b4 b7 b8 r f l W)(a:aK W W'):du b4 b7 b8 r f l W':=⟨h.1.old a,h.2.1.old a,h.2.2.old a⟩
def Gq{B w w' n}(h:aK (w.drewN n) w')(a:B<=w.heap.size):Below B w w':=⟨h.os,h.tape,h.output,h.size,λk b=>h.block k (cS b a)⟩
def PF(W x aqi):aK W ((W.alloc x).alloc aqi).drew:=(((Below.refl _ W).alloc (aR _) _).alloc ay _).drew
def Ez(W:aq)(x aqi):((W.alloc x).alloc aqi).drew.heap[W.heap.size]? =Z x:=(Below.heap_alloc _ _ _ ay).t (heap_alloc_new W _)
def Ey(W:aq)(x aqi):((W.alloc x).alloc aqi).drew.heap[W.heap.size+1]? =Z aqi:=by have:=heap_alloc_new (W.alloc x) aqi;rwa [zT]at this
abbrev dv(j:Nat)(rv:aB)(a n:Nat)(f l:Rq)(W:aq):Prop:=W.cell? (F j 1)=Z rv/\(W.cell? (F a 0)=Z (I f.m.wh)/\W.cell? (F a 1)=Z (ξ f.m.nm)/\W.cell? (F a 2)=Z (I f.m.kd)/\W.cell? (F a 3)=Z (I f.m.fl)/\W.cell? (F a 4)=Z (I f.m.ck)/\W.cell? (F a 5)=Z (I f.m.of)/\W.cell? (F a 6)=Z (I f.m.ln)/\W.cell? (F a 7)=Z (ξ f.m.dt)/\W.cell? (F a 8)=Z (I f.m.er)/\W.cell? (F a 9)=Z (I f.no))/\
 (W.cell? (F a (n*10))=Z (I l.m.wh)/\W.cell? (F a (n*10+1))=Z (ξ l.m.nm)/\W.cell? (F a (n*10+2))=Z (I l.m.kd)/\W.cell? (F a (n*10+3))=Z (I l.m.fl)/\W.cell? (F a (n*10+4))=Z (I l.m.ck)/\W.cell? (F a (n*10+5))=Z (I l.m.of)/\W.cell? (F a (n*10+6))=Z (I l.m.ln)/\W.cell? (F a (n*10+7))=Z (ξ l.m.dt)/\W.cell? (F a (n*10+8))=Z (I l.m.er)/\W.cell? (F a (n*10+9))=Z (I l.no))
def dv.cy{j gb n B rv f l W W'}(h:dv j rv gb n f l W)(d:aS (λb=>B<=b) W W')(k:j<B)(i:gb<B):dv j rv gb n f l W':=by have e:∀{a o:Nat} {v:aB},a<B->W.cell? (F a o)=Z v->W'.cell? (F a o)=Z v:=λ{a o v} g c=>(iO<|d.block a (jo c) Y).t c;grind
def abc(j c:Nat)(rv:aB)(i:av Rq)(f l r:Rq)(ft:Ft)(due bC Q:Int)(w:aq)(h:fA w j c rv i ft due bC)(hf:i[0]? =Z f)(hl:i[i.length-1]? =Z l)(hr:r.Ok)(aL:f.Ok)(aN:l.Ok)(bP:i.length<=1048576):
  bN 240 #[jp j,ν<|aU r,I Q] w (ω<|tN f l r Q):=by
 have bO:0<i.length:=(bY.1 hf).1;obtain⟨n,hn⟩:∃n,i.length=n+1:=⟨i.length-1,Y⟩;obtain⟨ra,rc,rfl,bA⟩:=h.row.form;obtain⟨g,rfl,u⟩:=h.row.at hf
 let⟨bJ,e,R⟩:=h.row.at hl
 cases e;have N:j<w.heap.size:=(bf.1 h.box).1;have H:g<w.heap.size:=jo u.1
 have S0:dv j (ζ (Z<|F g 0) i.length rc) g n f l w:=by rw[show i.length-1=n by omega]at R;simp at u;exact⟨aD h.box U,u,R⟩
 have C:aK w (w.alloc<|au (aU r) 205):=bq;have S1:=S0.cy (aS.below (X:=λb=>w.heap.size<=b) C) N H;have A4:(w.alloc<|au (aU r) 205).heap[w.heap.size]? =Z (au (aU r) 205 (0,0)):=heap_alloc_new w _;have k:Hid (dv j (ζ (Z<|F g 0) i.length rc) g n f l (w.alloc<|au (aU r) 205)/\(w.alloc<|au (aU r) 205).heap[w.heap.size]? =Z (au (aU r) 205 (0,0))/\aK w (w.alloc<|au (aU r) 205)):=⟨S1,A4,C⟩;obtain⟨V,G⟩:∃V,V=tN f l r Q:=⟨_,U⟩;rw[<-G];have t:=aX G;clear G;have o:Hid (r.Ok/\l.Ok/\f.Ok):=⟨hr,aN,aL⟩;have B:Hid (∀x:Rq,x.Ok->∀W,bN 253 #[ν<|aU x] W<|I<|x.m.of+x.m.ln):=λx hx W=>Oj x W hx;clear h u R hf hl hr aL aN S0 S1 A4 C;generalize i.length=L at*;subst hn;have bw:(n:Int)<=1048576:=Y;have bz:(n:Int)<(n:Int)+1:=Y;go_enter func240,ntmps240
 go_upto_region 1 with fail
 generalize w.alloc (au (aU r) 205)=d at*;have O:j<d.heap.size:=cS N k.2.2.size;have J:g<d.heap.size:=cS H k.2.2.size
 go_cut [4,7,8] (λp4 p7 p8 T=>∃v z,p4=aQ w.heap.size/\p7=aQ v/\p8=aQ z/\T.heap[v]? =Z (au (aU f) 205 (0,0))/\T.heap[z]? =Z (au (aU l) 205 (0,0))/\aK d T)
 case first=>
  refine ga (S:=dv j (ζ (Z<|F g 0) (n+1) rc) g n f l) k.1 λE=>?_;apply tl [0,1,2,3,4,5,6,7];apply tl [8,9,10,11,12,13,14,15];rw[show cJ.wrap ((n:Nat):Int)=(n:Int) from dI Y Y];apply tl [16,17];have q:Hid (∀x af,dv j (ζ (Z<|F g 0) (n+1) rc) g n f l (d.alloc x).drew/\dv j (ζ (Z<|F g 0) (n+1) rc) g n f l ((d.alloc x).alloc af).drew):=λx af=>⟨k.1.cy (aS.below (X:=λb=>d.heap.size<=b) ((Below.refl _ d).alloc (aR _) x).drew) O J,k.1.cy (aS.below (X:=λb=>d.heap.size<=b)<|PF d x af) O J⟩;refine aH [18,19]<|.cons U (λK a=>?_) ?_;·(skip);go_simp;refine a _ _ (q _<|au #[] 0).1 (λbn=>?_);clear a K;refine rH 19 λK a=>?_;go_simp;refine a _ _ (q _ _).2 (λDu=>?_);clear a K;refine rH 20 λK a=>?_;go_simp;refine a _ _ (q _ _).2 (λbp=>?_);clear a K;refine rH 21 λK a=>?_;go_simp;refine a _ _ (q _ _).2 (λbt=>?_);clear a K;refine dJ ?_;go_wp2_with fail;go_meet;case rel=>exact⟨d.heap.size,d.heap.size+1,U,U,U,Ez d _ _,Ey d _ _,PF d _ _⟩
  refine .cons U (λK a=>?_) .nil;go_simp;refine a _ _ (q _<|au #[] 0).1 (λbn=>?_);clear a K;refine rH 18 λK a=>?_;go_simp;refine a _ _ (q _ _).2 (λDu=>?_);clear a K;refine rH 20 λK a=>?_;go_simp;refine a _ _ (q _ _).2 (λbp=>?_);clear a K;refine rH 21 λK a=>?_;go_simp;refine a _ _ (q _ _).2 (λbt=>?_);clear a K;refine dJ ?_;go_wp2_with fail;go_meet;case rel=>exact⟨d.heap.size+1,d.heap.size,U,U,U,Ey d _ _,Ez d _ _,PF d _ _⟩
 case rest=>
  obtain⟨v,z,rfl,rfl,rfl,k7,k8,P⟩:=hcut;have k4:wc.heap[w.heap.size]? =Z (au (aU r) 205 (0,0)):=bT P k.2.1;have p:=aX (k.2.2.t<|P.m k.2.2.size);have S2:du w.heap.size v z r f l wc:=⟨dD.of k4,dD.of k7,dD.of k8⟩;have bk:r.m.of+r.m.ln-f.m.of<=131071∧-131071<=r.m.of+r.m.ln-f.m.of:=by have:=o.1.of0;have:=o.1.of1;have:=o.1.nh;have:=o.1.qU;have:=o.2.2.of0;have:=o.2.2.of1;omega
  clear k7 k8 P k4 k O J N H bA bw bz;have bh:Hid (cJ.wrap (r.m.of+r.m.ln-f.m.of)=r.m.of+r.m.ln-f.m.of):=dI Y Y;clear bk;go_upto_region 2 with fail;refine ga (S:=du w.heap.size v z r f l) S2 λE=>?_;rcases h1:(r.m.kd !=2)with _|_;·apply tl [0,1,2,3,4];apply tlz [5,6,7,8,9,10,11];apply tl [12,13];apply tlz [14,15,16,17,18,19,20];apply tl [21,22];apply tlz [23,24,25,26,27,28];apply tl [29,30];apply tlz [31,32,33,34,35,36,37,38];apply tl [39,40];refine dJ ?_;go_wp2;go_ret;exact⟨by rw[t];simp[tN,h1],p.t<|jj (Below.refl _ _) _⟩
  cases A:(r.m.kd==l.m.kd)with
  |false=>apply tl [0,1,2,3,4,5,6,7];apply tl [8,9,10,11,12,13];apply tlz [14,15,16,17,18,19,20];apply tl [21,22];apply tlz [23,24,25,26,27,28];apply tl [29,30];apply tlz [31,32,33,34,35,36,37,38];apply tl [39,40];refine dJ ?_;go_wp2;go_ret;exact⟨by rw[t];simp[tN,h1,A],p.t<|jj (Below.refl _ _) _⟩
  |true=>
   cases D:(r.m.fl==l.m.fl)with
   |false=>apply tl [0,1,2,3,4,5,6,7];apply tl [8,9,10,11,12,13,14,15];apply tl [16,17,18,19,20,21,22];apply tlz [23,24,25,26,27,28];apply tl [29,30];apply tlz [31,32,33,34,35,36,37,38];apply tl [39,40];refine dJ ?_;go_wp2;go_ret;exact⟨by rw[t];simp[tN,h1,A,D],p.t<|jj (Below.refl _ _) _⟩
   |true=>
    cases h4:(r.m.of==l.m.of+l.m.ln)with
    |false=>apply tl [0,1,2,3,4,5,6,7];apply tl [8,9,10,11,12,13,14,15];apply tl [16,17,18,19,20,21,22,23];apply tl [24,25,26];refine rH 27 λK a=>?_;go_simp;go_at_call 253;apply(B l o.2.1 _).m;rintro e bH ⟨rfl,s⟩;refine a _ _ (du.old E s)<|λaE=>?_;clear a K;apply tl [28,29,30];apply tlz [31,32,33,34,35,36,37,38];apply tl [39,40];refine dJ ?_;go_wp2;go_ret;exact⟨by rw[t];simp[tN,h1,A,D,h4],p.t<|Gq s p.size⟩
    |true=>apply tl [0,1,2,3,4,5,6,7];apply tl [8,9,10,11,12,13,14,15];apply tl [16,17,18,19,20,21,22,23];apply tl [24,25,26];refine rH 27 λK a=>?_;go_simp;go_at_call 253;apply(B l o.2.1 _).m;rintro e bH ⟨rfl,s⟩;refine a _ _ (du.old E s)<|λaE=>?_;clear a K;apply tl [28,29,30,31,33,34,35,37];refine rH 32 λK a=>?_;go_simp;go_at_call 253;apply(B r o.1 _).m;rintro e bQ ⟨rfl,aJ⟩;refine a _ _ (du.old aE aJ)<|λbL=>?_;clear a K;apply tl [36,38,39,40];refine dJ ?_;go_wp2;go_ret;refine⟨?_,p.t<|(Gq s p.size).t<|aJ.m<|cM p.size s.size⟩;rw[t,bh];simp[tN,h1,A,D,h4]
def Ck.fst(k:Ck):Rq:=match k.q with|[]=>⟨bh.zero,0⟩|r::_=>r
def Ck.eM(g:Cf)(k:Ck):Bool:=match k.q with|[]=>aa|r::_=>decide (0<k.tok)&&decide ((k.u.size:Int)+k.prom+sizeOf' r.m<=g.ou)
def Xn(c tok sm ok j r w)(hc:c<w.heap.size)(hF:∀W,aK w W->bN 132 #[jp c] W (θ #[ν<|aU r,ω j]))(z:w.cell? (F c 17)=Z (I tok))(u:j=M->∀W,aK w W->(bN 195 #[ν<|kE r.m.wh r.m.nm r.m.kd r.m.fl r.m.ck r.m.of r.m.ln r.m.dt r.m.er] W<|I sm)/\Calls prog 228 #[jp c,I sm] W λe i=>e=aG (ω ok)/\∃m,i=W.drewN m):
  bN 198 #[jp c] w (θ #[ν<|aU r,ω<|j&&(decide (0<tok)&&ok)]):=by
 have o:aK w (w.alloc<|au qp 205):=bq;have x:rZ (w.alloc<|au qp 205) w.heap.size:=heap_alloc_new w _
 have R:Hid (Calls prog 132 #[jp c] (w.alloc<|au qp 205) λe i=>e=aG (θ #[ν<|aU r,ω j])/\aK w i/\rZ i w.heap.size/\w.heap.size<i.heap.size):=by refine(hF _ o).m ?_;rintro e i ⟨rfl,q⟩;exact⟨U,o.t<|q.m o.size,bT q x,by have:=q.size;simp at this;omega⟩
 have T:Hid (∀W,aK w W->W.cell? (F c 17)=Z (I tok)):=λW p=>(iO (a:=F c 17)<|p.block c hc).t z;have HM:=Dv u;clear u z o x hF;go_enter func198,ntmps198
 go_upto_region 2 with(go_at_call 132;refine R.u.m ?_;rintro e g ⟨rfl,s,A,ak⟩)
 have bB:aK g (g.alloc<|au (aU r) 205):=bq;have d:=Dv (s.t<|bB.m s.size);have C:uO (g.alloc<|au (aU r) 205) c tok g.heap.size r:=⟨T.u _ d.u,dD.of<|heap_alloc_new g _⟩;have B:=bT bB A;clear bB A s;generalize g.alloc (au (aU r) 205)=t at*
 have n:Hid (∀W,aK t W->(W.cell? (F w.heap.size 0)=Z (I 0)/\W.cell? (F w.heap.size 1)=Z (ξ ⟨#[]⟩)/\W.cell? (F w.heap.size 2)=Z (I 0)/\W.cell? (F w.heap.size 3)=Z (I 0)/\W.cell? (F w.heap.size 4)=Z (I 0)/\W.cell? (F w.heap.size 5)=Z (I 0)/\W.cell? (F w.heap.size 6)=Z (I 0)/\W.cell? (F w.heap.size 7)=Z (ξ ⟨#[]⟩)/\W.cell? (F w.heap.size 8)=Z (I 0)/\W.cell? (F w.heap.size 9)=Z (I 0))/\(∀k,W.frozen? (F w.heap.size k)=aa)/\uO W c tok g.heap.size r):=λW p=>by have b:=bT p B;exact⟨⟨aD b U,aD b U,aD b U,aD b U,aD b U,aD b U,aD b U,aD b U,aD b U,aD b U⟩,λk=>bp b k,C.old p⟩
 clear B;cases j<;>cases X:decide (0<tok)
 all_goals
  refine gY (S:=λW=>uO W c tok g.heap.size r) 16 C λhS=>?_;apply tg [0,1,2,3,4,5,6,7];apply tg [8,9,10,11,12]
  first
  |(refine g0 13 ?_
    refine g0 14 ?_;obtain⟨⟨D,E,G,H,J,L,N,O,P,Q⟩,fz,_⟩:=n.u _<|Below.refl _ _)
  |(refine gr 13 λK f=>?_
    go_simp;go_at_call 195;refine(HM.u ay _<|Below.drew' d.u).1.m ?_;rintro e V ⟨rfl,h⟩;have l:Hid (aK t V):=⟨h.os,h.tape,h.output,h.size,h.block⟩
    replace d:=Dv (d.u.t<|l.u.m d.u.size)
    refine f.u _ _ (n.u _ l.u).2.2 (λhA=>?_);clear f K h;refine gr 14 λK f=>?_;go_simp;go_at_call 228;refine(HM.u ay _ d.u).2.m ?_;rintro e w3 ⟨rfl,m,rfl⟩;refine f.u _ _ ((n.u _ l.u).2.2.drewN m) (λhB=>?_);clear f K;obtain⟨⟨D,E,G,H,J,L,N,O,P,Q⟩,fz,_⟩:=n.u _ l.u)
  apply tg [15];refine gz λK f=>?_;go_simp;refine f.u _ _ ?_;clear f K;apply tg [17];refine gl ?_;go_wp2;refine iB (v:=θ #[ν<|aU r,ω _]) (by simp[results,results198,go_sem,D,E,G,H,J,L,N,O,P,Q];rfl) U ⟨ay,?_⟩
  first
  |exact Sf d.u _ _ _ _ _ _ _ _ _ _
  |exact(jj (eC (eC (eC (eC (eC (eC (eC (eC (eC (eC d.u _ _) _ _) _ _) _ _) _ _) _ _) _ _) _ _) _ _) _ _) _)
def Xl(c rb ch q v g k w)(h:cD w c rb ch q v g k)(n:∀r∈k.q,r.Ok)(j:k.u.size<=4194304)(l:0<=k.prom/\k.prom<=4194304):
  bN 198 #[jp c] w (θ #[ν<|aU k.fst,ω<|k.eM g]):=by
 obtain⟨s,t,rfl⟩:=gP h.u;have f:=(bf.1 h.box).1;have old:∀{W:aq} {k:Nat} {x:aB},aK w W->w.cell? (F c k)=Z x->W.cell? (F c k)=Z x:=λ{W k x} b p=>(iO<|b.block c f).t p;unfold Ck.fst Ck.eM;rcases hk:k.q with _|⟨r,rest⟩;refine Xn c k.tok 0 aa aa _ w f (λW b=>?_) (aD h.box U)<|λe=>(by cases e);obtain⟨a,cap,rfl,_⟩:=h.row.form;have:=aD (i:=13) h.box U;rw[hk]at this;exact TW c cap a W<|old b this;have hr:=h.row;rw[hk]at hr;have d:=n r (by rw[hk];simp)
 have o:0<=sizeOf' r.m/\sizeOf' r.m<=131072:=by have u:=d.nh;have z:=d.qU;unfold sizeOf';split<;>omega
 refine(Xn c k.tok (sizeOf' r.m) (decide<|(k.u.size:Int)+k.prom+sizeOf' r.m<=g.ou) M r w f (λW b=>TX c q r rest W (old b<|aD h.box U) (yX hr b)) (aD h.box U) λ_ W b=>⟨IF r.m W d.nh d.qU,ML c W s k.u.size t _ k.prom g.ou j o l (old b<|aD h.box U) (old b<|aD h.box U)<|old b<|aD h.box U⟩).m ?_
 grind
def YN(a n cap w):Calls prog 251 #[ζ a n cap] w λe b=>e=aG (.func (.func 264) #[] #[aQ w.heap.size])/\b=w.alloc (au #[ζ a n cap] 58):=by go_enter func251,ntmps251;go_wp2;go_ret;exact⟨U,U⟩
def M8(hb ho n a cap w)(h:w.cell? (F hb ho)=Z (ζ a n cap)):Calls prog 236 #[π<|Z<|F hb ho] w λe b=>e=aG (.func (.func 264) #[] #[aQ w.heap.size])/\b=w.alloc (au #[ζ a n cap] 58):=by go_enter func236,ntmps236;go_wp2_with (go_at_call 251;apply(YN a n cap _).m;rintro e c ⟨rfl,rfl⟩);go_ret;exact⟨U,U⟩
section
attribute [local go_sem] Oper.semAt_some
open Go.RowKit Go.Shelf
def Yx{a:Type}{l:av a}{j x}(h:l[j]? =Z x):l.take (j+1)=l.take j++[x]:=by rw[rQ,h];rfl
def Y0(n)(T:1<=n)(cb a N cap l W)(L:W.cell? (F cb 0)=Z (ζ a N cap))(R:l.length=N)(H:N<=65535)(w:∀(j:Nat) x,l[j]? =Z x->∃g,a=Z ⟨g,0,aj⟩/\W.cell? (F g j)=Z (jp x)):
  Iter ig n prog 264 #[aQ cb] yY (λ_=>False) (λA B=>∀g,(fM a N cap).ownBlock=Z g->B.heap[g]? =A.heap[g]?) (λh=>∃r,l=h++r)
   (λh _=>h=l) (λpre _=>∃r,l=pre++r) W:=by
 intro lp J C E G v q;refine callsIn_of_wp func264 U trivial ?_ U;simp only[ntmps264,nE,gH,nB,rS,FB,vH,vI,vW,vN,jZ,lT]
 gi_wp2
 gi_loopw [7] (λi wr=>∃j:Nat,j<=N/\i=I j/\Hid (J (l.take j) wr/\∀g,(fM a N cap).ownBlock=Z g->wr.heap[g]? =W.heap[g]?)) (λi _=>N-(dw i).toNat)
 case atStart=>exact⟨0,cO _,U,q,λ_ _=>U⟩
 case round=>
  obtain⟨j,P,rfl,c⟩:=hrel;by_cases S:j<N
  ·have z:decide ((j:Int)<(N:Int))=M:=bV;obtain⟨x,f⟩:∃x,l[j]? =Z x:=⟨l[j],by rw[dj]⟩;obtain⟨g,rfl,O⟩:=w j x f;have K:wr.cell? (F g j)=Z (jp x):=by rwa [iO<|c.2 g U]
   have k:Hid (∃r,l=(l.take j++[x])++r):=⟨l.drop<|j+1,by rw[<-Yx f,pL]⟩;let⟨D,X,assign,body,V,u⟩:=v (l.take j) x wr c.1 k;gi_wp2;apply u.m;rintro e m (⟨rfl,s,o⟩|⟨rfl,t,o⟩)
   ·have d:Hid (J (l.take<|j+1) m/\∀b,(fM (Z<|F g 0) N cap).ownBlock=Z b->m.heap[b]? =W.heap[b]?):=⟨by rw[(aX<|Yx f)];exact s,λb e=>(o b e).t ((aX c.2) b e)⟩;gi_wp2;go_roundw;case rel=>exact⟨j+1,Y,by go_num,d⟩
    case measure=>simp[dw];omega
   have d:=aX t;gi_wp2;apply iB (zX U _ _ _) U;exact⟨⟨_,U⟩,az ⟨_,k,d⟩⟩
  have z:decide ((j:Int)<(N:Int))=aa:=bV;have Q:j=N:=Y;have p:Hid (J l wr):=by have:=c.1;rwa [qE Y]at this
  gi_wp2;exact fC U U ⟨⟨_,U⟩,aA ⟨_,U,p⟩⟩
structure Lr(w:aq)(xb sb b:Nat)(cs:av (aV Nat))(a:aV Addr)(N cap:Nat)(l:av Nat)(r:Rq)(d:Nat->Bool)(fr:Nat->Rq)(rd:Nat->Bool):Prop where
 head:w.cell? (F xb 18)=Z (ζ a N cap)
 len:l.length=N
 small:N<=65535
 row:∀(j:Nat) x,l[j]? =Z x->∃g,a=Z ⟨g,0,aj⟩/\w.cell? (F g j)=Z (jp x)
 IK:∀g,(fM a N cap).ownBlock=Z g->g<w.heap.size
 touch:∀j∈l,∀W,aK w W->bN 237 #[jp j,ν (aU r)] W (ω (d j))
 dL:yq w xb sb b cs
 ready:∀c∈cI cs,∀W,aK w W->bN 198 #[jp c] W (θ #[ν (aU (fr c)),ω (rd c)])
 ok:r.Ok/\∀c∈cI cs,rd c=M->(fr c).Ok
def ahead(r:Rq)(fr:Nat->Rq)(rd:Nat->Bool)(c:Nat):Bool:=rd c&&(decide ((fr c).no<r.no)&&(fr c).touch r)
def nM(w:aq)(r:Rq)(p:Nat->Bool)(pre:av Nat)(W:aq):Prop:=aK w W/\W.heap[w.heap.size]? =Z (au (aU r) 205 (0,0))/\W.heap[w.heap.size+1]? =Z (au #[ω aa] 4 (0,0))/\(∀c∈pre,p c=aa)/\w.heap.size+2<=W.heap.size
def tF(w:aq)(p:Nat->Bool)(pre:av Nat)(W:aq):Prop:=aK w W/\W.heap[w.heap.size+1]? =Z (au #[ω M] 4 (0,0))/\(∃c∈pre,p c=M)/\w.heap.size+2<=W.heap.size
def nM.bears{w r p B}(j:w.heap.size+2<=B):Bears (λx=>False\/x=B+1) (nM w r p):=by
 rintro pre W i row ⟨c,d,f,g,h⟩ a hr;have b:∀x,row=Z x->x=B+1:=λx e=>by grind
 exact⟨c.grown a c.size (λk e=>by have:=b k e;omega),nT d a (λe=>by have:=b _ e;omega),nT f a (λe=>by have:=b _ e;omega),g,cM h a.size⟩
def tF.bears{w p B}(i:w.heap.size+2<=B):Bears (λx=>False\/x=B+1) (tF w p):=by
 rintro pre W h row ⟨b,d,f,g⟩ a hr;have c:∀x,row=Z x->x=B+1:=λx e=>by grind
 exact⟨b.grown a b.size (λk e=>by have:=c k e;omega),nT d a (λe=>by have:=c _ e;omega),f,cM g a.size⟩
abbrev CH(xb:Nat)(r:Rq)(B j:Nat):Act:={tmps:=#[jp xb,ν (aU r),y,aQ B,aQ (B+1),jp j,y,y,y,jp xb,aQ xb,π (Z (F xb 18)),.func (.func 264) #[] #[aQ (B+1+1)],jp j,y,y,y,y,y,y,y,y,y,y,y,y,y,y,y,y,y,y,y,y,y,y,y,y],defers:=[]}
abbrev oe(xb:Nat)(r:Rq)(B a c:Nat):Act:={tmps:=#[jp xb,ν (aU r),y,aQ B,aQ (B+1),y,jp c,y,y,jp xb,aQ xb,π (Z (F xb 18)),.func (.func 264) #[] #[aQ (B+1+1)],y,y,y,y,jp xb,.func (.func 99) #[] #[aQ a],jp c,y,y,y,y,y,y,y,y,y,y,y,y,y,y,y,y,y,y],defers:=[]}
abbrev dE(w:aq)(r:Rq)(v:aB):aq:=((w.alloc (au (aU r) 205)).alloc (au #[ω aa] 4)).alloc (au #[v] 58)
def acM(xb z bg:Nat)(cs:av (aV Nat))(a:aV Addr)(N cap:Nat)(l:av Nat)(r:Rq)(t:Nat->Bool)(fr:Nat->Rq)(rd:Nat->Bool)(w:aq)(h:Lr w xb z bg cs a N cap l r t fr rd):
  bN 199 #[jp xb,ν<|aU r] w (ω<|l.any t||(cI cs).any (ahead r fr rd)):=by
 refine callsIn_wide.1 (?_:CallsIn ig 3 prog _ _ w _);have bk:=h.head;have dH:xb<w.heap.size:=jo bk;have bL:((w.alloc<|au (aU r) 205).alloc<|au #[ω aa] 4).cell? (F xb 18)=Z (ζ a N cap):=bH (bq.alloc ay _) bk;have q:Hid (Lr w xb z bg cs a N cap l r t fr rd):=h;clear h bk;refine callsIn_of_wp_marks func199 U trivial ?_ U;simp only[ntmps199,nE,gH,nB,rS,FB,vH,vI,vW,vN,jZ,lT]
 gi_wp2_with (first|(refine⟨trivial,?_⟩;gi_at_call 236;refine(callsIn_wide.2<|M8 xb 18 N a cap _ bL).m ?_;rintro e G ⟨rfl,rfl⟩))
 have ak:aK w (dE w r<|ζ a N cap):=(bq.alloc ay _).alloc bV _;have aH:(dE w r<|ζ a N cap).heap.size=w.heap.size+3:=ay;have e1:(dE w r<|ζ a N cap).heap[w.heap.size]? =Z (au (aU r) 205 (0,0)):=gD (gD<|new1 U);have e2:(dE w r<|ζ a N cap).heap[w.heap.size+1]? =Z (au #[ω aa] 4 (0,0)):=gD (new1 ay);have e3:(dE w r<|ζ a N cap).heap[w.heap.size+1+1]? =Z (au #[ζ a N cap] 58 (0,0)):=new1 ay;show Qd ig 3 prog _ _ _ (dE w r<|ζ a N cap);generalize dE w r (ζ a N cap)=W0 at*;have bS:nM w r t [] W0:=⟨ak,e1,e2,λc h=>acB,Y⟩
 refine Ba (w:=W0) U aM (gf:=264) (lb:=#[aQ<|w.heap.size+1+1]) U trivial (enters_of func264 aW U) (encs:=yY) (λ_=>U)
  (R:=λ_=>False) (Kp:=λA B=>∀g,(fM a N cap).ownBlock=Z g->B.heap[g]? =A.heap[g]?) (V:=λn=>∃r,l=n++r) (S:=λn _=>n=l) (Sp:=λpre _=>∃r,l=pre++r)
  (λW hW=>?seq) (λr h=>h.e) (λh k g e=>(k g e).t (h g e)) (λW o g e=>gq H8) (λn W X row h _ _=>h) (λn W X row h _ _=>h)
  (nM w r t) (tF w t) (nM.bears Y) (tF.bears Y) bS (λj a _=>a=CH xb r w.heap.size j) (λc a W X row h _ _=>h) ?assign ?body ?done ?stop
 case seq=>have bu:aK w W:=ak.grown hW ak.size (λk e=>by cases e);refine Y0 2 aM (w.heap.size+1+1) a N cap l W (aD (nT e3 hW ay) U) q.u.len q.u.small λj x P=>?_;obtain⟨g,e,O⟩:=q.u.row j x P;exact⟨g,e,bH bu O⟩
 case assign=>rintro lp pre c W K b hv jR hK;gi_wp2;exact hK _ W ⟨U,U⟩ (λ_ _=>U) b U
 case body=>
  rintro lp pre j a' W b rfl ⟨rr,hv⟩ jR;have D:j∈l:=by rw[hv];simp
  obtain⟨k0,k1,k2,k3,k4,k5,k6,k7,k8,k9⟩:=dD.of b.2.1;have cR:=aJ W (w.heap.size+1) 0 (ω aa) b.2.2.1;have T:Hid (bN 237 #[jp j,ν<|aU r] W<|ω<|t j):=q.u.touch j D W b.1;have s:Hid (nM w r t pre W):=b;have ah:w.heap.size+2<=W.heap.size:=b.2.2.2.2;clear b;cases aL:t j with
  |true=>rw[aL]at T;gi_wp2_with (first|(refine⟨trivial,?_⟩;gi_at_call 237;refine(rI lp<|callsIn_wide.2 T.u).m ?_;rintro e G ⟨rfl,d⟩;have d2:=bT d s.u.2.2.1;have cv:=aJ G (w.heap.size+1) 0 (ω aa) d2;have cx:=bp d2 0));obtain⟨f,C,J,E,Q⟩:=s.u;have xh:=d.size;rw[aH];refine⟨⟨(bC Y).t<|d.block _ Y,(bC Y).t<|d.block _ Y⟩,λg e=>(bC H8).t (d.block _ H8),(f.t<|d.m f.size).setCell (p:=F (w.heap.size+1) 0) (kJ _) _,bG d2 0 _,⟨j,ay,aL⟩,by simpa using cM ah xh⟩
  |false=>rw[aL]at T;gi_wp2_with (first|(refine⟨trivial,?_⟩;gi_at_call 237;refine(rI lp<|callsIn_wide.2 T.u).m ?_;rintro e G ⟨rfl,d⟩));obtain⟨f,C,J,E,Q⟩:=s.u;have xh:=d.size;rw[aH];refine⟨⟨d.block _ Y,d.block _ Y⟩,λg e=>d.block _ H8,f.t<|d.m f.size,bT d C,bT d J,λc hc=>?_,cM ah xh⟩;rcases jg.1 hc with h|h;exact E c h;rw[iz.1 h];exact aL
 case stop=>rintro pre W ⟨rr,hv⟩ P hD;have HX:Hid (tF w t pre W):=P;clear P;gi_wp2;obtain⟨f,C,⟨j,D,bw⟩,E⟩:=HX.u;have L:=aD (w:=W.putObj W0.heap.size<|.deferred aj) ((gq Y).t C) (i:=0) (v:=ω M) U;refine⟨ay,aA ⟨_,_,U,rU hD,ω M,by simp[results,results199,go_sem,L],?_,?_⟩⟩;have:l.any t=M:=uw.2 ⟨j,by rw[hv];simp[D],bw⟩;rw[this];rfl;exact f.grown (FM _ _ _) f.size (λk e=>by cases e;omega)
 case done=>
  rintro n W rfl b hD;have b7:n.any t=aa:=by rw[vM];intro j D;rw[b.2.2.2.1 j D];simp
  have s:Hid (nM w r (ahead r fr rd) [] W):=⟨b.1,b.2.1,b.2.2.1,λc h=>acB,b.2.2.2.2⟩;have dG:W.heap.size≥w.heap.size+2:=b.2.2.2.2;rw[aH]at hD⊢;have cC:w.heap.size+3<W.heap.size:=(bf.1 hD).1;have HN:Hid (n.any t=aa):=b7;clear b bS ak e1 e2 e3 bL b7 aH;gi_wp2_with (first|(refine⟨trivial,?_⟩;gi_at_call 60;refine(callsIn_wide.2<|IN xb _).m ?_;rintro e G ⟨rfl,rfl⟩));have AI:nM w r (ahead r fr rd) [] (W.alloc<|au #[aQ xb] 29):=nM.bears (B:=w.heap.size+3) Y _ _ _ aj s.u (World.grownBy_alloc W (au #[aQ xb] 29) aj) (λr e=>by cases e);have cD:(W.alloc<|au #[aQ xb] 29).heap[W.heap.size]? =Z (au #[aQ xb] 29 (0,0)):=heap_alloc_new W _;have cA:(W.alloc<|au #[aQ xb] 29).heap[(w.heap.size+3)]? =Z (.deferred<|Z []):=(Below.heap_alloc _ _ _ cC).t hD;have dz:(W.alloc<|au #[aQ xb] 29).heap.size=W.heap.size+1:=ay;generalize W.alloc (au #[aQ xb] 29)=u at*;have aC:z<w.heap.size:=by obtain⟨o,ho⟩:=q.u.dL.row;exact(bf.1 ho).1
  refine Ba (w:=u) U aM (gf:=99) (lb:=#[aQ W.heap.size]) U trivial (enters_of func99 aW U) (encs:=yY) (λ_=>U)
   (R:=λ_=>False) (Kp:=λA B=>B.heap[z]? =A.heap[z]?) (V:=λn=>∃r,cI cs=n++r) (S:=λn _=>n=cI cs) (Sp:=λpre _=>∃r,cI cs=pre++r)
   (λV hV=>?seq) (λr h=>h.e) (λh k=>k.t h) (λV o=>gq Y) (λn W X row h _ _=>h) (λn W X row h _ _=>h)
   (λpre W=>nM w r (ahead r fr rd) pre W/\W.heap[(w.heap.size+3)]? =Z (.deferred<|Z [])) (λpre W=>tF w (ahead r fr rd) pre W/\W.heap[(w.heap.size+3)]? =Z (.deferred<|Z []))
   (λpre A B row h O hr=>⟨nM.bears (B:=u.heap.size) Y pre A B row h.1 O hr,nT h.2 O (λe=>by rcases hr _ e with h|h;exact h;omega)⟩) (λpre A B row h O hr=>⟨tF.bears (B:=u.heap.size) Y pre A B row h.1 O hr,nT h.2 O (λe=>by rcases hr _ e with h|h;exact h;omega)⟩)
   ⟨AI,cA⟩ (λc a _=>a=oe xb r w.heap.size W.heap.size c) (λc a W X row h _ _=>h) ?assign ?body ?done ?stop
  case seq=>have Dr:=q.u.dL.old (AI.1.grown hV AI.1.size (λk e=>by cases e));exact IQ 2 aM W.heap.size xb z bg cs V (aD (nT cD hV ay) U) Dr.sl Dr.len Dr.small Dr.at_
  case assign=>rintro lp pre c A K b hv jR hK;gi_wp2;exact hK _ A ⟨U,U⟩ U b U
  case body=>
   rintro lp pre c a' A ⟨b,H⟩ rfl ⟨rr,hv⟩ jR;have hc:c∈cI cs:=by rw[hv];simp
   obtain⟨k0,k1,k2,k3,k4,k5,k6,k7,k8,k9⟩:=dD.of b.2.1;have cR:=aJ A (w.heap.size+1) 0 (ω aa) b.2.2.1;have HR:Hid (bN 198 #[jp c] A<|θ #[ν<|aU<|fr c,ω<|rd c]):=q.u.ready c hc A b.1;have s:Hid (nM w r (ahead r fr rd) pre A/\A.heap[(w.heap.size+3)]? =Z (.deferred<|Z [])):=⟨b,H⟩;have ah:w.heap.size+2<=A.heap.size:=b.2.2.2.2;have dr:u.heap.size+2<=A.heap.size:=jR;have T:Hid (rd c=M->∀V,bN 238 #[ν<|aU<|fr c,ν<|aU r] V<|ω<|(fr c).touch r):=λe V=>YG (fr c) r V (q.u.ok.2 c hc e) q.u.ok.1;have HH:Hid (ahead r fr rd c=(rd c&&(decide ((fr c).no<r.no)&&(fr c).touch r))):=U;clear b H;have aE:∀V,aK A V->Two u.heap.size A V/\V.heap[z]? =A.heap[z]? :=λV m=>⟨⟨m.block _ Y,m.block _ Y⟩,m.block _ Y⟩;have bJ:Hid (∀V,aK A V->ahead r fr rd c=aa->roundEnd u.heap.size (λA B=>B.heap[z]? =A.heap[z]?) (λpre W=>nM w r (ahead r fr rd) pre W/\W.heap[w.heap.size+3]? =Z (.deferred<|Z [])) (λpre W=>tF w (ahead r fr rd) pre W/\W.heap[w.heap.size+3]? =Z (.deferred<|Z [])) (pre++[c]) A .normal (oe xb r w.heap.size W.heap.size c) V):=λV m hn=>by obtain⟨⟨f,C,J,E,Q⟩,i6⟩:=s.u;refine⟨(aE V m).1,(aE V m).2,⟨f.t<|m.m f.size,bT m C,bT m J,λc' L=>?_,cM ah m.size⟩,bT m i6⟩;rcases jg.1 L with h|h;exact E c' h;rw[iz.1 h];exact hn
   have cg:Hid (∀V,aK A V->ahead r fr rd c=M->roundEnd u.heap.size (λA B=>B.heap[z]? =A.heap[z]?) (λpre W=>nM w r (ahead r fr rd) pre W/\W.heap[w.heap.size+3]? =Z (.deferred<|Z [])) (λpre W=>tF w (ahead r fr rd) pre W/\W.heap[w.heap.size+3]? =Z (.deferred<|Z [])) (pre++[c]) A .ret (oe xb r w.heap.size W.heap.size c) (V.setCell (F (w.heap.size+1) 0)<|ω M)):=λV m hn=>by obtain⟨⟨f,C,J,E,Q⟩,i6⟩:=s.u;have aC:=aE V m;exact⟨⟨(bC Y).t aC.1.1,(bC Y).t aC.1.2⟩,(bC Y).t aC.2,⟨(f.t<|m.m f.size).setCell (p:=F (w.heap.size+1) 0) (kJ _) _,bG (bT m J) 0 _,⟨c,ay,hn⟩,by simpa using cM ah m.size⟩,oT (bT m i6) Y _ _⟩
   have aS:Hid (A.heap[w.heap.size]? =Z (au (aU r) 205 (0,0))/\A.heap[w.heap.size+1]? =Z (au #[ω aa] 4 (0,0))):=⟨s.u.1.2.1,s.u.1.2.2.1⟩;clear aE s;generalize ahead r fr rd c=dg at*;generalize rd c=b0 at*;generalize (fr c).touch r=b2 at*;cases b0<;>cases bA:decide ((fr c).no<r.no)<;>cases b2;all_goals
    gi_wp2_with (first|(refine⟨trivial,?_⟩;gi_at_call 198;refine(rI lp<|callsIn_wide.2 HR.u).m ?_;rintro e G ⟨rfl,d⟩;have cr:aK A (G.alloc<|au (aU<|fr c) 205):=d.alloc d.size _;have R1:=dD.of<|bT cr aS.u.1;obtain⟨q0,q1,q2,q3,q4,q5,q6,q7,q8,q9⟩:=R1;have xh:=d.size;have dx:w.heap.size≠G.heap.size:=Y;have d2:=bT d aS.u.2;have cv:=aJ G (w.heap.size+1) 0 (ω aa) d2;have cx:=bp d2 0)|(refine⟨trivial,?_⟩;gi_at_call 238;refine(rI lp<|callsIn_wide.2<|T.u ay _).m ?_;rintro e w2 ⟨rfl,lD⟩;have AJ:aK A (G.alloc<|au (aU<|fr c) 205):=d.alloc d.size _;have bt:=AJ.t<|lD.m AJ.size;have d3:=bT bt aS.u.2;have dh:=aJ w2 (w.heap.size+1) 0 (ω aa) d3;have dn:=bp d3 0)|(refine⟨trivial,?_⟩))
    first
    |exact cg.u _ bt (by simp[HH.u,bA])
    |exact bJ.u _ bt (by simp[HH.u,bA])
    |exact bJ.u _ (d.alloc d.size _) (by simp[HH.u,bA])
  case stop=>rintro pre A ⟨rr,hv⟩ ⟨P,H⟩ bl;have HX:Hid (tF w (ahead r fr rd) pre A/\A.heap[(w.heap.size+3)]? =Z (.deferred<|Z [])):=⟨P,H⟩;clear P H;gi_wp2;obtain⟨⟨f,C,⟨j,D,bw⟩,E⟩,Q⟩:=HX.u;have bD:(A.putObj u.heap.size<|.deferred aj).heap[(w.heap.size+3)]? =Z (.deferred<|Z []):=(gq Y).t Q;have L:=aD (w:=(A.putObj u.heap.size<|.deferred aj).putObj (w.heap.size+3)<|.deferred aj) ((gq Y).t<|(gq Y).t C) (i:=0) (v:=ω M) U;refine⟨ay,aA ⟨_,_,U,rU bl,ay,aA ⟨_,_,U,rU bD,ω M,by simp[results,results199,go_sem,L],?_,?_⟩⟩⟩;have:(cI cs).any (ahead r fr rd)=M:=uw.2 ⟨j,by rw[hv];simp[D],bw⟩;rw[this,Bool.or_true];exact(f.grown (FM _ _ _) f.size (λk e=>by cases e;omega)).grown (FM _ _ _) (by have:=f.size;simpa using this) (λk e=>by cases e;omega)
  case done=>
   rintro ys A rfl ⟨b,H⟩ bl;have cR:=aJ A (w.heap.size+1) 0 (ω aa) b.2.2.1;have fR:=bp b.2.2.1 0;have s:Hid (nM w r (ahead r fr rd) (cI cs) A/\A.heap[(w.heap.size+3)]? =Z (.deferred<|Z [])):=⟨b,H⟩;clear b H;gi_wp2;obtain⟨⟨f,C,J,E,i6⟩,Q⟩:=s.u;have cB:(A.setCell (F (w.heap.size+1) 0)<|ω aa).heap[u.heap.size]? =Z (.deferred<|Z []):=oT bl Y _ _;have bD:((A.setCell (F (w.heap.size+1) 0)<|ω aa).putObj u.heap.size<|.deferred aj).heap[(w.heap.size+3)]? =Z (.deferred<|Z []):=(gq Y).t (oT Q Y _ _);have MJ:(A.setCell (F (w.heap.size+1) 0)<|ω aa).heap[w.heap.size+1]? =Z (au #[ω aa] 4 (0,0)):=bG J 0 _;have L:=aD (w:=((A.setCell (F (w.heap.size+1) 0)<|ω aa).putObj u.heap.size<|.deferred aj).putObj (w.heap.size+3)<|.deferred aj) ((gq Y).t<|(gq Y).t MJ) (i:=0) (v:=ω aa) U;refine⟨ay,aA ⟨_,_,U,rU cB,ay,aA ⟨_,_,U,rU bD,ω aa,by simp[results,results199,go_sem,L],?_,?_⟩⟩⟩;have:(cI cs).any (ahead r fr rd)=aa:=by rw[vM];intro j D;rw[E j D];simp
   rw[this,HN.u];rfl;have bB:=f.setCell (p:=F (w.heap.size+1) 0) (kJ _) (ω aa);exact(bB.grown (FM _ _ _) bB.size (λk e=>by cases e;omega)).grown (FM _ _ _) (by have:=bB.size;simpa using this) (λk e=>by cases e;omega)
end
def rZ.cells{W B}(h:rZ W B):(W.cell? (F B 0)=Z (I 0)/\W.cell? (F B 1)=Z (ξ ⟨#[]⟩)/\W.cell? (F B 2)=Z (I 0)/\W.cell? (F B 3)=Z (I 0)/\W.cell? (F B 4)=Z (I 0)/\W.cell? (F B 5)=Z (I 0)/\W.cell? (F B 6)=Z (I 0)/\W.cell? (F B 7)=Z (ξ ⟨#[]⟩)/\W.cell? (F B 8)=Z (I 0)/\W.cell? (F B 9)=Z (I 0))/\∀i,W.frozen? (F B i)=aa:=⟨⟨aD h U,aD h U,aD h U,aD h U,aD h U,aD h U,aD h U,aD h U,aD h U,aD h U⟩,λi=>bp h i⟩
def aaX(xb c f rd hd w)(hR:∀W,aK w W->bN 198 #[jp c] W (θ #[ν<|aU f,ω rd]))(C:rd=M->∀W,aK w W->bN 199 #[jp xb,ν<|aU f] W (ω hd)):
  bN 162 #[jp xb,jp c] w (θ #[ν<|aU f,ω<|rd&&!hd]):=by
 have j:aK w (w.alloc<|au qp 205):=bq;have D:rZ (w.alloc<|au qp 205) w.heap.size:=heap_alloc_new w _
 have B:Hid (Calls prog 198 #[jp c] (w.alloc<|au qp 205) λe b=>e=aG (θ #[ν<|aU f,ω rd])/\aK w b/\rZ b w.heap.size/\w.heap.size<b.heap.size):=by apply(hR _ j).m;rintro e b ⟨rfl,g⟩;exact⟨U,j.t<|g.m j.size,bT g D,by have:=g.size;simp at this;omega⟩
 have m:=aX C;clear hR C j D;go_enter func162,ntmps162
 go_upto_region 2 with(go_at_call 198;apply B.m;rintro e a ⟨rfl,n,E,O⟩)
 have bB:aK a (a.alloc<|au (aU f) 205):=bq;have k:(a.alloc<|au (aU f) 205).heap[a.heap.size]? =Z (au (aU f) 205 (0,0)):=heap_alloc_new a _;have i:=aX (n.t<|bB.m n.size);have h:rZ (a.alloc<|au (aU f) 205) w.heap.size:=bT bB E;clear bB E n B;show JK _ _ _ _ (a.alloc<|au (aU f) 205);generalize a.alloc (au (aU f) 205)=l at*;have G:dD l a.heap.size f:=dD.of k;rcases rd with _|_
 ·let⟨⟨o,p,q,r,s,t,u,x,z,A⟩,fz⟩:=rZ.cells h;refine gY (S:=λW=>dD W a.heap.size f) 8 G λhS=>?_;clear h k m;apply tg [0,1,2];apply g0 3;apply g0 4;apply g0 5;apply g0 6;apply tg [7];refine gz λK d=>?_;go_simp;apply d _ _;clear d K;apply tg [9];refine gl ?_;go_wp2;refine iB (v:=θ #[ν<|aU f,ω aa]) (by simp[results,results162,go_sem,o,p,q,r,s,t,u,x,z,A]) U ⟨U,?_⟩;exact Sf i _ _ _ _ _ _ _ _ _ _
 have H:Hid (Calls prog 199 #[jp xb,ν<|aU f] l.drew λe b=>e=aG (ω hd)/\aK w b/\rZ b w.heap.size/\b.heap[a.heap.size]? =Z (au (aU f) 205 (0,0))):=by apply(m U l.drew i.drew).m;rintro e b ⟨rfl,g⟩;exact⟨U,i.drew.t<|g.m i.size,bT g h,bT g k⟩
 refine gY (S:=λW=>dD W a.heap.size f) 8 G λhS=>?_;clear h k m;apply tg [0,1,2,3,4];refine gr 5 λK d=>?_;go_simp;go_at_call 199;apply H.m;rintro e P ⟨rfl,L,h,J⟩;refine d _ _ (dD.of J)<|λN=>?_;clear d K
 let⟨⟨o,p,q,r,s,t,u,x,z,A⟩,fz⟩:=rZ.cells h
 apply tg [6,7];refine gz λK d=>?_;go_simp;apply d _ _;clear d K;apply tg [9];refine gl ?_;go_wp2;refine iB (v:=θ #[ν<|aU f,ω<|!hd]) (by simp[results,results162,go_sem,o,p,q,r,s,t,u,x,z,A]) U ⟨ay,?_⟩;exact(eC (eC (eC (eC (eC (eC (eC (eC (eC (eC L _ _) _ _) _ _) _ _) _ _) _ _) _ _) _ _) _ _) _ _)
abbrev dq(xb b:Nat)(a:Int)(f:Rq)(W:aq):Prop:=W.cell? (F xb 3)=Z (I a)/\dD W b f
def dq.old{xb b mx f W W'}(h:dq xb b mx f W)(a:aK W W'):dq xb b mx f W':=⟨bH a h.1,h.2.old a⟩
def abY(xb c j f fr h ft mx w)(u:w.cell? (F xb 3)=Z (I mx))(hF:bN 162 #[jp xb,jp c] w (θ #[ν<|aU f,ω fr]))(r:∀W,aK w W->bN 164 #[jp c,ν<|aU f] W (ω h))(s:fr=M->h=M->∀W,aK w W->bN 240 #[jp j,ν<|aU f,I mx] W (ω ft)):
  bN 202 #[jp xb,jp c,jp j] w (ω<|fr&&(h&&ft)):=by
 have m:=aX hF;have n:=aX r;have x:=aX s;have z:=aX u;clear hF r s u;go_enter func202,ntmps202
 go_upto_region 2 with(go_at_call 162;apply m.m;rintro e a ⟨rfl,l⟩)
 have bB:aK a (a.alloc<|au (aU f) 205):=bq;have o:(a.alloc<|au (aU f) 205).heap[a.heap.size]? =Z (au (aU f) 205 (0,0)):=heap_alloc_new a _;have b:=aX (l.t<|bB.m l.size);clear bB l m;show JK _ _ _ _ (a.alloc<|au (aU f) 205);generalize a.alloc (au (aU f) 205)=v at*;have A:dq xb a.heap.size mx f v:=⟨bH b z,dD.of o⟩;clear o;refine ga (S:=dq xb a.heap.size mx f) A λq=>?_;rcases fr with _|_
 ·apply tl [0,1];apply tlz [2,3,4];apply tl [5,6];apply tlz [7,8,9,10,11,12,13,14];apply tl [15,16];refine dJ ?_;go_wp2;go_ret;exact⟨U,b.t<|jj (Below.refl _ _) _⟩
 cases h with
 |false=>apply tl [0,1,2,3];refine rH 4 λK d=>?_;go_simp;go_at_call 164;apply(n _<|b.t<|jj (Below.refl _ _) _).m;rintro e B ⟨rfl,g⟩;have k:=dq.old q g;refine d _ _ k<|λp=>?_;clear d K;apply tl [5,6];apply tlz [7,8,9,10,11,12,13,14];apply tl [15,16];refine dJ ?_;go_wp2;go_ret;exact⟨U,b.t<|Gq g b.size⟩
 |true=>apply tl [0,1,2,3];refine rH 4 λK d=>?_;go_simp;go_at_call 164;apply(n _<|b.t<|jj (Below.refl _ _) _).m;rintro e B ⟨rfl,g⟩;have k:=dq.old q g;refine d _ _ k<|λp=>?_;clear d K;apply tl [5,6,7,8,9,10,11,12];apply tl [13];refine rH 14 λK d=>?_;go_simp;go_at_call 240;have i:=b.t (Gq g b.size);apply(x U U _ i).m;rintro e D ⟨rfl,t⟩;refine d _ _ (dq.old p t)<|λC=>?_;clear d K;apply tl [15,16];refine dJ ?_;go_wp2;go_ret;exact⟨ay,i.t<|t.m i.size⟩
structure Jb where
 s:Nat
 rs:av Rq
 ft:Ft
 due:Int
 order:Nat
abbrev Jb.key(b:Jb):Key:=(b.due,(b.order:Int))
structure En where
 no:Int
 ck:Int
 kd:Int
 fl:Int
 of:Int
 ln:Int
 er:Int
 tx:av UInt8
abbrev mX(e:En):av aB:=[I e.no,I e.ck,I e.kd,I e.fl,I e.of,I e.ln,I e.er]
structure Fx where
 g:Cf
 K:av (aV Ck)
 bF:Int
 acc:Int
 bO:Nat
 clock:Int
 stop:Bool
 aC:Nat
 opn:Bool
 bD:av Ft
 fl:av Jb
 B:aF UInt8
 D:aF UInt8
 C:av (Nat×av UInt8)
 log:av En
structure Lc where
 c:Nat
 rb:Nat
 mb:Nat
 ch:Nat
 q:aB
 v:aB
def Lc.iC(l:Lc)(P:Nat->Prop):Prop:=P l.c/\P l.rb/\P l.mb/\P l.ch/\(∀b,l.q.ownBlock=Z b->P b)/\∀b,l.v.ownBlock=Z b->P b
def Lc.iC.mono{l:Lc}{P Q}(h:l.iC P)(hm:∀b,P b->Q b):l.iC Q:=⟨hm _ h.1,hm _ h.2.1,hm _ h.2.2.1,hm _ h.2.2.2.1,λb a=>hm _ (h.2.2.2.2.1 b a),λb a=>hm _ (h.2.2.2.2.2 b a)⟩
abbrev Lc.iC.m:=@Lc.iC.mono
structure Lj where
 j:Nat
 rv:aB
def Lj.iC(l:Lj)(P:Nat->Prop):Prop:=P l.j/\∀b,l.rv.ownBlock=Z b->P b
structure cZ where
 sb:Nat
 cs:av (aV Lc)
 js:av Lj
 hv:aB
 hf:Nat->Nat
 key:Nat->Key
 fv:aB
 lv:aB
 d:Nat
 bb:Nat
 db:Nat
 cv:aB
 own:Nat->Nat
abbrev lC(f:Fx)(L:cZ):aF aB:=#[I f.g.sz,I f.g.cl,I f.g.qu,I f.g.mx,I f.g.qn,I f.g.rt,I f.g.bu,I f.g.wk,I f.g.ou,ζ (Z (F L.sb 0)) f.K.length f.K.length,I f.bF,I f.acc,I f.bO,I f.clock,ω f.stop,I f.aC,ω f.opn,L.fv,L.hv,aQ L.d,L.lv]
abbrev Lc.At(l:Lc)(W:aq)(g:Cf)(k:Ck):Prop:=cg W l.c l.rb l.mb l.ch l.q l.v g k
def Lc.At.eE{l:Lc}{W g k}(h:l.At W g k):l.iC (·<W.heap.size):=⟨h.p.eE.1,(cg.eE h).1,(cg.eE h).2,h.p.eE.2.1,h.p.eE.2.2.1,h.p.eE.2.2.2⟩
def pR(W:aq)(own:Nat->Nat)(g:Cf)(s:Nat):aV Ck->aV Lc->Prop
 |none,aj=>True|some k,Z l=>l.At W g k/\l.iC λb=>own b=7+2*s|_,_=>False
structure yh(W:aq)(own:Nat->Nat)(g:Cf)(K:av (aV Ck))(cs:av (aV Lc)):Prop where
 len:cs.length=K.length
 at_:∀(s:Nat) a b,K[s]? =Z a->cs[s]? =Z b->pR W own g s a b
def fB(W:aq)(own:Nat->Nat)(cs:av (aV Lc))(b:Jb)(l:Lj):Prop:=∃lc,cs[b.s]? =Z (Z lc)/\fA W l.j lc.c l.rv b.rs b.ft b.due b.order/\l.iC λx=>own x=8+2*b.order
structure CS(W:aq)(own:Nat->Nat)(cs:av (aV Lc))(fl:av Jb)(js:av Lj):Prop where
 len:js.length=fl.length
 at_:∀(i:Nat) b l,fl[i]? =Z b->js[i]? =Z l->fB W own cs b l
structure Lq(W:aq)(own:Nat->Nat)(xb:Nat)(hv:aB)(hf:Nat->Nat)(key:Nat->Key)(fl:av Jb)(js:av Lj):Prop where
 row:W.ownsRow 0 176 1 hv fl.length (kF fl.length hf)
 own:∀b,hv.ownBlock=Z b->own b=3
 aN:∀x,x<fl.length->∃(i:Nat) (l:Lj),js[i]? =Z l/\hf x=l.j
 all:∀(i:Nat) (l:Lj),js[i]? =Z l->∃x,x<fl.length/\hf x=l.j
 one:∀x a,x<fl.length->a<fl.length->hf x=hf a->x=a
 keys:∀(i:Nat) b l,fl[i]? =Z b->js[i]? =Z l->key l.j=b.key
 heap:Hp fl.length λx=>key (hf x)
structure aE(W:aq)(f:Fx)(xb:Nat)(L:cZ):Prop where
 box:W.heap[xb]? =Z (au (lC f L) 64 (0,0))
 eR:L.own xb=1
 dL:Ai W L.sb (L.cs.map λl=>l.map Lc.c)
 je:L.own L.sb=2
 cs:yh W L.own f.g f.K L.cs
 js:CS W L.own L.cs f.fl L.js
 fl:Lq W L.own xb L.hv L.hf L.key f.fl L.js
 bD:W.ownsRow 0 181 3 L.fv f.bD.length (f.bD.flatMap λt=>(dK t).toList)
 jP:∀b,L.fv.ownBlock=Z b->L.own b=4
 log:W.ownsRow 0 71 7 L.lv f.log.length (f.log.flatMap mX)
 ni:∀b,L.lv.ownBlock=Z b->L.own b=5
 fG:dc W L.d L.bb L.db L.cv f.B.size f.B f.D f.C
 jH:L.own L.d=6/\L.own L.bb=6/\L.own L.db=6/\∀b,L.cv.ownBlock=Z b->L.own b=6
def gE(own:Nat->Nat)(n t:Nat):Nat->Nat:=λb=>if b<n then own b else t
def gW{own n t b}(h:b<n):gE own n t b=own b:=by simp[gE,h]
def uZ{own n t b}(h:n<=b):gE own n t b=t:=by simp[gE];omega
structure fT(W W':aq)(own cq:Nat->Nat)(T:Nat->Prop):Prop where
 keep:∀b,b<W.heap.size->¬T (own b)->W'.heap[b]? =W.heap[b]?
 own:∀b,b<W.heap.size->cq b=own b
section
variable {W W':aq} {own cq:Nat->Nat} {T:Nat->Prop}
def jJ{S k n v xs}(h:W.ownsRow 0 S k v n xs):∀b,v.ownBlock=Z b->b<W.heap.size:=λb a=>(h.lt b a).2
def fT.row{S k n o v xs}(a:fT W W' own cq T)(h:W.ownsRow 0 S k v n xs)(d:∀b,v.ownBlock=Z b->own b=o)(e:¬T o):W'.ownsRow 0 S k v n xs/\∀b,v.ownBlock=Z b->cq b=o:=⟨eF h λb c=>a.keep b (jJ h b c) j4,λb c=>(a.own b<|jJ h b c).t (d b c)⟩
def fT.blk{b o x}(a:fT W W' own cq T)(h:W.heap[b]? =Z x)(d:own b=o)(e:¬T o):W'.heap[b]? =Z x/\cq b=o:=have c:=(bf.1 h).1;⟨(a.keep b c j4).t h,(a.own b c).t d⟩
def fT.aC{g s k l}(a:fT W W' own cq T)(h:pR W own g s k l)(n:¬T (7+2*s)):pR W' cq g s k l:=by cases k<;>cases l<;>simp only[pR]at h⊢;rename_i k l;let⟨i,d⟩:=h;have e:=i.eE;have j:l.iC λb=>own b=7+2*s/\b<W.heap.size:=⟨⟨d.1,e.1⟩,⟨d.2.1,e.2.1⟩,⟨d.2.2.1,e.2.2.1⟩,⟨d.2.2.2.1,e.2.2.2.1⟩,λb c=>⟨d.2.2.2.2.1 b c,e.2.2.2.2.1 b c⟩,λb c=>⟨d.2.2.2.2.2 b c,e.2.2.2.2.2 b c⟩⟩;refine⟨cg.keep i (O:=λb=>own b=7+2*s) d λb c m=>a.keep b m j4,j.m λb c=>(a.own b c.2).t c.1⟩
def fB.aside{cs cs' b l}(a:fT W W' own cq T)(h:fB W own cs b l)(hc:∀lc,cs[b.s]? =Z (Z lc)->∃i,cs'[b.s]? =Z (Z i)/\i.c=lc.c)(k:¬T (8+2*b.order)):fB W' cq cs' b l:=by let⟨lc,m,e,g⟩:=h;let⟨i,n,o⟩:=hc lc m;have j:=(bf.1 e.box).1;have hr:=jJ e.row;refine⟨i,n,?_,(a.own _ j).t g.1,λx d=>(a.own x<|hr x d).t (g.2 x d)⟩;rw[o];exact⟨(a.keep _ j (by rw[g.1];exact k)).t e.box,eF e.row λx d=>a.keep x (hr x d) (by rw[g.2 x d];exact k)⟩
def fT.fG{d bb db n cv B D C}(a:fT W W' own cq T)(h:dc W d bb db cv n B D C)(c:own d=6/\own bb=6/\own db=6/\∀b,cv.ownBlock=Z b->own b=6)(e:¬T 6):dc W' d bb db cv n B D C/\cq d=6/\cq bb=6/\cq db=6/\∀b,cv.ownBlock=Z b->cq b=6:=by have b1:=a.blk h.box c.1 e;have g:=a.blk h.bytes c.2.1 e;have i:=a.blk h.fX c.2.2.1 e;have j:=a.row h.cache c.2.2.2 e;exact⟨⟨b1.1,g.1,i.1,j.1,h.sizes,h.fits,h.apart,h.small⟩,b1.2,g.2,i.2,j.2⟩
def fT.cs{g K cs}(a:fT W W' own cq T)(h:yh W own g K cs)(b:∀s,¬T (7+2*s)):yh W' cq g K cs:=⟨h.len,λs x e c d=>a.aC (h.at_ s x e c d) (b s)⟩
def fT.Gz{g K cs s k l}(a:fT W W' own cq T)(h:yh W own g K cs)(d:∀x,x≠s->¬T (7+2*x))(j:pR W' cq g s k l):yh W' cq g (K.set s k) (cs.set s l):=by refine⟨by simp[h.len],λx i z b c=>?_⟩;by_cases e:x=s;subst e;grind;rw[gQ<|dB e]at b c;exact a.aC (h.at_ x i z b c)<|d x e
def fT.js{cs cs' fl js}(a:fT W W' own cq T)(h:CS W own cs fl js)(hc:∀(s:Nat) lc,cs[s]? =Z (Z lc)->∃d,cs'[s]? =Z (Z d)/\d.c=lc.c)(j:∀n,¬T (8+2*n)):CS W' cq cs' fl js:=⟨h.len,λi b l e g=>(h.at_ i b l e g).aside a (hc b.s) (j _)⟩
def fT.pZ{xb hv hf key fl js}(a:fT W W' own cq T)(h:Lq W own xb hv hf key fl js)(c:¬T 3):Lq W' cq xb hv hf key fl js:=have b:=a.row h.row h.own c;⟨b.1,b.2,h.aN,h.all,h.one,h.keys,h.heap⟩
def pE{cs:av (aV Lc)}:∀(s:Nat) lc,cs[s]? =Z (Z lc)->∃a,cs[s]? =Z (Z a)/\a.c=lc.c:=λs lc h=>⟨lc,h,U⟩
def OG{cs:av (aV Lc)}{t l l'}(hl:cs[t]? =Z (Z l))(hc:l'.c=l.c):∀(s:Nat) lc,cs[s]? =Z (Z lc)->∃a,(cs.set t<|Z l')[s]? =Z (Z a)/\a.c=lc.c:=λs lc h=>by grind
def VU{cs:av (aV Lc)}{t l l'}(hl:cs[t]? =Z (Z l))(hc:l'.c=l.c):(cs.set t<|Z l').map (λl=>l.map Lc.c)=cs.map λl=>l.map Lc.c:=by refine ux λs=>?_;grind
end
section
variable {W W':aq} {f:Fx} {xb:Nat} {L:cZ}
def aE.old(h:aE W f xb L)(j:∀b,b<W.heap.size->W'.heap[b]? =W.heap[b]?):aE W' f xb L:=by have a:fT W W' L.own L.own λ_=>False:=⟨λb i _=>j b i,λb _=>U⟩;have n:∀{p:Prop},¬(False/\p):=λh=>h.1;have b1:=a.blk h.box h.eR id;have c:=a.blk h.dL h.je id;have d:=a.row h.bD h.jP id;have e:=a.row h.log h.ni id;have g:=a.fG h.fG h.jH id;exact⟨b1.1,b1.2,c.1,c.2,a.cs h.cs<|λ_=>id,a.js h.js pE<|λ_=>id,a.pZ h.fl id,d.1,d.2,e.1,e.2,g.1,g.2⟩
def aE.below(h:aE W f xb L)(a:aK W W'):aE W' f xb L:=h.old λb c=>a.block b c
def aE.drewN(h:aE W f xb L)(n):aE (W.drewN n) f xb L:=h.old λb a=>U
def aE.drew(h:aE W f xb L):aE W.drew f xb L:=h.old λb a=>U
def aE.client(h:aE W f xb L){s k k' l l' cq}(hl:L.cs[s]? =Z (Z l))(hc:l'.c=l.c)(w:f.K[s]? =Z (Z k)){X}(v:aS X W W')(u:∀b,b<W.heap.size->X b->L.own b=7+2*s)(hr:l'.At W' f.g k')(r:∀b,b<W.heap.size->cq b=L.own b)(d:l'.iC λb=>cq b=7+2*s):
  aE W' {f with K:=f.K.set s<|Z k'} xb {L with cs:=L.cs.set s<|Z l',own:=cq}:=by
 have a:fT W W' L.own cq λt=>t=7+2*s:=⟨λb p d=>v.block b p λq=>d (u b p q),r⟩;have b1:=a.blk h.box h.eR Y;have i:=a.blk h.dL h.je Y;have j:=a.row h.bD h.jP Y;have m:=a.row h.log h.ni Y;have o:=a.fG h.fG h.jH Y;refine⟨?_,b1.2,?_,i.2,a.Gz h.cs (λx q=>by omega) ⟨hr,d⟩,a.js h.js (OG hl hc) (λn=>by omega),a.pZ h.fl Y,j.1,j.2,m.1,m.2,o.1,o.2⟩;have e:=b1.1;simpa[lC]using e;have e:=i.1;show Ai W' L.sb ((L.cs.set s<|Z l').map λl=>l.map Lc.c)
 rwa [VU hl hc]
def aE.put(h:aE W f xb L)(i u f')(d:(lC f L).setIfInBounds i u=lC f' L)(o:f'.g=f.g)(p:f'.K=f.K)(n:f'.fl=f.fl)(q:f'.bD=f.bD)(r:f'.log=f.log)(c:f'.B=f.B/\f'.D=f.D/\f'.C=f.C):aE (W.setCell (F xb i) u) f' xb L:=by have a:fT W (W.setCell (F xb i) u) L.own L.own λt=>t=1:=⟨λb d v=>bC (λe=>v X6),λb d=>U⟩;have j:=a.blk h.dL h.je Y;have k:=a.row h.bD h.jP Y;have l:=a.row h.log h.ni Y;have m:=a.fG h.fG h.jH Y;refine⟨?_,h.eR,j.1,j.2,?_,?_,?_,?_,k.2,?_,l.2,?_,m.2⟩;rw[<-d];exact bG h.box i u;rw[o,p];exact a.cs h.cs (λs=>by omega);rw[n];exact a.js h.js pE (λs=>by omega);rw[n];exact a.pZ h.fl Y;rw[q];exact k.1;rw[r];exact l.1;rw[c.1,c.2.1,c.2.2];exact m.1
end
section
variable {W W1:aq} {f:Fx} {xb:Nat} {L:cZ} {X:Nat->Prop}
def aS.asd{t cq}(g:aS X W W1)(d:∀b,b<W.heap.size->X b->L.own b=t)(c:∀b,b<W.heap.size->cq b=L.own b):fT W W1 L.own cq λx=>x=t:=⟨λb a e=>g.block b a λh=>e (d b a h),c⟩
def aE.XA(h:aE W f xb L){i t v' cq}(q:aS X W W1)(l:∀b,b<W.heap.size->X b->L.own b=t)(d:t≠1){S k n xs}(hr:W1.ownsRow 0 S k v' n xs)(j:∀b,b<W.heap.size->cq b=L.own b)(g:∀b,v'.ownBlock=Z b->cq b=t):
  fT W (W1.setCell (F xb i) v') L.own cq (λx=>x=t\/x=1)/\(W1.setCell (F xb i) v').ownsRow 0 S k v' n xs/\(W1.setCell (F xb i) v').heap[xb]? =Z (au ((lC f L).setIfInBounds i v') 64 (0,0)):=by
 have a:=q.asd l j;have m:=a.blk h.box h.eR (dB d);have r:xb<W.heap.size:=(bf.1 h.box).1;refine⟨?_,eF hr λb o=>bC λe=>?_,bG m.1 i v'⟩;refine⟨λb p c=>?_,a.own⟩;rw[bC λe=>c (az j4)];exact a.keep b p λe=>c (aA e);have:=g b o
 grind
def aE.dG(h:aE W f xb L){v' l cq}(k:aS X W W1)(j:∀b,b<W.heap.size->X b->L.own b=4)(hr:W1.ownsRow 0 181 3 v' l.length (l.flatMap λt=>(dK t).toList))(i:∀b,b<W.heap.size->cq b=L.own b)(g:∀b,v'.ownBlock=Z b->cq b=4):
  aE (W1.setCell (F xb 17) v') {f with bD:=l} xb {L with fv:=v',own:=cq}:=by
 obtain⟨a,m,n⟩:=h.XA k j Y hr i g;have c:=a.blk h.dL h.je Y;have d:=a.row h.log h.ni Y;have e:=a.fG h.fG h.jH Y;exact⟨n,(i xb<|(bf.1 h.box).1).t h.eR,c.1,c.2,a.cs h.cs (λs=>by omega),a.js h.js pE (λs=>by omega),a.pZ h.fl Y,m,g,d.1,d.2,e.1,e.2⟩
def aE.logs(h:aE W f xb L){v' l cq}(k:aS X W W1)(j:∀b,b<W.heap.size->X b->L.own b=5)(hr:W1.ownsRow 0 71 7 v' l.length (l.flatMap mX))(i:∀b,b<W.heap.size->cq b=L.own b)(g:∀b,v'.ownBlock=Z b->cq b=5):
  aE (W1.setCell (F xb 20) v') {f with log:=l} xb {L with lv:=v',own:=cq}:=by
 obtain⟨a,m,n⟩:=h.XA k j Y hr i g;have c:=a.blk h.dL h.je Y;have d:=a.row h.bD h.jP Y;have e:=a.fG h.fG h.jH Y;exact⟨n,(i xb<|(bf.1 h.box).1).t h.eR,c.1,c.2,a.cs h.cs (λs=>by omega),a.js h.js pE (λs=>by omega),a.pZ h.fl Y,d.1,d.2,m,g,e.1,e.2⟩
def aE.aae(h:aE W f xb L){cv B D C cq}(n:aS X W W1)(m:∀b,b<W.heap.size->X b->L.own b=6)(hd:dc W1 L.d L.bb L.db cv B.size B D C)(l:∀b,b<W.heap.size->cq b=L.own b)(k:∀b,cv.ownBlock=Z b->cq b=6):
  aE W1 {f with B:=B,D:=D,C:=C} xb {L with cv:=cv,own:=cq}:=by
 have a:=n.asd m l;have b1:=a.blk h.box h.eR Y;have c:=a.blk h.dL h.je Y;have e:=a.row h.bD h.jP Y;have g:=a.row h.log h.ni Y;exact⟨b1.1,b1.2,c.1,c.2,a.cs h.cs (λs=>by omega),a.js h.js pE (λs=>by omega),a.pZ h.fl Y,e.1,e.2,g.1,g.2,hd,(a.own _ (bf.1 h.fG.box).1).t h.jH.1,(a.own _ (bf.1 h.fG.bytes).1).t h.jH.2.1,(a.own _ (bf.1 h.fG.fX).1).t h.jH.2.2.1,k⟩
def aE.owns(h:aE W f xb L)(cq)(i:∀b,b<W.heap.size->cq b=L.own b):aE W f xb {L with own:=cq}:=by have a:fT W W L.own cq λ_=>False:=⟨λb j _=>U,i⟩;have b1:=a.blk h.box h.eR id;have c:=a.blk h.dL h.je id;have d:=a.row h.bD h.jP id;have e:=a.row h.log h.ni id;have g:=a.fG h.fG h.jH id;exact⟨b1.1,b1.2,c.1,c.2,a.cs h.cs<|λ_=>id,a.js h.js pE<|λ_=>id,a.pZ h.fl id,d.1,d.2,e.1,e.2,g.1,g.2⟩
def aE.yE(h:aE W f xb L)(j:∀b,b<W.heap.size->L.own b≠0->W1.heap[b]? =W.heap[b]?):aE W1 f xb L:=by have a:fT W W1 L.own L.own λt=>t=0:=⟨λb i k=>j b i k,λb _=>U⟩;have b1:=a.blk h.box h.eR Y;have c:=a.blk h.dL h.je Y;have d:=a.row h.bD h.jP Y;have e:=a.row h.log h.ni Y;have g:=a.fG h.fG h.jH Y;exact⟨b1.1,b1.2,c.1,c.2,a.cs h.cs (λ_=>by omega),a.js h.js pE (λ_=>by omega),a.pZ h.fl Y,d.1,d.2,e.1,e.2,g.1,g.2⟩
end
def Fx.dG(f:Fx):Ft:=match f.bD with|[]=>⟨1,aa,0⟩|t::_=>t
def abt(l:av Ft):∀u∈l.flatMap (λt=>(dK t).toList),u.oneCell'=M:=λu a=>by let⟨t,_,h⟩:=BY.1 a;simp[dK]at h;rcases h with rfl|rfl|rfl<;>rfl
def Oo{w:aq}{T k n:Nat}{v:aB}{xs:av aB}(h:w.ownsRow 0 T k v n xs):∃a cap,v=ζ a n cap/\n<=cap/\cap<=cP:=by rcases h.2 with⟨b,c⟩|⟨g,cap,f,b,_,_,d,e,_⟩;exact⟨aj,0,by rw[b,c],Y,by unfold cP;omega⟩;exact⟨_,cap,b,d,e⟩
def yV{w:aq}{T k n:Nat}{v:aB}{xs:av aB}(h:w.ownsRow 0 T k v n xs)(h0:0<n):∃g cap,v=ζ (Z<|F g 0) n cap/\∀j u,xs[j]? =Z u->w.cell? (F g j)=Z u:=by rcases h.2 with⟨a,b⟩|⟨g,cap,c,a,_,b,_,_,d,e⟩;omega;refine⟨g,cap,a,λj u f=>aD b ?_⟩;grind
def aeg(xb f L w)(h:aE w f xb L)(hf:f.bD=[]):
  bN 205 #[jp xb] w (ν<|dK f.dG):=by
 let⟨a,cap,e,_⟩:=Oo h.bD
 have b:w.cell? (F xb 17)=Z (ζ a 0 cap):=by have:=aD h.box (i:=17) (v:=L.fv) U;rw[this,e,hf];rfl
 have c:=(bf.1 h.box).1;have d17:(w.alloc<|au #[I 0,ω aa,I 0] 181).cell? (F xb 17)=Z (ζ a 0 cap):=bH (bq) b;have hF:f.dG=⟨1,aa,0⟩:=by simp[Fx.dG,hf]
 rw[hF];clear h e hF hf;go_enter func205,ntmps205;go_wp2;refine iB (v:=ν<|dK ⟨1,aa,0⟩) (by simp[results,results205,go_sem]) U ⟨U,?_⟩;exact bq
def aeh(xb f L)(t:Ft)(l w)(h:aE w f xb L)(hf:f.bD=t::l)(hm:l.length<=1048576):
  Calls prog 205 #[jp xb] w λe w'=>e=aG (ν<|dK f.dG)/\∃v,aE w' {f with bD:=l} xb {L with fv:=v,own:=gE L.own w.heap.size 0}/\v.ownBlock=L.fv.ownBlock/\aS (λb=>b=xb\/Z b=L.fv.ownBlock) w w':=by
 have p:=h.bD;rw[hf]at p
 let⟨g,cap,e,A⟩:=yV p ay
 have O:w.cell? (F xb 17)=Z (ζ (Z<|F g 0) (l.length+1) cap):=by have:=aD h.box (i:=17) (v:=L.fv) U;rw[this,e];rfl
 have R:xb<w.heap.size:=(bf.1 h.box).1;have hg:g<w.heap.size:=jJ p g C1;have m:aK w (w.alloc<|au #[I 0,ω aa,I 0] 181):=bq;have d17:=bH m O;have d0:=bH m (A 0 _ U);have d1:=bH m (A 1 _ U);have d2:=bH m (A 2 _ U);have bB:aK w ((w.alloc<|au #[I 0,ω aa,I 0] 181).alloc<|au (dK t) 181):=m.alloc m.size _;have n0:((w.alloc<|au #[I 0,ω aa,I 0] 181).alloc<|au (dK t) 181).heap[w.heap.size]? =Z (au #[I 0,ω aa,I 0] 181 (0,0)):=Ez w _ _;have n1:((w.alloc<|au #[I 0,ω aa,I 0] 181).alloc<|au (dK t) 181).heap[w.heap.size+1]? =Z (au (dK t) 181 (0,0)):=Ey w _ _;have C:Hid (aE w f xb L/\L.fv=ζ (Z<|F g 0) (l.length+1) cap/\f.dG=t/\g<w.heap.size/\xb<w.heap.size):=⟨h,by rw[e];rfl,by simp[Fx.dG,hf],hg,R⟩;have N:Hid (w.ownsRow 0 181 3 (ζ (Z<|F g 0) (l.length+1) cap) (l.length+1)<|(dK t).toList++l.flatMap λt=>(dK t).toList):=by rw[e]at p;exact p
 have aQ:g≠xb:=λe'=>by have h1:=h.jP g C1;rw[e',h.eR]at h1;omega
 have n:=aX bB;have K:Hid (((w.alloc<|au #[I 0,ω aa,I 0] 181).alloc<|au (dK t) 181).heap[w.heap.size]? =Z (au #[I 0,ω aa,I 0] 181 (0,0))/\((w.alloc<|au #[I 0,ω aa,I 0] 181).alloc<|au (dK t) 181).heap[w.heap.size+1]? =Z (au (dK t) 181 (0,0))):=⟨n0,n1⟩;have H:f.dG=t:=C.2.2.1;rw[H];clear h p e A hf H n0 n1 bB m;go_enter func205,ntmps205
 go_upto_region 4 with fail
 clear d17 d0 d1 d2;show JK _ _ _ _ ((w.alloc<|au #[I 0,ω aa,I 0] 181).alloc<|au (dK t) 181);generalize (w.alloc<|au #[I 0,ω aa,I 0] 181).alloc (au (dK t) 181)=B at*;have d17:=bH n O
 have HD:Hid (Calls prog 241 #[ζ (Z<|F g 0) (l.length+1) cap,I 0,I 1] B λe c=>∃d,(∃j k,d=ζ j l.length k)/\e=aG d/\aE (c.setCell (F xb 17) d) {f with bD:=l} xb {L with fv:=d,own:=gE L.own w.heap.size 0}/\d.ownBlock=L.fv.ownBlock/\aS (λb=>b=xb\/Z b=L.fv.ownBlock) w c/\c.heap[xb]? =B.heap[xb]? /\c.heap[w.heap.size]? =Z (au #[I 0,ω aa,I 0] 181 (0,0))/\c.heap[w.heap.size+1]? =Z (au (dK t) 181 (0,0))):=by
  let⟨s,hv,_,_,_⟩:=C;apply(Z6 B (yX N n) (U)<|abt l).m;rintro e c ⟨d,rfl,hr,u,ho⟩;have Q:d.ownBlock=L.fv.ownBlock:=by rw[ho,hv]
  have hn:∀b,d.ownBlock=Z b->gE L.own w.heap.size 0 b=4:=λb a=>by
   have r:L.fv.ownBlock=Z b:=by rw[<-Q];exact a
   rw[gW<|jJ s.bD b r];exact s.jP b r
  have q:∀b,Z b=(fM (Z<|F g 0) (l.length+1) cap).ownBlock->b=g:=λb a=>by simpa[lW]using a
  let⟨j,k,E,_⟩:=Oo hr;refine⟨d,⟨j,k,E⟩,U,((s.owns (gE L.own w.heap.size 0) λb a=>gW a).below n).dG u (λb _ a=>by have r:L.fv.ownBlock=Z b:=(by rw[hv];exact a.y);exact(gW<|jJ s.bD b r).t (s.jP b r)) hr (λ_ _=>U) hn,Q,(aS.below n).t (u.m λb _ a=>az (by rw[hv];exact a)),u.block _ (cS R n.size)<|λa=>aQ (q _ a).y,ze u K.1 (λa=>by have:=q _ a;omega),ze u K.2 (λa=>by have:=q _ a;omega)⟩
 clear N
 go_upto_region 5 with(go_at_call 241;apply HD.m;rintro e c ⟨d,⟨j,k,E⟩,rfl,S,T,V,W,X,k6⟩;have G:=W.t<|aX<|bT n C.1.box;have bh:=aD G (i:=17) (v:=L.fv) U;have xf:=bp G 17;have o:Hid (aE (c.setCell (F xb 17) d) {f with bD:=l} xb {L with fv:=d,own:=gE L.own w.heap.size 0}/\d.ownBlock=L.fv.ownBlock/\aS (λb=>b=xb\/Z b=L.fv.ownBlock) w c/\c.heap[w.heap.size]? =Z (au #[I 0,ω aa,I 0] 181 (0,0))/\c.heap[w.heap.size+1]? =Z (au (dK t) 181 (0,0))):=⟨S,T,V,X,k6⟩;clear S T V W X k6 G;subst E)
 have x:(c.setCell (F xb 17)<|ζ j l.length k).heap[w.heap.size]? =Z (au #[I 0,ω aa,I 0] 181 (0,0)):=(bC Y).t o.2.2.2.1;have m1:(c.setCell (F xb 17)<|ζ j l.length k).heap[w.heap.size+1]? =Z (au (dK t) 181 (0,0)):=(bC Y).t o.2.2.2.2;have D:Hid (aS (λb=>b=xb\/Z b=L.fv.ownBlock) w<|c.setCell (F xb 17)<|ζ j l.length k):=o.2.2.1.set (aA U) _;have J:Hid (aE (c.setCell (F xb 17)<|ζ j l.length k) {f with bD:=l} xb {L with fv:=ζ j l.length k,own:=gE L.own w.heap.size 0}/\(fM j l.length k).ownBlock=L.fv.ownBlock):=⟨o.1,o.2.1⟩;clear o bh xf;generalize c.setCell (F xb 17) (ζ j l.length k)=z at*;have z0:=aD x (i:=0) U;have z1:=aD x (i:=1) U;have z2:=aD x (i:=2) U;have y0:=aD m1 (i:=0) U;have y1:=aD m1 (i:=1) U;have y2:=aD m1 (i:=2) U;have fz:=λi=>bp x i;clear x m1;go_wp2;refine iB (v:=ν<|dK t) (by simp[results,results205,go_sem,z0,z1,z2]) U ⟨U,?_⟩;have P:∀b,b≠w.heap.size->(((z.setCell (F w.heap.size 0)<|I t.delay).setCell (F w.heap.size 1)<|ω t.eJ).setCell (F w.heap.size 2)<|I t.part).heap[b]? =z.heap[b]? :=λb a=>(bC a).t ((bC a).t<|bC a);have hs:(((z.setCell (F w.heap.size 0)<|I t.delay).setCell (F w.heap.size 1)<|ω t.eJ).setCell (F w.heap.size 2)<|I t.part).heap.size=z.heap.size:=ay;refine⟨_,J.1.yE λb _ a=>P b λe=>a ?_,J.2,⟨D.os,by rw[hs];exact D.size,λb a q=>(P b Y).t (D.block b a q)⟩⟩;show gE _ _ _ _=0;rw[e];exact uZ<|aR _
def Fx.held(f:Fx)(r:Rq):Bool:=f.fl.any (λb=>b.rs.any (r.touch ·))||f.K.any λo=>match o with|none=>aa|some k=>k.eM f.g&&(decide (k.fst.no<r.no)&&k.fst.touch r)
def Fx.free(f:Fx)(k:Ck):Bool:=k.eM f.g&&!f.held k.fst
structure Ck.kM(k:Ck):Prop where
 out:k.u.size<=4194304
 prom:0<=k.prom/\k.prom<=4194304
 q:∀r∈k.q,r.Ok
abbrev Ck.kM.u:=@Ck.kM.out
structure Fx.kM(f:Fx):Prop where
 cl:∀k,Z k∈f.K->k.kM
 jb:∀b∈f.fl,(∀x∈b.rs,x.Ok)/\b.rs.length<=1048576
 dL:f.K.length<=65535
 kA:f.fl.length<=65535
 pq:∀(i j:Nat) (b c:Jb),f.fl[i]? =Z b->f.fl[j]? =Z c->b.order=c.order->i=j
def NM{c:Type}(R:Nat->c->Prop)(d:c)(i:∀x a b,R x a->R x b->a=b):∃e:Nat->c,∀x a,R x a->e x=a:=by
 classical
 refine⟨λx=>if h:∃a,R x a then h.choose else d,λx a g=>?_⟩;have h:∃a,R x a:=⟨a,g⟩;grind
section
variable {w W:aq} {f:Fx} {xb:Nat} {L:cZ}
def aE.aC(h:aE w f xb L){s}{l:Lc}(hl:L.cs[s]? =Z (Z l)):∃k,f.K[s]? =Z (Z k)/\l.At w f.g k/\l.iC λb=>L.own b=7+2*s:=by
 have c:s<f.K.length:=by rw[<-h.cs.len];exact(bY.1 hl).1
 have a:=dj c;have:=h.cs.at_ s _ _ a hl;rcases e:f.K[s]with _|k;rw[e]at this;exact absurd this O3;rw[e]at this a;exact⟨k,a,this.1,this.2⟩
def aE.sat(h:aE w f xb L){s:Nat}{k}(c:f.K[s]? =Z (Z k)):∃l,L.cs[s]? =Z (Z l)/\l.At w f.g k/\l.iC λb=>L.own b=7+2*s:=by
 have d:s<L.cs.length:=by rw[h.cs.len];exact(bY.1 c).1
 have a:=dj d;have:=h.cs.at_ s _ _ c a;rcases e:L.cs[s]with _|l;rw[e]at this;exact absurd this O3;rw[e]at this a;exact⟨l,a,this.1,this.2⟩
def za{cs:av (aV Lc)}{c}:c∈cI (cs.map λl=>l.map Lc.c)↔∃(s:Nat) (l:Lc),cs[s]? =Z (Z l)/\l.c=c:=by simp only[cI,sX,jY,id];constructor;rintro⟨o,⟨l,a,rfl⟩,h⟩;rcases l with _|l;simp at h;let⟨s,b⟩:=Km a;exact⟨s,l,b,acm⟩;rintro⟨s,l,a,rfl⟩;exact⟨_,⟨Z l,jC a,U⟩,U⟩
def Eg{g}{k:Ck}(a:k.kM)(hr:k.eM g=M):k.fst.Ok:=by rcases e:k.q with _|⟨r,l⟩;simp[Ck.eM,e]at hr;simp only[Ck.fst,e];exact a.q r (by rw[e];simp)
def aE.held(h:aE w f xb L)(hf:f.kM)(r)(hr:r.Ok):bN 199 #[jp xb,ν<|aU r] w (ω<|f.held r):=by
 let⟨N,J⟩:=NM (λx (k:Ck)=>∃(s:Nat) (l:Lc),f.K[s]? =Z (Z k)/\L.cs[s]? =Z (Z l)/\l.c=x) ⟨0,0,0,⟨#[]⟩,[],0,0,⟨#[]⟩,0,0,0,[]⟩ (by rintro x a b ⟨s,l,d,m,n⟩ ⟨X,l',u,O,P⟩;let⟨_,_,_,T⟩:=h.aC m;let⟨_,_,_,V⟩:=h.aC O;have E:=T.1;have G:=V.1;rw[n]at E;rw[P]at G;have:s=X:=Y;subst this;rw[d]at u;simpa using u);let⟨jf,R⟩:=NM (λx (b:Jb)=>∃(i:Nat) (l:Lj),f.fl[i]? =Z b/\L.js[i]? =Z l/\l.j=x) ⟨0,[],⟨0,aa,0⟩,0,0⟩ (by rintro x a b ⟨s,l,d,m,n⟩ ⟨X,l',u,O,P⟩;let⟨_,_,_,T⟩:=h.js.at_ _ _ _ d m;let⟨_,_,_,V⟩:=h.js.at_ _ _ _ u O;have E:=T.1;have G:=V.1;rw[n]at E;rw[P]at G;have:s=X:=hf.pq _ _ _ _ d u Y;subst this;rw[d]at u;simpa using u);let⟨a,cap,hv,_,_⟩:=Oo h.fl.row;have lE:∀x,x<f.fl.length->∃(i:Nat) (b:Jb) (l:Lj),f.fl[i]? =Z b/\L.js[i]? =Z l/\l.j=L.hf x:=λx t=>by
  let⟨i,l,d,m⟩:=h.fl.aN x t;have H:i<f.fl.length:=by rw[<-h.js.len];exact(bY.1 d).1
  exact⟨i,f.fl[i],l,dj H,d,m.y⟩
 have A:Lr w xb L.sb f.K.length (L.cs.map λl=>l.map Lc.c) a f.fl.length cap ((dA f.fl.length).map L.hf) r (λx=>(jf x).rs.any (r.touch ·)) (λx=>(N x).fst) (λx=>(N x).eM f.g):=by
  refine⟨?_,ay,hf.kA,?_,?_,?_,⟨aD h.box U,ajl,hf.dL,λj v D=>aD h.dL (xA D),⟨_,h.dL⟩⟩,?_,hr,?_⟩;rw[<-hv];exact aD h.box U;intro j x t;have D:j<f.fl.length:=by have:=(bY.1 t).1;exact akY
  let⟨g,c,e,B⟩:=yV h.fl.row Y;rw[hv]at e;cases e;refine⟨g,U,B j _ ?_⟩;rw[Ir D];simp[D]at t;rw[t];intro g hg;exact jJ h.fl.row g (by rw[hv];exact hg);intro j D W Q;obtain⟨x,t,rfl⟩:=jY.1 D;let⟨i,b,l,d,m,n⟩:=lE x (nD.1 t);let⟨lc,_,u,_⟩:=h.js.at_ _ _ _ d m;have C:=hf.jb b (jC d);have:=acP l.j lc.c l.rv b.rs b.ft b.due b.order r W (u.below Q) hr C.1 C.2;rwa [R (L.hf x) b ⟨i,l,d,m,n⟩,<-n];intro c B W Q;obtain⟨s,l,d,rfl⟩:=za.1 B;let⟨k,m,n,_⟩:=h.aC d;rw[J l.c k ⟨s,l,m,d,U⟩];have S:=hf.cl k (jC m);exact Xl _ _ _ _ _ _ _ W (n.p.old Q) S.q S.u S.prom;intro c B hrd;obtain⟨s,l,d,rfl⟩:=za.1 B;let⟨k,m,n,_⟩:=h.aC d;rw[J l.c k ⟨s,l,m,d,U⟩]at hrd⊢;exact Eg (hf.cl k<|jC m) hrd
 apply(acM _ _ _ _ _ _ _ _ _ _ _ _ w A).m;rintro e w' ⟨rfl,C⟩;refine⟨?_,C⟩;have E:((dA f.fl.length).map L.hf).any (λx=>(jf x).rs.any (r.touch ·))=f.fl.any λb=>b.rs.any (r.touch ·):=by
  rw[sR,uw,uw];constructor;rintro⟨aQ,hy,z⟩;obtain⟨x,t,rfl⟩:=jY.1 hy;let⟨i,b,l,d,m,n⟩:=lE x (nD.1 t);rw[R (L.hf x) b ⟨i,l,d,m,n⟩]at z;exact⟨b,jC d,z⟩;rintro⟨b,C,z⟩;let⟨i,H⟩:=Km C;have hl:i<L.js.length:=by rw[h.js.len];exact(bY.1 H).1
  let⟨x,t,n⟩:=h.fl.all i _ (dj hl);refine⟨L.hf x,jY.2 ⟨x,nD.2 t,U⟩,?_⟩;rwa [R (L.hf x) b ⟨i,_,H,dj hl,n.y⟩]
 have G:(cI<|L.cs.map λl=>l.map Lc.c).any (ahead r (λx=>(N x).fst) λx=>(N x).eM f.g)=f.K.any λo=>match o with
   |none=>aa|some k=>k.eM f.g&&(decide (k.fst.no<r.no)&&k.fst.touch r):=by
  rw[sR,uw,uw];constructor;rintro⟨c,B,z⟩;obtain⟨s,l,d,rfl⟩:=za.1 B
  let⟨k,m,n,_⟩:=h.aC d
  refine⟨Z k,jC m,?_⟩;simp only[ahead,J l.c k ⟨s,l,m,d,U⟩]at z;exact z;rintro⟨o,ho,z⟩;rcases o with _|k;simp at z
  let⟨s,hs⟩:=Km ho
  let⟨l,d,m,_⟩:=h.sat hs
  refine⟨l.c,za.2 ⟨s,l,d,U⟩,?_⟩;simp only[ahead,J l.c k ⟨s,l,hs,d,U⟩];exact z
 rw[E,G];rfl
def aE.firstFree(h:aE w f xb L)(hf:f.kM){s:Nat}{k l}(d:f.K[s]? =Z (Z k))(hl:L.cs[s]? =Z (Z l)):bN 162 #[jp xb,jp l.c] w (θ #[ν<|aU k.fst,ω<|f.free k]):=by let⟨i,b,e,_⟩:=h.aC hl;rw[d]at b;cases b;have hF:=hf.cl k (jC d);exact aaX xb l.c k.fst (k.eM f.g) (f.held k.fst) w (λW a=>Xl _ _ _ _ _ _ _ W (e.p.old a) hF.q hF.u hF.prom) λhr W a=>(h.below a).held hf _ (Eg hF hr)
end
abbrev Fx.at (f:Fx)(s:Nat)(k:Ck):Fx:={f with K:=f.K.set s (Z k)}
abbrev qZ:Rq:=⟨bh.zero,0⟩
def Fx.along(f:Fx)(s:Nat)(k:Ck)(a:av Rq):Bool:=(f.at s k).free k&&(decide (cw k.fst.m<=k.de)&&tN (a[0]?.getD qZ) (a[a.length-1]?.getD qZ) k.fst f.g.mx)
def Ck.next(k:Ck):Ck:=k.bO k.fst k.q.tail
def Fx.eK(f:Fx)(s:Nat):Nat->Ck->av Rq->Ck×av Rq
 |0,k,a=>(k,a)|n+1,k,a=>if f.along s k a then f.eK s n k.next (a++[k.fst])else(k,a)
def oq(b:Jb)(fl:av Jb):Nat:=(fl.takeWhile λx=>eI x.key b.key).length
def jw{a:Type}(p:Nat)(x:a)(l:av a):av a:=l.take p++x::l.drop p
def fP(b:Jb)(fl:av Jb):av Jb:=jw (oq b fl) b fl
def Fx.gN(f:Fx)(s:Nat)(k:Ck):Fx:=let p:=f.eK s k.next.q.length k.next [k.fst];{f.at s p.1 with bD:=f.bD.tail,bO:=f.bO+1,fl:=fP ⟨s,p.2,f.dG,f.clock+f.dG.delay,f.bO⟩ f.fl}
structure Ck.Go(k:Ck):Prop where
 out:k.u.size<=4194304
 prom:0<=k.prom/\k.prom<=4194304
 q:∀r∈k.q,r.Ok
 tok:0<=k.tok/\k.tok<=65535
 de:0<=k.de/\k.de<=1048576
 sv:0<=k.sv/\k.sv+k.de<=281474976710656
 bw:0<=k.bw/\k.bw+k.q.length<=1048576
abbrev Ck.Go.u:=@Ck.Go.out
def Ck.Go.fine{k:Ck}(h:k.Go):k.kM:=⟨h.u,h.prom,h.q⟩
def Ck.Go.dsp{k:Ck}(h:k.Go):k.CL:=⟨h.tok,h.de,⟨h.sv.1,by have:=h.sv;have:=h.de;omega⟩,⟨h.bw.1,by have:=h.bw;omega⟩,h.prom,h.q⟩
def X4{r:Rq}(h:r.Ok):0<=cw r.m:=by unfold cw;have:=h.nh;split<;>omega
def size_pos{r:Rq}(h:r.Ok):0<=sizeOf' r.m:=by unfold sizeOf';have:=h.nh;split<;>omega
def yT{g}{k:Ck}(h:k.eM g=M):∃r l,k.q=r::l/\k.fst=r/\k.q.tail=l/\0<k.tok/\(k.u.size:Int)+k.prom+sizeOf' r.m<=g.ou:=by rcases e:k.q with _|⟨r,l⟩;simp[Ck.eM,e]at h;simp[Ck.eM,e]at h;exact⟨r,l,rfl,by simp[Ck.fst,e],ay,h.1,h.2⟩
def Ck.Go.next{k:Ck}{g}(h:k.Go)(w:g.ou<=65535)(hr:k.eM g=M)(j:cw k.fst.m<=k.de):k.next.Go/\k.next.q.length+1=k.q.length:=by
 let⟨r,l,a,c,e,o,p⟩:=yT hr;have d:=h.q r j4;have:=X4 d;have:=size_pos d;rw[c]at j;have i:k.next=k.bO r l:=by rw[Ck.next,c,e]
 rw[i];have s:=h.tok;have t:=h.de;have u:=h.sv;have b:=h.bw;have v:=h.prom;rw[a]at b;simp at b;refine⟨⟨h.u,⟨by show 0<=k.prom+sizeOf' r.m;omega,by show k.prom+sizeOf' r.m<=4194304;omega⟩,λx n=>h.q x (by rw[a];exact gC _ n),⟨by show 0<=k.tok-1;omega,by show k.tok-1<=65535;omega⟩,⟨by show 0<=k.de-cw r.m;omega,by show k.de-cw r.m<=1048576;omega⟩,⟨by show 0<=k.sv+cw r.m;omega,by show k.sv+cw r.m+(k.de-cw r.m)<=281474976710656;omega⟩,by show 0<=k.bw+1;omega,?_⟩,by rw[a];rfl⟩;show k.bw+1+(l.length:Int)<=1048576;push_cast at b;omega
def Dp{f:Fx}{k}(h:f.free k=M):k.eM f.g=M:=by simp[Fx.free]at h;exact h.1
def Fx.RM{f:Fx}{s k rs}(h:f.along s k rs=M):k.eM f.g=M/\cw k.fst.m<=k.de:=by simp only[Fx.along,cQ,tB]at h;exact⟨Dp (f:=f.at s k) h.1,h.2.1⟩
def Fx.kM.at {f:Fx}{s k}(h:f.kM)(a:k.kM):(f.at s k).kM:=by refine⟨λx hx=>?_,h.jb,by show(f.K.set s<|Z k).length<=_;rw[jB];exact h.dL,h.kA,h.pq⟩;rcases Ks hx with hx|hx;exact h.cl x hx;cases hx;exact a
section
variable {W W':aq} {f:Fx} {xb:Nat} {L:cZ}
def fT.js'{own cq T cs cs' fl js}(a:fT W W' own cq T)(h:CS W own cs fl js)(hc:∀(s:Nat) lc,cs[s]? =Z (Z lc)->∃e,cs'[s]? =Z (Z e)/\e.c=lc.c)(j:∀b∈fl,¬T (8+2*b.order)):CS W' cq cs' fl js:=⟨h.len,λi b l d g=>(h.at_ i b l d g).aside a (hc b.s) (j b<|jC d)⟩
def aE.SD(h:aE W f xb L){s n}{k k':Ck}{l l' cq}(hl:L.cs[s]? =Z (Z l))(hc:l'.c=l.c)(a:fT W W' L.own cq λt=>t=7+2*s\/t=8+2*n)(hf:∀b∈f.fl,b.order≠n)(hr:l'.At W' f.g k')(p:l'.iC λb=>cq b=7+2*s):
  aE W' (f.at s k') xb {L with cs:=L.cs.set s<|Z l',own:=cq}:=by
 have b1:=a.blk h.box h.eR Y;have d:=a.blk h.dL h.je Y;have i:=a.row h.bD h.jP Y;have j:=a.row h.log h.ni Y;have m:=a.fG h.fG h.jH Y;refine⟨?_,b1.2,?_,d.2,a.Gz h.cs (λx q=>by omega) ⟨hr,p⟩,a.js' h.js (OG hl hc) (λb o=>by have:=hf b o;omega),a.pZ h.fl Y,i.1,i.2,j.1,j.2,m.1,m.2⟩;have e:=b1.1;simpa[lC]using e;have e:=d.1;show Ai W' L.sb ((L.cs.set s<|Z l').map λl=>l.map Lc.c)
 rwa [VU hl hc]
end
structure mQ(W:aq)(f:Fx)(xb:Nat)(L:cZ)(s n j:Nat)(l:Lc)(k:Ck)(rv:aB)(rs:av Rq):Prop where
 fx:aE W (f.at s k) xb L
 aC:L.cs[s]? =Z (Z l)
 lE:fA W j l.c rv rs ⟨0,aa,0⟩ 0 0
 tag:L.own j=8+2*n/\∀b,rv.ownBlock=Z b->L.own b=8+2*n
structure bE(w:aq)(L:cZ)(w':aq)(a:cZ):Prop where
 own:∀b,b<w.heap.size->a.own b=L.own b
 cy:aS (λb=>L.own b≠0) w w'
def bE.refl(w L):bE w L w L:=⟨λ_ _=>U,aS.refl _ _⟩
def bE.trans{a b c L aqe N}(h:bE a L b aqe)(k:bE b aqe c N):bE a L c N:=⟨λx d=>(k.own x<|cS d h.cy.size).t (h.own x d),⟨k.cy.os.t h.cy.os,cM h.cy.size k.cy.size,λx d e=>(k.cy.block x (cS d h.cy.size) (by rw[h.own x d];exact e)).t (h.cy.block x d e)⟩⟩
abbrev bE.t:=@bE.trans
section
variable {w W:aq} {f:Fx} {xb s n:Nat} {L:cZ} {k:Ck} {l:Lc}
def next_eq{r t}(a:k.fst=r)(b:k.q.tail=t):k.next=k.bO r t:=by rw[Ck.next,a,b]
def Ej{a:Type}{l:av a}{i x aqi}(h:l[i]? =Z x):(l.set i aqi)[i]? =Z aqi:=iy (bY.1 h).1
def afe(h:aE w f xb L)(R:f.K[s]? =Z (Z k))(hl:L.cs[s]? =Z (Z l))(O:k.Go)(hr:k.eM f.g=M)(S:∀b∈f.fl,b.order≠n):
  Calls prog 201 #[jp l.c] w λe u=>∃j rv x E,e=aG (jp j)/\mQ u f xb x s n j E k.next rv [k.fst]/\bE w L u x/\E.c=l.c:=by
 let⟨k0,z,B,d⟩:=h.aC hl
 rw[R]at z;cases z
 let⟨r,t,G,A,H,_⟩:=yT hr
 have m:=B.eE;apply(aee _ _ _ _ _ _ _ _ r t w B G O.dsp).m;rintro e u ⟨j,rv,rfl,P,⟨o,N,V⟩,D,Q,X⟩;rw[next_eq A H,A];have C:∀b,b<w.heap.size->(b=l.c\/Z b=l.q.ownBlock)->L.own b=7+2*s:=λb _ a=>a.e (λe=>by rw[e];exact d.1) λe=>d.2.2.2.2.1 b e.y;have i:∀b,b<w.heap.size->gE L.own w.heap.size (8+2*n) b=L.own b:=λb a=>gW a
 refine⟨j,rv,{L with cs:=L.cs.set s<|Z ⟨l.c,l.rb,l.mb,l.ch,o,l.v⟩,own:=gE L.own w.heap.size<|8+2*n},⟨l.c,l.rb,l.mb,l.ch,o,l.v⟩,U,⟨h.SD (k:=k) hl U ⟨λb a T=>D.block b a λp=>T (aA<|C b a p),i⟩ S N ⟨(i _ m.1).t d.1,(i _ m.2.1).t d.2.1,(i _ m.2.2.1).t d.2.2.1,(i _ m.2.2.2.1).t d.2.2.2.1,λb a=>by rw[show(Lc.mk l.c l.rb l.mb l.ch o l.v).q=o from U,V]at a;exact(i _<|m.2.2.2.2.1 b a).t (d.2.2.2.2.1 b a),λb a=>(i _<|m.2.2.2.2.2 b a).t (d.2.2.2.2.2 b a)⟩,Ej hl,P,uZ Q,λb a=>uZ (X b a)⟩,⟨i,D.m λb a p=>by rw[C b a p];omega⟩,U⟩
def at_at(f:Fx)(s k k'):(f.at s k).at s k'=f.at s k':=by simp[Fx.at]
def afb{j rv rs}(h:mQ W f xb L s n j l k rv rs)(X:s<f.K.length)(O:k.Go)(hr:k.eM f.g=M)(R:∀b∈f.fl,b.order≠n)(hm:rs.length<=1048576):
  Calls prog 203 #[jp j] W λe p=>e=aG (θ #[])/\∃tV u l',mQ p f xb u s n j l' k.next tV (rs++[k.fst])/\bE W L p u/\l'.c=l.c:=by
 let⟨k0,C,z,d⟩:=h.fx.aC h.aC
 have E:=C.y.t (iy X);cases E
 let⟨r,t,G,x,H,_⟩:=yT hr
 have i:=z.eE;refine(N7 _ _ _ _ _ _ _ _ _ _ rs r t _ _ _ W h.lE z G O.dsp hm λb hb e=>?_).m ?_
 ·have h1:=h.tag.2 b hb;have h2:=d.2.2.2.2.1 b e.y;omega
 rintro e p ⟨rfl,⟨tV,P,V⟩,⟨m,N,T⟩,B⟩;rw[next_eq x H,x];refine⟨U,tV,{L with cs:=L.cs.set s<|Z ⟨l.c,l.rb,l.mb,l.ch,m,l.v⟩,own:=gE L.own W.heap.size<|8+2*n},⟨l.c,l.rb,l.mb,l.ch,m,l.v⟩,?_,?_,U⟩
 all_goals
  have A:∀b,b<W.heap.size->(b=l.c\/b=j\/Z b=l.q.ownBlock\/Z b=rv.ownBlock)->L.own b=7+2*s\/L.own b=8+2*n:=λb _ hb=>by rcases hb with rfl|rfl|hb|hb;exact aA d.1;exact az h.tag.1;exact aA<|d.2.2.2.2.1 b hb.y;exact az<|h.tag.2 b hb.y
  have a:∀b,b<W.heap.size->gE L.own W.heap.size (8+2*n) b=L.own b:=λb hb=>gW hb
 ·have hF:=h.fx.SD (k:=k) (n:=n) (l':=⟨l.c,l.rb,l.mb,l.ch,m,l.v⟩) (k':=k.bO r t) (cq:=gE L.own W.heap.size<|8+2*n) h.aC U ⟨λb hb S=>B.block b hb λo=>S (A b hb o),a⟩ R N ⟨(a _ i.1).t d.1,(a _ i.2.1).t d.2.1,(a _ i.2.2.1).t d.2.2.1,(a _ i.2.2.2.1).t d.2.2.2.1,λb hb=>by rw[show(Lc.mk l.c l.rb l.mb l.ch m l.v).q=m from U,T]at hb;exact(a _<|i.2.2.2.2.1 b hb).t (d.2.2.2.2.1 b hb),λb hb=>(a _<|i.2.2.2.2.2 b hb).t (d.2.2.2.2.2 b hb)⟩;rw[at_at]at hF;refine⟨hF,Ej h.aC,P,(a _ ((bf.1 h.lE.box).1)).t h.tag.1,λb hb=>?_⟩;rcases V with hv|hv;rw[hv]at hb;exact(a _<|(jJ h.lE.row) b hb).t<|h.tag.2 b hb;exact uZ<|hv b hb
 exact⟨a,B.m λb hb o=>by rcases A b hb o with e|e<;>rw[e]<;>omega⟩
def mQ.below{W' j rv rs}(h:mQ W f xb L s n j l k rv rs)(a:aK W W'):mQ W' f xb L s n j l k rv rs:=⟨h.fx.below a,h.aC,h.lE.below a,h.tag⟩
def afd{j rv a}(h:mQ W f xb L s n j l k rv a)(B:s<f.K.length)(hf:f.kM)(o:k.Go)(h0:0<a.length)(hm:a.length<=1048576)(q:∀r∈a,r.Ok):
  bN 202 #[jp xb,jp l.c,jp j] W (ω<|f.along s k a):=by
 let⟨D,i,z,C⟩:=h.fx.aC h.aC
 have v:(f.K.set s<|Z k)[s]? =Z (Z k):=iy B;have x:=i.y.t v;cases x;have t:=dj h0;have u:a[a.length-1]? =Z a[a.length-1]:=dj Y;have e:f.along s k a=((f.at s k).free k&&(decide (cw k.fst.m<=k.de)&&tN a[0] a[a.length-1] k.fst f.g.mx)):=by rw[Fx.along,t,u];rfl
 rw[e];exact abY xb l.c j k.fst _ _ _ f.g.mx W (aD h.fx.box U) (h.fx.firstFree (hf.at (s:=s) o.fine) i h.aC) (λb d=>Sv l.c k.fst k.de b (bH d<|aD z.p.box U)) λA _ b d=>(abc j l.c rv a _ _ k.fst _ _ _ _ b (h.lE.below d) t u (Eg o.fine<|Dp A) (q _<|Qw _) (q _<|Qw _) hm)
end
def WW(b fl):oq b fl<=fl.length:=(List.takeWhile_sublist _).length_le
def Oa{a:Type}{p x}{l:av a}(c:p<=l.length):(jw p x l).length=l.length+1:=by simp[jw];omega
def Oc{a:Type}{p i x}{l:av a}(c:p<=l.length)(h:i<p):(jw p x l)[i]? =l[i]? :=by rw[jw,BS bV,vP,aO h]
def NW{c:Type}{p x}{l:av c}(a:p<=l.length):(jw p x l)[p]? =Z x:=by rw[jw,vO bV];simp[uE a]
def NY{a:Type}{p i x}{l:av a}(c:p<=l.length)(h:p<=i):(jw p x l)[i+1]? =l[i]? :=by rw[jw,vO bV];grind
def afs{c:Type}{p i x aqi}{l:av c}(a:p<=l.length)(h:l[i]? =Z aqi):(jw p x l)[if i<p then i else i+1]? =Z aqi:=by by_cases e:i<p;rw[aO e,Oc a e];exact h;rw[aI e,NY a Y];exact h
def NZ{g h:Type}{p i:Nat}{x aqi u v}{l:av g}{m:av h}(d:p<=l.length)(hm:m.length=l.length)(a:(jw p x l)[i]? =Z aqi)(c:(jw p u m)[i]? =Z v):(aqi=x/\v=u)\/∃j:Nat,l[j]? =Z aqi/\m[j]? =Z v:=by rcases E7 i p with e|e|e;rw[Oc d e]at a;rw[Oc Y e]at c;exact az ⟨i,a,c⟩;subst e;rw[NW d]at a;rw[NW Y]at c;grind;obtain⟨i,rfl⟩:∃j,i=j+1:=⟨i-1,Y⟩;rw[NY d Y]at a;rw[NY Y Y]at c;exact az ⟨i,a,c⟩
section
variable {W:aq} {f:Fx} {xb:Nat} {L:cZ} {b:Jb} {lj:Lj}
def abG(h:aE W f xb L)(hj:fB W L.own L.cs b lj)(hn:∀x∈f.fl,x.order≠b.order)(hm:f.fl.length<1048576):
  Calls prog 206 #[π<|Z<|F xb 18,jp lj.j] W λe E=>e=aG (θ #[])/\∃V,aE E {f with fl:=fP b f.fl} xb V/\bE W L E V:=by
 let⟨lc,bh,aH,K⟩:=hj
 have old:∀(i:Nat) l,L.js[i]? =Z l->∃x,f.fl[i]? =Z x/\(∃lc,fA W l.j lc l.rv x.rs x.ft x.due x.order)/\L.own l.j=8+2*x.order/\l.j≠lj.j/\L.key l.j=x.key:=λi l o=>by
  have hi:i<f.fl.length:=by rw[<-h.js.len];exact(bY.1 o).1
  have d:=dj hi;let⟨c,g,k,n⟩:=h.js.at_ i _ _ d o;refine⟨_,d,⟨_,k⟩,n.1,λe=>?_,h.fl.keys i _ _ d o⟩;have P:=n.1;rw[e,K.1]at P;exact hn _ (jC d) Y
 have D:=h.fl.aN
 let z:Nat->Key:=λx=>if x=lj.j then b.key else L.key x
 have T:∀x,x<f.fl.length->z (L.hf x)=L.key (L.hf x):=λx d=>by let⟨i,l,g,k⟩:=D x d;let⟨_,_,_,_,n,_⟩:=old i l g;show(if _ then _ else _)=_;rw[aI (by rw[k];exact n)]
 have aQ:z lj.j=b.key:=aO U
 have aK:∀x,x<f.fl.length->L.hf x≠lj.j:=λx d=>by let⟨i,l,g,k⟩:=D x d;let⟨_,_,_,_,n,_⟩:=old i l g;rw[k];exact n
 refine(afq xb 18 f.fl.length lj.j L.hv L.hf z _ _ W h.box U aM h.fl.row hm (λx d=>?_) (λx d e=>?_) ?_ (λe=>?_) (λe=>?_) ?_).m ?_
 let⟨i,l,g,k⟩:=D x d
 let⟨p,n,⟨c,P⟩,J,h6,h7⟩:=old i l g
 rw[T x d,k,h7];refine⟨P.key,λe=>?_⟩;have:=h.fl.own l.j e.y;omega
 let⟨i,l,g,k⟩:=D x d
 let⟨p,n,_,J,_⟩:=old i l g
 rw[<-k,e,h.eR]at J;omega;rw[aQ];exact aH.key;have:=h.fl.own lj.j e.y;have:=K.1;omega;have:=K.1;rw[e,h.eR]at this;omega
 ·intro x h0 d;have:=h.fl.heap x h0 d;simp only[T x d,T (par x) (by unfold par;omega)];exact this
 rintro e E ⟨rfl,v',B,g1,g2,H,g4,g5,g6⟩;have S:=WW b f.fl;have hX:∀x,x<W.heap.size->(x=xb\/Z x=L.hv.ownBlock)->L.own x=1\/L.own x=3:=λx _ d=>d.e (λe=>aA X6) λe=>az (h.fl.own x e.y);have a:fT W E L.own (gE L.own W.heap.size 3) λt=>t=1\/t=3:=⟨λx d xg=>g5.block x d λR=>xg (hX x d R),λx d=>gW d⟩;have X:=a.blk h.dL h.je Y;have b4:=a.row h.bD h.jP Y;have b5:=a.row h.log h.ni Y;have b6:=a.fG h.fG h.jH Y;have q:(fP b f.fl).length=f.fl.length+1:=Oa S;have aJ:L.js.length=f.fl.length:=h.js.len;have N:oq b f.fl<=L.js.length:=Y;have bp:xb<W.heap.size:=(bf.1 h.box).1;refine⟨U,{L with js:=jw (oq b f.fl) lj L.js,hv:=v',hf:=B,key:=z,own:=gE L.own W.heap.size 3},⟨g1,(gW bp).t h.eR,X.1,X.2,a.cs h.cs (λs=>by omega),⟨?_,?_⟩,⟨?_,?_,?_,?_,?_,?_,?_⟩,b4.1,b4.2,b5.1,b5.2,b6.1,b6.2⟩,⟨λx d=>gW d,g5.m λx d R=>by rcases hX x d R with e|e<;>rw[e]<;>omega⟩⟩;show(jw _ _ _).length=(fP b f.fl).length;rw[Oa N,q];omega;intro i x l d o;rcases NZ S aJ d o with⟨rfl,rfl⟩|⟨C,g,k⟩;exact fB.aside a ⟨lc,bh,aH,K⟩ (λc Q=>⟨c,Q,U⟩) Y;exact fB.aside a (h.js.at_ C x l g k) (λc Q=>⟨c,Q,U⟩) Y;show E.ownsRow 0 _ 1 v' (fP b f.fl).length (kF (fP b f.fl).length B);rw[q];exact g2;intro x d;show gE _ _ _ _=3;rcases g6 with e|e;have w:L.hv.ownBlock=Z x:=by rw[<-e];exact d
 rw[gW<|jJ h.fl.row x w];exact h.fl.own x w;exact uZ<|e x d;intro x d;have w:x<f.fl.length+1:=by rw[<-q];exact d
 let⟨p,O,e⟩:=H.aN x w
 show ∃(i:Nat) (l:Lj),(jw (oq b f.fl) lj L.js)[i]? =Z l/\B x=l.j
 by_cases aL:p=f.fl.length
 exact⟨_,lj,NW N,by rw[e];simp[more,aL]⟩
 let⟨i,l,g,k⟩:=D p Y
 exact⟨_,l,afs N g,by rw[e];simp[more,aL,k]⟩;intro i l o;show ∃x,x<(fP b f.fl).length/\B x=l.j;rw[q];rcases NZ (l:=L.js) (m:=L.js) N rfl o o with⟨rfl,_⟩|⟨C,g,_⟩
 let⟨x,d,e⟩:=H.all f.fl.length Y
 exact⟨x,d,by rw[e];simp[more]⟩
 let⟨p,O,A⟩:=h.fl.all C l g
 let⟨x,d,e⟩:=H.all p Y
 exact⟨x,d,by rw[e];simp[more,Nat.ne_of_lt O,A]⟩;intro x p d O e;have w:x<f.fl.length+1:=by rw[<-q];exact d
 have bq:p<f.fl.length+1:=by rw[<-q];exact O
 refine H.one (λu v hu hv r=>?_) x p w bq e
 by_cases A:u=f.fl.length
 by_cases G:v=f.fl.length
 omega;simp[more,A,G]at r;exact absurd r.y<|aK v Y
 by_cases G:v=f.fl.length
 simp[more,A,G]at r;exact absurd r<|aK u Y;simp[more,A,G]at r;exact h.fl.one u v Y Y r;intro i x l d o;show z l.j=x.key;rcases NZ S aJ d o with⟨rfl,rfl⟩|⟨C,g,k⟩;exact aQ
 let⟨p,n,_,_,J,h6⟩:=old C l k
 rw[g]at n;cases n;show(if _ then _ else _)=_;rw[aI J];exact h6;show Hp (fP b f.fl).length λx=>z (B x);rw[q];exact g4
end
def sK:aV aB->Nat
 |some (ζ _ n _)=>n|_=>0
def abN{f:Fx}{s n k rs}(h:f.along s k rs=aa):f.eK s n k rs=(k,rs):=by cases n<;>simp[Fx.eK,h]
def abM{f:Fx}{s n k rs}(h:f.along s k rs=M)(a:n+1=k.q.length):f.eK s k.q.length k rs=f.eK s n k.next (rs++[k.fst]):=by rw[<-a,Fx.eK,aO h]
section
variable {w W W':aq} {f:Fx} {xb s n j:Nat} {L:cZ} {k:Ck} {l:Lc} {rv:aB} {rs:av Rq}
def mQ.len(h:mQ W f xb L s n j l k rv rs)(o:s<f.K.length):sK (W.cell?<|F l.c 13)=k.q.length:=by let⟨t,d,b,r⟩:=h.fx.aC h.aC;have g:(f.K.set s<|Z k)[s]? =Z (Z k):=iy o;have m:=d.y.t g;cases m;let⟨a,cap,e,_⟩:=b.p.row.form;have:=aD b.p.box (i:=13) (v:=l.q) U;rw[this,e];rfl
structure yj(w:aq)(L:cZ)(f:Fx)(xb s n j c:Nat)(G:Ck×av Rq)(W:aq)(b:cZ)(l1:Lc)(a:Ck)(rv:aB)(rs:av Rq):Prop where
 p:mQ W f xb b s n j l1 a rv rs
 gT:bE w L W b
 c:l1.c=c
 go:a.Go
 gat:f.eK s a.q.length a rs=G
 pos:0<rs.length
 len:rs.length+a.q.length<=1048576
 ok:∀r∈rs,r.Ok
def yj.below{c G L1 l1 k1}(h:yj w L f xb s n j c G W L1 l1 k1 rv rs)(a:aK W W'):yj w L f xb s n j c G W' L1 l1 k1 rv rs:=⟨h.p.below a,⟨h.gT.own,h.gT.cy.t<|.below a⟩,h.c,h.go,h.gat,h.pos,h.len,h.ok⟩
def aE.afa(h:aE W f xb L){cq}(a:fT W W' L.own cq λt=>t=8+2*n)(hf:∀b∈f.fl,b.order≠n):aE W' f xb {L with own:=cq}:=by have b1:=a.blk h.box h.eR Y;have c:=a.blk h.dL h.je Y;have d:=a.row h.bD h.jP Y;have e:=a.row h.log h.ni Y;have g:=a.fG h.fG h.jH Y;exact⟨b1.1,b1.2,c.1,c.2,a.cs h.cs (λ_=>by omega),a.js' h.js pE (λb i=>by have:=hf b i;omega),a.pZ h.fl Y,d.1,d.2,e.1,e.2,g.1,g.2⟩
def afc(h:mQ W f xb L s n j l k rv rs)(hm:f.bD.length<=1048576):
  Calls prog 205 #[jp xb] W λe d=>e=aG (ν<|dK f.dG)/\∃m,mQ d {f with bD:=f.bD.tail} xb m s n j l k rv rs/\bE W L d m:=by
 rcases e:f.bD with _|⟨t,r⟩;apply(aeg xb (f.at s k) L W h.fx e).m;rintro p d ⟨rfl,a⟩;refine⟨U,L,?_,⟨λ_ _=>U,.below a⟩⟩;have:({f with bD:=([]:av Ft).tail}:Fx)=f:=by cases f;cases e;rfl
 rw[this];exact h.below a;refine(aeh xb (f.at s k) L t r W h.fx e j4).m ?_;rintro p d ⟨rfl,v,q,x,g⟩;have o:=jJ h.lE.row;have i:∀b,(b=xb\/Z b=L.fv.ownBlock)->L.own b=1\/L.own b=4:=λb a=>a.e (λe=>aA (by rw[e];exact h.fx.eR)) λe=>az (h.fx.jP b e.y);refine⟨U,_,⟨q,h.aC,⟨ze g h.lE.box λc=>?_,eF h.lE.row λb a=>g.block b (o b a) λc=>?_⟩,(gW ((bf.1 h.lE.box).1)).t h.tag.1,λb a=>(gW<|o b a).t (h.tag.2 b a)⟩,⟨λb a=>gW a,g.m λb _ c=>by rcases i b c with e|e<;>rw[e]<;>omega⟩⟩;have:=i _ c;have:=h.tag.1;omega;have:=i _ c;have:=h.tag.2 b a;omega
def aff(h:mQ W f xb L s n j l k rv rs)(t:Ft)(now)(q:∀b∈f.fl,b.order≠n)(h0:0<=now)(g:now<=281474976710656)(i:0<=t.delay)(m:t.delay<=65535):
  Calls prog 204 #[jp j,I now,I n,ν<|dK t] W λe a=>e=aG (θ #[])/\aE a (f.at s k) xb L/\fB a L.own L.cs ⟨s,rs,t,now+t.delay,n⟩ ⟨j,rv⟩/\bE W L a L:=by
 apply(aiF j l.c rv rs _ t 0 0 now n W h.lE h0 g i m).m;rintro e a ⟨rfl,p,d⟩;exact⟨U,h.fx.afa (n:=n) ⟨λb o r=>d.block b o λe=>r (by rw[e];exact h.tag.1),λb _=>U⟩ q,⟨l,h.aC,p,h.tag⟩,⟨λ_ _=>U,d.m λb _ e=>by rw[e,h.tag.1];omega⟩⟩
end
structure Fx.May(f:Fx):Prop where
 fine:f.kM
 ou:f.g.ou<=65535
 fresh:∀b∈f.fl,b.order<f.bO
 clock:0<=f.clock/\f.clock<=281474976710656
 bO:f.bO<=281474976710656
 bD:f.bD.length<=1048576
 dG:0<=f.dG.delay/\f.dG.delay<=65535
 kA:f.fl.length<1048576
abbrev ns(xb:Nat)(c d:Int)(W:aq):Prop:=W.cell? (F xb 13)=Z (I c)/\W.cell? (F xb 12)=Z (I d)
def aE.clS{W f xb L}(h:aE W f xb L):ns xb f.clock f.bO W:=⟨aD h.box U,aD h.box U⟩
def aaf{W f xb L}(h:aE W f xb L):aE (W.setCell (F xb 12)<|I<|(f.bO:Int)+1) {f with bO:=f.bO+1} xb L:=h.put 12 _ {f with bO:=f.bO+1} akW U U U U U ⟨U,U,U⟩
def fB.put{W f xb i L b lj u}(h:aE W f xb L)(d:fB W L.own L.cs b lj):fB (W.setCell (F xb i) u) L.own L.cs b lj:=d.aside (T:=λt=>t=1) ⟨λb _ g=>bC λe=>g X6,λ_ _=>U⟩ (λc a=>⟨c,a,U⟩) Y
def aby(w f xb s L k)(l:Lc)(h:aE w f xb L)(hk:f.K[s]? =Z (Z k))(hl:L.cs[s]? =Z (Z l))(hm:f.May)(T:k.Go)(hr:k.eM f.g=M)(hp:cw k.fst.m<=k.de)(hq:k.q.length<=1048576):
  Calls prog 165 #[jp xb,jp l.c] w λe a=>e=aG (θ #[])/\∃t,aE a (f.gN s k) xb t/\bE w L a t:=by
 have hn:∀b∈f.fl,b.order≠f.bO:=λb hb=>Nat.ne_of_lt (hm.fresh b hb);have z:=T.next hm.ou hr hp
 have HJ:Hid (Calls prog 201 #[jp l.c] w λe a=>∃j,e=aG (jp j)/\∃x l1 i rv n,yj w L f xb s f.bO j l.c (f.eK s k.next.q.length k.next [k.fst]) a x l1 i rv n):=by apply(afe h hk hl T hr hn).m;rintro e a ⟨j,rv,t,V,rfl,u,v,o⟩;refine⟨j,U,t,V,k.next,rv,[k.fst],u,v,o,z.1,U,ay,by have:=z.2;simp;omega,λr aW=>?_⟩;simp at aW;rw[aW];exact Eg T.fine hr
 have HM:Hid (f.May/\s<f.K.length/\∀b∈f.fl,b.order≠f.bO):=⟨hm,((bY.1 hk).1),hn⟩;have HG:Hid (f.gN s k={f.at s (f.eK s k.next.q.length k.next [k.fst]).1 with bD:=f.bD.tail,bO:=f.bO+1,fl:=fP ⟨s,(f.eK s k.next.q.length k.next [k.fst]).2,f.dG,f.clock+f.dG.delay,f.bO⟩ f.fl}):=U;generalize f.eK s k.next.q.length k.next [k.fst]=G at*
 generalize f.gN s k=F' at*;generalize l.c=c at*;go_enter func165,ntmps165;go_wp2_with (go_at_call 201;apply HJ.m;rintro e w1 ⟨j,rfl,hD⟩;have HD:=aX hD)
 go_loopw [] (λwr=>Hid (∃x l1 i rv n,yj w L f xb s f.bO j c G wr x l1 i rv n)) (λW=>sK (W.cell?<|F c 13))
 case atStart=>exact HD
 case round=>
  have hR:=hrel;clear hrel;let⟨x,l1,i,rv,n,D⟩:=hR;have A:=aX D;have C:Hid (bN 202 #[jp xb,jp c,jp j] wr<|ω<|f.along s i n):=by rw[<-D.c];exact afd D.p HM.2.1 HM.1.fine D.go D.pos (by have:=D.len;omega) D.ok
  clear D hR;rcases ha:f.along s i n with _|_
  ·rw[ha]at C;have hG:G=(i,n):=by rw[<-A.gat,abN ha]
   have HN:Hid (∀W,aK wr W->Calls prog 205 #[jp xb] W λe a=>e=aG (ν<|dK f.dG)/\∃d,mQ a {f with bD:=f.bD.tail} xb d s f.bO j l1 i rv n/\bE w L a d):=λW R=>by have D:=A.below R;apply(afc D.p HM.1.bD).m;rintro e a ⟨rfl,d,u,v⟩;exact⟨U,d,u,D.gT.t v⟩
   have HS:Hid (∀W d,mQ W {f with bD:=f.bD.tail} xb d s f.bO j l1 i rv n->bE w L W d->Calls prog 204 #[jp j,I f.clock,I f.bO,ν<|dK f.dG] W λe a=>e=aG (θ #[])/\aE a (({f with bD:=f.bD.tail}:Fx).at s i) xb d/\fB a d.own d.cs ⟨s,n,f.dG,f.clock+f.dG.delay,f.bO⟩ ⟨j,rv⟩/\bE w L a d):=λW d hP hT=>by apply(aff hP f.dG f.clock HM.2.2 HM.1.clock.1 HM.1.clock.2 HM.1.dG.1 HM.1.dG.2).m;rintro e a ⟨rfl,u,v,o⟩;exact⟨U,u,v,hT.t o⟩
   have HC:=aX A.p.fx.clS;have HE:=aX hG;clear hG;go_upto_region 3 with(go_at_call 202;apply C.m;rintro e w2 ⟨rfl,J⟩);refine ga (S:=ns xb f.clock f.bO) ⟨bH J HC.1,bH J HC.2⟩ λbV=>?_;apply tl [0,1,2,3,4,5,6,7];apply tl [8,9];refine rH 10 λK H=>?_;go_simp;go_at_call 205;apply(HN _<|J.t<|jj (Below.refl _ _) _).m;rintro e B ⟨rfl,d,o,E⟩;have bB:ns xb f.clock f.bO B:=o.fx.clS;have O:Hid (mQ B {f with bD:=f.bD.tail} xb d s f.bO j l1 i rv n/\bE w L B d):=⟨o,E⟩;clear o E;refine H _ _ bB<|λbS=>?_;clear H K;refine rH 11 λK H=>?_;go_simp;go_at_call 204;apply(HS _ d O.1 O.2).m;rintro e N ⟨rfl,Q,h6,h7⟩;have aN:ns xb f.clock f.bO N:=Q.clS;have P:Hid (aE N (({f with bD:=f.bD.tail}:Fx).at s i) xb d/\fB N d.own d.cs ⟨s,n,f.dG,f.clock+f.dG.delay,f.bO⟩ ⟨j,rv⟩/\bE w L N d):=⟨Q,h6,h7⟩;clear Q h6 h7;refine H _ _ aN<|λbT=>?_;clear H K;refine dJ ?_;have b9:=aN.2;have xf:=bp P.1.box 12;have hd:(f.bO:Int)<=281474976710656:=by have:=HM.1.bO;omega
   have HU:Hid (Calls prog 206 #[π<|Z<|F xb 18,jp j] (N.setCell (F xb 12)<|I<|(f.bO:Int)+1) λe a=>e=aG (θ #[])/\∃t,aE a F' xb t/\bE w L a t):=by let⟨X,q2,q3⟩:=P;apply(abG (aaf X) (fB.put X q2) HM.2.2 HM.1.kA).m;rintro e a ⟨rfl,t,u,v⟩;refine⟨U,t,?_,(q3.t ⟨λ_ _=>U,(aS.refl _ _).set (by show d.own xb≠0;rw[X.eR];omega) _⟩).t v⟩;rwa [HG,HE]
   clear P HN HS A C O;go_wp2_with (go_at_call 206;apply HU.m;rintro e w5 ⟨rfl,h8⟩);exact fC U U ⟨U,h8⟩
  rw[ha]at C;have HT:Hid (∀W,aK wr W->Calls prog 203 #[jp j] W λe a=>e=aG (θ #[])/\(∃x l1 i rv n,yj w L f xb s f.bO j c G a x l1 i rv n)/\sK (a.cell?<|F c 13)<sK (wr.cell?<|F c 13)):=λW R=>by have D:=A.below R;let⟨a1,a2⟩:=Fx.RM ha;refine(afb D.p HM.2.1 D.go a1 HM.2.2 (by have:=D.len;omega)).m ?_;rintro e a ⟨rfl,tV,t,V,u,v,o⟩;have z:=D.go.next HM.1.ou a1 a2;refine⟨U,⟨t,V,i.next,tV,n++[i.fst],u,D.gT.t v,o.t D.c,z.1,?_,ay,by have:=D.len;have:=z.2;simp;omega,λr hr=>?_⟩,?_⟩;rw[<-D.gat,abM ha z.2];rcases jg.1 hr with hr|hr;exact D.ok r hr;simp at hr;rw[hr];exact Eg D.go.fine a1;have e1:=u.len HM.2.1;have e2:=A.p.len HM.2.1;rw[o,D.c]at e1;rw[D.c]at e2;rw[e1,e2];have:=z.2;omega
  go_wp2_with (first
   |(go_at_call 202;apply C.m;rintro e w2 ⟨rfl,J⟩)|(go_at_call 203;apply(HT _ J).m;rintro e B ⟨rfl,o,E⟩;have H3:Hid ((∃x l1 i rv n,yj w L f xb s f.bO j c G B x l1 i rv n)/\sK (B.cell?<|F c 13)<sK (wr.cell?<|F c 13)):=⟨o,E⟩;clear o E))
  exact⟨H3.1,H3.2⟩
def Fx.aT(f:Fx)(k:Ck):Ck:=if f.opn then k else k.open f.g
def Fx.turned(f:Fx)(k:Ck):Fx:={f.at f.aC (f.aT k)with opn:=M}
def Fx.bg(f:Fx):Fx×Bool:=match f.K[f.aC]? with
 |some (Z k)=>
  if(f.turned k).free (f.aT k)then(if cw (f.aT k).fst.m<=(f.aT k).de then((f.turned k).gN f.aC<|f.aT k,M)else(f.turned k,aa))
  else((f.turned k).at f.aC (f.aT k).lose,aa)
 |_=>(f,aa)
section
variable {w W W':aq} {f:Fx} {xb s c:Nat} {L:cZ} {k:Ck}
def fF(w:aq)(L:cZ)(f:Fx)(xb s c:Nat)(W:aq):Prop:=∃a l1,aE W f xb a/\a.cs[s]? =Z (Z l1)/\l1.c=c/\bE w L W a
def fF.below(h:fF w L f xb s c W)(b:aK W W'):fF w L f xb s c W':=by let⟨d,l1,e,g,i,a⟩:=h;exact⟨d,l1,e.below b,g,i,⟨a.own,a.cy.t<|.below b⟩⟩
def fF.put(h:fF w L f xb s c W):fF w L {f with opn:=M} xb s c (W.setCell (F xb 16)<|ω M)/\W.cell? (F xb 16)=Z (ω f.opn)/\W.frozen? (F xb 16)=aa:=by let⟨b,l1,a,d,e,g⟩:=h;refine⟨⟨b,l1,a.put 16 _ {f with opn:=M} akW U U U U U ⟨U,U,U⟩,d,e,g.t ⟨λ_ _=>U,(aS.refl _ _).set (by show b.own xb≠0;rw[a.eR];omega) _⟩⟩,aD a.box U,bp a.box 16⟩
def fF.client(h:fF w L f xb s c W)(p:f.K[s]? =Z (Z k))(n k' v)(hc:∀l1:Lc,l1.c=c->l1.At W f.g k->Calls prog n #[jp c] W λe a=>e=aG v/\l1.At a f.g k'/\aS (λi=>i=c) W a):
  Calls prog n #[jp c] W λe a=>e=aG v/\fF w L (f.at s k') xb s c a:=by
 let⟨q,l1,o,j,d,t⟩:=h
 let⟨x,m,u,l⟩:=o.aC j
 rw[p]at m;cases m;apply(hc l1 d u).m;rintro e a ⟨rfl,r,g2⟩;exact⟨U,_,l1,o.client (cq:=q.own) j U p g2 (λb _ e=>by rw[e,<-d];exact l.1) r (λ_ _=>U) l,Ej j,d,t.t ⟨λ_ _=>U,g2.m λb _ e=>by rw[e,<-d,l.1];omega⟩⟩
def fF.open(h:fF w L f xb s c W)(t:f.K[s]? =Z (Z k))(d:0<=f.g.qn/\f.g.qn<=65535)(j:0<=k.wt/\k.wt<=65535)(hd:0<=k.de/\k.de<=1048576):
  Calls prog 161 #[jp c] W λe u=>e=aG (θ #[])/\fF w L (f.at s<|k.open f.g) xb s c u:=
 h.client t _ _ _ λl1 e a=>by subst e;exact(by
    have z:=Int.mul_nonneg j.1 d.1;have A:k.wt*f.g.qn<=4294836225:=by have:=Int.mul_le_mul j.2 d.2 d.1 Y;omega
    have l:Hid (cg (W.drew.setCell (F l1.c 18)<|I<|cJ.wrap<|k.de+cJ.wrap (k.wt*f.g.qn)) l1.c l1.rb l1.mb l1.ch l1.q l1.v f.g<|k.open f.g):=by rw[dI (x:=k.wt*f.g.qn) Y Y,dI (x:=k.de+k.wt*f.g.qn) Y Y];exact a.drew.put 18 _ U U U U U
    have m:=aJ W l1.c 1 (I k.wt) a.p.box;have o:=aJ W l1.c 6 (I f.g.qn) a.p.box;have n:=aJ W l1.c 18 (I k.de) a.p.box;have f18:=bp a.p.box 18;clear a;go_enter func161,ntmps161;go_upto_region 0 with fail;refine gY (S:=λb=>b.cell? (F l1.c 1)=Z (I k.wt)/\b.cell? (F l1.c 6)=Z (I f.g.qn)/\b.cell? (F l1.c 18)=Z (I k.de)) 17 ⟨m,o,n⟩ λhS=>?_;apply tg [0,1,2,3,4,5,6,7];apply tg [8,9,10,11,12,13,14,15];apply tg [16];refine gz λK r=>?_;go_simp;apply r _ _;refine gl ?_;go_wp2;exact fC U U ⟨U,l,(aS.refl (λi=>i=l1.c) W).drew'.set (p:=F l1.c 18) U _⟩)
def fF.lose(h:fF w L f xb s c W)(d:f.K[s]? =Z (Z k)):
  Calls prog 163 #[jp c] W λe j=>e=aG (θ #[])/\fF w L (f.at s k.lose) xb s c j:=
 h.client d _ _ _ λl1 e a=>by subst e;exact(by have l:=aJ W l1.c 18 (I k.de) a.p.box;have f18:=bp a.p.box 18;go_enter func163,ntmps163;go_wp2;exact fC U U ⟨U,a.put 18 _ U U U U U,(aS.refl (λi=>i=l1.c) W).set U _⟩)
def fF.free(h:fF w L f xb s c W)(m:f.K[s]? =Z (Z k))(hf:f.kM):
  Calls prog 162 #[jp xb,jp c] W λe a=>e=aG (θ #[ν<|aU k.fst,ω<|f.free k])/\fF w L f xb s c a/\aK W a:=by
 let⟨i,l1,b,d,j,l⟩:=h
 subst j;apply(b.firstFree hf m d).m;rintro e a ⟨rfl,g⟩;exact⟨U,fF.below ⟨i,l1,b,d,U,l⟩ g,g⟩
def fF.pay(h:fF w L f xb s c W)(n:f.K[s]? =Z (Z k)):
  Calls prog 164 #[jp c,ν<|aU k.fst] W λe b=>e=aG (ω<|decide<|cw k.fst.m<=k.de)/\fF w L f xb s c b:=by
 let⟨o,l1,d,g,i,q⟩:=h
 subst i
 let⟨t,a,j,r⟩:=d.aC g
 rw[n]at a;cases a;apply(Sv l1.c k.fst k.de W<|aD j.p.box U).m;rintro e b ⟨rfl,l⟩;exact⟨U,h.below l⟩
def fF.gN(h:fF w L f xb s c W)(r:f.K[s]? =Z (Z k))(hm:f.May)(p:k.Go)(hr:k.eM f.g=M)(t:cw k.fst.m<=k.de)(u:k.q.length<=1048576):
  Calls prog 165 #[jp xb,jp c] W λe b=>e=aG (θ #[])/\∃a,aE b (f.gN s k) xb a/\bE w L b a:=by
 let⟨d,l1,j,l,n,o⟩:=h
 subst n;apply(aby W f xb s d k l1 j r l hm p hr t u).m;rintro e b ⟨rfl,a,i,g2⟩;exact⟨U,a,i,o.t g2⟩
end
def Uw{f:Fx}{k}(a:f.K[f.aC]? =Z (Z k)):(f.turned k).K[f.aC]? =Z (Z<|f.aT k):=Ej a
def Us{f:Fx}{k}(b:f.K[f.aC]? =Z (Z k))(a:f.opn=M):f.turned k=f:=by unfold Fx.turned Fx.aT;rw[aO a];unfold Fx.at;rw[(yZ b)];cases f;cases a;rfl
structure Fx.Al(f:Fx):Prop where
 may:f.May
 aC:f.aC<f.K.length
 qn:0<=f.g.qn/\f.g.qn<=65535
 who:∀k,f.K[f.aC]? =Z (Z k)->(0<=k.wt/\k.wt<=65535)/\(0<=k.de/\k.de<=1048576)/\(f.aT k).Go
def Fx.Al.VY{f:Fx}{k}(h:f.Al)(a:f.K[f.aC]? =Z (Z k)):(f.turned k).May:=have hF:=h.may.fine.at (h.who k a).2.2.fine;⟨⟨hF.cl,hF.jb,hF.dL,hF.kA,hF.pq⟩,h.may.ou,h.may.fresh,h.may.clock,h.may.bO,h.may.bD,h.may.dG,h.may.kA⟩
structure CW(w:aq)(f:Fx)(xb:Nat)(L:cZ)(k:Ck)(l:Lc):Prop where
 at_:aE w f xb L
 kk:f.K[f.aC]? =Z (Z k)
 ll:L.cs[f.aC]? =Z (Z l)
 t:f.Al
 qq:k.q.length<=1048576
def CW.cells{w f xb L k l}(h:CW w f xb L k l):w.cell? (F xb 9)=Z (ζ (Z<|F L.sb 0) f.K.length f.K.length)/\w.cell? (F xb 15)=Z (I f.aC)/\w.cell? (F xb 16)=Z (ω f.opn)/\w.cell? (F L.sb f.aC)=Z (jp l.c)/\(f.aC:Int)<(f.K.length:Int):=by
 refine⟨aD h.at_.box U,aD h.at_.box U,aD h.at_.box U,?_,by have:=h.t.aC;omega⟩;have e:(L.cs.map λl=>l.map Lc.c)[f.aC]? =Z (Z l.c):=by rw[qC,h.ll];rfl
 exact aD h.at_.dL<|xA e
def CW.tu{w f xb L k l}(h:CW w f xb L k l)(n):fF w L f xb f.aC l.c (w.drewN n):=⟨L,l,h.at_.drewN n,h.ll,U,⟨λ_ _=>U,(aS.below<|jj (Below.refl _ _) n)⟩⟩
def Ut{f:Fx}{k}:(f.aT k).q=k.q:=by unfold Fx.aT;split<;>rfl
def ajE(w f xb L)(h:aE w f xb L)(j:f.aC<f.K.length)(hl:L.cs[f.aC]? =Z aj):
  Calls prog 111 #[jp xb] w λe a=>e=aG (ω aa)/\∃m,a=w.drewN m:=by
 have d:=aJ w xb 9 (ζ (Z<|F L.sb 0) f.K.length f.K.length) h.box;have b:=aJ w xb 15 (I f.aC) h.box
 have g:w.cell? (F L.sb f.aC)=Z (π aj):=by
  have e:(L.cs.map λl=>l.map Lc.c)[f.aC]? =Z aj:=by rw[qC,hl];rfl
  exact aD h.dL<|xA e
 have i:(f.aC:Int)<(f.K.length:Int):=Y;clear h;go_enter func111,ntmps111;go_wp2
 go_quiet (fail)
 go_wp2;go_ret;exact⟨U,_,U⟩
def abK(w f xb L)(h:aE w f xb L)(u:f.Al)(hq:∀k,f.K[f.aC]? =Z (Z k)->k.q.length<=1048576):
  Calls prog 111 #[jp xb] w λe a=>e=aG (ω f.bg.2)/\∃b,aE a f.bg.1 xb b/\bE w L a b:=by
 have bt:=u.aC;have s:=dj u.aC;rcases e:f.K[f.aC]with _|k;rw[e]at s;have hs:f.aC<L.cs.length:=by rw[h.cs.len];exact u.aC
 have B:L.cs[f.aC]? =Z aj:=by
  have i:=dj hs;have d:=h.cs.at_ _ _ _ s i;cases G:L.cs[f.aC]with
  |none=>rw[G]at i;exact i
  |some l=>rw[G]at d;exact absurd d O3
 have X:f.bg=(f,aa):=by unfold Fx.bg;rw[s]
 rw[X];refine(ajE w f xb L h u.aC B).m ?_;rintro e a ⟨rfl,m,rfl⟩;exact⟨U,L,h.drewN m,⟨λ_ _=>U,aS.below<|jj (Below.refl _ _) m⟩⟩;rw[e]at s;obtain⟨l,B,_⟩:=h.sat s;have hI:CW w f xb L k l:=⟨h,s,B,u,hq k s⟩;obtain⟨c9,aW,bh,hc,bp⟩:=hI.cells;have v:=Uw hI.kk;rw[show f.bg=bif (f.turned k).free (f.aT k)then(bif decide (cw (f.aT k).fst.m<=(f.aT k).de)then((f.turned k).gN f.aC<|f.aT k,M)else(f.turned k,aa))else((f.turned k).at f.aC (f.aT k).lose,aa) by unfold Fx.bg;rw[hI.kk];simp[cond_eq_ite]]
 have R:Hid (∀n,f.opn=aa->Calls prog 161 #[jp l.c] (w.drewN n) λe a=>e=aG (θ #[])/\fF w L (f.turned k) xb f.aC l.c (a.setCell (F xb 16)<|ω M)/\a.cell? (F xb 16)=Z (ω aa)/\a.frozen? (F xb 16)=aa):=λn z=>by
  refine((hI.tu n).open hI.kk hI.t.qn (hI.t.who k hI.kk).1 (hI.t.who k hI.kk).2.1).m ?_;rintro e a ⟨rfl,i⟩;have d:=i.put;refine⟨U,?_,d.2.1.t (by rw[show(f.at f.aC<|k.open f.g).opn=f.opn from U,z]),d.2.2⟩;have e:f.turned k={f.at f.aC (k.open f.g)with opn:=M}:=by unfold Fx.turned Fx.aT;rw[aI (by rw[z];decide)]
  rw[e];exact d.1
 have Q:Hid (∀n,f.opn=M->fF w L (f.turned k) xb f.aC l.c (w.drewN n)):=λn z=>by rw[Us hI.kk z];exact hI.tu n
 have E:Hid (∀W,fF w L (f.turned k) xb f.aC l.c W->Calls prog 162 #[jp xb,jp l.c] W λe a=>e=aG (θ #[ν<|aU (f.aT k).fst,ω<|(f.turned k).free<|f.aT k])/\fF w L (f.turned k) xb f.aC l.c a/\_):=λW j=>j.free v (hI.t.VY hI.kk).fine;have S:Hid (∀W,fF w L (f.turned k) xb f.aC l.c W->_):=λW j=>j.pay v
 have P:Hid (∀W,fF w L (f.turned k) xb f.aC l.c W->Calls prog 163 #[jp l.c] W λe a=>e=aG (θ #[])/\∃b,aE a ((f.turned k).at f.aC (f.aT k).lose) xb b/\bE w L a b):=λW j=>by refine(j.lose v).m ?_;rintro e a ⟨rfl,A,l1,i,_,_,d⟩;exact⟨U,A,i,d⟩
 have N:Hid (∀W,(f.turned k).free (f.aT k)=M->decide (cw (f.aT k).fst.m<=(f.aT k).de)=M->fF w L (f.turned k) xb f.aC l.c W->Calls prog 165 #[jp xb,jp l.c] W λe a=>e=aG (θ #[])/\∃b,aE a ((f.turned k).gN f.aC<|f.aT k) xb b/\bE w L a b):=λW hx hp j=>j.gN v (hI.t.VY hI.kk) (hI.t.who k hI.kk).2.2 (Dp hx) (mM hp) (by rw[Ut];exact hI.qq)
 have O:Hid (∀W,fF w L (f.turned k) xb f.aC l.c W->∃b,aE W (f.turned k) xb b/\bE w L W b):=λW ⟨A,l1,i,_,_,d⟩=>⟨A,i,d⟩;have V:Hid (∀W,fF w L (f.turned k) xb f.aC l.c W->fF w L (f.turned k) xb f.aC l.c (W.alloc<|au (aU (f.aT k).fst) 205)):=λW j=>j.below (bq);have T:Hid (∀W:aq,dD (W.alloc<|au (aU (f.aT k).fst) 205) W.heap.size (f.aT k).fst):=λW=>dD.of (heap_alloc_new W _);generalize (f.turned k).free (f.aT k)=x at*;generalize decide (cw (f.aT k).fst.m<=(f.aT k).de)=p at*;generalize (f.aT k).fst=r at*;generalize (f.turned k).at f.aC (f.aT k).lose=F2 at*;generalize (f.turned k).gN f.aC (f.aT k)=F3 at*;generalize f.turned k=F1 at*;generalize l.c=c at*;generalize f.opn=o at*;cases o<;>cases x<;>cases p
 all_goals
  go_enter func111,ntmps111;go_wp2
  go_quiet (fail)
  go_wp2_with (first
   |(go_at_call 161;refine(R.u _ ay).m ?_;rintro e w1 ⟨rfl,af,d16,df⟩;have J:=aX af)|(go_at_call 162;(first|refine(E.u _ J.u).m ?_|refine(E.u _<|Q.u _ ay).m ?_);rintro e w2 ⟨rfl,ah,_⟩;have C:=aX<|V.u _ ah;obtain⟨s0,s1,s2,s3,s4,s5,s6,s7,s8,s9⟩:=T.u w2)|(go_at_call 163;refine(P.u _ C.u).m ?_;rintro e w3 ⟨rfl,H⟩)|(go_at_call 164;refine(S.u _ C.u).m ?_;rintro e w3 ⟨rfl,ak⟩;have D:=aX ak)|(go_at_call 165;refine(N.u _ ay ay D.u).m ?_;rintro e w4 ⟨rfl,H⟩))
  go_ret
  first|exact⟨rfl,H⟩|exact⟨rfl,O.u _ D.u⟩
def Fx.pass(f:Fx):Fx:={f with aC:=(f.aC+1)%f.K.length,opn:=aa}
def abE(w f xb L)(h:aE w f xb L)(l:f.aC<f.K.length)(hc:f.g.cl=f.K.length)(o:f.K.length<=65535):
  Calls prog 112 #[jp xb] w λe m=>e=aG (θ #[])/\aE m f.pass xb L/\bE w L m L:=by
 have b:w.cell? (F xb 1)=Z (I f.K.length):=by rw[<-hc];exact aD h.box U
 have c:=aJ w xb 15 (I f.aC) h.box;have p:=aJ w xb 16 (ω f.opn) h.box;have f15:=bp h.box 15;have f16:=bp h.box 16
 have a:Hid (aE ((w.setCell (F xb 15)<|I (((f.aC+1)%f.K.length:Nat):Int)).setCell (F xb 16)<|ω aa) f.pass xb L/\L.own xb≠0):=⟨(by exact (h.put 15 _ {f with aC:=(f.aC+1)%f.K.length} akW U U U U U ⟨U,U,U⟩).put 16 _ f.pass (by simp[lC,Fx.pass]) U U U U U ⟨U,U,U⟩),by rw[h.eR];omega⟩
 obtain⟨N,i⟩:∃N,f.K.length=N:=⟨_,U⟩;obtain⟨j,k⟩:∃j,f.aC=j:=⟨_,U⟩;rw[i]at l o b a;rw[k]at l c a;have q:¬N=0:=Y
 have r:(cJ.wrap<|(j:Int)+1).tmod (N:Int)=(((j+1)%N:Nat):Int):=by rw[dI Y Y,show((j:Int)+1)=((j+1:Nat):Int) by omega];rfl
 clear h hc i k;generalize f.opn=op at*;go_enter func112,ntmps112
 go_upto_region 0 with fail
 refine gY (S:=λW=>W.cell? (F xb 1)=Z (I N)/\W.cell? (F xb 15)=Z (I j)) 16 ⟨b,c⟩ λhS=>?_;apply tg [0,1,2,3,4,5,6,7];apply tg [8,9,10,11,12,13,14,15];refine gz λK d=>?_;go_simp;apply d _ _;clear d K;refine gl ?_;go_wp2_with fail;exact fC U U ⟨U,a.1.drew,⟨λ_ _=>U,(((aS.refl _ _).set a.2 _).set a.2 _).drew⟩⟩
def Fx.turns:Nat->Nat->Fx->Fx
 |0,_,f=>f|n+1,p,f=>if(f.fl.length:Int)<f.g.wk/\(p:Int)<=f.g.cl then(if f.bg.2 then Fx.turns n 0 f.bg.1 else Fx.turns n (p+1) f.bg.1.pass)else f
def Fx.fuel(f:Fx)(p:Nat):Nat:=(f.g.wk.toNat-f.fl.length) *(f.g.cl.toNat+2)+(f.g.cl.toNat+1-p)
structure Abides(P:Fx->Prop):Prop where
 Bq:∀f,P f->f.Al/\(∀k,f.K[f.aC]? =Z (Z k)->k.q.length<=1048576)/\f.g.cl=f.K.length/\f.K.length<=65535/\1<=f.g.wk
 used:∀f,P f->(f.fl.length:Int)<f.g.wk->f.bg.2=M->P f.bg.1
 pass:∀f,P f->f.bg.2=aa->P f.bg.1.pass
def xI(f:Fx):f.bg.1.g=f.g/\f.bg.1.K.length=f.K.length/\f.bg.1.aC=f.aC/\(f.bg.2=M->f.bg.1.fl.length=f.fl.length+1)/\(f.bg.2=aa->f.bg.1.fl=f.fl):=by unfold Fx.bg;split;split;split;refine⟨U,by simp[Fx.gN,Fx.turned],U,λ_=>?_,λh=>by simp at h⟩;simp only[Fx.gN];exact Oa<|WW _ _;exact⟨U,by simp[Fx.turned],U,λh=>by simp at h,λ_=>U⟩;exact⟨U,by simp[Fx.turned],U,λh=>by simp at h,λ_=>U⟩;exact⟨U,U,U,λh=>by simp at h,λ_=>U⟩
def GQ{f:Fx}{p}(h:(f.fl.length:Int)<f.g.wk)(e:f.bg.2=M):f.bg.1.fuel 0<f.fuel p:=by let⟨a,_,_,b,_⟩:=xI f;unfold Fx.fuel;rw[a,b e];obtain⟨d,c⟩:∃d,f.g.wk.toNat-f.fl.length=d+1:=⟨f.g.wk.toNat-f.fl.length-1,Y⟩;rw[c,show f.g.wk.toNat-(f.fl.length+1)=d by omega,ej,Nat.one_mul];omega
def GP{f:Fx}{p:Nat}(d:(p:Int)<=f.g.cl)(c:f.bg.2=aa):f.bg.1.pass.fuel (p+1)<f.fuel p:=by let⟨a,_,_,_,b⟩:=xI f;unfold Fx.fuel;show(f.bg.1.g.wk.toNat-f.bg.1.fl.length) *(f.bg.1.g.cl.toNat+2)+(f.bg.1.g.cl.toNat+1-(p+1))<_;rw[a,b c];omega
def YJ:∀(n m p:Nat) (f:Fx),f.fuel p<=n->f.fuel p<=m->Fx.turns n p f=Fx.turns m p f:=by
 intro n;induction n with
 |zero=>
  intro m p f b hm;cases m with
  |zero=>rfl
  |succ m=>rw[Fx.turns,Fx.turns];by_cases a:(f.fl.length:Int)<f.g.wk/\(p:Int)<=f.g.cl;exfalso;unfold Fx.fuel at b;grind;rw[aI a]
 |succ n d=>
  intro m p f b hm;cases m with
  |zero=>grind
  |succ m=>
   rw[Fx.turns,Fx.turns];by_cases a:(f.fl.length:Int)<f.g.wk/\(p:Int)<=f.g.cl;rw[aO a,aO a];cases c:f.bg.2 with
   |true=>simp only[dN];have:=GQ (p:=p) a.1 c;exact d m 0 _ Y Y
   |false=>simp;have:=GP (p:=p) a.2 c;exact d m (p+1) _ Y Y
   rw[aI a,aI a]
def aE.Hf{w f xb L}(h:aE w f xb L):gK w xb 18 L.hv f.fl.length L.hf:=⟨aD h.box U,h.fl.row,λe=>by have:=h.fl.own xb e.y;rw[h.eR]at this;omega⟩
def bE.drewN{w W L aqe}(h:bE w L W aqe)(n):bE w L (W.drewN n) aqe:=⟨h.own,h.cy.t<|.below<|jj (Below.refl _ _) n⟩
structure wQ(P:Fx->Prop)(w:aq)(L:cZ)(g:Cf)(b:Fx)(xb p:Nat)(wr:aq)(f1:Fx)(a:cZ):Prop where
 at_:aE wr f1 xb a
 gT:bE w L wr a
 pp:P f1
 gg:f1.g=g
 end_:Fx.turns (f1.fuel p) p f1=b
def wQ.len{P w wr L L1 g aqc f1 xb p}(h:wQ P w L g aqc xb p wr f1 L1):(g.wk.toNat-sK (wr.cell?<|F xb 18)) *(g.cl.toNat+2)+(g.cl.toNat+1-p)=f1.fuel p:=by let⟨a,cap,e,_⟩:=h.at_.Hf.form;rw[h.at_.Hf.head,e];unfold Fx.fuel;rw[h.gg];rfl
def T8{f1 aqc g}{p:Nat}(d:f1.g=g)(a:(f1.fl.length:Int)<g.wk)(c:(p:Int)<=g.cl)(b:f1.bg.2=M)(he:Fx.turns (f1.fuel p) p f1=aqc):Fx.turns (f1.bg.1.fuel 0) 0 f1.bg.1=aqc:=by subst d;have hm:=GQ (p:=p) a b;obtain⟨m,e⟩:∃m,f1.fuel p=m+1:=⟨f1.fuel p-1,Y⟩;rw[e,Fx.turns,aO ⟨a,c⟩,aO b]at he;rw[<-he];exact YJ _ _ _ _ (aR _) Y
def Uc{f1 aqc g}{p:Nat}(c:f1.g=g)(b:(f1.fl.length:Int)<g.wk)(a:(p:Int)<=g.cl)(d:f1.bg.2=aa)(he:Fx.turns (f1.fuel p) p f1=aqc):Fx.turns (f1.bg.1.pass.fuel<|p+1) (p+1) f1.bg.1.pass=aqc:=by subst c;have hm:=GP a d;obtain⟨m,e⟩:∃m,f1.fuel p=m+1:=⟨f1.fuel p-1,Y⟩;rw[e,Fx.turns,aO ⟨b,a⟩,aI j4]at he;rw[<-he];exact YJ _ _ _ _ (aR _) Y
def abI(P:Fx->Prop)(E:Abides P)(w f xb L)(h:aE w f xb L)(G:P f):
  Calls prog 64 #[jp xb] w λe c=>e=aG (θ #[])/\P (Fx.turns (f.fuel 0) 0 f)/\∃b,aE c (Fx.turns (f.fuel 0) 0 f) xb b/\bE w L c b:=by
 have N:Hid (wQ P w L f.g (Fx.turns (f.fuel 0) 0 f) xb 0 w f L):=⟨h,bE.refl _ _,G,U,U⟩;have s:=aX E;have an:f.g.cl<=65535:=by have:=(E.Bq f G).2.2;omega
 generalize Fx.turns (f.fuel 0) 0 f=d at*;go_enter func64,ntmps64;go_wp2
 go_loopw [2] (λC wr=>∃p:Nat,C=I p/\p<=65536/\Hid (∃f1 k,wQ P w L f.g d xb p wr f1 k)) (λC W=>(f.g.wk.toNat-sK (W.cell?<|F xb 18)) *(f.g.cl.toNat+2)+(f.g.cl.toNat+1-(dw C).toNat))
 case atStart=>exact⟨0,U,Y,f,L,N⟩
 case round=>
  obtain⟨p,rfl,aH,hR⟩:=hrel;let⟨f1,k,T⟩:=hR;have c7:wr.cell? (F xb 7)=Z (I f.g.wk):=by rw[<-T.gg];exact aD T.at_.box U
  have c1:wr.cell? (F xb 1)=Z (I f.g.cl):=by rw[<-T.gg];exact aD T.at_.box U
  have r:Hid (∀n,Calls prog 110 #[π<|Z<|F xb 18] (wr.drewN n) λe c=>e=aG (I f1.fl.length)/\c=wr.drewN n):=λn=>acs xb 18 _ k.hv k.hf (wr.drewN n) (T.at_.drewN n).Hf;have i:=aX T;have D:Hid (∀n,d=f1->P d/\∃b,aE (wr.drewN n) d xb b/\bE w L (wr.drewN n) b):=λn e=>by rw[e];exact⟨T.pp,k,T.at_.drewN n,T.gT.drewN n⟩
  by_cases l:(f1.fl.length:Int)<f.g.wk
  ·have d1:=lY l;by_cases q:(p:Int)<=f.g.cl
   ·have d2:=lY q;have t:Hid (∀n,Calls prog 111 #[jp xb] (wr.drewN n) λe c=>e=aG (ω f1.bg.2)/\∃b,aE c f1.bg.1 xb b/\bE w L c b):=λn=>by have T:=i;have a:=s.Bq f1 T.pp;apply(abK (wr.drewN n) f1 xb k (T.at_.drewN n) a.1 a.2.1).m;rintro e c ⟨rfl,b,b1,o⟩;exact⟨U,b,b1,(T.gT.drewN n).t o⟩
    cases j:f1.bg.2 with
    |true=>
     rw[j]at t;have A:Hid (∀c,(∃b,aE c f1.bg.1 xb b/\bE w L c b)->∃b,wQ P w L f.g d xb 0 c f1.bg.1 b):=λc ⟨b,b1,o⟩=>by have T:=i;refine⟨b,b1,o,s.used f1 T.pp (by rw[T.gg];exact l) j,(xI f1).1.t T.gg,?_⟩;exact T8 T.gg l q j T.end_
     have HM:Hid (f1.bg.1.fuel 0<f1.fuel p):=GQ (by rw[i.gg];exact l) j;go_wp2;go_quiet ((go_at_call 110;exact ur (r _)));go_wp2_with (go_at_call 111;apply(t _).m;rintro e v ⟨rfl,B⟩;have x:Hid (∃b,wQ P w L f.g d xb 0 v f1.bg.1 b):=A _ B);let⟨b,m⟩:=x;refine⟨⟨0,U,Y,f1.bg.1,b,m⟩,?_⟩;have R:=m.len;have S:=i.len;have:=HM.u;simp only[dw,Int.toNat_zero,Ke]at*;omega
    |false=>
     rw[j]at t;have A:Hid (∀c,(∃b,aE c f1.bg.1 xb b/\bE w L c b)->Calls prog 112 #[jp xb] c λe H=>e=aG (θ #[])/\∃b,wQ P w L f.g d xb (p+1) H f1.bg.1.pass b):=λc ⟨b,b1,o⟩=>by have T:=i.u;have a:=s.u.Bq f1 T.pp;have u:=xI f1;refine(abE c _ xb b b1 (by rw[u.2.2.1,u.2.1];exact a.1.aC) (by rw[u.1,u.2.1];exact a.2.2.1) (by rw[u.2.1];exact a.2.2.2.1)).m ?_;rintro e H ⟨rfl,O,Q⟩;refine⟨U,b,O,o.t Q,s.u.pass f1 T.pp j,u.1.t T.gg,?_⟩;exact Uc T.gg l q j T.end_
     have HM:Hid (f1.bg.1.pass.fuel (p+1)<f1.fuel p):=GP (by rw[i.u.gg];exact q) j;have aJ:p<=65535:=Y;go_wp2;go_quiet ((go_at_call 110;exact ur (r.u _)));go_wp2_with (first
      |(go_at_call 111;apply(t.u _).m;rintro e v ⟨rfl,B⟩;have x:Hid (∃b,aE v f1.bg.1 xb b/\bE w L v b):=B)|(go_at_call 112;apply(A.u _ x.u).m;rintro e w2 ⟨rfl,X⟩;have J:Hid (∃b,wQ P w L f.g d xb (p+1) w2 f1.bg.1.pass b):=X))
     let⟨b,m⟩:=J.u;refine⟨⟨p+1,by go_num,Y,f1.bg.1.pass,b,m⟩,?_⟩;have R:=m.len;have S:=i.u.len;have:=HM.u;simp only[dw,Ke,Y]at*;omega
   have d2:=lX q;have hF:d=f1:=by
    rw[<-i.u.end_];cases f1.fuel p with
    |zero=>rfl
    |succ n=>rw[Fx.turns,aI (by rw[i.u.gg];omega)]
   have z:Hid (∀n,P d/\∃b,aE (wr.drewN n) d xb b/\bE w L (wr.drewN n) b):=λn=>D.u n hF;go_wp2;go_quiet ((go_at_call 110;exact ur (r.u _)));go_wp2;exact fC U U ⟨U,z.u _⟩
  have d1:=lX l;have hF:d=f1:=by
   rw[<-i.u.end_];cases f1.fuel p with
   |zero=>rfl
   |succ n=>rw[Fx.turns,aI (by rw[i.u.gg];omega)]
  have z:Hid (∀n,P d/\∃b,aE (wr.drewN n) d xb b/\bE w L (wr.drewN n) b):=λn=>D.u n hF;go_wp2;go_quiet ((go_at_call 110;exact ur (r.u _)));go_wp2;exact fC U U ⟨U,z.u _⟩
def Fx.dP(f:Fx)(j:Nat):Fx:=match f.K[j]? with
 |some (Z k)=>if k.gone then{f with K:=f.K.set j aj,opn:=if f.aC=j then aa else f.opn}else f
 |_=>f
def Fx.bQ(f:Fx)(j:Nat):Fx:=(dA j).foldl Fx.dP f
def uV(f:Fx)(j):f.bQ (j+1)=(f.bQ j).dP j:=by simp[Fx.bQ,uB]
def Fx.sn(f:Fx):Prop:=∀b∈f.fl,∀k,f.K[b.s]? =Z (Z k)->k.gone=aa
def abV{f:Fx}(h:f.sn)(j):(f.dP j).sn/\(f.dP j).K.length=f.K.length:=by unfold Fx.dP;split;split;refine⟨λb c k d=>?_,ay⟩;have a:=d;rw[rM]at a;split at a;split at a;simp at a;simp at a;exact h b c k a;exact⟨h,U⟩;exact⟨h,U⟩
section
variable {W:aq} {f:Fx} {xb j:Nat} {L:cZ}
def aE.leave(h:aE W f xb L)(m:∀b∈f.fl,b.s≠j):aE (W.setCell (F L.sb j)<|π aj) {f with K:=f.K.set j aj} xb {L with cs:=L.cs.set j aj}:=by have a:fT W (W.setCell (F L.sb j)<|π aj) L.own L.own λt=>t=2:=⟨λb c o=>bC λe=>o (by rw[e];exact h.je),λ_ _=>U⟩;have b1:=a.blk h.box h.eR Y;have d:=a.row h.bD h.jP Y;have g:=a.row h.log h.ni Y;have k:=a.fG h.fG h.jH Y;refine⟨?_,b1.2,?_,h.je,a.Gz h.cs (λx _=>by omega) trivial,⟨h.js.len,λi b l c n=>?_⟩,a.pZ h.fl Y,d.1,d.2,g.1,g.2,k.1,k.2⟩;have e:=b1.1;simpa[lC]using e;have e:=bG h.dL j (kY aj);rw[XB]at e;rwa [Fj];refine(h.js.at_ i b l c n).aside a (λlc p=>⟨lc,?_,U⟩) Y;rwa [gQ<|dB<|m b<|jC c]
end
structure pP(w:aq)(L:cZ)(f:Fx)(xb j:Nat)(wr:aq)(a:cZ):Prop where
 at_:aE wr (f.bQ j) xb a
 gT:bE w L wr a
 sb:a.sb=L.sb
 len:(f.bQ j).K.length=f.K.length
 stay:(f.bQ j).sn
def pP.same{w wr L L1 f xb j}(h:pP w L f xb j wr L1)(e:(f.bQ j).dP j=f.bQ j):pP w L f xb (j+1) wr L1:=by refine⟨?_,h.gT,h.sb,?_,?_⟩<;>rw[uV,e];exact h.at_;exact h.len;exact h.stay
def pP.next{w wr L L1 f xb j k}(h:pP w L f xb j wr L1)(d:(f.bQ j).K[j]? =Z (Z k))(m:k.gone=M):
  pP w L f xb (j+1) (if(f.bQ j).aC=j then(wr.setCell (F L.sb j)<|π aj).setCell (F xb 16) (ω aa)else wr.setCell (F L.sb j) (π aj)) {L1 with cs:=L1.cs.set j aj}:=by
 have n:∀b∈(f.bQ j).fl,b.s≠j:=λb l e=>by have:=h.stay b l k (by rw[e];exact d);grind
 have c:=h.at_.leave n;have i:wr.setCell (F L1.sb j) (π aj)=wr.setCell (F L.sb j) (π aj):=by rw[h.sb]
 rw[i]at c;have g:L1.own L.sb≠0:=by rw[<-h.sb,h.at_.je];omega
 have o:L1.own xb≠0:=by rw[h.at_.eR];omega
 have e:(f.bQ j).dP j={f.bQ j with K:=(f.bQ j).K.set j aj,opn:=if(f.bQ j).aC=j then aa else(f.bQ j).opn}:=by unfold Fx.dP;rw[d];simp only[m,dN]
 let⟨p,q⟩:=abV h.stay j
 refine⟨?_,?_,h.sb,by rw[uV,q];exact h.len,by rw[uV];exact p⟩;rw[uV,e]
 by_cases a:(f.bQ j).aC=j
 rw[aO a,aO a];exact c.put 16 (ω aa) {f.bQ j with K:=(f.bQ j).K.set j aj,opn:=aa} akW U U U U U ⟨U,U,U⟩
 rwa [aI a,aI a]
 refine h.gT.t ⟨λ_ _=>U,?_⟩
 by_cases a:(f.bQ j).aC=j
 rw[aO a];exact((aS.refl _ _).set g _).set o _;rw[aI a];exact(aS.refl _ _).set g _
def pP.cells{w wr L L1 f xb j}(h:pP w L f xb j wr L1):wr.cell? (F xb 9)=Z (ζ (Z<|F L.sb 0) f.K.length f.K.length)/\wr.cell? (F xb 15)=Z (I (f.bQ j).aC)/\wr.cell? (F xb 16)=Z (ω (f.bQ j).opn)/\wr.frozen? (F xb 16)=aa/\wr.frozen? (F L.sb j)=aa/\L.sb≠xb:=by refine⟨?_,aD h.at_.box U,aD h.at_.box U,bp h.at_.box 16,?_,λe=>?_⟩;have:=aD h.at_.box (i:=9) (v:=ζ (Z<|F L1.sb 0) (f.bQ j).K.length (f.bQ j).K.length) U;rwa [h.sb,h.len]at this;rw[<-h.sb];exact bp h.at_.dL j;have:=h.at_.je;rw[h.sb,e,h.at_.eR]at this;omega
def pP.aC{w wr L L1 f xb j v}(h:pP w L f xb j wr L1)(hv:(f.bQ j).K[j]? =Z v):∃u:aV Nat,wr.cell? (F L.sb j)=Z (kY u)/\(v=aj->u=aj)/\∀k,v=Z k->∃c,u=Z c/\eZ 113 #[jp c] wr (ω k.gone):=by
 have d:j<L1.cs.length:=by rw[h.at_.cs.len];exact(bY.1 hv).1
 have b:=dj d;have hr:=h.at_.cs.at_ j _ _ hv b;refine⟨L1.cs[j].map Lc.c,?_,λe=>?_,λk e=>?_⟩;rw[<-h.sb];exact aD h.at_.dL<|xA j4;subst e;rcases e2:L1.cs[j]with _|l;rfl;rw[e2]at hr;exact absurd hr O3;subst e;rcases e2:L1.cs[j]with _|l;rw[e2]at hr;exact absurd hr O3;rw[e2]at hr;exact⟨l.c,rfl,acL _ _ _ _ _ _ _ _ wr hr.1⟩
def Mx(w f xb L)(h:aE w f xb L)(q:f.sn)(P:f.K.length<=65535):
  Calls prog 65 #[jp xb] w λe C=>e=aG (θ #[])/\∃g,aE C (f.bQ f.K.length) xb g/\bE w L C g:=by
 have J:=aJ w xb 9 (ζ (Z<|F L.sb 0) f.K.length f.K.length) h.box;have G:Hid (pP w L f xb 0 w L):=⟨h,bE.refl _ _,U,U,q⟩;obtain⟨N,r⟩:∃N,f.K.length=N:=⟨_,U⟩;have x:=aX r;rw[r]at J P⊢;clear h q r;go_enter func65,ntmps65;go_wp2
 go_loopw [9] (λi wr=>∃j:Nat,j<=N/\i=I j/\Hid (∃l,pP w L f xb j wr l)) (λi _=>N-(dw i).toNat)
 case atStart=>exact⟨0,cO _,U,L,G⟩
 case round=>
  obtain⟨j,X,rfl,z⟩:=hrel;let⟨l,A⟩:=z;let⟨O,T,V,f16,W,S⟩:=A.cells;rw[x]at O;by_cases R:j<N
  ·have Q:decide ((j:Int)<(N:Int))=M:=bV;obtain⟨v,hv⟩:∃v,(f.bQ j).K[j]? =Z v:=⟨(f.bQ j).K[j]'(by rw[A.len,x];exact R),by rw[dj]⟩;let⟨u,s,p,o⟩:=A.aC hv;rcases v with _|k;·rw[p U]at s;have a:=aX (A.same (by unfold Fx.dP;rw[hv]));simp only[kY,iA]at s;clear A hv p o;go_wp2;refine⟨⟨j+1,Y,by go_num,l,a⟩,?_⟩;simp[dw];omega
   obtain⟨c,rfl,b⟩:=o k U;simp only[kY,eO]at s;cases d:k.gone with
   |false=>
    have a:=aX (A.same (by unfold Fx.dP;rw[hv];simp[d]));have n:Hid (eZ 113 #[jp c] wr<|ω aa):=by rw[d]at b;exact b
    clear A hv p o b d;go_wp2_with (go_at_call 113;apply n.m;rintro e D ⟨rfl,rfl⟩);refine⟨⟨j+1,Y,by go_num,l,a⟩,?_⟩;simp[dw];omega
   |true=>
    have a:Hid (∃H,pP w L f xb (j+1) (if(f.bQ j).aC=j then(wr.setCell (F L.sb j)<|π aj).setCell (F xb 16) (ω aa)else wr.setCell (F L.sb j) (π aj)) H):=⟨_,A.next hv d⟩;have n:Hid (eZ 113 #[jp c] wr<|ω M):=by rw[d]at b;exact b
    have hx:¬xb=L.sb:=λe=>S e.y;clear A hv p o b d z;generalize (f.bQ j).aC=t at*;generalize (f.bQ j).opn=op at*
    by_cases m:t=j
    ·have q:((t:Int)==(j:Int))=M:=by simp[m]
     rw[aO m]at a;clear m;go_wp2_with (go_at_call 113;apply n.m;rintro e D ⟨rfl,rfl⟩);refine⟨⟨j+1,Y,by go_num,a⟩,?_⟩;simp[dw];omega
    have q:((t:Int)==(j:Int))=aa:=bV;rw[aI m]at a;clear m;go_wp2_with (go_at_call 113;apply n.m;rintro e D ⟨rfl,rfl⟩);refine⟨⟨j+1,Y,by go_num,a⟩,?_⟩;simp[dw];omega
  have Q:decide ((j:Int)<(N:Int))=aa:=bV;have B:j=N:=Y;have E:Hid (∃g,aE wr (f.bQ N) xb g/\bE w L wr g):=⟨l,by rw[<-B];exact A.at_,A.gT⟩;clear A B;go_wp2;exact fC U U ⟨U,E⟩
structure Fx.Is(f:Fx)(u:Int)(s:Nat)(k:Ck):Prop where
 at_:f.K[s]? =Z (Z k)
 no:k.no=u
 one:∀(t:Nat) a,f.K[t]? =Z (Z a)->a.no=u->t=s
section
variable {w:aq} {f:Fx} {xb:Nat} {L:cZ}
def aE.names(h:aE w f xb L):∃no:Nat->Int,∀(s:Nat) l k,L.cs[s]? =Z (Z l)->f.K[s]? =Z (Z k)->no l.c=k.no/\w.cell? (F l.c 0)=Z (I<|no l.c):=by let⟨no,A⟩:=NM (λx (n:Int)=>∃(s:Nat) (l:Lc) (k:Ck),f.K[s]? =Z (Z k)/\L.cs[s]? =Z (Z l)/\l.c=x/\n=k.no) 0 (by rintro x a b ⟨s,l,k,q,r,t,rfl⟩ ⟨D,H,E,g,u,v,rfl⟩;let⟨_,_,_,B⟩:=h.aC r;let⟨_,_,_,C⟩:=h.aC u;have m:=B.1;have o:=C.1;rw[t]at m;rw[v]at o;have:s=D:=Y;subst this;rw[q]at g;cases g;rfl);refine⟨no,λs l k j i=>?_⟩;have e:=A l.c k.no ⟨s,l,k,i,j,U,U⟩;let⟨G,d,z,_⟩:=h.aC j;rw[i]at d;cases d;exact⟨e,by rw[e];exact aD z.p.box U⟩
def Mw(h:aE w f xb L)(hf:f.K.length<=65535){u s k l}(i:f.Is u s k)(hl:L.cs[s]? =Z (Z l)):bN 58 #[jp xb,I u] w (jp l.c):=by
 let⟨no,g⟩:=h.names;refine(aaT xb L.sb f.K.length _ u no w ⟨aD h.box U,ajl,hf,λj v p=>aD h.dL (xA p),⟨_,h.dL⟩⟩ λc o=>?_).m ?_;obtain⟨t,m,a,rfl⟩:=za.1 o;let⟨d,b,_⟩:=h.aC a;exact(g t m d a b).2;rintro e x ⟨rfl,n⟩;refine⟨?_,n⟩;cases e:(cI<|L.cs.map λl=>l.map Lc.c).find? λc=>decide (no c=u)with
 |none=>have:=Kj.1 e l.c (za.2 ⟨s,l,hl,U⟩);simp[((g s l k hl i.at_).1),i.no]at this
 |some c=>obtain⟨t,m,a,rfl⟩:=za.1 (List.mem_of_find?_eq_some e);let⟨d,b,_⟩:=h.aC a;have r:=i.one t d b ((g t m d a b).1.y.t j4);subst r;rw[hl]at a;cases a;rfl
end
def Fx.send(f:Fx)(s:Nat)(k:Ck)(x:ByteArray):Fx×Int:=if k.ph=4 then(f,2)else if 1024<k.aN.size+x.size then(f,6)else(f.at s<|k.send x,0)
def Uq(w f xb L)(h:aE w f xb L)(hf:f.K.length<=65535)(u x s k)(n:f.Is u s k)(A:k.aN.size<=1024):Calls prog 30 #[jp xb,I u,ξ x] w λe g=>e=aG (I (f.send s k x).2)/\∃i,aE g (f.send s k x).1 xb i/\bE w L g i:=by
 let⟨l,p,j,m⟩:=h.sat n.at_;have q:=aX (Mw h hf n p);have r:Hid (∀W,aK w W->Calls prog 59 #[jp l.c,ξ x] W λe g=>e=aG (I (f.send s k x).2)/\∃i,aE g (f.send s k x).1 xb i/\bE w L g i):=λW a=>by
  have z:=h.below a;have B:bE w L W L:=⟨λ_ _=>U,.below a⟩;by_cases d:k.ph=4;have e:f.send s k x=(f,2):=by unfold Fx.send;rw[aO d]
  rw[e];apply(ahc _ _ _ _ _ _ _ _ x W (cg.old j a) d).m;grind;by_cases o:1024<k.aN.size+x.size;have e:f.send s k x=(f,6):=by unfold Fx.send;rw[aI d,aO o]
  rw[e];apply(ahb _ _ _ _ _ _ _ _ x W (cg.old j a) d A o).m;grind;have e:f.send s k x=(f.at s<|k.send x,0):=by unfold Fx.send;rw[aI d,aI o]
  rw[e];apply(aha _ _ _ _ _ _ _ _ x W (cg.old j a) d Y).m;rintro e g ⟨rfl,t,g2⟩;exact⟨U,_,z.client p U n.at_ g2 (λb _ e=>by rw[e];exact m.1) t (λ_ _=>U) m,B.t ⟨λ_ _=>U,g2.m λb _ e=>by rw[e,m.1];omega⟩⟩
 generalize f.send s k x=R at*;generalize l.c=c at*;go_enter func30,ntmps30;go_wp2_with (first|(go_at_call 58;apply q.m;rintro e C ⟨rfl,a⟩)|(go_at_call 59;apply(r _ a).m;rintro e D ⟨rfl,v⟩));go_ret;exact⟨U,v⟩
def V1(c rb ch q v g k w)(h:cD w c rb ch q v g k)(d:k.ph=4):
  eZ 118 #[jp c] w (θ #[]):=by
 have a:=h.chan;rw[lY d]at a;go_enter func118,ntmps118;go_wp2_with (go_at_call 97;refine(DC c ch _ (aJ w c 20 (.chan<|Z ch) h.box) a).m ?_;rintro e i ⟨rfl,rfl⟩);exact iB (zX U _ _ _) U ⟨U,U⟩
def Ck.jd(k:Ck):Ck:=if k.ph=4 then k else k.shut
def Fx.oX(f:Fx)(s:Nat)(k:Ck):Fx:=(f.at s k.jd).bQ f.K.length
section
variable {W:aq} {f:Fx} {xb s:Nat} {L:cZ} {k:Ck} {l:Lc}
def abu(h:aE W f xb L)(m:f.K[s]? =Z (Z k))(hl:L.cs[s]? =Z (Z l)):Calls prog 118 #[jp l.c] W λe j=>e=aG (θ #[])/\∃n,aE j (f.at s k.jd) xb n/\bE W L j n:=by
 obtain⟨C,o,d,g⟩:=h.aC hl;rw[m]at o;cases o;by_cases i:k.ph=4;have e:f.at s k.jd=f:=by unfold Ck.jd;rw[aO i];unfold Fx.at;rw[yZ m]
 rw[e];refine(V1 _ _ _ _ _ _ _ W d.p i).m ?_;rintro e j ⟨rfl,rfl⟩;exact⟨U,L,h,bE.refl _ _⟩;have e:k.jd=k.shut:=aI i;rw[e];refine(SF _ _ _ _ _ _ _ W d.p i).m ?_;rintro e j ⟨rfl,u,g2⟩;obtain⟨a1,r,a3,t,w,x,z,A,B⟩:=cg.apart d;have q:∀b,b<W.heap.size->(b=l.c\/b=l.ch)->L.own b=7+2*s:=λb _ a=>a.e (λe=>by rw[e];exact g.1) λe=>by rw[e];exact g.2.2.2.1
 exact⟨U,_,h.client (cq:=L.own) (l':=⟨l.c,l.rb,l.mb,l.ch,ζ aj 0 0,ζ aj 0 0⟩) hl U m g2 q (cg.of d u (g2.block _ (cg.eE d).1 (by rintro(e|e);exact a1 e;exact a3 e)) (g2.block _ (cg.eE d).2 (by rintro(e|e);exact r e;exact t e)) U (λe=>absurd U e)) (λ_ _=>U) ⟨g.1,g.2.1,g.2.2.1,g.2.2.2.1,λb a=>by simp[lW]at a,λb a=>by simp[lW]at a⟩,⟨λ_ _=>U,g2.m λb a v=>by rw[q b a v];omega⟩⟩
end
def Ck.much(k:Ck)(n:Int):Nat:=(min n k.u.size).toNat
def Ck.takes(k:Ck)(n:Int):Ck:=if n<0 then k else k.take (k.much n)
def Ck.tO(k:Ck)(n:Int):ByteArray:=if n<0 then⟨#[]⟩else k.u.extract 0 (k.much n)
def Bp(n:Int):Int:=if n<0 then 5 else 0
def Fx.take(f:Fx)(s:Nat)(k:Ck)(n:Int):Fx:=(f.at s<|k.takes n).bQ f.K.length
def abx{W f xb s L k l}(h:aE W f xb L)(j:f.K[s]? =Z (Z k))(hl:L.cs[s]? =Z (Z l))(n)(x:k.u.size<=1048576):Calls prog 116 #[jp l.c,I n] W λe i=>e=aG (θ #[ξ<|k.tO n,I<|Bp n])/\∃m,aE i (f.at s<|k.takes n) xb m/\bE W L i m:=by
 let⟨B,o,w,a⟩:=h.aC hl;rw[j]at o;cases o;by_cases d:n<0;have r:f.at s (k.takes n)=f:=by unfold Ck.takes;rw[aO d];unfold Fx.at;rw[yZ j]
 rw[r,Ck.tO,Bp,aO d,aO d];apply(WB l.c n W<|lY d).m;rintro e i ⟨rfl,rfl⟩;exact⟨U,L,h,bE.refl _ _⟩;rw[Ck.takes,Ck.tO,Bp,aI d,aI d,aI d];refine(WE _ _ _ _ _ _ _ _ n (k.much n) W w (by unfold Ck.much;omega) x).m ?_;rintro e i ⟨rfl,A,t,g2,u⟩;have p:∀b,b<W.heap.size->(b=l.c\/Z b=l.v.ownBlock)->L.own b=7+2*s:=λb _ g=>g.e (λe=>by rw[e];exact a.1) λe=>a.2.2.2.2.2 b e.y;exact⟨U,_,h.client (l':=⟨l.c,l.rb,l.mb,l.ch,l.q,A⟩) hl U j g2 p t (λ_ _=>U) ⟨a.1,a.2.1,a.2.2.1,a.2.2.2.1,a.2.2.2.2.1,λb g=>a.2.2.2.2.2 b (by rw[<-u];exact g)⟩,⟨λ_ _=>U,g2.m λb g z=>by rw[p b g z];omega⟩⟩
def abH(w f xb L)(h:aE w f xb L)(hf:f.K.length<=65535)(u n s k)(i:f.Is u s k)(z:k.u.size<=1048576)(A:(f.at s<|k.takes n).sn):Calls prog 69 #[jp xb,I u,I n] w λe b=>e=aG (θ #[ξ<|k.tO n,I<|Bp n])/\∃a,aE b (f.take s k n) xb a/\bE w L b a:=by
 let⟨l,j,E,G⟩:=h.sat i.at_;have p:=aX (Mw h hf i j);have q:Hid (∀W,aK w W->Calls prog 116 #[jp l.c,I n] W λe b=>e=aG (θ #[ξ<|k.tO n,I<|Bp n])/\∃a,aE b (f.at s<|k.takes n) xb a/\bE w L b a):=λW g=>by apply(abx (h.below g) i.at_ j n z).m;rintro e b ⟨rfl,a,d,g2⟩;exact⟨U,a,d,bE.t ⟨λ_ _=>U,.below g⟩ g2⟩
 have o:Hid (∀W,(∃a,aE W (f.at s<|k.takes n) xb a/\bE w L W a)->Calls prog 65 #[jp xb] W λe b=>e=aG (θ #[])/\∃a,aE b (f.take s k n) xb a/\bE w L b a):=λW ⟨r,b1,t⟩=>by
  have e:(f.at s<|k.takes n).K.length=f.K.length:=by simp[Fx.at]
  refine(Mx W _ xb r b1 A (by rw[e];exact hf)).m ?_;rintro D b ⟨rfl,a,d,g2⟩;rw[e]at d;exact⟨U,a,d,t.t g2⟩
 generalize f.take s k n=R at*;generalize f.at s (k.takes n)=R1 at*;generalize k.tO n=B at*;generalize Bp n=C at*;generalize l.c=c at*;go_enter func69,ntmps69;go_wp2_with (first|(go_at_call 58;apply p.m;rintro e H ⟨rfl,g⟩)|(go_at_call 116;apply(q _ g).m;rintro e J ⟨rfl,v⟩;have m:=aX v)|(go_at_call 65;apply(o _ m).m;rintro e N ⟨rfl,x⟩));go_ret2;exact⟨U,x⟩
structure akI where
 rb:Nat->Nat
 mb:Nat->Nat
 ch:Nat->Nat
 k:Nat->Cl
section
variable {W W1:aq} {f:Fx} {xb j:Nat} {L:cZ} {k:Ck} {l:Lc}
def aE.enter(h:aE W f xb L)(m:aK W W1)(u:f.K[j]? =Z aj)(z:l.At W1 f.g k)(w:l.iC (W.heap.size<=·)):
  aE (W1.setCell (F L.sb j)<|jp l.c) {f with K:=f.K.set j<|Z k} xb {L with cs:=L.cs.set j<|Z l,own:=gE L.own W.heap.size<|7+2*j}/\aS (λb=>L.own b≠0) W (W1.setCell (F L.sb j)<|jp l.c):=by
 have G:=(bf.1 h.dL).1;have a:fT W (W1.setCell (F L.sb j)<|jp l.c) L.own (gE L.own W.heap.size<|7+2*j) λt=>t=2:=⟨λb d B=>(bC λe=>B (by rw[e];exact h.je)).t (m.block b d),λb d=>gW d⟩;have b1:=a.blk h.box h.eR Y;have o:=a.row h.bD h.jP Y;have p:=a.row h.log h.ni Y;have q:=a.fG h.fG h.jH Y;have C:∀b,W.heap.size<=b->b≠L.sb:=λb d e=>by omega
 have D:L.cs[j]? =Z aj:=by
  have E:j<L.cs.length:=by rw[h.cs.len];exact(bY.1 u).1
  have i:=dj E;have r:=h.cs.at_ _ _ _ u i;rcases e2:L.cs[j]with _|l;rw[e2]at i;exact i;rw[e2]at r;exact absurd r O3
 refine⟨⟨?_,b1.2,?_,(gW G).t h.je,a.Gz h.cs (λx _=>by omega) ⟨cg.keep z w λb d _=>bC (C b d),w.m λb d=>uZ d⟩,a.js h.js (λs lc v=>⟨lc,?_,U⟩) (λn=>by omega),a.pZ h.fl Y,o.1,o.2,p.1,p.2,q.1,q.2⟩,?_⟩;have e:=b1.1;simpa[lC]using e;have e:=bG (bT m h.dL) j (kY<|Z l.c);rw[XB]at e
 rwa [Fj]
 have:s≠j:=λe=>by rw[e,D]at v;cases v
 rwa [gQ<|dB this]
 exact(aS.below m).t ((aS.refl _ _).m (λ_ _ h=>h) |>.trans (by exact⟨U,ay,λb d H=>bC λe=>H (by rw[e,h.je];omega)⟩))
def S9{W f xb L}(h:aE W f xb L):aE (W.setCell (F xb 10)<|I<|f.bF+1) {f with bF:=f.bF+1} xb L:=h.put 10 _ {f with bF:=f.bF+1} akW U U U U U ⟨U,U,U⟩
end
def aE.DQ{W f xb L}(h:aE W f xb L)(i:Nat):(L.cs.map λl=>l.map Lc.c)[i]? =Z aj↔f.K[i]? =Z aj:=by
 rw[qC];constructor;intro e;rcases e1:L.cs[i]? with _|o;rw[e1]at e;cases e;rw[e1]at e;cases o with
 |some l=>simp at e
 |none=>
  have g:i<f.K.length:=by rw[<-h.cs.len];exact(bY.1 e1).1
  have a:=dj g;have d:=h.cs.at_ _ _ _ a e1;cases b:f.K[i]with
  |none=>rw[b]at a;exact a
  |some k=>rw[b]at d;exact absurd d O3
 intro e;have g:i<L.cs.length:=by rw[h.cs.len];exact(bY.1 e).1
 have a:=dj g;have d:=h.cs.at_ _ _ _ e a;rcases b:L.cs[i]with _|l;rw[b]at a;rw[a];rfl;rw[b]at d;exact absurd d O3
def Fx.jV(f:Fx)(j:Nat)(wt:Int):Fx:={f with K:=f.K.set j<|Z<|Ck.fresh f.bF wt f.g.bu,bF:=f.bF+1}
def abv(w f xb L)(h:aE w f xb L)(hf:f.K.length<=65535)(z:f.stop=aa)(wt)(R:ia wt 1 4=M)(j)(k:f.K[j]? =Z aj)(x:∀i,i<j->f.K[i]? ≠Z aj)(aC:0<=f.bF/\f.bF<=281474976710656):
  Calls prog 28 #[jp xb,I wt] w λe a=>e=aG (θ #[I f.bF,I 0])/\∃m,aE a (f.jV j wt) xb m/\bE w L a m:=by
 have aH:=(bY.1 k).1;have aL:xb≠L.sb:=λe=>by have:=h.je;rw[<-e,h.eR]at this;omega
 have an:w.cell? (F xb 14)=Z (ω aa):=by rw[<-z];exact aD h.box U
 have E:=aJ w xb 9 (ζ (Z<|F L.sb 0) f.K.length f.K.length) h.box;have ak:=aJ w xb 10 (I f.bF) h.box
 have B:Hid (eZ 56 #[ζ (Z<|F L.sb 0) f.K.length f.K.length,π aj] w<|I j):=by
  apply(Vt L.sb f.K.length _ w h.dL ajl hf).m;rintro e a ⟨P,⟨r,u,p⟩|⟨u,p⟩⟩;have:r=j:=by rcases E7 r j with h'|h'|h';exact absurd ((h.DQ r).1 p.1)<|x r h';exact h';exact absurd ((h.DQ j).2 k)<|p.2 j h'
  exact⟨by rw[u,this],P⟩;exact absurd ((h.DQ j).2 k)<|p j
 have t:Hid (ic xb L.sb f.K.length f.g.sz f.g.cl f.g.qu f.g.mx f.g.qn f.g.rt f.g.bu f.g.wk f.g.ou w):=⟨⟨aD h.box U,aD h.box U,aD h.box U,aD h.box U,aD h.box U,aD h.box U,aD h.box U,aD h.box U,aD h.box U⟩,E⟩
 have D:Hid (∀W,aK w W->Calls prog 57 #[ov f.g,I f.bF,I wt] W λe a=>∃c,e=aG (jp c)/\(∃m,aE ((a.setCell (F L.sb j)<|jp c).setCell (F xb 10)<|I<|f.bF+1) (f.jV j wt) xb m/\bE w L ((a.setCell (F L.sb j)<|jp c).setCell (F xb 10)<|I<|f.bF+1) m)/\ic xb L.sb f.K.length f.g.sz f.g.cl f.g.qu f.g.mx f.g.qn f.g.rt f.g.bu f.g.wk f.g.ou a/\a.cell? (F L.sb j)=Z (π aj)/\a.frozen? (F L.sb j)=aa/\(a.setCell (F L.sb j)<|jp c).cell? (F xb 10)=Z (I f.bF)/\(a.setCell (F L.sb j)<|jp c).frozen? (F xb 10)=aa):=λW v=>by apply(aed f.g f.bF wt W).m;rintro e a ⟨c,X,V,G,rfl,Q,d,J,g2,N,O⟩;have o:=v.size;have q:=v.t (d.m o);let⟨s,H⟩:=h.enter (l:=⟨c,X,V,G,ζ aj 0 0,ζ aj 0 0⟩) q k Q ⟨cM o J,cM o g2,cM o N,cM o O,λb d=>by simp[lW]at d,λb d=>by simp[lW]at d⟩;refine⟨c,U,⟨_,(S9 s),⟨λb d=>gW d,H.set (by show L.own xb≠0;rw[h.eR];omega) _⟩⟩,t.later q,?_,bp (bT q h.dL) j,aD s.box U,bp s.box 10⟩;exact bH q<|aD h.dL<|xA<|(h.DQ j).2 k
 generalize f.jV j wt=F' at*;clear h k x z;go_enter func28,ntmps28
 go_upto_region 9 with(first|(go_at_call 55;apply(xK wt 1 4 _).m;rw[R];rintro e w1 ⟨rfl,rfl⟩)|(go_at_call 56;apply B.m;rintro e w1 ⟨rfl,rfl⟩))
 refine gY (S:=ic xb L.sb f.K.length f.g.sz f.g.cl f.g.qu f.g.mx f.g.qn f.g.rt f.g.bu f.g.wk f.g.ou) 13 t λhS=>?_;apply tg [0,1,2,3,4,5,6,7];apply tg [8,9,10];refine gr 11 λK n=>?_;go_simp;go_at_call 57;apply(D _<|jj (Below.refl _ _) _).m;rintro e w2 ⟨c,rfl,A,T,k3,k4,k5,k6⟩;have C:=aX A;clear A;refine n _ _ T<|λyG=>?_;clear n K;apply tg [12];refine gz λK n=>?_;go_simp;apply n _ _;clear n K;refine gl ?_;go_wp2_with fail
 go_ret2
 exact⟨U,C⟩
abbrev iX(e:En):aF aB:=#[I e.no,I e.ck,I e.kd,I e.fl,I e.of,I e.ln,I e.er]
def lO(B:aF UInt8)(e:En):ByteArray:=if e.kd=0/\e.er=0 then⟨B.extract e.of.toNat<|e.of.toNat+e.ln.toNat⟩else⟨#[]⟩
def UQ(d)(x:En)(B w)(h:¬(x.kd=0/\x.er=0)):bN 160 #[jp d,ν<|iX x] w (ξ<|lO B x):=by
 have b:lO B x=⟨#[]⟩:=aI h;rw[b];have a:(w.alloc<|au (iX x) 71).heap[w.heap.size]? =Z (au (iX x) 71 (0,0)):=heap_alloc_new w _;have g:=aD a (i:=2) (v:=I x.kd) U;have j:=aD a (i:=6) (v:=I x.er) U;have c:Hid (aK w<|w.alloc<|au (iX x) 71):=bq;by_cases h0:x.kd=0
 ·have f:¬x.er=0:=λe=>h ⟨h0,e⟩;have d1:(x.kd !=0)=aa:=by simp[h0]
  have d2:(x.er !=0)=M:=by simp[f]
  clear h h0 f a b;go_enter func160,ntmps160;go_wp2;go_ret;exact⟨U,c⟩
 have d1:(x.kd !=0)=M:=by simp[h0]
 clear h h0 a b;go_enter func160,ntmps160;go_wp2;go_ret;exact⟨U,c⟩
def Uy(d bb db n cv)(x:En)(B D)(C:av (Nat×av UInt8))(w)(a:dc w d bb db cv n B D C)(h:x.kd=0/\x.er=0)(h0:0<=x.of)(k:0<=x.ln)(l:x.of+x.ln<=n):bN 160 #[jp d,ν<|iX x] w (ξ<|lO B x):=by
 have f:lO B x=⟨B.extract x.of.toNat<|x.of.toNat+x.ln.toNat⟩:=aO h;rw[f];have c:(w.alloc<|au (iX x) 71).heap[w.heap.size]? =Z (au (iX x) 71 (0,0)):=heap_alloc_new w _;have p:=aD c (i:=2) (v:=I x.kd) U;have q:=aD c (i:=4) (v:=I x.of) U;have r:=aD c (i:=5) (v:=I x.ln) U;have s:=aD c (i:=6) (v:=I x.er) U;have b:aK w (w.alloc<|au (iX x) 71):=bq;have g:=aX b;have d1:(x.kd !=0)=aa:=by simp[h.1]
 have d2:(x.er !=0)=aa:=by simp[h.2]
 have j:Hid (Calls prog 130 #[jp d,I x.of,I x.ln] (w.alloc<|au (iX x) 71) λe o=>e=aG (ξ ⟨B.extract x.of.toNat<|x.of.toNat+x.ln.toNat⟩)/\o=w.alloc (au (iX x) 71)):=by have m:dc (w.alloc<|au (iX x) 71) d bb db cv n B D C:=⟨bT b a.box,bT b a.bytes,bT b a.fX,yX a.cache b,a.sizes,a.fits,a.apart,a.small⟩;have:=aaj d bb db n x.of.toNat x.ln.toNat cv B D C _ m Y;rwa [show((x.of.toNat:Nat):Int)=x.of by omega,show((x.ln.toNat:Nat):Int)=x.ln by omega]at this
 clear h h0 k l c f b a;go_enter func160,ntmps160;go_wp2_with (go_at_call 130;apply j.m;rintro e t ⟨rfl,rfl⟩);go_ret;exact⟨U,g⟩
section
variable {W:aq} {f:Fx} {xb:Nat} {L:cZ} {b:Jb} {r:av Jb}
def aE.top(h:aE W f xb L)(hf:f.fl=b::r)(q:∀x∈r,eI b.key x.key=M):∃a js,L.js=a::js/\L.hf 0=a.j/\fB W L.own L.cs b a:=by
 have d:=h.js.len;rw[hf]at d;rcases e:L.js with _|⟨a,js⟩;rw[e]at d;simp at d;have h0:L.js[0]? =Z a:=by rw[e];rfl
 have g:f.fl[0]? =Z b:=by rw[hf];rfl
 refine⟨a,js,U,?_,h.js.at_ 0 b a g h0⟩;let⟨u,t,n⟩:=h.fl.all 0 a h0;have p:0<f.fl.length:=by rw[hf];simp
 let⟨i,l,c,k⟩:=h.fl.aN 0 p;cases i with
 |zero=>rw[h0]at c;cases c;exact k
 |succ i=>exfalso;have o:i+1<f.fl.length:=j4;have s:=dj o;have m:=h.fl.heap.top u t;simp only[k,n,h.fl.keys _ _ _ s c,h.fl.keys _ _ _ g h0]at m;exact(Gn _ _).1 (q _ j4) m
def abF(h:aE W f xb L)(hf:f.fl=b::r)(hs:∀x∈r,eI b.key x.key=M)(ho:∀x∈r,x.order≠b.order)(hm:r.length<1048576):
  Calls prog 108 #[π<|Z<|F xb 18] W λe B=>∃p,e=aG (θ #[jp<|L.hf 0,ω M])/\p.j=L.hf 0/\∃C,aE B {f with fl:=r} xb C/\bE W L B C/\fB B C.own C.cs b p:=by
 let⟨p,js,O,N,hJ⟩:=h.top hf hs
 have hn:f.fl.length=r.length+1:=by rw[hf];simp
 have aL:=h.fl.row;have aJ:=h.fl.heap;have J:=h.fl.aN;have aH:=h.fl.all;have A:=h.fl.one;rw[hn]at aL aJ J aH A;have j0:L.js[0]? =Z p:=by rw[O];rfl
 have K:∀i:Nat,L.js[i+1]? =js[i]? :=λi=>by rw[O];rfl
 have P:∀i:Nat,f.fl[i+1]? =r[i]? :=λi=>by rw[hf];rfl
 have bt:js.length=r.length:=by have:=h.js.len;rw[O,hf]at this;exact akY
 have old:∀(i:Nat) l,L.js[i]? =Z l->∃x,f.fl[i]? =Z x/\(∃lc,fA W l.j lc l.rv x.rs x.ft x.due x.order)/\L.own l.j=8+2*x.order/\L.key l.j=x.key:=λi l m=>by
  have hi:i<f.fl.length:=by rw[<-h.js.len];exact(bY.1 m).1
  have d:=dj hi;let⟨c,g,k,G⟩:=h.js.at_ i _ _ d m;exact⟨_,d,⟨_,k⟩,G.1,h.fl.keys i _ _ d m⟩
 have cm:∀(i:Nat) l,L.js[i+1]? =Z l->l.j≠p.j:=λi l m e=>by let⟨x,g,_,G,_⟩:=old _ l m;let⟨_,_,_,Q⟩:=hJ;have H:=Q.1;rw[<-e]at H;rw[P]at g;exact ho x (jC g) Y
 refine(afj xb 18 r.length L.hv L.hf L.key _ _ W h.box U aM aL hm (λx d=>?_) (λx d e=>?_) aJ).m ?_
 let⟨i,l,g,k⟩:=J x d
 let⟨q,G,⟨c,Q⟩,H,h7⟩:=old i l g
 rw[k,h7];refine⟨Q.key,λe=>?_⟩;have:=h.fl.own l.j e.y;omega
 ·let⟨i,l,g,k⟩:=J x d;let⟨q,G,_,H,_⟩:=old i l g;rw[<-k,e,h.eR]at H;omega
 rintro e B ⟨rfl,v',w,g1,g2,E,g4,g5,g6⟩;have hX:∀x,x<W.heap.size->(x=xb\/Z x=L.hv.ownBlock)->L.own x=1\/L.own x=3:=λx _ d=>d.e (λe=>aA X6) λe=>az (h.fl.own x e.y);have a:fT W B L.own L.own λt=>t=1\/t=3:=⟨λx d xg=>g5.block x d λS=>xg (hX x d S),λx d=>U⟩;have X:=a.blk h.dL h.je Y;have b4:=a.row h.bD h.jP Y;have b5:=a.row h.log h.ni Y;have b6:=a.fG h.fG h.jH Y
 have aS:∀z,0<z->z<r.length+1->∃(i:Nat) (l:Lj),js[i]? =Z l/\L.hf z=l.j:=λz h0 V=>by
  let⟨i,l,g,k⟩:=J z V;cases i with
  |zero=>rw[j0]at g;cases g;have:=A z 0 V Y (k.t N.y);omega
  |succ i=>rw[K]at g;exact⟨i,l,g,k⟩
 refine⟨p,U,N.y,{L with js:=js,hv:=v',hf:=w},⟨g1,h.eR,X.1,X.2,a.cs h.cs (λs=>by omega),⟨bt,λi x l d m=>?_⟩,⟨g2,λx d=>h.fl.own x (by rw[<-g6];exact d),λx d=>?_,λi l m=>?_,λx q d T e=>?_,λi x l d m=>?_,g4⟩,b4.1,b4.2,b5.1,b5.2,b6.1,b6.2⟩,⟨λ_ _=>U,g5.m λx d S=>by rcases hX x d S with e|e<;>rw[e]<;>omega⟩,hJ.aside a (λc R=>⟨c,R,U⟩) Y⟩;exact(h.js.at_ (i+1) x l (by rw[P];exact d) (by rw[K];exact m)).aside a (λc R=>⟨c,R,U⟩) Y
 let⟨q,T,e⟩:=E.aN x d
 by_cases aQ:q=0
 let⟨i,l,g,k⟩:=aS r.length Y Y
 exact⟨i,l,g,by show w x=l.j;rw[e];simp[down,aQ,k]⟩
 let⟨i,l,g,k⟩:=aS q Y (Kx T)
 exact⟨i,l,g,by show w x=l.j;rw[e];simp[down,aQ,k]⟩;have aK:L.js[i+1]? =Z l:=by rw[K];exact m
 let⟨z,V,n⟩:=aH (i+1) l aK
 have oh:z≠0:=λe=>cm i l aK (by rw[<-n,e,N])
 by_cases bp:z=r.length
 let⟨x,d,e⟩:=E.all 0 Y
 exact⟨x,d,by show w x=l.j;rw[e];simp[down,<-bp,n]⟩
 let⟨x,d,e⟩:=E.all z Y
 exact⟨x,d,by show w x=l.j;rw[e];simp[down,oh,n]⟩;refine E.one (λu v hu hv o=>?_) x q d T e
 by_cases n:u=0
 by_cases D:v=0
 omega;simp[down,n,D]at o;have:=A r.length v Y Y o;omega
 by_cases D:v=0
 simp[down,n,D]at o;have:=A u r.length Y Y o;omega;simp[down,n,D]at o;exact A u v Y Y o;exact h.fl.keys (i+1) x l (by rw[P];exact d) (by rw[K];exact m)
end
def V4{P f fn c a w R n}{b:Frame}(hf:P.funcs[f]? =Z fn)(r:b.fn=f)(s:b.kind=.normal)(p:b.roundOf=aj)(h:c.wpIn ig n P (bodyPostM ig n P fn R) a w)(cs):
  ∃e d g,R e d/\Comes P (lone (b.at a [.code c]) cs w) (lone g cs d) e/\g.fn=f/\g.leaving P d e:=by
 have hr:ig.room (cs.length+1+n):=room_wide _
 let⟨e,j,d,k,o⟩:=h b [] cs p trivial hr
 have v:b.atR a [.code c]=b.at a [.code c]:=ZN p _ _;rw[v]at o
 have fin:∀(m:FrameMode) (i:av Item),LeavesInM ig n P fn j.tmps R j.defers m d->StepsIn (D7 P ig) P (lone (b.at a [.code c]) cs w) (lone {b.atR j i with mode:=m} cs d)->
   ∃e d g,R e d/\Comes P (lone (b.at a [.code c]) cs w) (lone g cs d) e/\g.fn=f/\g.leaving P d e:=λm i z B=>by
  let⟨u,D,g,hR,C,x,A⟩:=leaves_stepsInM j.defers m d {b.atR j i with mode:=m} cs U U U (by rw[<-r]at hf;exact hf) s trivial hr z
  exact⟨u,D,g,hR,QS.1<|ZC B C,x.t r,A⟩
 cases e with
 |normal=>exact fin .returning [] k<|StepsIn.t o<|.one (fenced_calm (fr:=b.atR j []) trivial hr U)<|stepR_end p
 |ret=>let⟨i,q⟩:=o.1 p;exact fin .returning i k q
 |panic t=>let⟨i,q⟩:=o;exact fin (.panicking t) i k q
 |exit id=>exact k.e
 |goto l=>exact k.e
 |outgrown=>exact⟨.outgrown,d,{b with fn:=f},k,QS.1 (o.resolve_left (by rw[s];simp)),U,trivial⟩
def abw(w f xb L)(h:aE w f xb L)(hf:f.K.length<=65535)(k:f.stop=aa)(wt)(l:ia wt 1 4=M)(g:∀i:Nat,f.K[i]? ≠Z aj):
  eZ 28 #[jp xb,I wt] w (θ #[I 0,I 3]):=by
 have n:w.cell? (F xb 14)=Z (ω aa):=by rw[<-k];exact aD h.box U
 have o:=aJ w xb 9 (ζ (Z<|F L.sb 0) f.K.length f.K.length) h.box
 have b:Hid (eZ 56 #[ζ (Z<|F L.sb 0) f.K.length f.K.length,π aj] w<|I<|-1):=by refine(Vt L.sb f.K.length _ w h.dL ajl hf).m ?_;rintro e p ⟨c,⟨j,a,d⟩|⟨a,_⟩⟩;exact absurd ((h.DQ j).1 d.1)<|g j;exact⟨a,c⟩
 go_enter func28,ntmps28;go_wp2_with (first|(go_at_call 55;refine(xK wt 1 4 _).m ?_;rw[l];rintro e m ⟨rfl,rfl⟩)|(go_at_call 56;refine b.m ?_;rintro e m ⟨rfl,rfl⟩))
 go_ret2
 exact⟨U,U⟩
def abJ{W f xb L b r}(h:aE W f xb L)(hf:f.fl=b::r)(g:∀x∈r,eI b.key x.key=M)(now):
  ∃a,a.j=L.hf 0/\fB W L.own L.cs b a/\(eZ 106 #[π<|Z<|F xb 18] W<|θ #[jp a.j,ω M])/\eZ 107 #[jp a.j,I now] W (ω<|decide<|b.due<=now):=by
 let⟨a,js,_,c,d⟩:=h.top hf g
 let⟨lc,_,e,_⟩:=d
 refine⟨a,c.y,d,?_,(by have i:=aJ W a.j 5 (I b.due) e.box;go_enter func107,ntmps107;go_wp2;go_ret;exact⟨U,U⟩)⟩
 have:=Vl xb 18 f.fl.length L.hv L.hf W h.Hf (by rw[hf];simp)
 rwa [c]at this
def mZ(no:Int)(r:Rq)(a:Bool):En:=⟨no,r.m.ck,r.m.kd,r.m.fl,r.m.of,r.m.ln,if a then 5 else 0,[]⟩
abbrev ie(j c b:Nat)(no:Int)(r:Rq)(W:aq):Prop:=W.cell? (F j 0)=Z (jp c)/\dD W b r/\W.cell? (F c 0)=Z (I no)
def ie.old{j c b no r W W'}(h:ie j c b no r W)(a:aK W W'):ie j c b no r W':=⟨bH a h.1,h.2.1.old a,bH a h.2.2⟩
abbrev mY:aF aB:=#[I 0,I 0,I 0,I 0,I 0,I 0,I 0]
def aaA(j c rv rs)(ft:Ft)(due order no r w)(h:fA w j c rv rs ft due order)(hc:w.cell? (F c 0)=Z (I no)):
  bN 158 #[jp j,ν<|aU r] w (ν<|iX<|mZ no r ft.eJ):=by
 have l:aK w ((w.alloc<|au (aU r) 205).alloc<|au mY 71):=bq.alloc ay _;have A:((w.alloc<|au (aU r) 205).alloc<|au mY 71).heap[w.heap.size]? =Z (au (aU r) 205 (0,0)):=Ez w _ _;have B:((w.alloc<|au (aU r) 205).alloc<|au mY 71).heap[w.heap.size+1]? =Z (au mY 71 (0,0)):=Ey w _ _;have t:=aJ w j 0 (jp c) h.box;have u:=aJ w j 3 (ω ft.eJ) h.box;have g:Hid (ie j c w.heap.size no r ((w.alloc<|au (aU r) 205).alloc<|au mY 71)/\aK w ((w.alloc<|au (aU r) 205).alloc<|au mY 71)/\((w.alloc<|au (aU r) 205).alloc<|au mY 71).heap[w.heap.size+1]? =Z (au mY 71 (0,0))/\((w.alloc<|au (aU r) 205).alloc<|au mY 71).cell? (F j 3)=Z (ω ft.eJ)):=⟨⟨bH l t,dD.of A,bH l hc⟩,l,B,bH l u⟩;clear h hc l A B t u;go_enter func158,ntmps158
 go_upto_region 1 with fail
 show JK _ _ _ _ ((w.alloc<|au (aU r) 205).alloc<|au mY 71);generalize (w.alloc<|au (aU r) 205).alloc (au mY 71)=b at*
 go_cut [4,5] (λp4 p5 O=>p4=aQ (w.heap.size+1)/\p5=aQ b.heap.size/\O.heap[b.heap.size]? =Z (au (iX<|mZ no r aa) 71 (0,0))/\aK b O)
 case first=>
  refine ga (S:=ie j c w.heap.size no r) g.1 λq=>?_;apply tl [0,1,2,3,5,6,7,8];apply tl [9,10,11,12,13,14,15,16];apply tl [17,18,19];have k:Hid (∀x,ie j c w.heap.size no r (b.alloc x).drew/\(b.alloc x).drew.heap[b.heap.size]? =Z x/\aK b (b.alloc x).drew):=λx=>⟨g.1.old ((Below.refl _ b).alloc (aR _) x).drew,heap_alloc_new b _,((Below.refl _ b).alloc (aR _) x).drew⟩;refine aH [4,21]<|.cons U (λK a=>?_) ?_;·(skip);go_simp;go_at_call 96;apply(Ih c no _ q.2.2).m;rintro e w4 ⟨rfl,rfl⟩;refine a _ _ q<|λn=>?_;clear a K;apply tl [20];refine rH 21 λK a=>?_;go_simp;refine a _ _ (k _).1 (λDu=>?_);clear a K;refine rH 22 λK a=>?_;go_simp;refine a _ _ (k _).1 (λan=>?_);clear a K;refine dJ ?_;go_wp2_with fail;go_meet;case rel=>exact⟨U,U,(k _).2.1,(k _).2.2⟩
  refine .cons U (λK a=>?_) .nil;go_simp;refine a _ _ (k _).1 (λn=>?_);clear a K;refine rH 4 λK a=>?_;go_simp;go_at_call 96;apply(Ih c no _ n.2.2).m;rintro e w4 ⟨rfl,rfl⟩;refine a _ _ n<|λDu=>?_;clear a K;apply tl [20];refine rH 22 λK a=>?_;go_simp;refine a _ _ (k _).1 (λan=>?_);clear a K;refine dJ ?_;go_wp2_with fail;go_meet;case rel=>exact⟨U,U,(k _).2.1,(k _).2.2⟩
 case rest=>
  obtain⟨rfl,rfl,f,m⟩:=hcut;have d:wc.heap[w.heap.size+1]? =Z (au mY 71 (0,0)):=bT m g.2.2.1;have z:=bH m g.2.2.2;have aL:w.heap.size+1<b.heap.size:=(bf.1 g.2.2.1).1;have s:w.heap.size<b.heap.size:=Y;have o:=aX (g.2.1.t<|m.m g.2.1.size);clear m g;generalize b.heap.size=N at*;have s0:=aD f (i:=0) U;have s1:=aD f (i:=1) U;have s2:=aD f (i:=2) U;have s3:=aD f (i:=3) U;have s4:=aD f (i:=4) U;have s5:=aD f (i:=5) U;have s6:=aD f (i:=6) U;have sf:=λi=>bp f i;have P:=aD d (i:=0) U;have Q:=aD d (i:=1) U;have R:=aD d (i:=2) U;have T:=aD d (i:=3) U;have V:=aD d (i:=4) U;have X:=aD d (i:=5) U;have z6:=aD d (i:=6) U;have zf:=λi=>bp d i;have aE:¬N=w.heap.size+1:=Y;have p:Hid (∀W C D E G H J L,aK w W->aK w (((((((W.setCell (F (w.heap.size+1) 0) C).setCell (F (w.heap.size+1) 1) D).setCell (F (w.heap.size+1) 2) E).setCell (F (w.heap.size+1) 3) G).setCell (F (w.heap.size+1) 4) H).setCell (F (w.heap.size+1) 5) J).setCell (F (w.heap.size+1) 6) L)):=λW C D E G H J L hW=>Below.setCell (Below.setCell (Below.setCell (Below.setCell (Below.setCell (Below.setCell (Below.setCell hW (kJ _) _) (kJ _) _) (kJ _) _) (kJ _) _) (kJ _) _) (kJ _) _) (kJ _) _;have HY:Hid (aK w<|wc.setCell (F N 6)<|I 5):=Below.setCell o (oI s) _;clear d f aL s;rcases hfl:ft.eJ with _|_;·rw[hfl]at z;go_wp2;refine iB (v:=ν<|iX<|mZ no r aa) (by simp[results,results158,go_sem,P,Q,R,T,V,X,z6]) U ⟨by rw[hfl],?_⟩;exact p _ _ _ _ _ _ _ _ o
  rw[hfl]at z;go_wp2;refine iB (v:=ν<|iX<|mZ no r M) (by simp[results,results158,go_sem,P,Q,R,T,V,X,z6,Y,aE,mZ]) U ⟨by rw[hfl],?_⟩;exact p _ _ _ _ _ _ _ _ HY
structure fa:Prop where
 add:∀(B b:Nat) (bs:av aB) (s:ByteArray) (w:aq),sU 294 5 B b bs w->bs.length+s.size<=140737488355328->B<=w.heap.size->
  Calls prog 248 #[jp b,ξ s] w λe a=>e=aG (θ #[I s.size,.nilIface])/\(Fb 294 5 B b (jp b) (bs++Lib.strCells s) a/\Below B w a)
 all:∀(B b:Nat) (l:av UInt8) (w:aq),sU 294 5 B b (lR l) w->B<=w.heap.size->
  Calls prog 250 #[jp b] w λe a=>e=aG (ξ ⟨l.toArray⟩)/\Below B w a
 rep:∀(s:ByteArray) (c:Nat) (w:aq),c<=9223372036854775807->s.size*c<=140737488355328->
  bN 249 #[ξ s,I c] w (ξ ⟨(BN s.data.toList c).toArray⟩)
def Rq.piece(r:Rq):av UInt8:=if r.m.kd=1 then r.m.dt.data.toList else if r.m.kd=3\/r.m.kd=4 then BN [0] r.m.ln.toNat else[]
def dF(a:av Rq):av UInt8:=a.flatMap Rq.piece
def Td{a:av Rq}{i r}(h:a[i]? =Z r):dF (a.take<|i+1)=dF (a.take i)++r.piece:=by unfold dF;rw[rQ,h];simp
def Y9(rs i):(dF<|rs.take i).length<=(dF rs).length:=by
 have:dF rs=dF (rs.take i)++dF (rs.drop i):=by unfold dF;rw[<-rL,pL]
 grind
def VB{T e:aY}{B b bs W W'}(h:sU T e B b bs W)(f:∀k,k<W.heap.size->W'.heap[k]? =W.heap[k]?):sU T e B b bs W':=by
 have one:∀p,Fb T e B b p bs W->Fb T e B b p bs W':=by rintro p ⟨r,v,c,d,s⟩;refine⟨r,v,(f b (bf.1 c).1).t c,⟨d.1,?_⟩,s⟩;rcases d.2 with h|⟨g,cap,i,j,l,a,m,n,o,q⟩;exact aA h;exact az ⟨g,cap,i,j,l,(f g (bf.1 a).1).t a,m,n,o,q⟩
 exact h.imp (one _)<|one _
abbrev lA(W:aq)(r:Rq):aq:=W.alloc (au (aU r) 205)
def Sm(W r):aK W (lA W r):=bq
def Z0(s:fa)(j c rv a)(ft:Ft)(due order w)(h:fA w j c rv a ft due order)(hl:(dF a).length<=1048576)(hn:a.length<=1048576)(S:∀r∈a,0<=r.m.ln/\r.m.ln<=65535):
  bN 233 #[jp j] w (ξ ⟨(dF a).toArray⟩):=by
 obtain⟨O,p,rfl,_⟩:=h.row.form;have B:aK w (w.alloc<|au #[π aj,ζ aj 0 0] 294):=bq;have c1:(w.alloc<|au #[π aj,ζ aj 0 0] 294).cell? (F j 1)=Z (ζ O a.length p):=aD (h.below B).box U;have R:(w.alloc<|au #[π aj,ζ aj 0 0] 294).heap[w.heap.size]? =Z (au #[π aj,ζ aj 0 0] 294 (0,0)):=heap_alloc_new w _
 have V:Hid (fA (w.alloc<|au #[π aj,ζ aj 0 0] 294) j c (ζ O a.length p) a ft due order/\sU 294 5 w.heap.size w.heap.size (lR []) (w.alloc<|au #[π aj,ζ aj 0 0] 294)/\aK w (w.alloc<|au #[π aj,ζ aj 0 0] 294)):=⟨h.below B,aA ⟨aR _,_,R,⟨U,aA ⟨U,U⟩⟩,by simp[lW]⟩,B⟩
 have HL:=aX S;have X:=aX h;clear h B R S;go_enter func233,ntmps233;go_wp2
 go_loopw [11] (λN wr=>∃i:Nat,i<=a.length/\N=I (i:Int)/\Hid (fA wr j c (ζ O a.length p) a ft due order/\sU 294 5 w.heap.size w.heap.size (lR<|dF<|a.take i) wr/\aK w wr)) (λN _=>a.length-(dw N).toNat)
 case atStart=>exact⟨0,cO _,U,V⟩
 case round=>
  obtain⟨i,hi,rfl,hR⟩:=hrel;by_cases an:i<a.length
  ·have h4:(i:Int)<(a.length:Int):=Y;obtain⟨r,hr⟩:∃r,a[i]? =Z r:=⟨a[i],dj an⟩;have T:r∈a:=jC hr;obtain⟨z,rfl,k0,k1,k2,k3,k4,k5,k6,k7,k8,k9⟩:=hR.1.row.at hr;have H:=Sm wr r;have f:Hid (fA (lA wr r) j c (ζ (Z<|F z 0) a.length p) a ft due order/\sU 294 5 w.heap.size w.heap.size (lR<|dF<|a.take i) (lA wr r)/\aK w (lA wr r)):=⟨hR.1.below H,VB hR.2.1<|λk J=>H.block k J,hR.2.2.alloc hR.2.2.size _⟩;have A:(lA wr r).heap[wr.heap.size]? =Z (au (aU r) 205 (0,0)):=heap_alloc_new wr _;have s2:=aD A (i:=2) (v:=I r.m.kd) U;have s6:=aD A (i:=6) (v:=I r.m.ln) U;have s7:=aD A (i:=7) (v:=ξ r.m.dt) U;have K:=Td hr;have L:=Y9 a (i+1);rw[K,fQ]at L;have E:=aX f.2.2.size
   have fin:∀(W:aq) (l:av UInt8),r.piece=l->Fb 294 5 w.heap.size w.heap.size (jp w.heap.size) (lR (dF<|a.take i)++lR l) W->Below w.heap.size (lA wr r) W->
     fA W j c (ζ (Z<|F z 0) a.length p) a ft due order/\sU 294 5 w.heap.size w.heap.size (lR<|dF<|a.take<|i+1) W/\aK w W:=λW l hl n b=>
    ⟨X.below<|f.2.2.t b,az (by rw[K,hl];unfold lR;rw[sV];exact n),f.2.2.t b⟩
   have D:Hid (∀(W:aq) (l:av UInt8),r.piece=l->Fb 294 5 w.heap.size w.heap.size (jp w.heap.size) (lR (dF<|a.take i)++lR l) W->Below w.heap.size (lA wr r) W->
     fA W j c (ζ (Z<|F z 0) a.length p) a ft due order/\sU 294 5 w.heap.size w.heap.size (lR<|dF<|a.take<|i+1) W/\aK w W):=fin
   have Q:=aX (cM L hl);have HN:=HL.u r T;clear fin K L H A T;by_cases g:r.m.kd=1
   ·have d:r.piece=r.m.dt.data.toList:=by unfold Rq.piece;rw[aO g]
    have d1:(r.m.kd==1)=M:=by simp[g]
    have x:=aX d;have u:Hid ((lR<|dF<|a.take i).length+r.m.dt.size<=140737488355328):=by
     have:=Q.u;rw[d]at this;have e:r.m.dt.data.toList.length=r.m.dt.size:=by rw[lQ];rfl
     rw[e]at this;show _<=_;rw[w9];omega
    clear d g;go_wp2_with (go_at_call 248;apply(s.add _ _ _ _ _ f.u.2.1 u.u E.u).m;rintro e t ⟨rfl,n,b⟩);refine⟨⟨i+1,Y,by go_num,D.u _ _ x.u n b⟩,?_⟩;simp[dw];omega
   have d1:(r.m.kd==1)=aa:=by simp[g]
   by_cases e3:r.m.kd=3\/r.m.kd=4
   ·have d:r.piece=BN [0] r.m.ln.toNat:=by unfold Rq.piece;rw[aI g,aO e3]
    have x:=aX d;have u:Hid ((lR<|dF<|a.take i).length+(⟨(BN (⟨#[0]⟩:ByteArray).data.toList r.m.ln.toNat).toArray⟩:ByteArray).size<=140737488355328):=by have:=Q.u;rw[d]at this;show _+(BN [0] r.m.ln.toNat).toArray.size<=_;rw[w9,nE];omega
    have P:Hid (bN 249 #[ξ ⟨#[0]⟩,I r.m.ln] (lA wr r)<|ξ ⟨(BN (⟨#[0]⟩:ByteArray).data.toList r.m.ln.toNat).toArray⟩):=by have:=s.rep ⟨#[0]⟩ r.m.ln.toNat (lA wr r) Y (by show 1*_<=_;omega);rwa [show((r.m.ln.toNat:Nat):Int)=r.m.ln by omega]at this
    have q:Hid (∀W,aK (lA wr r) W->sU 294 5 w.heap.size w.heap.size (lR<|dF<|a.take i) W/\w.heap.size<=W.heap.size/\Below w.heap.size (lA wr r) W):=λW G=>⟨VB f.u.2.1 λk J=>G.block k J,cM E.u G.size,G.m E.u⟩;clear d g;cases d3:(r.m.kd==3)with
    |true=>go_wp2_with (first|(go_at_call 249;apply P.u.m;rintro e t ⟨rfl,o⟩)|(go_at_call 248;apply(s.add _ _ _ _ _ (q.u _ o).1 u.u (q.u _ o).2.1).m;rintro e t ⟨rfl,n,b⟩));refine⟨⟨i+1,Y,by go_num,D.u _ _ x.u n<|(q.u _ o).2.2.t b⟩,?_⟩;simp[dw];omega
    |false=>
     have d4:(r.m.kd==4)=M:=by rcases e3 with e3|e3;rw[e3]at d3;cases d3;simp[e3]
     go_wp2_with (first|(go_at_call 249;apply P.u.m;rintro e t ⟨rfl,o⟩)|(go_at_call 248;apply(s.add _ _ _ _ _ (q.u _ o).1 u.u (q.u _ o).2.1).m;rintro e t ⟨rfl,n,b⟩));refine⟨⟨i+1,Y,by go_num,D.u _ _ x.u n<|(q.u _ o).2.2.t b⟩,?_⟩;simp[dw];omega
   have d3:(r.m.kd==3)=aa:=bV;have d4:(r.m.kd==4)=aa:=bV;have d:r.piece=[]:=by unfold Rq.piece;rw[aI g,aI e3]
   have HX:Hid (fA (lA wr r) j c (ζ (Z<|F z 0) a.length p) a ft due order/\sU 294 5 w.heap.size w.heap.size (lR<|dF<|a.take<|i+1) (lA wr r)/\aK w (lA wr r)):=by refine⟨f.u.1,?_,f.u.2.2⟩;rw[Td hr,d,lf];exact f.u.2.1
   clear d g e3;go_wp2;refine⟨⟨i+1,Y,by go_num,HX.u⟩,?_⟩;simp[dw];omega
  have h4:¬(i:Int)<(a.length:Int):=Y;have e:i=a.length:=Y;subst e;rw[pM]at hR;have C:=hR;clear hR;go_wp2_with (go_at_call 250;apply(s.all _ _ _ _ C.u.2.1 C.u.2.2.size).m;rintro e t ⟨rfl,b⟩);go_ret;exact⟨U,C.u.2.2.t b⟩
def eG(a:av Rq)(ft:Ft):av UInt8:=if ft.eJ then(dF a).take (4*min ft.part.toNat ((dF a).length / 4))else dF a
def Zg(rs)(ft:Ft):(eG rs ft).length<=(dF rs).length:=by unfold eG;grind
def SJ{rs ft}(h:(dF rs).length %4=0):∃m,(eG rs ft).length=4*m:=by unfold eG;split;rw[vS];refine⟨min ft.part.toNat<|(dF rs).length / 4,?_⟩;omega;exact⟨(dF rs).length / 4,Y⟩
def aaI(D:av UInt8)(k):(⟨D.toArray⟩:ByteArray).extract 0 k=⟨(D.take k).toArray⟩:=by apply rG;rw[rE];simp
def SI(k:fa)(j c rv a)(ft:Ft)(due order w)(h:fA w j c rv a ft due order)(hl:(dF a).length<=1048576)(o:a.length<=1048576)(n:∀r∈a,0<=r.m.ln/\r.m.ln<=65535)(u:0<=ft.part/\ft.part<=9223372036854775807):
  bN 193 #[jp j] w (ξ ⟨(eG a ft).toArray⟩):=by
 have i:=aX (Z0 k j c rv a ft due order w h hl o n);have f:=aX h;have q:eG a ft=if ft.eJ=M then(dF a).take (4*min ft.part.toNat ((dF a).length / 4))else dF a:=U
 rw[q];generalize dF a=D at*;have p:(⟨D.toArray⟩:ByteArray).size=D.length:=by show D.toArray.size=_;simp
 have s:=aX p;rcases hf:ft.eJ with _|_
 ·go_enter func193,ntmps193;go_wp2_with (go_at_call 233;apply i.m;rintro e d ⟨rfl,b⟩;have g:d.cell? (F j 3)=Z (ω ft.eJ):=aD (f.below b).box U;rw[hf]at g);go_ret;exact⟨ay,b⟩
 go_enter func193,ntmps193;go_wp2_with (go_at_call 233;apply i.m;rintro e d ⟨rfl,b⟩;have g:d.cell? (F j 3)=Z (ω ft.eJ):=aD (f.below b).box U;have t:d.cell? (F j 4)=Z (I ft.part):=aD (f.below b).box U;rw[hf]at g);go_ret;refine⟨?_,b⟩;have l:(4*min ft.part ((D.length:Int) / 4)).toNat=4*min ft.part.toNat (D.length / 4):=Y;show JN (Value.string<|(⟨D.toArray⟩:ByteArray).extract 0 _)=_;rw[l,aaI]
structure Dk where
 B:aF UInt8
 D:aF UInt8
 C:av (Nat×av UInt8)
def Dk.change (d:Dk)(a:av Rq)(ft:Ft):Dk:=match a with
 |[]=>d|r::_=>
  if r.m.kd=2/\ft.eJ=aa then⟨d.B,qT d.D d.C,[]⟩
  else if r.m.fl=1/\ft.eJ=aa then⟨fq d.B r.m.of.toNat<|eG a ft,fq d.D r.m.of.toNat<|eG a ft,stay r.m.of.toNat (r.m.of.toNat+(eG a ft).length) d.C⟩
  else⟨fq d.B r.m.of.toNat<|eG a ft,d.D,d.C++secs r.m.of.toNat (eG a ft) ((eG a ft).length / 4)⟩
abbrev lh(j a n b:Nat)(r:Rq)(fl:Bool)(W:aq):Prop:=(W.cell? (F j 1)=Z (ζ (Z (F a 0)) n b)/\W.cell? (F j 3)=Z (ω fl))/\dD W a r
def lh.old{j gb n qc r fl W W'}(h:lh j gb n qc r fl W)(a:aK W W'):lh j gb n qc r fl W':=⟨⟨bH a h.1.1,bH a h.1.2⟩,h.2.old a⟩
def FY(w w':aq)(d c e n:Nat)(cv:aB)(k:Dk):Prop:=∃a,dc w' d c e a n k.B k.D k.C/\aS (λb=>b=d\/b=c\/b=e\/Z b=cv.ownBlock) w w'/\(a.ownBlock=cv.ownBlock\/∀g,a.ownBlock=Z g->w.heap.size<=g)
def aS.ND{X w w'}(h:aK w w'):aS X w w':=⟨h.os,h.size,λk a _=>h.block k a⟩
def U0(bz:fa)(j c rv r t)(ft:Ft)(due order d bb db n cv)(k:Dk)(w)(h:fA w j c rv (r::t) ft due order)(s:dc w d bb db cv n k.B k.D k.C)(hl:(dF (r::t)).length<=1048576)(hn:(r::t).length<=1048576)(X:∀x∈r::t,0<=x.m.ln/\x.m.ln<=65535)(hp:0<=ft.part/\ft.part<=9223372036854775807)(h0:0<=r.m.of)(L:r.m.of.toNat<n)(h2:r.m.of.toNat+(dF (r::t)).length<=n)(T:(dF (r::t)).length %4=0)(hC:k.C.length+1048576<=1099511627776):
  Calls prog 157 #[jp j,jp d] w λe f=>e=aG (θ #[])/\FY w f d bb db n cv (k.change (r::t) ft):=by
 obtain⟨qa,qc,rfl,_⟩:=h.row.form;obtain⟨R,rfl,k0,k1,k2,k3,k4,k5,k6,k7,k8,k9⟩:=h.row.at (i:=0) (r:=r) U;have A:Hid (lh j R (r::t).length qc r ft.eJ w):=⟨⟨aD h.box U,aD h.box U⟩,k0,k1,k2,k3,k4,k5,k6,k7,k8,k9⟩;have HJ:=aX h;have HD:=aX s;have MZ:=Zg (r::t) ft;obtain⟨m,hm⟩:=SJ (ft:=ft) T;have HW:Hid (∀W,aK w W->bN 193 #[jp j] W (ξ ⟨(eG (r::t) ft).toArray⟩)):=λW l=>SI bz j c _ _ ft due order W (h.below l) hl hn X hp;have u:(⟨(eG (r::t) ft).toArray⟩:ByteArray).size=(eG (r::t) ft).length:=by show(eG (r::t) ft).toArray.size=_;simp
 have cast:((r.m.of.toNat:Nat):Int)=r.m.of:=Y
 have bu:Hid (∀W,aK w W->Calls prog 194 #[jp d,I r.m.of,ξ ⟨(eG (r::t) ft).toArray⟩] W λe f=>e=aG (θ #[])/\FY w f d bb db n cv ⟨fq k.B r.m.of.toNat<|eG (r::t) ft,k.D,k.C++secs r.m.of.toNat (eG (r::t) ft) ((eG (r::t) ft).length / 4)⟩):=λW l=>by have:=aam d bb db n r.m.of.toNat m cv k.B k.D k.C ⟨(eG (r::t) ft).toArray⟩ W (s.below l) L (by rw[u];omega) (by rw[u];exact hm) Y;rw[cast]at this;refine this.m ?_;rintro e f ⟨rfl,J,G,z,P⟩;refine⟨U,J,?_,(aS.ND l).t<|z.m λb _ o=>o.e aA λo=>o.e (λe=>az (aA e)) λe=>az (az<|az e),P.imp id λq g e=>cM l.size (q g e)⟩;have e:(eG (r::t) ft).length / 4=m:=Y;rwa [e]
 have bp:Hid (∀W,aK w W->Calls prog 192 #[jp d,I r.m.of,ξ ⟨(eG (r::t) ft).toArray⟩] W λe f=>e=aG (θ #[])/\FY w f d bb db n cv ⟨fq k.B r.m.of.toNat<|eG (r::t) ft,fq k.D r.m.of.toNat<|eG (r::t) ft,stay r.m.of.toNat (r.m.of.toNat+(eG (r::t) ft).length) k.C⟩):=λW l=>by have:=VG d bb db n r.m.of.toNat cv k.B k.D k.C ⟨(eG (r::t) ft).toArray⟩ W (s.below l) L (by rw[u];omega) Y;rw[cast,u]at this;refine this.m ?_;rintro e f ⟨rfl,J,G,z,P⟩;exact⟨U,J,G,(aS.ND l).t z,aA P⟩
 have bl:Hid (∀W,aK w W->Calls prog 191 #[jp d] W λe f=>e=aG (θ #[])/\FY w f d bb db n cv ⟨k.B,qT k.D k.C,[]⟩):=λW l=>by refine(abj d bb db n cv k.B k.D k.C W (s.below l) Y).m ?_;rintro e f ⟨rfl,G,z⟩;exact⟨U,_,G,(aS.ND l).t<|z.m λb _ o=>o.e aA λe=>az (az<|aA e),az λg e=>by cases e⟩
 have HX:Hid (k.change (r::t) ft=bif r.m.kd==2&&!ft.eJ then⟨k.B,qT k.D k.C,[]⟩
  else bif r.m.fl==1&&!ft.eJ then⟨fq k.B r.m.of.toNat<|eG (r::t) ft,fq k.D r.m.of.toNat<|eG (r::t) ft,stay r.m.of.toNat (r.m.of.toNat+(eG (r::t) ft).length) k.C⟩
  else⟨fq k.B r.m.of.toNat<|eG (r::t) ft,k.D,k.C++secs r.m.of.toNat (eG (r::t) ft) ((eG (r::t) ft).length / 4)⟩):=by
  simp only[cond_eq_ite,cQ,mL,uk];rfl
 generalize k.change (r::t) ft=kx at*;generalize eG (r::t) ft=Wl at*;clear h s MZ hm hl hn X h0 L h2 T hC k0 k1 k2 k3 k4 k5 k6 k7 k8 k9 u cast HJ HD;have bO:0<(r::t).length:=ay;generalize (r::t).length=nr at*;have bL:(0:Int)<(nr:Int):=Y;go_enter func157,ntmps157
 go_upto_region 0 with fail
 go_cut [4,5] (λp4 p5 f=>p4=aQ w.heap.size/\p5=ω (!ft.eJ)/\f.heap[w.heap.size]? =Z (au (aU r) 205 (0,0))/\aK w f)
 case first=>refine gY (S:=lh j R nr qc r ft.eJ) 14 A.u λhS=>?_;apply tg [0,1,2,3,4,5,6,7];apply tg [8,9,10,11];refine gr 12 λK a=>?_;go_simp;refine a.u _ _ (A.u.old bq.drew)<|λN=>?_;clear a K;have Q:aK w (w.alloc<|au (aU r) 205).drew:=bq.drew;refine gr 13 λK a=>?_;go_simp;refine a.u _ _ (A.u.old Q)<|λyG=>?_;clear a K;refine gz λK a=>?_;go_simp;refine a.u _ _ ?_;clear a K;refine gl ?_;go_wp2_with fail;go_meet;case rel=>exact⟨U,U,heap_alloc_new w _,Q⟩
 case rest=>
  obtain⟨rfl,rfl,E,o⟩:=hcut;have s2:=aD E (i:=2) (v:=I r.m.kd) U;have s3:=aD E (i:=3) (v:=I r.m.fl) U;have s5:=aD E (i:=5) (v:=I r.m.of) U;have p:Hid (aK w wc):=o;clear o E A;cases hf:ft.eJ<;>cases d1:(r.m.kd==2)<;>cases d3:(r.m.fl==1);all_goals
   have H:=HX.u;rw[hf,d1,d3]at H;simp only[Bool.not_true,EJ]
   first
   |(go_wp2_with (go_at_call 191;refine(bl.u _ p.u).m ?_;rintro e w1 ⟨rfl,O⟩)
     refine fC U U ⟨U,?_⟩;rw[H];exact O)
   |(first|go_upto_region 5 with fail|go_upto_region 1 with fail
     refine gY (S:=λW=>W.cell? (F w.heap.size 5)=Z (I r.m.of)/\aK w W) 6 ⟨s5,p.u.drew⟩ λhS=>?_;apply tg [0,1,2,3,4];refine gr 5 λK a=>?_;go_simp;go_at_call 193;refine(HW.u _ p.u.drew).m ?_;rintro e w1 ⟨rfl,V⟩;refine a.u _ _ ⟨bH V s5,p.u.drew.t<|V.m p.u.drew.size⟩ (λN=>?_);clear a K;refine gz λK a=>?_;go_simp
     first
     |(go_at_call 192
       refine(bp.u _ N.2).m ?_)
     |(go_at_call 194
       refine(bu.u _ N.2).m ?_)
     rintro e w2 ⟨rfl,O⟩;refine a.u _ _ ?_;clear a K;refine gl ?_;go_wp2_with fail;refine fC U U ⟨U,?_⟩;rw[H];exact O)
section
abbrev Fx.dk(f:Fx):Dk:=⟨f.B,f.D,f.C⟩
abbrev Fx.Ei(f:Fx)(k:Dk):Fx:={f with B:=k.B,D:=k.D,C:=k.C}
def sF(ft:Ft):UInt8:=if ft.eJ then 5 else 0
def Ck.hrd(B:aF UInt8)(ft:Ft)(k:Ck)(r:Rq):Ck:=k.nQ r (sF ft) (lO B<|mZ k.no r ft.eJ)
def Ck.answers(B:aF UInt8)(ft:Ft)(k:Ck)(a:av Rq):Ck:=a.foldl (Ck.hrd B ft) k
def acz(B)(ft:Ft)(k:Ck)(r):(k.hrd B ft r).no=k.no:=by unfold Ck.hrd Ck.nQ;split<;>rfl
def Gk(B:aF UInt8)(ft:Ft):∀(a:av Rq) (k:Ck),(k.answers B ft a).no=k.no
 |[],k=>rfl|r::a,k=>(Gk B ft a<|k.hrd B ft r).t (acz B ft k r)
def O8{B ft}{k:Ck}{a:av Rq}{i:Nat}{r:Rq}(h:a[i]? =Z r):k.answers B ft (a.take<|i+1)=(k.answers B ft<|a.take i).hrd B ft r:=by unfold Ck.answers;rw[rQ,h];simp
structure Ck.Ro(k:Ck):Prop where
 us:wR k.us
 bw:0<=k.bw/\k.bw<=1048576
 prom:0<=k.prom/\k.prom<=4194304
 out:k.u.size<=1048576
abbrev Ck.Ro.u:=@Ck.Ro.out
def Gu(k:Dk)(rs)(ft:Ft):(k.change rs ft).B.size=k.B.size:=by unfold Dk.change;split;rfl;split;rfl;split<;>exact AP _ _ _
variable {W:aq} {f:Fx} {xb:Nat} {L:cZ} {b:Jb} {lj:Lj} {k:Ck}
def lK(own:Nat->Nat)(n:Nat)(v:aB)(t:Nat):Nat->Nat:=λx=>if x<n then own x else if v.ownBlock=Z x then t else 0
def Ea{own n t x v}(h:x<n):lK own n v t x=own x:=aO h
def DY{own n t x v}(h:n<=x)(hv:v.ownBlock=Z x):lK own n v t x=t:=by unfold lK;rw[aI Y,aO hv]
def WQ{own n t x v}(h:n<=x)(hv:v.ownBlock≠Z x):lK own n v t x=0:=by unfold lK;rw[aI Y,aI hv]
abbrev Ll(W:aq)(f:Fx)(xb:Nat)(L:cZ)(b:Jb)(lj:Lj):Prop:=Calls prog 157 #[jp lj.j,jp L.d] W λe c=>e=aG (θ #[])/\∃a,aE c (f.Ei (f.dk.change b.rs b.ft)) xb a/\bE W L c a/\fB c a.own a.cs b lj/\a.d=L.d/\a.cs=L.cs/\a.lv=L.lv/\∀x,W.heap.size<=x->a.own x=0\/a.own x=6
def agD(s:fa)(h:aE W f xb L)(z:fB W L.own L.cs b lj){r t}(hr:b.rs=r::t)(hl:(dF b.rs).length<=1048576)(hm:b.rs.length<=1048576)(p:∀x∈b.rs,0<=x.m.ln/\x.m.ln<=65535)(E:0<=b.ft.part/\b.ft.part<=9223372036854775807)(h0:0<=r.m.of)(u:r.m.of.toNat<f.B.size)(n:r.m.of.toNat+(dF b.rs).length<=f.B.size)(o:(dF b.rs).length %4=0)(v:f.C.length+1048576<=1099511627776):
  Ll W f xb L b lj:=by
 obtain⟨lc,H,q,K⟩:=z;have J:=hr▸q;rw[hr]at hl hm p n o;refine(U0 s lj.j lc.c lj.rv r t b.ft b.due b.order L.d L.bb L.db f.B.size L.cv f.dk W J h.fG hl hm p E h0 u n o v).m ?_;rintro e N ⟨rfl,g,d1,d2,d3⟩
 have l:∀x,x<W.heap.size->(x=L.d\/x=L.bb\/x=L.db\/Z x=L.cv.ownBlock)->L.own x=6:=by rintro x _ (rfl|rfl|rfl|e);exact h.jH.1;exact h.jH.2.1;exact h.jH.2.2.1;exact h.jH.2.2.2 x e.y
 have i:∀x,x<W.heap.size->lK L.own W.heap.size g 6 x=L.own x:=λx a=>Ea a
 have w:∀x,g.ownBlock=Z x->lK L.own W.heap.size g 6 x=6:=λx a=>by rcases lq x W.heap.size with A|hge;rw[Ea A];rcases d3 with d3|d3;exact h.jH.2.2.2 x (d3▸a);have:=d3 x a;omega;exact DY hge a
 rw[hr];refine⟨U,_,h.aae (cv:=g) (B:=(f.dk.change (r::t) b.ft).B) (D:=(f.dk.change (r::t) b.ft).D) (C:=(f.dk.change (r::t) b.ft).C) (cq:=lK L.own W.heap.size g 6) d2 l (by rw[Gu _ _ _];exact d1) i w,⟨i,d2.m λx a e=>by rw[l x a e];omega⟩,?_,U,U,U,λx a=>?_⟩;exact fB.aside (d2.asd (L:=L) l i) ⟨lc,H,q,K⟩ (pE _) (by show ¬8+2*b.order=6;omega);show lK L.own W.heap.size g 6 x=0\/lK L.own W.heap.size g 6 x=6
 by_cases e:g.ownBlock=Z x
 exact az<|DY a e;exact aA<|WQ a e
def agB(h:aE W f xb L)(G:fB W L.own L.cs b lj){lc}(A:f.K[b.s]? =Z (Z k))(hl:L.cs[b.s]? =Z (Z lc))(r)(er:UInt8)(d)(hr:r.Ok)(E:0<=r.m.ck/\r.m.ck<=65535)(hd:d.size<=65535)(t:k.Ro):
  Calls prog 159 #[jp lc.c,ν<|aU r,I (er.toNat:Int),ξ d] W λe u=>e=aG (θ #[])/\∃i B,aE u (f.at b.s<|k.nQ r er d) xb i/\bE W L u i/\fB u i.own i.cs b lj/\i.d=L.d/\i.cs[b.s]? =Z (Z B)/\B.c=lc.c/\i.lv=L.lv/\∀x,W.heap.size<=x->i.own x=0\/i.own x=7+2*b.s:=by
 let⟨l,J,z,n⟩:=h.sat A
 obtain rfl:lc=l:=j4
 apply(N9 lc.c lc.rb lc.mb lc.ch lc.q lc.v f.g k r er d W z hr E hd t.us t.bw t.prom t.u).m;rintro e u ⟨rfl,a,C,g2,g3⟩
 have w:∀x,x<W.heap.size->(x=lc.c\/x=lc.mb\/Z x=lc.v.ownBlock)->L.own x=7+2*b.s:=by rintro x _ (rfl|rfl|e);exact n.1;exact n.2.2.1;exact n.2.2.2.2.2 x e.y
 have j:∀x,x<W.heap.size->lK L.own W.heap.size a (7+2*b.s) x=L.own x:=λx o=>Ea o;have p:=Lc.At.eE z
 have D:(⟨lc.c,lc.rb,lc.mb,lc.ch,lc.q,a⟩:Lc).iC λx=>lK L.own W.heap.size a (7+2*b.s) x=7+2*b.s:=by refine⟨(j _ p.1).t n.1,(j _ p.2.1).t n.2.1,(j _ p.2.2.1).t n.2.2.1,(j _ p.2.2.2.1).t n.2.2.2.1,λx e=>(j x<|p.2.2.2.2.1 x e).t (n.2.2.2.2.1 x e),λx e=>?_⟩;rcases lq x W.heap.size with H|hge;rw[j x H];rcases g3 with g3|g3;exact n.2.2.2.2.2 x (g3▸e);have:=g3 x e;omega;exact DY hge e
 refine⟨U,_,⟨lc.c,lc.rb,lc.mb,lc.ch,lc.q,a⟩,h.client (l':=⟨lc.c,lc.rb,lc.mb,lc.ch,lc.q,a⟩) (cq:=lK L.own W.heap.size a<|7+2*b.s) hl U A g2 w C j D,⟨j,g2.m λx o e=>by rw[w x o e];omega⟩,?_,U,Ej hl,U,U,λx o=>?_⟩;exact fB.aside (g2.asd (L:=L) w j) G (OG (l':=⟨lc.c,lc.rb,lc.mb,lc.ch,lc.q,a⟩) hl U _) (by show ¬8+2*b.order=7+2*b.s;omega);show lK L.own W.heap.size a (7+2*b.s) x=0\/lK L.own W.heap.size a (7+2*b.s) x=7+2*b.s
 by_cases e:a.ownBlock=Z x
 exact az<|DY o e;exact aA<|WQ o e
end
def Vu:(prog.info? 71).map (λi=>(i.zero,i.size,i.bytes))=Z (Z<|ν mY,7,56):=aW
abbrev Fx.dn(f:Fx)(b:Jb)(k:Ck)(i:Nat):Fx:=(f.Ei (f.dk.change b.rs b.ft)).at b.s (k.answers (f.dk.change b.rs b.ft).B b.ft (b.rs.take i))
abbrev oW(b:Jb)(k:Ck)(i:Nat):av En:=(b.rs.take i).map λr=>mZ k.no r b.ft.eJ
structure oO(w:aq)(L:cZ)(f:Fx)(xb:Nat)(b:Jb)(lj:Lj)(k:Ck)(c i:Nat)(v:aB)(W:aq)(L1:cZ)(lc:Lc):Prop where
 fx:aE W (f.dn b k i) xb L1
 lE:fB W L1.own L1.cs b lj
 gT:bE w L W L1
 d:L1.d=L.d
 aC:L1.cs[b.s]? =Z (Z lc)
 c:lc.c=c
 row:W.ownsRow 0 71 7 v i ((oW b k i).flatMap mX)
 cm:∀g,v.ownBlock=Z g->L1.own g=0/\w.heap.size<=g
 new:∀x,W.heap.size<=x->L1.own x=0
 lv:L1.lv=L.lv
section
variable {w W W':aq} {L L1:cZ} {f:Fx} {xb:Nat} {b:Jb} {lj:Lj} {k:Ck} {c i:Nat} {v:aB} {lc:Lc}
def oO.below(h:oO w L f xb b lj k c i v W L1 lc)(j:aK W W'):oO w L f xb b lj k c i v W' L1 lc:=by have l:∀x,x<W.heap.size->W'.heap[x]? =W.heap[x]? :=λx a=>j.block x a;refine⟨h.fx.below j,fB.aside (T:=λ_=>False) ⟨λx a _=>l x a,λ_ _=>U⟩ h.lE (pE _)<|λe=>e,h.gT.t ⟨λ_ _=>U,.below j⟩,h.d,h.aC,h.c,eF h.row λg e=>l g (Be h.row e),h.cm,λx a=>h.new x (cM j.size a),h.lv⟩
def oO.aes{g cap news r}(h:oO w L f xb b lj k c i v W L1 lc)(hr:b.rs[i]? =Z r)(p:news=mX (mZ k.no r b.ft.eJ))(s:W'.ownsRow 0 71 7 (ζ (Z<|F g 0) (i+1) cap) (i+1) ((oW b k i).flatMap mX++news))(d:W.grownBy W' v.ownBlock)(o:v.ownBlock=Z g\/W.heap.size<=g):
  aE W' (f.dn b k i) xb L1/\fB W' L1.own L1.cs b lj/\bE w L W' L1/\W'.ownsRow 0 71 7 (ζ (Z<|F g 0) (i+1) cap) (i+1) ((oW b k<|i+1).flatMap mX)/\(L1.own g=0/\w.heap.size<=g)/\∀x,W'.heap.size<=x->L1.own x=0:=by
 have m:∀x,x<W.heap.size->L1.own x≠0->W'.heap[x]? =W.heap[x]? :=λx a j=>d.block x a λe=>j (h.cm x e.y).1;have l:=h.gT.cy.size
 have n:L1.own g=0/\w.heap.size<=g:=by rcases o with e|e;exact h.cm g e;exact⟨h.new g e,cM l e⟩
 refine⟨h.fx.yE m,fB.aside (T:=λx=>x=0) ⟨λx a j=>m x a j,λ_ _=>U⟩ h.lE (pE _) Y,⟨h.gT.own,⟨d.os.t h.gT.cy.os,cM l d.size,λx a j=>?_⟩⟩,?_,n,λx a=>h.new x (cM d.size a)⟩;have q:=h.gT.own x a
 by_cases e:Z x=v.ownBlock
 have:=(h.cm x e.y).2;omega;exact(d.block x (cS a l) e).t<|h.gT.cy.block x a j
 have:oW b k (i+1)=oW b k i++[mZ k.no r b.ft.eJ]:=by unfold oW;rw[rQ,hr];simp
 rwa [this,rL,Kk,<-p]
def Wz{aqc}(h:aE W aqc xb L)(d:fB W L.own L.cs b lj):aE W aqc xb {L with own:=gE L.own W.heap.size 0}/\fB W (gE L.own W.heap.size 0) L.cs b lj:=⟨h.owns _ λx a=>gW a,fB.aside (T:=λ_=>False) ⟨λ_ _ _=>U,λx a=>gW a⟩ d (pE _)<|λe=>e⟩
end
structure CN(f:Fx)(b:Jb)(k:Ck):Prop where
 ne:∃r t,b.rs=r::t/\0<=r.m.of/\r.m.of.toNat<f.B.size/\r.m.of.toNat+(dF b.rs).length<=f.B.size
 many:b.rs.length<=65536
 data:(dF b.rs).length<=1048576/\(dF b.rs).length %4=0
 ok:∀r∈b.rs,r.Ok/\(0<=r.m.ck/\r.m.ck<=65535)/\(r.m.kd=0->r.m.of+r.m.ln<=f.B.size)
 part:0<=b.ft.part/\b.ft.part<=9223372036854775807
 cache:f.C.length+1048576<=1099511627776
 cl:∀i,i<=b.rs.length->(k.answers (f.dk.change b.rs b.ft).B b.ft (b.rs.take i)).Ro
def aaE(ft:Ft):((sF ft).toNat:Int)=if ft.eJ then 5 else 0:=by unfold sF;split<;>rfl
def UR(B)(e:En)(h:0<=e.ln/\e.ln<=65535):(lO B e).size<=65535:=by unfold lO;split;show(B.extract _ _).size<=_;grind;show(0:Nat)<=_;omega
def abz(w:aq)(f:Fx)(xb:Nat)(L:cZ)(b:Jb)(lj:Lj)(k:Ck)(h:aE w f xb L)(hj:fB w L.own L.cs b lj)(hk:f.K[b.s]? =Z (Z k))(ok:CN f b k)(dJ:Ll w f xb L b lj):
  Calls prog 109 #[jp lj.j,jp L.d] w λe u=>∃v A lc,e=aG v/\oO w L f xb b lj k lc.c b.rs.length v u A lc:=by
 let⟨lc,q1,q2,q3⟩:=hj
 let⟨r0,t0,yJ,o0,o1,o2⟩:=ok.ne
 have hm:b.rs.length<=1048576:=cM ok.many Y
 let⟨qa,qc,dX,_⟩:=q2.row.form
 have cj:b.s<f.K.length:=(bY.1 hk).1
 have HC:Hid (Calls prog 157 #[jp lj.j,jp L.d] w λe u=>e=aG (θ #[])/\∃L1,oO w L f xb b lj k lc.c 0 (ζ aj 0 0) u L1 lc):=by
  apply dJ.m;rintro e u ⟨rfl,A,p1,R,p3,p4,p5,bA,p6⟩;let⟨n1,n2⟩:=Wz p1 p3;have e0:f.dn b k 0=f.Ei (f.dk.change b.rs b.ft):=by have:f.K.set b.s (Z k)=f.K:=yZ hk;show{f.Ei (f.dk.change b.rs b.ft)with K:=f.K.set b.s<|Z k}=_;rw[this]
  exact⟨U,{A with own:=gE A.own u.heap.size 0},⟨by rw[e0];exact n1,n2,R.t ⟨λx q=>gW q,aS.refl _ _⟩,p4,by rw[<-q1];exact cG (λl=>l[b.s]?) p5,U,⟨U,aA ⟨U,U⟩⟩,λg e=>A6,λx q=>uZ q,bA⟩⟩
 have HJ:Hid (∀i v W L1 l1,oO w L f xb b lj k lc.c i v W L1 l1->fA W lj.j lc.c (ζ qa b.rs.length qc) b.rs b.ft b.due b.order/\W.cell? (F lc.c 0)=Z (I k.no)/\dc W L.d L1.bb L1.db L1.cv f.B.size (f.dk.change b.rs b.ft).B (f.dk.change b.rs b.ft).D (f.dk.change b.rs b.ft).C):=λi v W L1 l1 J=>by
  let⟨P,u1,u2,u3⟩:=J.lE;have el:P=l1:=by rw[J.aC]at u1;exact(ey<|ey u1).y
  rw[el,J.c]at u2;have eX:fA W lj.j lc.c lj.rv b.rs b.ft b.due b.order:=u2;let⟨Q,s1,s2,s3⟩:=J.fx.sat (s:=b.s) (k:=k.answers (f.dk.change b.rs b.ft).B b.ft<|b.rs.take i) (iy cj);have dz:Q=l1:=by rw[J.aC]at s1;exact(ey<|ey s1).y
  subst dz;have c0:=aJ W Q.c 0 (I (k.answers (f.dk.change b.rs b.ft).B b.ft<|b.rs.take i).no) s2.p.box;rw[Gk,J.c]at c0;have an:=J.fx.fG;rw[J.d]at an;refine⟨by rw[<-dX];exact eX,c0,?_⟩;have an:dc W L.d L1.bb L1.db L1.cv (f.dk.change b.rs b.ft).B.size (f.dk.change b.rs b.ft).B (f.dk.change b.rs b.ft).D (f.dk.change b.rs b.ft).C:=an;rwa [Gu _ _ _]at an
 let⟨iE,dP,oh,ef,oZ⟩:=nG Vu
 have bJ:=ok;have UY:=ok.many;clear h ok yJ o0 o1 o2 q2 q3 hk hm;go_enter func109,ntmps109;go_wp2_with (go_at_call 157;apply HC.m;rintro e w1 ⟨rfl,L1,bg⟩;have c8:Hid (oO w L f xb b lj k lc.c 0 (ζ aj 0 0) w1 L1 lc):=bg;have j1:w1.cell? (F lj.j 1)=Z (ζ qa b.rs.length qc):=aD (HJ _ _ _ _ _ bg).1.box U;clear bg)
 go_loopw [5,17] (λvv iv wr=>∃i v L1 l1,i<=b.rs.length/\iv=I (i:Int)/\vv=v/\Hid (oO w L f xb b lj k lc.c i v wr L1 l1)) (λ_ iv _=>b.rs.length-(dw iv).toNat)
 case atStart=>exact⟨0,_,L1,lc,cO _,U,U,c8⟩
 case round=>
  obtain⟨i,v,o,P,hi,rfl,hv,hR⟩:=hrel;subst hv;by_cases dS:i<b.rs.length
  ·have h4:(i:Int)<(b.rs.length:Int):=Y;obtain⟨r,hr⟩:∃r,b.rs[i]? =Z r:=⟨b.rs[i],dj dS⟩;obtain⟨gb,rfl,k0,k1,k2,k3,k4,k5,k6,k7,k8,k9⟩:=(HJ _ _ _ _ _ hR).1.row.at hr;have D1:=hR.below (Sm wr r);have HE:Hid (bN 158 #[jp lj.j,ν<|aU r] (lA wr r)<|ν<|iX<|mZ k.no r b.ft.eJ):=aaA lj.j lc.c _ b.rs b.ft b.due b.order k.no r _ (HJ _ _ _ _ _ D1).1 (HJ _ _ _ _ _ D1).2.1;have HD:Hid (oO w L f xb b lj k lc.c i u5 (lA wr r) o P):=D1;have HX:Hid ((lA wr r).heap[wr.heap.size]? =Z (au (aU r) 205 (0,0))):=heap_alloc_new wr _;have HI:Hid (i<=65536):=by show i<=65536;omega
   generalize aH:mZ k.no r b.ft.eJ=a at*;clear D1;have Ew:True:=trivial;go_upto_region 8 with(first|(go_at_call 158;apply HE.m;rintro e n ⟨rfl,lD⟩;have aN:Hid (oO w L f xb b lj k lc.c i u5 ((n.alloc<|au (iX a) 71).alloc<|au (iX a) 71) o P):=((HD.below lD).below<|bq).below (bq))|(at_builtin;have _t:=Ew;refine wpList_append_lies _ n7 _ _ 62 n7 0 71 iE _ 7 56 underlying62 dP oh ef oZ n7 Y u5 i ((oW b k i).flatMap mX) n7 aN.row ⟨n.heap.size+1,0,aj⟩ 1 1 (mX a) n7 n7 (wu<|Ey n _ _) ack Y (by have:=HI;unfold cP;omega) (by have:=HI;omega) ay (n.heap.size+2) ay ?_;intro g cap t Vf MQ b8 cm;clear Ew));have b9:aK n ((n.alloc<|au (iX a) 71).alloc<|au (iX a) 71):=((Below.refl _ n).alloc (aR _) _).alloc ay _;have N:=aN.aes hr (by rw[aH]) Vf MQ (b8.imp id λe=>by rw[e];simp);have cq:∀x,wr.heap.size<=x->Z x≠u5.ownBlock:=λx q e=>by have:=Be hR.row e.y;omega
   have jR:(lA wr r).heap.size<=n.heap.size:=lD.size;have eb:wr.heap.size+1<=n.heap.size:=by simpa using jR
   have key:∀x,wr.heap.size<=x->x<n.heap.size+2->t.heap[x]? =((n.alloc<|au (iX a) 71).alloc<|au (iX a) 71).heap[x]? :=λx O q=>MQ.block x bV (cq x O);have X1:t.heap[wr.heap.size]? =Z (au (aU r) 205 (0,0)):=(key _ (aR _) Y).t (bT b9<|bT lD HX);have E:t.heap[n.heap.size]? =Z (au (iX a) 71 (0,0)):=(key _ Y Y).t (Ez n _ _);let⟨N1,N2,N3,N4,N5,N6⟩:=N;let⟨lx,y1,y2,y3⟩:=N2;have bX:lx=P:=by rw[hR.aC]at y1;exact(ey<|ey y1).y
   have J0:t.cell? (F lj.j 0)=Z (jp lc.c):=by have:=aD y2.box (i:=0) (v:=jp lx.c) U;rwa [bX,hR.c]at this
   have dV:r∈b.rs:=jC hr;let⟨V,r2,r3⟩:=bJ.ok r dV;have G:a.kd=r.m.kd/\a.of=r.m.of/\a.ln=r.m.ln/\a.er=if b.ft.eJ then 5 else 0:=by rw[<-aH];exact⟨U,U,U,U⟩
   have bW:dc t L.d o.bb o.db o.cv f.B.size (f.dk.change b.rs b.ft).B (f.dk.change b.rs b.ft).D (f.dk.change b.rs b.ft).C:=by have O:=N1.fG;rw[hR.d]at O;have O:dc t L.d o.bb o.db o.cv (f.dk.change b.rs b.ft).B.size (f.dk.change b.rs b.ft).B (f.dk.change b.rs b.ft).D (f.dk.change b.rs b.ft).C:=O;rwa [Gu]at O
   have HT:Hid (∀W,aK t W->bN 160 #[jp L.d,ν<|iX a] W (ξ<|lO (f.dk.change b.rs b.ft).B a)):=λW H=>by by_cases hc:a.kd=0/\a.er=0;refine Uy L.d o.bb o.db f.B.size o.cv a _ _ _ W (bW.below H) hc ?_ ?_ ?_;rw[G.2.1];exact V.of0;rw[G.2.2.1];exact V.nh;rw[G.2.1,G.2.2.1];exact r3 (G.1▸hc.1);exact UQ L.d a _ W hc
   have b7:((sF b.ft).toNat:Int)=a.er:=by rw[aaE,G.2.2.2]
   have HA:Hid (∀W,aK t W->Calls prog 159 #[jp lc.c,ν<|aU r,I a.er,ξ<|lO (f.dk.change b.rs b.ft).B a] W λe u=>e=aG (θ #[])/\∃L3 Q,oO w L f xb b lj k lc.c (i+1) (ζ (Z<|F g 0) (i+1) cap) u L3 Q):=λW H=>by
    have cg:∀x,x<t.heap.size->W.heap[x]? =t.heap[x]? :=λx q=>H.block x q;have dR:(f.dn b k i).K[b.s]? =Z (Z<|k.answers (f.dk.change b.rs b.ft).B b.ft<|b.rs.take i):=iy cj;have:=agB (W:=W) (b:=b) (lj:=lj) (N1.below H) (fB.aside (T:=λ_=>False) ⟨λx q _=>cg x q,λ_ _=>U⟩ ⟨lx,y1,y2,y3⟩ (pE _)<|λe=>e) dR hR.aC r (sF b.ft) (lO (f.dk.change b.rs b.ft).B a) V r2 (UR _ _ (by rw[G.2.2.1];exact⟨V.nh,V.qU⟩)) (bJ.cl i hi);rw[hR.c,b7]at this;apply this.m;rintro e u ⟨rfl,A,eK,p1,R,p3,p4,p5,p6,bA,p7⟩;let⟨n1,n2⟩:=Wz p1 p3;have e1:f.dn b k (i+1)=(f.dn b k i).at b.s ((k.answers (f.dk.change b.rs b.ft).B b.ft<|b.rs.take i).nQ r (sF b.ft)<|lO (f.dk.change b.rs b.ft).B a):=by rw[at_at];show(f.Ei _).at b.s _=_;rw[O8 hr];unfold Ck.hrd;rw[Gk,aH]
    have bh:g<t.heap.size:=cm;have dL:A.own g=0:=by rw[(R.own g<|cS bh H.size)];exact N5.1
    have eV:u.ownsRow 0 71 7 (ζ (Z<|F g 0) (i+1) cap) (i+1) ((oW b k<|i+1).flatMap mX):=by refine eF (eF N4 λx e=>cg x (Be N4 e)) λx e=>?_;cases e;exact R.cy.block g (cS bh H.size)<|λh=>h N5.1
    exact⟨U,{A with own:=gE A.own u.heap.size 0},eK,by rw[e1];exact n1,n2,((N3.t ⟨λ_ _=>U,.below H⟩).t R).t ⟨λx q=>gW q,aS.refl _ _⟩,p4.t hR.d,p5,p6,eV,λx e=>by cases e;refine⟨?_,N5.2⟩;show gE A.own u.heap.size 0 g=0;rw[gW<|cS (cS bh H.size) R.cy.size];exact dL,λx q=>uZ q,bA.t hR.lv⟩
   have S0:dD t wr.heap.size r:=dD.of X1;have z0:=aD E (i:=0) (v:=I a.no) U;have z1:=aD E (i:=1) (v:=I a.ck) U;have z2:=aD E (i:=2) (v:=I a.kd) U;have z3:=aD E (i:=3) (v:=I a.fl) U;have z4:=aD E (i:=4) (v:=I a.of) U;have z5:=aD E (i:=5) (v:=I a.ln) U;have z6:=aD E (i:=6) (v:=I a.er) U;generalize lO (f.dk.change b.rs b.ft).B a=TB at*;clear N1 N3 N4 N5 N6 y1 y2 y3 bW G b7 V r2 r3 key X1 E cq Vf MQ b8 cm aN HD HX HE b9 lD aH k0 k1 k2 k3 k4 k5 k6 k7 k8 k9 jR eb bX;refine gY (S:=λW=>(W.cell? (F lj.j 0)=Z (jp lc.c)/\dD W wr.heap.size r/\W.cell? (F n.heap.size 0)=Z (I a.no)/\W.cell? (F n.heap.size 1)=Z (I a.ck)/\W.cell? (F n.heap.size 2)=Z (I a.kd)/\W.cell? (F n.heap.size 3)=Z (I a.fl)/\W.cell? (F n.heap.size 4)=Z (I a.of)/\W.cell? (F n.heap.size 5)=Z (I a.ln)/\W.cell? (F n.heap.size 6)=Z (I a.er))) 10 ⟨J0,S0,z0,z1,z2,z3,z4,z5,z6⟩ λhS=>?_;apply tg [0,1,2,3,4,5,6,7];apply tg [8];refine gr 9 λK X=>?_;go_simp;go_at_call 160;apply(HT _ (Below.refl _ _).drew).m;rintro e w6 ⟨rfl,z⟩;refine X _ _ ⟨bH z J0,dD.old (W:=t.drew) S0 z,bH z z0,bH z z1,bH z z2,bH z z3,bH z z4,bH z z5,bH z z6⟩<|λUI=>?_;clear X K;refine gz λK X=>?_;go_simp;go_at_call 159;apply(HA _<|(Below.refl _ _).drew.t z).m;rintro e w7 ⟨rfl,L3,Q,dK⟩;apply X _ _;clear X K;refine gl ?_;go_wp2_with fail;refine⟨⟨i+1,_,L3,Q,Y,by go_num,U,dK⟩,?_⟩;simp[dw];omega
  have h4:¬(i:Int)<(b.rs.length:Int):=Y;have e:i=b.rs.length:=Y;subst e;go_wp2;go_ret;exact⟨u5,U,o,P,by rw[hR.c];exact hR⟩
def toldE(B:aF UInt8)(e:En):En:={e with tx:=(lO B e).data.toList}
abbrev Fx.lgs(f:Fx)(b:Jb)(k:Ck):av En:=(oW b k b.rs.length).map<|toldE (f.dk.change b.rs b.ft).B
def toldE_cells(B:aF UInt8)(l:av En):(l.map<|toldE B).flatMap mX=l.flatMap mX:=by rw[List.flatMap_map];rfl
def Fx.does(f:Fx)(b:Jb):Fx:=match f.K[b.s]? with|some (Z k)=>{f.dn b k b.rs.length with log:=f.log++f.lgs b k}|_=>f
def sE{f:Fx}{b k}(h:f.K[b.s]? =Z (Z k)):f.does b={f.dn b k b.rs.length with log:=f.log++f.lgs b k}:=by unfold Fx.does;rw[h]
def Fx.fin:Nat->Fx->Fx
 |0,f=>f|n+1,f=>match f.fl with|[]=>f|b::r=>if b.due<=f.clock then Fx.fin n ({f with fl:=r}.does b)else f
def uR(f:Fx)(b):(f.does b).fl=f.fl/\(f.does b).clock=f.clock/\(f.does b).g=f.g:=by unfold Fx.does;split<;>exact⟨U,U,U⟩
structure CO(P:Fx->Prop):Prop where
 top:∀f b r,P f->f.fl=b::r->(∀x∈r,eI b.key x.key=M)/\(∀x∈r,x.order≠b.order)/\r.length<1048576
 does:∀f b r,P f->f.fl=b::r->b.due<=f.clock->(∃k,f.K[b.s]? =Z (Z k)/\CN {f with fl:=r} b k)/\f.log.length+65536<=1099511627776/\P ({f with fl:=r}.does b)
structure nt(P:Fx->Prop):Prop where
 run:∀{f1 a:Fx} {r:av Jb} {b:Jb} {k:Ck} {W:aq} {xb:Nat} {L:cZ} {lj:Lj},P f1->f1.fl=b::r->a={f1 with fl:=r}->aE W a xb L->fB W L.own L.cs b lj->CN a b k->Ll W a xb L b lj
def U3(b:fa)(P:Fx->Prop):nt P:=⟨λ_ _ _ h c ok=>by obtain⟨i,t0,d,e,f,g⟩:=ok.ne;exact agD b h c d ok.data.1 (cM ok.many Y) (λx a=>⟨(ok.ok x a).1.nh,(ok.ok x a).1.qU⟩) ok.part e f g ok.data.2 ok.cache⟩
structure CP(P:Fx->Prop)(w:aq)(L:cZ)(b:Fx)(xb:Nat)(wr:aq)(f1:Fx)(a:cZ):Prop where
 at_:aE wr f1 xb a
 gT:bE w L wr a
 pp:P f1
 end_:Fx.fin f1.fl.length f1=b
def aaQ{f}(h:f.fl=[])(n):Fx.fin n f=f:=by cases n<;>simp[Fx.fin,h]
def aaS{f b r}(h:f.fl=b::r)(hd:¬b.due<=f.clock)(n):Fx.fin n f=f:=by cases n<;>simp[Fx.fin,h,hd]
def aaR{f b r}(h:f.fl=b::r)(hd:b.due<=f.clock):Fx.fin f.fl.length f=Fx.fin ({f with fl:=r}.does b).fl.length ({f with fl:=r}.does b):=by rw[(uR _ b).1,h];show Fx.fin (r.length+1) f=_;simp only[Fx.fin,h,hd,dN]
def CP.len{P w wr L L1 aqc f1 xb}(h:CP P w L aqc xb wr f1 L1):sK (wr.cell?<|F xb 18)=f1.fl.length:=by let⟨a,cap,e⟩:=gP h.at_.fl.row;have:wr.cell? (F xb 18)=Z L1.hv:=aD h.at_.box U;rw[this,e];rfl
def logged{w W W' f xb L L1 v' l}(h:aE W f xb L1)(hf:bE w L W L1)(hr:W'.ownsRow 0 71 7 v' l.length (l.flatMap mX))(c:W.grownBy W' L1.lv.ownBlock)(s:v'.ownBlock=L1.lv.ownBlock\/∀g,v'.ownBlock=Z g->W.heap.size<=g):
  ∃d,aE (W'.setCell (F xb 20) v') {f with log:=l} xb d/\bE w L (W'.setCell (F xb 20) v') d:=by
 have k:aS (λb=>Z b=L1.lv.ownBlock) W W':=⟨c.os,c.size,λx r q=>c.block x r q⟩;have j:∀b,b<W.heap.size->Z b=L1.lv.ownBlock->L1.own b=5:=λb _ e=>h.ni b e.y;have i:∀b,b<W.heap.size->lK L1.own W.heap.size v' 5 b=L1.own b:=λb a=>Ea a
 have n:∀b,v'.ownBlock=Z b->lK L1.own W.heap.size v' 5 b=5:=λb e=>by rcases lq b W.heap.size with o|hge;rw[Ea o];grind;exact DY hge e
 refine⟨_,h.logs (cq:=lK L1.own W.heap.size v' 5) k j hr i n,hf.t ⟨i,?_⟩⟩;have m:aS (λb=>L1.own b≠0) W W':=k.m λb a e=>by rw[j b a e];omega
 exact m.set (p:=F xb 20) (by show L1.own xb≠0;rw[h.eR];omega) _
structure J3(P:Fx->Prop)(f1 c a G:Fx)(b:Jb)(r:av Jb)(k:Ck):Prop where
 eq:a={f1 with fl:=r}
 K:a.K[b.s]? =Z (Z k)
 ok:CN a b k
 log:a.log.length+65536<=1099511627776
 pp:P G
 end_:Fx.fin G.fl.length G=c
 fl:G.fl=r
 res:G={a.dn b k b.rs.length with log:=a.log++a.lgs b k}
 lt:r.length<f1.fl.length
def aal{P}(e:CO P){f1 aqc b r}(j:P f1)(a:f1.fl=b::r)(hd:b.due<=f1.clock)(l:Fx.fin f1.fl.length f1=aqc):∃d G k,J3 P f1 aqc d G b r k:=by let⟨⟨k,c,i⟩,h,g⟩:=e.does f1 b r j a hd;refine⟨{f1 with fl:=r},{f1 with fl:=r}.does b,k,⟨U,c,i,h,g,?_,(uR _ b).1,sE (f:={f1 with fl:=r}) c,?_⟩⟩;rwa [<-aaR a hd];rw[a];simp
def abg(l:av En):(l.flatMap mX).length=l.length*7:=by
 induction l with
 |nil=>rfl
 |cons a l b=>rw[pH,fQ,b];simp;omega
def abf:∀u∈(Value.agg mY).cells.toList,mN u:=by intro u a;have:(Value.agg mY).cells.toList=mY.toList:=U;rw[this]at a;simp at a;rcases a with rfl;trivial
def aeG(l:av En):∀u∈l.flatMap mX,u.oneCell'=M:=by intro u b;let⟨e,_,a⟩:=BY.1 b;simp at a;rcases a with rfl|rfl|rfl|rfl|rfl|rfl|rfl<;>rfl
def cell_eq{W a:aq}{b i}(h:a.heap[b]? =W.heap[b]?):a.cell? (F b i)=W.cell? (F b i):=by unfold World.cell?;rw[h]
def abB(P:Fx->Prop)(bz:nt P)(hP:CO P)(w f xb L)(h:aE w f xb L)(hp:P f):
  Calls prog 63 #[jp xb] w λe p=>e=aG (θ #[])/\P (Fx.fin f.fl.length f)/\∃x,aE p (Fx.fin f.fl.length f) xb x/\bE w L p x:=by
 have H0:Hid (CP P w L (Fx.fin f.fl.length f) xb w f L):=⟨h,.refl w L,hp,U⟩;generalize Fx.fin f.fl.length f=J at*
 let⟨iE,bB,oh,bD,oZ⟩:=nG Vu
 have HP:=aX hP;clear h hp hP;go_enter func63,ntmps63;go_wp2
 go_loopw [] (λwr=>∃f1 B,Hid<|CP P w L J xb wr f1 B) (λwr=>sK (wr.cell?<|F xb 18))
 case atStart=>exact⟨f,L,H0⟩
 case round=>
  let⟨f1,B,hR⟩:=hrel;have bP:=aJ wr xb 13 (I f1.clock) hR.at_.box;rcases hfl:f1.fl with _|⟨b,r⟩
  ·have O:Hid (eZ 106 #[π<|Z<|F xb 18] wr<|θ #[π aj,ω aa]):=(by
     have hr:=hR.at_.fl.row;rw[hfl]at hr;let⟨a,cap,e⟩:=gP hr;have c0:wr.cell? (F xb 18)=Z (ζ a 0 cap):=by have:wr.cell? (F xb 18)=Z B.hv:=aD hR.at_.box U;rw[this,e];rfl
     go_enter func106,ntmps106;go_wp2;go_ret2;exact⟨U,U⟩)
   have A:Hid (f1=J):=by have:=hR.end_;rwa [aaQ hfl]at this
   go_wp2_with (go_at_call 106;apply O.m;rintro e w1 ⟨rfl,rfl⟩);refine iB (zX U _ _ _) U ⟨U,?_,B,?_,hR.gT⟩;rw[<-A];exact hR.pp;rw[<-A];exact hR.at_
  let⟨t1,t2,t3⟩:=HP.top f1 b r hR.pp hfl;let⟨D,Q,hJ,V,N⟩:=abJ hR.at_ hfl t1 f1.clock;have O:=aX V;by_cases l:b.due<=f1.clock
  ·have X:Hid (eZ 107 #[jp D.j,I f1.clock] wr<|ω M):=by have:=N;rwa [lY l]at this
   let⟨o,G,k,n⟩:=aal HP hR.pp hfl l hR.end_;have bw:Hid (Calls prog 108 #[π<|Z<|F xb 18] wr λe p=>e=aG (θ #[jp D.j,ω M])/\∃i s,s.j=D.j/\aE p o xb i/\bE w L p i/\fB p i.own i.cs b s):=by apply(abF hR.at_ hfl t1 t2 t3).m;rintro e p ⟨s,rfl,p0,i,p1,p2,p3⟩;exact⟨by rw[Q],i,s,by rw[p0,Q],by rw[n.eq];exact p1,hR.gT.t p2,p3⟩
   clear V N t1 t2 t3 hJ Q;go_upto_region 3 with(first|(go_at_call 106;apply O.m;rintro e w1 ⟨rfl,rfl⟩)|(go_at_call 107;apply X.m;rintro e w2 ⟨rfl,rfl⟩)|(go_at_call 108;apply bw.m;rintro e t ⟨rfl,i,s,el,E,x2,x3⟩));have Sq:=aJ t xb 20 i.lv E.box;have aK:=aJ t xb 19 (jp i.d) E.box;have bu:Hid (Calls prog 109 #[jp D.j,jp i.d] t.drew λe p=>∃v x lc,e=aG v/\oO t i o xb b s k lc.c b.rs.length v p x lc):=by have bq:fB t.drew i.own i.cs b s:=fB.aside (W:=t) (T:=λ_=>False) ⟨λ_ _ _=>U,λ_ _=>U⟩ x3 (pE _) (λe=>e);have:=abz t.drew o xb i b s k E.drew bq n.K n.ok (bz.run hR.pp hfl n.eq E.drew bq n.ok);rw[el]at this;apply this.m;rintro e p ⟨v,x,lc,rfl,l⟩;exact⟨v,x,lc,U,⟨l.fx,l.lE,⟨l.gT.own,⟨l.gT.cy.os,l.gT.cy.size,l.gT.cy.block⟩⟩,l.d,l.aC,l.c,l.row,l.cm,l.new,l.lv⟩⟩
   refine gY (S:=λW=>W.cell? (F xb 20)=Z i.lv/\W.cell? (F xb 19)=Z (jp i.d)) 14 ⟨Sq,aK⟩ λhS=>?_;apply tg [0,1,2,3,4,5,6,7];apply tg [8,9];refine gr 10 λK q=>?_;go_simp;go_at_call 109;apply bu.m;rintro e z ⟨v,L6,l6,rfl,m⟩;have d20:z.cell? (F xb 20)=Z i.lv:=by rw[<-m.lv];exact aD m.fx.box U
   have d19:z.cell? (F xb 19)=Z (jp i.d):=by rw[<-m.d];exact aD m.fx.box U
   refine q _ _ ⟨d20,d19⟩<|λUI=>?_;clear q K;let⟨r0,t0,yJ,_⟩:=n.ok.ne;have bg:0<b.rs.length:=by rw[yJ];simp
   have UY:=n.ok.many;let⟨g,cap,ah,_,bT⟩:=m.row.form bg;have aS:z.ownsRow 0 71 7 i.lv o.log.length (o.log.flatMap mX):=by rw[<-m.lv];exact m.fx.log
   have aT:((oW b k b.rs.length).flatMap mX).length=b.rs.length*7:=by rw[abg];simp
   let⟨v',u,Hj,Vg,af,bh⟩:=LH (P:=prog) z 62 62 71 iE _ 7 56 underlying62 bB oh bD oZ U Y abf i.lv o.log.length (o.log.flatMap mX) aS ⟨g,0,aj⟩ b.rs.length cap ((oW b k b.rs.length).flatMap mX) aT (m.row.cells (by rw[ah];rfl)) (aeG _) bg (by have:=n.log;unfold cP;omega) (by have:=n.log;omega);rw[<-ah]at Hj;obtain⟨ra,rc,rfl⟩:=gP Vg;refine gr 11 λK q=>?_;apply yU U U U U Hj;have yI:Z xb≠i.lv.ownBlock:=λe=>by have h1:=m.fx.ni xb (by rw[m.lv];exact e.y);have h2:=m.fx.eR;omega
   have H:u.heap[xb]? =z.heap[xb]? :=af.block xb ((bf.1 m.fx.box).1) yI;refine q _ _ ⟨by rw[cell_eq H];exact d20,by rw[cell_eq H];exact d19⟩ (λyG=>?_);clear q K;apply tg [12,13];have R:u.heap[xb]? =Z (au (lC (o.dn b k b.rs.length) L6) 64 (0,0)):=H.t m.fx.box;have bX:=aJ u xb 20 L6.lv R;have b7:=bp R 20;obtain⟨C,g1,g2⟩:∃C,aE (u.setCell (F xb 20)<|ζ ra (o.log.length+b.rs.length) rc) G xb C/\bE w L (u.setCell (F xb 20)<|ζ ra (o.log.length+b.rs.length) rc) C:=by rw[n.res];refine logged m.fx (x2.t m.gT) ?_ (by rw[m.lv];exact af) (by rw[m.lv];exact bh.at_);rw[fQ,rL,toldE_cells];have e:(o.lgs b k).length=b.rs.length:=ay;rwa [e]
   have HF:Hid (CP P w L J xb (u.setCell (F xb 20)<|ζ ra (o.log.length+b.rs.length) rc) G C):=⟨g1,g2,n.pp,n.end_⟩;have HM:Hid (sK ((u.setCell (F xb 20)<|ζ ra (o.log.length+b.rs.length) rc).cell?<|F xb 18)<f1.fl.length):=by show _<_;rw[HF.len,n.fl];exact n.lt
   clear g1 g2 R H m Vg af bh Hj aS aT ah E x2 x3 yJ aK Sq d19 d20;refine gz λK q=>?_;go_simp;apply q _ _;clear q K;refine gl ?_;go_wp2_with fail;exact⟨⟨G,C,HF⟩,by rw[hR.len];exact HM⟩
  have X:Hid (eZ 107 #[jp D.j,I f1.clock] wr<|ω aa):=by have:=N;rwa [lX l]at this
  have A:Hid (f1=J):=by have:=hR.end_;rwa [aaS hfl l]at this
  clear V N t1 t2 t3 hJ Q;go_wp2_with (first|(go_at_call 106;apply O.m;rintro e w1 ⟨rfl,rfl⟩)|(go_at_call 107;apply X.m;rintro e w2 ⟨rfl,rfl⟩));refine iB (zX U _ _ _) U ⟨U,?_,B,?_,hR.gT⟩;rw[<-A];exact hR.pp;rw[<-A];exact hR.at_
section
open Go.RowKit Go.Shelf
def ID:Go.Shelf.Ren:=⟨λ|105=>249|212=>260|99=>261|165=>262|166=>248|170=>263|169=>250|263=>267|264=>268|206=>269|240=>259|241=>270|276=>266|277=>271|n=>n,λ|9=>9|3=>3|4=>4|20=>20|0=>0|46=>219|109=>305|5=>5|72=>294|76=>297|51=>171|146=>310|53=>168|148=>312|70=>292|37=>99|75=>296|127=>253|164=>214|80=>143|n=>n,λn=>n⟩
def ada:Lays.n105 prog ID:={
 mixed:=aW
 f99:=func261.t (cG Z aW)
 f105:=func249.t (cG Z aW)
 f165:=func262.t (cG Z aW)
 f166:=func248.t (cG Z aW)
 f169:=func250.t (cG Z aW)
 f170:=func263.t (cG Z aW)
 f206:=func269.t (cG Z aW)
 f212:=func260.t (cG Z aW)
 f240:=func259.t (cG Z aW)
 f241:=func270.t (cG Z aW)
 f263:=func267.t (cG Z aW)
 f264:=func268.t (cG Z aW)
 f276:=func266.t (cG Z aW)
 f277:=func271.t (cG Z aW)
 t0:=underlying0
 a0:=isAgg0
 z0:=sizeOf0
 v0:=zeroValue0
 t3:=underlying3
 a3:=isAgg3
 z3:=sizeOf3
 v3:=zeroValue3
 t4:=underlying4
 a4:=isAgg4
 z4:=sizeOf4
 v4:=zeroValue4
 t5:=underlying5
 a5:=isAgg5
 z5:=sizeOf5
 v5:=zeroValue5
 t9:=underlying9
 a9:=isAgg9
 z9:=sizeOf9
 v9:=zeroValue9
 t20:=underlying20
 a20:=isAgg20
 z20:=sizeOf20
 v20:=zeroValue20
 t37:=underlying99
 a37:=isAgg99
 z37:=sizeOf99
 v37:=zeroValue99
 t46:=underlying219
 a46:=isAgg219
 z46:=sizeOf219
 v46:=zeroValue219
 t51:=underlying171
 a51:=isAgg171
 z51:=sizeOf171
 v51:=zeroValue171
 t53:=underlying168
 a53:=isAgg168
 z53:=sizeOf168
 v53:=zeroValue168
 t70:=underlying292
 a70:=isAgg292
 z70:=sizeOf292
 v70:=zeroValue292
 t72:=underlying294
 a72:=isAgg294
 z72:=sizeOf294
 v72:=zeroValue294
 t75:=underlying296
 a75:=isAgg296
 z75:=sizeOf296
 v75:=zeroValue296
 t76:=underlying297
 a76:=isAgg297
 z76:=sizeOf297
 v76:=zeroValue297
 t109:=underlying305
 a109:=isAgg305
 z109:=sizeOf305
 v109:=zeroValue305
 t127:=underlying253
 a127:=isAgg253
 z127:=sizeOf253
 v127:=zeroValue253
 t146:=underlying310
 a146:=isAgg310
 z146:=sizeOf310
 v146:=zeroValue310
 t148:=underlying312
 a148:=isAgg312
 z148:=sizeOf312
 v148:=zeroValue312
 t164:=underlying214
 a164:=isAgg214
 z164:=sizeOf214
 v164:=zeroValue214}
def adb:Lays.n166 prog ID:={
 mixed:=aW
 f166:=func248.t (cG Z aW)
 f240:=func259.t (cG Z aW)
 f276:=func266.t (cG Z aW)
 t0:=underlying0
 a0:=isAgg0
 z0:=sizeOf0
 v0:=zeroValue0
 t3:=underlying3
 a3:=isAgg3
 z3:=sizeOf3
 v3:=zeroValue3
 t4:=underlying4
 a4:=isAgg4
 z4:=sizeOf4
 v4:=zeroValue4
 t9:=underlying9
 a9:=isAgg9
 z9:=sizeOf9
 v9:=zeroValue9
 t20:=underlying20
 a20:=isAgg20
 z20:=sizeOf20
 v20:=zeroValue20
 t37:=underlying99
 a37:=isAgg99
 z37:=sizeOf99
 v37:=zeroValue99
 t70:=underlying292
 a70:=isAgg292
 z70:=sizeOf292
 v70:=zeroValue292
 t72:=underlying294
 a72:=isAgg294
 z72:=sizeOf294
 v72:=zeroValue294
 t75:=underlying296
 a75:=isAgg296
 z75:=sizeOf296
 v75:=zeroValue296
 t164:=underlying214
 a164:=isAgg214
 z164:=sizeOf214
 v164:=zeroValue214}
def ade:Lays.n169 prog ID:={
 mixed:=aW
 f169:=func250.t (cG Z aW)
 t0:=underlying0
 a0:=isAgg0
 z0:=sizeOf0
 v0:=zeroValue0
 t3:=underlying3
 a3:=isAgg3
 z3:=sizeOf3
 v3:=zeroValue3
 t9:=underlying9
 a9:=isAgg9
 z9:=sizeOf9
 v9:=zeroValue9
 t37:=underlying99
 a37:=isAgg99
 z37:=sizeOf99
 v37:=zeroValue99
 t70:=underlying292
 a70:=isAgg292
 z70:=sizeOf292
 v70:=zeroValue292
 t72:=underlying294
 a72:=isAgg294
 z72:=sizeOf294
 v72:=zeroValue294
 t127:=underlying253
 a127:=isAgg253
 z127:=sizeOf253
 v127:=zeroValue253}
def Mi:Builder.Extra prog ID:={
 sizeBuilder:=aW
 liesBuilder:=aW
 t5:=underlying5
 a5:=isAgg5
 z5:=sizeOf5
 v5:=zeroValue5
 infoByte:=aW
 cellsByte:=aW
 sizeByte:=aW
 neB5:=by decide}
def DM:fa:=⟨λB b e s w h d a=>Any.Builder_WriteString adb Mi B b e s w h d a,λB b l w h a=>Any.Builder_String_any ade Mi B b l w h a,λs c w f d=>Any.strings_Repeat ada Mi s c w f d⟩
end
def akN(n:Nat)(e:n<=65535):∃b:aF aB,∀W:aq,(JY 99 (I (n:Int))<|I (n:Int)).run prog W=.ok (ζ (Z<|F W.heap.size 0) n n) (W.alloc<|au b 5):=by let⟨a,c,d,f,g⟩:=nG infoByte;refine⟨madeCells (Value.int .u8 0).cells<|((n:Nat):Int).toNat*a.size,λW=>?_⟩;simpa using(run_make W 99 5 a (ι .u8 0) underlying99 c d .i64 .i64 (n:Int) (n:Int) Y Y j4 Y)
def acG:(prog.info? 134).map (λi=>(i.zero,i.size,i.bytes))=Z (Z<|π aj,1,8):=aW
def adx(N):madeCells (Co aj).cells N=tU (rP N aj):=by apply Bx;rw[show(Co aj).cells=#[π aj] from U,toList_madeCells_one];simp[tU,kY]
def adP(N:Nat)(e:N<=65535)(W):(JY 54 (I (N:Int))<|I (N:Int)).run prog W=.ok (ζ (Z<|F W.heap.size 0) N N) (W.alloc<|au (tU<|rP N aj) 134):=by let⟨d,a,b,c,f⟩:=nG acG;have h:=run_make W 54 134 d (π aj) underlying54 a b .i64 .i64 (N:Int) (N:Int) Y Y j4 Y;rw[c]at h;simp at h;rwa [adx]at h
section
attribute [local go_sem] Oper.semAt_some
open Go.RowKit Go.Shelf
abbrev zt(xb a c b D:Nat):Act:=⟨#[pt xb,pt a,pt c,y,y,pt xb,.func (.func 99) #[] #[pt b],y,y,y,θ #[],y,y,y,y,y,y,y,y,y,y,y,y],[{target:=.collected D,args:=#[]}]⟩
abbrev zr(xb a e b d c:Nat):Act:=⟨#[pt xb,pt a,pt e,y,pt c,pt xb,.func (.func 99) #[] #[pt b],y,y,y,θ #[],pt xb,.func (.func 99) #[] #[pt d],pt c,y,y,y,y,y,y,y,y,y],[]⟩
end
section
variable [an] {ρ:Ren} {g:Sg} {u w:aq}
def Jt(a:Ag ρ g){k n v}(h:VR ρ (ι k n) v):v=ι k n:=by replace h:=h g a;cases v<;>simp_all[rv]
def WZ(a:Ag ρ g){s v}(h:VR ρ (ξ s) v):v=ξ s:=by replace h:=h g a;cases v<;>simp_all[rv]
def Xa(b:Ag ρ g){n c v}(h:VR ρ (ζ aj n c) v):v=ζ aj n c:=by replace h:=h g b;cases v<;>simp only[rv,G8,reduceCtorEq]at h;rename_i a _ _;obtain⟨h,rfl,rfl⟩:=h;rcases a with _|a;rfl;cases h
def Xb(c:Ag ρ g){r v}(hr:ρ r r)(h:VR ρ (aQ r) v):v=aQ r:=by replace h:=h g c;cases v<;>simp only[rv,xa,reduceCtorEq]at h;rename_i a;rcases a with _|a;cases h;obtain⟨b,o,z⟩:=a;simp only[eO,we,ra,Zm]at h;obtain⟨d,rfl,rfl⟩:=h;rw[g.inj<|d.y.t (c r r hr).y]
def Ys(b:Ag ρ g){r v}(hr:ρ r r)(h:VR ρ (.map<|Z r) v):v=.map (Z r):=by replace h:=h g b;cases v<;>simp only[rv,Value.map.injEq,reduceCtorEq]at h;rename_i a;rcases a with _|a;cases h;rw[g.inj<|(ey h).y.t (b r r hr).y]
def Yw(b:Ag ρ g){r v}(hr:ρ r r)(h:VR ρ (.chan<|Z r) v):v=.chan (Z r):=by replace h:=h g b;cases v<;>simp only[rv,Value.chan.injEq,reduceCtorEq]at h;rename_i a;rcases a with _|a;cases h;rw[g.inj<|(ey h).y.t (b r r hr).y]
def Wl.ag{S}(h:Wl S ρ u w):∃g:Sg,Ag ρ g:=(nk S<|cX.jU h).imp λ_ k=>k.to
def LQ(l:Wl (λ_=>False) ρ u w){a b T:Nat}{x:aF aB}{fz:Nat×Nat}(q:ρ a b)(s:u.heap[a]? =Z (au x T fz)):∃c,w.heap[b]? =Z (au c T fz)/\mV ρ x c/\c.size=x.size/\∀(i:Nat) v,x[i]? =Z v->∃n,c[i]? =Z n/\VR ρ v n:=by
 obtain⟨g,r⟩:=l.ag;obtain⟨o,m,h0,p,h⟩:=cX.obj l q id;rw[show((u.tp<|laid u w).heap)[a]? =_ from s]at h0;cases h0;have e:=(h.2 g r).1;have k:=@yM _ g m (by rw[<-e];intro e;cases e);rw[<-e]at k;cases m<;>first|cases k|skip
 rename_i c z B;simp only[ro,F4]at e;obtain⟨A,rfl,rfl⟩:=e;have t:c.size=x.size:=j4;have hr:mV ρ x c:=λg2 d=>by have f:=(h.2 g2 d).1;simp only[ro,F4,xY]at f;exact f
 refine⟨c,p,hr,t,λi v hv=>?_⟩;have j:i<c.size:=j4;refine⟨c[i],gi j,λg2 d=>?_⟩;rw[hr g2 d,jL,gi j]at hv;exact(ey hv).y
end
section
open Classical
open Go.ConcR (Payload)
def ahq{cs c}:c∈cI cs↔∃j:Nat,cs[j]? =Z (Z c):=by unfold cI;rw[sX];constructor;rintro⟨x,b,e⟩;obtain rfl:x=Z c:=e;exact pJ.1 b;rintro⟨j,a⟩;exact⟨Z c,pJ.2 ⟨j,a⟩,U⟩
end
def V3{P f fn a w R n}{b:Frame}(hf:P.funcs[f]? =Z fn)(g:b.fn=f)(o:b.kind=.normal)(i:b.roundOf=aj)(h:LeavesInM ig n P fn a.tmps R a.defers .returning w)(cs):
  ∃e d c,R e d/\Comes P (lone (b.at a []) cs w) (lone c cs d) e/\c.fn=f/\c.leaving P d e:=by
 have hr:ig.room (cs.length+1+n):=room_wide _
 let⟨j,s,c,hR,r,m,p⟩:=leaves_stepsInM a.defers .returning w {b.atR a []with mode:=.returning} cs U U U (by rw[<-g]at hf;exact hf) o trivial hr h
 exact⟨j,s,c,hR,by rw[<-(ZN i _ _)];exact QS.1 (ZC (.one (fenced_calm trivial hr U) (stepR_end i)) r),m.t g,p⟩
section
variable [an] {P:bM} {l:av aZ} {u:aq}
def dX.aeB(i:Fit P l){f fn c args R n}(hv:an.dU f=[])(hf:P.funcs[f]? =Z fn)(j:fn.body=Z c)(hR:∀e u d,R e u->R e (aq.tp u d))(o:∀e u,R e u->∃v,e=aG v)(h:WX P c (λe a u=>e=.normal/\∀d,LeavesInM ig n P fn a.tmps R a.defers .returning<|aq.tp u d) {tmps:=args++oG (fn.ntmps-args.size) y,defers:=[]} u):dX P f args u R:=λcs=>by letI:bJ:=eL [];rw[enter_at args hf j];refine(h (base f) [] cs hv trivial λid ⟨a,u,m,_⟩=>by cases m).bind ?_;rintro r q s ⟨e,p,⟨rfl,k⟩,g⟩;obtain⟨rfl,rfl⟩:=g;exact Reach.left (l:=l) i hv (λt=>.nil) U hR o λd=>V3 (b:=base f) hf U U U (k d) _
end
def kv:fu->fu|.seq x _=>x|_=>.skip
def dg:fu->fu|.seq _ a=>a|_=>.skip
def tL:fu->fu|.block _ x=>x|.loop x=>x|_=>.skip
def gS(L:av (Nat×aB)):Operand->aB
 |.tmp k=>(lk L k).getD y|.const v=>v|_=>y
def Dj(d k:Nat)(v:aB)(L:av (Nat×aB)):gS ((d,v)::L) (.tmp k)=if d=k then v else gS L (.tmp k):=by
 show(bif vY d k then Z v else lk L k).getD y=_;by_cases h:d=k;subst h;simp;have:vY d k=aa:=by rcases hb:vY d k with _|_;rfl;exact absurd (zK hb) h
 rw[this,aI h];rfl
def Dl(v)(L:av (Nat×aB)):gS L (.const v)=v:=U
def mE(B:av Nat)(n d:Nat)(L:av (Nat×aB))(op:Op):Bool:=decide (d<n)&&(match op with|.select _ _=>aa|_=>M)&&op.operands.toList.all λx=>match x with|.tmp k=>!B.contains k&&(lk L k).isSome|.const _=>M|_=>aa
def jT:fu->aF Oper|.region _ ops _=>ops|_=>#[]
def Xo(c:fu)(is:av Nat):Bool:=match c with|.region _ ops dr=>!dr&&(dA ops.size==is)|_=>aa
section
variable [an] {P:bM} {l:av aZ} {Q:Exit->Act->aq->Prop} {a:Act} {u u1:aq} {ops:aF Oper} {i n d:Nat} {rest:av Nat} {Lf:aZ->av Nat} {f0:aZ} {v:aB} {L:av (Nat×aB)} {op:Op} {ty:aY} {ps:String} {af:aF Edge} {gd:aV (Nat×Bool)} {x:Operand} {B:av Nat}
def De(h:mE B n d L op=M):d<n/\(∀cs b,op≠.select cs b)/\∀x∈op.operands,(match x with|.tmp k=>!B.contains k&&(lk L k).isSome|.const _=>M|_=>aa)=M:=by unfold mE at h;rw[cQ,cQ,nA]at h;exact⟨mM h.1.1,λcs b e=>j4,λx c=>h.2 x j4⟩
def Av{m}(E:Fa m a L)(h:mE B n d L op=M)(c:x∈op.operands):a.eval x=gS L x/\a.eval x=(sP B a).eval x:=by
 have b:=(De h).2.2 x c;cases x with
 |tmp k=>rw[cQ]at b;let⟨v,hv⟩:=KF.1 b.2;refine⟨by rw[E.at_ k v hv];show _=(lk L k).getD y;rw[hv];rfl,(zm λe=>?_).y⟩;grind
 |const v=>exact⟨U,U⟩
 |_=>cases b
def FE.nw(E:Fa n a L)(u1:aq)(c:∀e,iD a e d v->Fa n e ((d,v)::L)->FO Lf f0 P ops Q rest e u1)(k:ops[i]? =Z ⟨Z d,op,ty,ps,af,gd⟩:=by rfl) (p:(iu ops L gd&&iH ops n gd)=M:=by rfl) (m:okB P l op=M:=by kernel_rfl) (hc:mE (Lf f0) n d L op=M:=by rfl) (hr:∀b,(execOp (gS L) ⟨Z d,op,ty,ps,af,gd⟩).run P (u.tp b)=.ok (.value v) (u1.tp b)) (j:Fit P l:=by assumption):FO Lf f0 P ops Q (i::rest) a u:=by obtain⟨h,g,_⟩:=De hc;refine FO.own j k (E.wt (o:=⟨Z d,op,ty,ps,af,gd⟩) p) U m (Cq _ g λx f=>(Av E hc f).2) (λb=>?_)<|c _ (xw a d v)<|E.put v h;rw[Cq _ g λx f=>(Av E hc f).1];exact hr b
def FE.ow(E:Fa n a L)(c:∀b,iD a b d v->Fa n b ((d,v)::L)->FO Lf f0 P ops Q rest b u)(g:ops[i]? =Z ⟨Z d,op,ty,ps,af,gd⟩:=by rfl) (j:(iu ops L gd&&iH ops n gd)=M:=by rfl) (h:okB P l op=M:=by kernel_rfl) (hc:mE (Lf f0) n d L op=M:=by rfl)
  (hr:∀e,(execOp (gS L) ⟨Z d,op,ty,ps,af,gd⟩).run P (u.tp e)=.ok (.value v) (u.tp e):=by(intro e;go_simp;try with_reducible rfl)) (f:Fit P l:=by assumption):FO Lf f0 P ops Q (i::rest) a u:=FE.nw E u c g j h hc hr f
def FE.vo(E:Fa n a L)(u1:aq)(c:FO Lf f0 P ops Q rest a u1)(h:ops[i]? =Z ⟨aj,op,ty,ps,af,gd⟩:=by rfl) (k:(iu ops L gd&&iH ops n gd)=M:=by rfl) (j:okB P l op=M:=by kernel_rfl) (hc:mE (Lf f0) 1 0 L op=M:=by rfl) (hr:∀b,(execOp (gS L) ⟨aj,op,ty,ps,af,gd⟩).run P (u.tp b)=.ok .skip (u1.tp b)) (g:Fit P l:=by assumption):FO Lf f0 P ops Q (i::rest) a u:=by have f:=(De hc).2.1;refine FO.void g h (E.wt (o:=⟨aj,op,ty,ps,af,gd⟩) k) U j (Cq _ f λx e=>(Av E hc e).2) (λb=>?_) c;rw[Cq _ f λx e=>(Av E hc e).1];exact hr b
def FE.bl(E:Fa n a L)(c:∀b,iD a b d v->Fa n b ((d,v)::L)->FO Lf f0 P ops Q rest b u)(h:ops[i]? =Z ⟨Z d,op,ty,ps,af,gd⟩:=by rfl) (j:(iu ops L gd&&iH ops n gd)=M:=by rfl) (hc:mE [] n d L op=M:=by rfl)
  (hr:∀w,(execOp (gS L) ⟨Z d,op,ty,ps,af,gd⟩).run P w=.ok (.value v) w:=by(intro w;go_simp;try with_reducible rfl)) (he:∀w,(execOp (gS L) ⟨Z d,op,ty,ps,af,gd⟩).events P w #[]=#[]:=by(intro w;rfl)) (hd:d∈Lf f0\/∀ρ,VR ρ v v:=by(first|exact aA aM|exact az λ_ _ _=>by simp only[rv,iA])):FO Lf f0 P ops Q (i::rest) a u:=by
 obtain⟨f,g,_⟩:=De hc;have e:=Cq (ρ:=a.eval) (ρ':=gS L) ⟨Z d,op,ty,ps,af,gd⟩ g λx k=>(Av E hc k).1;exact FO.blind h (E.wt (o:=⟨Z d,op,ty,ps,af,gd⟩) j) U (λw=>by rw[e];exact hr w) (λw=>by rw[e];exact he w) hd (c _ (xw a d v)<|E.put v f)
def FE.pk{wb ob}(t:an.tY wb=Z ob)(E:Fa n a L)(hr:∀w:aq,w.heap[wb]? =Z ob->(execOp (gS L) ⟨Z d,op,ty,ps,af,gd⟩).run P w=.ok (.value v) w)(he:∀w:aq,w.heap[wb]? =Z ob->∃f r s,(execOp (gS L) ⟨Z d,op,ty,ps,af,gd⟩).events P w #[]=#[⟨.cell f,r,s⟩]/\f.block=wb)(p:∀ρ,VR ρ v v)(c:∀b,iD a b d v->Fa n b ((d,v)::L)->FO Lf f0 P ops Q rest b u)(m:ops[i]? =Z ⟨Z d,op,ty,ps,af,gd⟩:=by rfl) (q:(iu ops L gd&&iH ops n gd)=M:=by rfl) (hc:mE [] n d L op=M:=by rfl):FO Lf f0 P ops Q (i::rest) a u:=by obtain⟨j,k,_⟩:=De hc;have e:=Cq (ρ:=a.eval) (ρ':=gS L) ⟨Z d,op,ty,ps,af,gd⟩ k λx h=>(Av E hc h).1;refine FO.Ec t m (E.wt (o:=⟨Z d,op,ty,ps,af,gd⟩) q) U (λw g=>by rw[e];exact hr w g) (λw g x h=>?_) p (c _ (xw a d v)<|E.put v j);grind
def Dm{t m c0 j b c:Nat}{ad:Addr}(w:aq)(e:gS L (.tmp b)=.slice (Z ad) m c0)(f:gS L (.tmp c)=I (j:Int))(h:prog.underlying t=Z (.slice<|prog.elem t))(g:0<=(j:Int)/\(j:Int)<(m:Int)):(execOp (gS L) ⟨Z d,.indexAddr t (.tmp b)<|.tmp c,ty,ps,af,gd⟩).events prog w #[]=#[]:=by unfold execOp;dsimp only;rw[e,f];have:=events_indexAt_slice (P:=prog) (w:=w) (es:=#[]) t ad m c0 .i64 j h g;simp[this]
def FE.p1{b off t k:Nat}{h:Obj}(p:an.tY b=Z h)(E:Fa n a L)(f:∀w:aq,w.heap[b]? =Z h->w.cell? (F b off)=Z v)(c:∀g,iD a g d v->Fa n g ((d,v)::L)->FO Lf f0 P ops Q rest g u)(m:ops[i]? =Z ⟨Z d,.load t<|.tmp k,ty,ps,af,gd⟩:=by rfl) (r:lk L k=Z (π<|Z<|F b off):=by rfl) (e:(iu ops L gd&&iH ops n gd)=M:=by rfl) (j:mE [] n d L (.load t<|.tmp k)=M:=by rfl)
  (hr:∀w:aq,w.cell? (F b off)=Z v->(execOp (gS L) ⟨Z d,.load t<|.tmp k,ty,ps,af,gd⟩).run P w=.ok (.value v) w:=by(intro w f;go_simp)) (he:∀w:aq,w.cell? (F b off)=Z v->(execOp (gS L) ⟨Z d,.load t<|.tmp k,ty,ps,af,gd⟩).events P w #[]=#[⟨.cell ⟨b,off,aj⟩,aa,aa⟩]:=by(intro w f;go_simp)) (o:∀q,VR q v v:=by(intro _ _ _;simp only[rv,iA])):FO Lf f0 P ops Q (i::rest) a u:=
 FE.pk p E (λw e=>hr w (f w e)) (λw e=>⟨_,_,_,he w<|f w e,U⟩) o c m e j
def Db(P:bM)(f:aZ):Bool:=match P.funcs[f]? with|some b=>b.body.isSome&&!(b.name== "runtime.NumGoroutine")|none=>aa
def LJ{f}(h:Db P f=M):∃b body,P.funcs[f]? =Z b/\(b.name== "runtime.NumGoroutine")=aa/\b.body=Z body:=by unfold Db at h;split at h;rename_i b e;rw[cQ,uk]at h;let⟨body,c⟩:=KF.1 h.1;exact⟨b,body,e,h.2,c⟩;cases h
def Sx:BinOp->Int->Int->aV Int
 |.add,X,b=>Z (X+b)|.sub,X,b=>Z (X-b)|.mul,X,b=>Z (X*b)|_,_,_=>aj
def FE.ar{b x aqi X aqg z}(E:Fa n a L)(c:∀e,iD a e d (I z)->Fa n e ((d,I z)::L)->FO Lf f0 prog ops Q rest e u)(j:ops[i]? =Z ⟨Z d,.binOp b 3 x aqi 3,ty,ps,af,gd⟩:=by rfl) (r:fb L x=Z (I X):=by rfl) (hy:fb L aqi=Z (I aqg):=by rfl) (p:Sx b X aqg=Z z:=by rfl) (f:-9223372036854775808<=z/\z<=9223372036854775807:=by omega) (o:(iu ops L gd&&iH ops n gd)=M:=by rfl) (m:okB prog l (.binOp b 3 x aqi 3)=M:=by kernel_rfl) (hc:mE (Lf f0) n d L (.binOp b 3 x aqi 3)=M:=by rfl) (g:Fit prog l:=by assumption):FO Lf f0 prog ops Q (i::rest) a u:=by
 have ev:∀{x:Operand} {V:aB},fb L x=Z V->gS L x=V:=λ{x V} h=>by
  cases x with
  |tmp k=>show(lk L k).getD y=V;rw[show lk L k=Z V from h];rfl
  |const v=>cases h;rfl
  |_=>cases h
 have q:=dI f.1 f.2;refine FE.ow E c j o m hc (λs=>?_) g;unfold execOp;simp;cases b<;>cases p<;>go_simp
def FE.ln{t k m c0:Nat}{ad}(E:Fa n a L)(c:∀b,iD a b d (I m)->Fa n b ((d,I m)::L)->FO Lf f0 prog ops Q rest b u)(e:ops[i]? =Z ⟨Z d,.call ⟨.builtin .len,#[.tmp k],#[t]⟩,ty,ps,af,gd⟩:=by rfl) (g:(iu ops L gd&&iH ops n gd)=M:=by rfl) (f:gF prog t=3:=by kernel_rfl) (hd:decide (d<n)=M:=by rfl) (hv:lk L k=Z (ζ ad m c0):=by rfl):FO Lf f0 prog ops Q (i::rest) a u:=FO.adg (Bi f) e (E.wt (o:=⟨Z d,_,ty,ps,af,gd⟩) g) U U (E.at_ k _ hv) (c _ (xw ..)<|E.put _<|mM hd)
def FE.lc{t k b j:Nat}{x:aF aB}{T:aY}(E:Fa n a L)(B:u.heap[b]? =Z (au x T (0,0)))(c:∀e,iD a e d v->Fa n e ((d,v)::L)->FO Lf f0 P ops Q rest e u)(g:ops[i]? =Z ⟨Z d,.load t<|.tmp k,ty,ps,af,gd⟩:=by rfl) (q:lk L k=Z (π<|Z<|F b j):=by rfl) (m:x[j]? =Z v:=by rfl) (h:(iu ops L gd&&iH ops n gd)=M:=by rfl) (hc:mE (Lf f0) n d L (.load t<|.tmp k)=M:=by rfl)
  (hr:∀w:aq,w.cell? (F b j)=Z v->(execOp (gS L) ⟨Z d,.load t<|.tmp k,ty,ps,af,gd⟩).run P w=.ok (.value v) w:=by(intro w p;go_simp)) (f:Fit P l:=by assumption):FO Lf f0 P ops Q (i::rest) a u:=
 FE.ow E c g h U hc (λo=>hr _ (aD (show(u.tp o).heap[b]? =_ from B) m)) f
def FE.st{t f g b j:Nat}{x:aF aB}{T:aY}{v0:aB}(E:Fa n a L)(B:u.heap[b]? =Z (au x T (0,0)))(c:∀u1:aq,u1.heap[b]? =Z (au (x.setIfInBounds j v) T (0,0))->(∀e,e≠b->u1.heap[e]? =u.heap[e]?)->FO Lf f0 P ops Q rest a u1)(o:ops[i]? =Z ⟨aj,.store t (.tmp f)<|.tmp g,ty,ps,af,gd⟩:=by rfl) (z:lk L f=Z (π<|Z<|F b j):=by rfl) (hv:lk L g=Z v:=by rfl) (q:x[j]? =Z v0:=by rfl) (p:(iu ops L gd&&iH ops n gd)=M:=by rfl) (hc:mE (Lf f0) 1 0 L (.store t (.tmp f)<|.tmp g)=M:=by rfl)
  (hr:∀w:aq,w.cell? (F b j)=Z v0->w.frozen? (F b j)=aa->(execOp (gS L) ⟨aj,.store t (.tmp f)<|.tmp g,ty,ps,af,gd⟩).run P w=.ok .skip (w.setCell (F b j) v):=by(intro w r s;go_simp)) (m:Fit P l:=by assumption):FO Lf f0 P ops Q (i::rest) a u:=by
 refine FE.vo E (u.setCell (F b j) v) (c _ (bG B j v) λe h=>bC h) o p U hc (λk=>?_) m;rw[hr _ (aD (show(u.tp k).heap[b]? =_ from B) q)<|bp (show(u.tp k).heap[b]? =_ from B) j];exact cG _<|IU _ _ _ _
def FE.cx{f xs vs ats}(E:Fa n a L)(r:an.known f)(c:dX P f vs.toArray u λe j=>∃v,e=aG v/\∀b,iD a b d v->Fa n b ((d,v)::L)->FO Lf f0 P ops Q rest b j)(t:ops[i]? =Z ⟨Z d,.call ⟨.value<|.func f,xs.toArray,ats⟩,ty,ps,af,gd⟩:=by rfl) (w:(iu ops L gd&&iH ops n gd)=M:=by rfl) (p:Db P f=M:=by kernel_rfl) (C:xs.all (dY l)=M:=by rfl) (hc:mW (Lf f0) n d xs=M:=by rfl) (hv:tK L xs=Z vs:=by rfl) (q:Fit P l:=by assumption) (s:Lf f=[]:=by rfl):FO Lf f0 P ops Q (i::rest) a u:=by
 have k:xs.toArray.map a.eval=vs.toArray:=by rw[sW,Gl E hv]
 obtain⟨A,body,g,h,m⟩:=LJ p;refine FO.S3 q t (E.wt (o:=⟨Z d,_,ty,ps,af,gd⟩) w) U U g h m r s j4 ?_ ?_;rw[sW,sW];refine cG _<|rN λx z=>(U7 hc z).symm;rw[k];exact c.mono λe j ⟨v,g,h⟩=>⟨v,g,h _ (xw a d v)<|E.put v<|Au hc⟩
def FE.cf{f fn xs vs ats}(E:Fa n a L)(k:P.funcs[f]? =Z fn)(s:an.known f)(w:∀x:aF aB,results fn x=results fn (dU (Lf f) x))(D:∀A (j:Nat) v,(Frame.enter P f vs.toArray .normal).tmps[j]? =Z v->j∉Lf f->VR A v v)(c:iT Lf P f vs.toArray u λe m=>∃v,e=aG v/\∀g,iD a g d v->Fa n g ((d,v)::L)->FO Lf f0 P ops Q rest g m)(t:ops[i]? =Z ⟨Z d,.call ⟨.value<|.func f,xs.toArray,ats⟩,ty,ps,af,gd⟩:=by rfl) (z:(iu ops L gd&&iH ops n gd)=M:=by rfl) (r:Db P f=M:=by kernel_rfl) (hc:mW [] n d []=M:=by rfl) (hv:tK L xs=Z vs:=by rfl):FO Lf f0 P ops Q (i::rest) a u:=by
 have p:xs.toArray.map a.eval=vs.toArray:=by rw[sW,Gl E hv]
 obtain⟨C,body,b,h,q⟩:=LJ r;rw[k]at b;cases b;refine FO.Ss t (E.wt (o:=⟨Z d,_,ty,ps,af,gd⟩) z) U U k h q s w j4 ?_;rw[p];exact c.mono λe m ⟨v,b,h⟩=>⟨v,b,h _ (xw a d v)<|E.put v<|Au hc⟩
def FE.cp{v0 k0 f fn xs vs ats}(E:Fa n a L)(p:P.funcs[f]? =Z fn)(z:an.known f)(C:∀x:aF aB,results fn x=results fn (dU (Lf f) x))(H:∀g,VR g v0 v0->∀(j:Nat) v,(Frame.enter P f vs.toArray .normal).tmps[j]? =Z v->j∉Lf f->VR g v v)(c:iT Lf P f vs.toArray u λe r=>∃v,e=aG v/\∀h,iD a h d v->Fa n h ((d,v)::L)->FO Lf f0 P ops Q rest h r)(A:ops[i]? =Z ⟨Z d,.call ⟨.value<|.func f,xs.toArray,ats⟩,ty,ps,af,gd⟩:=by rfl) (G:(iu ops L gd&&iH ops n gd)=M:=by rfl) (t:Db P f=M:=by kernel_rfl) (hc:mW [] n d []=M:=by rfl) (hv:tK L xs=Z vs:=by rfl) (h0:lk L k0=Z v0:=by rfl) (q:mW (Lf f0) n k0 [.tmp k0]=M:=by rfl):FO Lf f0 P ops Q (i::rest) a u:=by
 have m:xs.toArray.map a.eval=vs.toArray:=by rw[sW,Gl E hv]
 obtain⟨J,body,b,k,s⟩:=LJ t;rw[p]at b;cases b;have w:a.tmps[k0]? =Z v0:=by
  have N:k0<a.tmps.size:=by rw[E.size];exact Au q
  have K:=ev (E.at_ k0 v0 h0);grind
 refine FO.Ss A (E.wt (o:=⟨Z d,_,ty,ps,af,gd⟩) G) U U p k s z C (by rw[m];exact λg D=>H g (D k0 v0 w<|U6 q<|fJ ..)) ?_;rw[m];exact c.mono λe r ⟨v,b,k⟩=>⟨v,b,k _ (xw a d v)<|E.put v<|Au hc⟩
def qt:aV aB->Bool->Bool
 |some (ω x),b=>x !=b|some _,_=>M|none,_=>aa
def FE.gh{j p:Nat}{b:Bool}{k:Oper}(E:Fa n a L)(c:∀e,iD a e d y->Fa n e ((d,y)::L)->FO Lf f0 P ops Q rest e u)(m:ops[i]? =Z ⟨Z d,op,ty,ps,af,Z (j,b)⟩:=by rfl) (r:ops[j]? =Z k:=by rfl) (s:k.dst=Z p:=by rfl) (hl:qt (lk L p) b=M:=by rfl) (hc:(mW [] n d []&&decide (p<n))=M:=by rfl):FO Lf f0 P ops Q (i::rest) a u:=by
 have h:=(cQ _ _).mp hc;refine FO.unwanted m ?_ U<|c _ (xw a d y)<|E.put _<|Au h.1;have o:p<a.tmps.size:=by rw[E.size];exact mM h.2
 cases hv:lk L p with
 |none=>rw[hv]at hl;cases hl
 |some v=>have f:=ev (E.at_ p v hv);have g:a.tmps[p]? =Z a.tmps[p]:=gi o;rw[g]at f;have q:a.tmps[p]? =Z v:=g.t (cG Z f);rw[hv]at hl;cases v<;>simp_all[qt,cY,yielded]
def FX.reg{c}(is:av Nat)(h:FO Lf f0 P (jT c) Q is a u)(hc:Xo c is=M:=by kernel_rfl):FX Lf f0 P c Q a u:=by unfold Xo at hc;split at hc;rename_i id ops dr;rw[cQ,uk]at hc;obtain⟨rfl,b⟩:=hc;refine GX.region ?_;rwa [eq_of_beq b];cases hc
def dk{X:Act->Prop}(h:∀b w,w=v->iD a b d w->X b):∀b,iD a b d v->Fa n b ((d,v)::L)->X b:=λb N _=>h b v U N
def Fa.dd{c j}(E:Fa n a L)(h:a.eval (.tmp<|gR (jT c) j)=v)(b:(jT c)[j]? =Z ⟨Z d,op,ty,ps,af,gd⟩:=by rfl):Fa n a ((d,v)::L):=E.add (by rw[<-h,gR,b];rfl)
def qz:fu->Bool|.region _ _ dr=>dr|_=>aa
def FX.dm{c}(m k0 z:Nat)(f:Nat->aB->aq->Prop)(S:aq->Prop)(Mv:aq->aq->Prop)(K:∀u o j w,Mv u o->f j w u->f j w o)(E:Fa n a L)(hS:S {u with drawn:=u.drawn+1})
  (step:∀u1:aq,S u1->∀i,i<k0->∀a is,Fa n a L->(∀j,((nX (jT c) i).contains j&&decide (j<k0))=M->f j (a.eval<|.tmp<|gR (jT c) j) u1)->(∀p v o,f i v o->S o->Mv u1 o->iD a p (gR (jT c) i) v->FO Lf f0 P (jT c) Q is p o)->FO Lf f0 P (jT c) Q (i::is) a u1)
  (R:∀u1:aq,S u1->∀a,Fa n a L->(∀i,decide (i<k0)=M->f i (a.eval<|.tmp<|gR (jT c) i) u1)->eP Lf f0 P .any (jT c) Q (m-k0) (nZ m k0) a u1)
  (T:z<k0->∀u1:aq,S u1->∀a,Fa n a L->(∀i,(decide (i<k0)&&!decide (i=z))=M->f i (a.eval<|.tmp<|gR (jT c) i) u1)->eP Lf f0 P .any (jT c) Q (m-k0+1) ((nZ m k0).setIfInBounds z aa) a u1)
  (g:(qz c&&Ee (jT c) m k0 z n (L.map KG))=M:=by kernel_rfl) (hm:P.follows .mixedOrders=M:=by kernel_rfl):FX Lf f0 P c Q a u:=by
 rw[cQ]at g;cases c with
 |region id ops dr=>
  cases g.1;have g:Ee ops m k0 z n (L.map KG)=M:=g.2;simp only[Ee,cQ,tB]at g;obtain⟨b1,A,C,D,V,G⟩:=g;refine FX.afT hm ?_;have b1:ops.size=m:=b1;rw[b1];have q:∀i,i<k0->gR ops i<n/\gR ops i∉L.map KG/\∀j,j<k0->i=j\/¬gR ops i=gR ops j:=λi b=>by grind
  refine eP.adT (z:=z) b1 A C D (λi j b r e=>((q i b).2.2 j r).resolve_right λh=>h e) (λa=>Fa n a L) f S Mv K (λa p i v b N h=>⟨N.size.t h.size,N.defers.t h.defers,λk x t=>(N.same k λe=>(q i b).2.1 (e▸Wa t)).t (h.at_ k x t)⟩) (λi W H=>?_) (λa i b h=>by rw[h.size];exact(q i b).1) (λi b a u is h hS r J=>step u hS i b a is h (λj s=>?_) J) (λa u h hS hv=>R u hS a h λi b=>hv i (mM b)) (λO a u h hS hv=>T O u hS a h λi b=>?_) E hS;have X:=nA.1 G i (nD.2 H);grind;rw[cQ,tB]at s;exact r j (List.contains_iff_mem.1 s.1) s.2;rw[cQ,tB,uk,decide_eq_false_iff_not]at b;exact hv i b.1 b.2
 |_=>cases g.1
def FX.dr{c}(m k0:Nat)(b:Nat->aB->Prop)(E:Fa n a L)
  (step:∀u1:aq,u1={u with drawn:=u.drawn+1}->∀i,i<k0->∀a is,Fa n a L->(∀j,((nX (jT c) i).contains j&&decide (j<k0))=M->b j (a.eval<|.tmp<|gR (jT c) j))->(∀e v,b i v->iD a e (gR (jT c) i) v->FO Lf f0 P (jT c) Q is e u1)->FO Lf f0 P (jT c) Q (i::is) a u1)
  (r:∀u1:aq,u1={u with drawn:=u.drawn+1}->∀a,Fa n a L->(∀i,decide (i<k0)=M->b i (a.eval<|.tmp<|gR (jT c) i))->eP Lf f0 P .any (jT c) Q (m-k0) (nZ m k0) a u1)
  (k:(qz c&&Ee (jT c) m k0 m n (L.map KG))=M:=by kernel_rfl) (hm:P.follows .mixedOrders=M:=by kernel_rfl):FX Lf f0 P c Q a u:=
 FX.dm m k0 m (λj v _=>b j v) (λu1=>u1={u with drawn:=u.drawn+1}) (λu s=>s=u) (λ_ _ _ _ _ h=>h) E U (λu1 f i p a is g q o=>step u1 f i p a is g q λe v hv N=>o e v u1 hv f U N) (λu1 f a g hv=>r u1 f a g hv) (λh=>by simp only[Ee,cQ,tB]at k;omega) k hm
def XQ:fu->Bool|.seq _ _=>M|_=>aa
def FX.sq{c}(h:FX Lf f0 P (kv c) (Exit.then (FX Lf f0 P (dg c) Q) Q) a u)(hc:XQ c=M:=by kernel_rfl):FX Lf f0 P c Q a u:=by cases c<;>first|exact GX.seq h|cases hc
def Gx:fu->aV Nat|.cond (.tmp k) _ _=>Z k|_=>aj
def SH{c k}(h:Gx c=Z k):c=.cond (.tmp k) (ct c) (cf c):=by unfold Gx at h;split at h;cases h;rfl;cases h
def FX.cT{c k}(E:Fa n a L)(h:FX Lf f0 P (ct c) Q a u)(b:Gx c=Z k:=by rfl) (hv:lk L k=Z (ω M):=by rfl):FX Lf f0 P c Q a u:=by rw[SH b];exact GX.cond (E.at_ k _ hv) h
def FX.cF{c k}(E:Fa n a L)(h:FX Lf f0 P (cf c) Q a u)(b:Gx c=Z k:=by rfl) (hv:lk L k=Z (ω aa):=by rfl):FX Lf f0 P c Q a u:=by rw[SH b];exact GX.cond (E.at_ k _ hv) h
def FX.rt{c}(h:Q .ret a u)(hc:c=.ret:=by kernel_rfl):FX Lf f0 P c Q a u:=hc▸GX.ret h
def FX.sk{c}(h:Q .normal a u)(hc:c=.skip:=by kernel_rfl):FX Lf f0 P c Q a u:=hc▸GX.skip h
def FX.bk{c}(id:Nat)(h:FX Lf f0 P (tL c) (ER id Q) a u)(hc:c=.block id (tL c):=by kernel_rfl):FX Lf f0 P c Q a u:=by rw[hc];exact GX.block h
def FX.lp{c}(b:Act->aq->Prop)(e:Act->aq->Nat)(h:b a u)(round:∀a u,b a u->FX Lf f0 P (tL c) (Exit.then (λf g=>b f g/\e f g<e a u) Q) a u)(hc:c=.loop (tL c):=by kernel_rfl):FX Lf f0 P c Q a u:=by rw[hc];exact GX.loop b e h round
def FX.ex{c}(id:Nat)(h:Q (.exit id) a u)(hc:c=.exit id:=by kernel_rfl):FX Lf f0 P c Q a u:=hc▸GX.exit h
def nS(fn:Func):fu:=fn.body.getD .skip
def vB:Nat->av aB->av (Nat×aB)
 |_,[]=>[]|k,v::r=>(k,v)::vB (k+1) r
def Zl:∀{k j:Nat} {vs:av aB} {v:aB},lk (vB k vs) j=Z v->∃m,j=k+m/\vs[m]? =Z v
 |k,j,[],v,h=>by cases h
 |k,j,x::r,v,h=>by
  unfold vB lk at h;cases b:vY k j with
  |true=>rw[b]at h;cases h;exact⟨0,(zK b).y,U⟩
  |false=>rw[b]at h;obtain⟨m,e,c⟩:=Zl h;exact⟨m+1,Y,c⟩
def iT.AU{f fn vs R}(n:Nat)(hf:P.funcs[f]? =Z fn)(h:∀a,Fa n a (vB 0 vs)->FX Lf f P (nS fn) (λe a u=>e=.ret/\a.defers=[]/\∃v,(results fn a.tmps).run P u=.ok v u/\R (aG v) u) a u)(c:fn.body=Z (nS fn):=by kernel_rfl) (o:fn.ntmps=n:=by kernel_rfl) (hl:vs.length<=n:=by simp):iT Lf P f vs.toArray u R:=by refine iT.aez hf c<|h _ ⟨?_,U,λk v g=>?_⟩;simp;omega;obtain⟨m,j,b⟩:=Zl g;rw[show k=m by omega];simp[Act.eval,ue,Array.getElem?_append,(bY.1 b).1];exact(bY.1 b).2
def Fa.to{aqe}(h:Fa n a L)(b:Gh L aqe:=by(repeat (first|exact trivial|refine⟨rfl,?_⟩))):Fa n a aqe:=h.sub b
end
section
attribute [local go_sem] cz cE Dj Dl vB
def dR(f:aZ):av Nat:=if f=12 then[0,4,9,13,17,25,33,38,43,51]else if f=14 then[0,5,8,10,13]else if f=5 then[0,7,12,27]else if f=6 then[1,8,14,16]else if f=3 then[0,1,17,22]else[]
def Af[an](ad:aV Addr)(len:Nat):Prop:=len=0\/∃(b off:Nat) (a:Obj) (z:Nat->Int),ad=Z ⟨b,off,aj⟩/\an.tY b=Z a/\∀i,i<len->dy (z i)/\∀w:aq,w.heap[b]? =Z a->w.cell? (F b<|off+i)=Z (I<|z i)
section
variable [an] {u:aq} {l:av aZ}
def afG(s:Fit prog l)(ad:aV Addr)(len cap:Nat)(j:Int)(hl:len<=cP)(f:0<=j)(t:j<=9223372036854775807)(h:Af ad len):
  iT dR prog 14 #[ζ ad len cap,I j] u λe q=>∃z,e=aG (I z)/\dy z/\q=u:=by
 have x:len<=9223372036854775807:=hl;refine iT.AU 15 func14 λa E=>?_;refine FX.sq<|FX.reg [0] ?_;refine FE.ow E λa _ E=>GO.nil ?_;refine FX.sq<|FX.sq<|FX.reg [0,1,2] ?_;refine FE.bl E λa _ E=>?_;refine FE.ln E λa _ E=>?_;refine FE.ow (v:=ω<|(len:Int)==0) E λa _ E=>GO.nil ?_
 by_cases p:(len:Int)=0
 ·rw[show((len:Int)==0)=M by simp;omega]at E;refine FX.cT E<|FX.sq<|FX.reg [0] ?_;refine FE.ow E λa _ E=>GO.nil ?_;refine FX.rt ⟨U,E.defers,I 0,?_,0,U,⟨Y,Y⟩,U⟩;have d:=ev (E.at_ 4 _ U);simp[results,results14,go_sem,d]
 rw[show((len:Int)==0)=aa by simp;omega]at E;refine FX.cF E<|FX.sk<|FX.sq<|FX.reg [0,1,2,3,4,5,6,7] ?_;obtain⟨b,off,C,z,rfl,o,g⟩:=h.resolve_left Y;obtain⟨n,c⟩:∃n:Nat,n<len/\j.tmod len=n:=⟨(j.tmod len).toNat,by have:=BL (len:Int) f;have:=EZ j (show(0:Int)<len by omega);omega,by have:=BL (len:Int) f;omega⟩;refine FE.bl E λa _ E=>?_;refine FE.ow E λa _ E=>?_;refine FE.bl E λa _ E=>?_;refine FE.ln E λa _ E=>?_;refine FE.ow (v:=I (n:Int)) E (hr:=λD=>by have A:=p;have B:¬len=0:=Y;have r:=c.2;first|(go_simp;done)|(rw[<-c.2];go_simp)|(rw[<-c.2,<-((EY f).y)];go_simp)) λa _ E=>?_;refine FE.bl (v:=π<|Z<|F b<|off+n) E (hr:=λw=>by go_simp) (he:=λw=>Dm (m:=len) (c0:=cap) (ad:=F b off) (j:=n) w U U aW Y) λa _ E=>?_;refine FE.p1 o E (g n c.1).2 λa _ E=>?_;refine FE.ow E λa _ E=>GO.nil ?_;refine FX.rt ⟨U,E.defers,I<|z n,?_,z n,U,(g n c.1).1,U⟩;have d:=ev (E.at_ 4 _ U);simp[results,results14,go_sem,d]
def afh(m:Fit prog l)(c n:Int)(hc:dy c)(h0:0<n)(k:n<=9223372036854775807):
  iT dR prog 13 #[I c,I n] u λe i=>e=aG (I<|eX c n)/\i=u:=by
 obtain⟨o,p⟩:=hc;refine iT.AU 13 func13 λa E=>?_;refine FX.sq<|FX.reg [0] ?_;refine FE.ow E λa _ E=>GO.nil ?_
 have fin:∀(x:Int) (a:Act),0<=x->x<=9223372036854775807->x.tmod n=eX c n->Fa 13 a [(0,I x),(1,I n)]->FX dR 13 prog (dg<|dg<|nS f13) (λe a b=>e=.ret/\a.defers=[]/\∃v,(results f13 a.tmps).run prog b=.ok v b/\JN v=aG (I<|eX c n)/\b=u) a u:=by intro x a h t r E;have q:¬n=0:=Y;refine FX.sq<|FX.reg [0,1,2,3] ?_;refine FE.ow E λa _ E=>?_;refine FE.ow E λa _ E=>?_;refine FE.ow (v:=I<|x.tmod n) E (hr:=λj=>by first|(go_simp;done)|(rw[<-((EY h).y)];go_simp)) λa _ E=>?_;refine FE.ow E λa _ E=>GO.nil ?_;refine FX.rt ⟨U,E.defers,I<|eX c n,?_,U,U⟩;have f:=ev (E.at_ 4 _ U);simp[results,results13,go_sem,f]
 refine FX.sq<|FX.sq<|FX.reg [0,1] ?_;refine FE.ow E λa _ E=>?_
 by_cases d:c<0
 ·refine FE.ow (v:=ω M) E λa _ E=>GO.nil ?_;refine FX.cT E<|FX.reg [0,1,2,3] ?_;refine FE.ow E λa _ E=>?_;refine FE.ar E λa _ E=>?_;refine FE.ow (v:=I<|-(c+1)) E (hr:=λj=>by have s:cJ.wrap (-(c+1))= -(c+1):=dI Y Y;go_simp) λa _ E=>?_;refine FE.ow E λa _ E=>GO.nil ?_;exact fin (-(c+1)) a Y Y (by unfold eX;rw[aO d]) E.to
 refine FE.ow (v:=ω aa) E λa _ E=>GO.nil ?_;exact FX.cF E (FX.sk (fin c a Y Y (by unfold eX;rw[aI d]) E.to))
end
end
section
attribute [local go_sem] Oper.semAt_some
open Go.Conc Go.RowKit Go.Shelf
def lz(fn:Func):fu:=kv (fn.body.getD .skip)
def ma(fn:Func):fu:=kv (dg<|fn.body.getD .skip)
def l0(fn:Func):fu:=kv (kv<|dg<|dg<|fn.body.getD .skip)
def Ax:fu->fu|.cond _ x _=>x|_=>.skip
def lL(fn:Func):fu:=Ax (dg<|kv<|dg<|dg<|fn.body.getD .skip)
abbrev Po(xb:Nat)(a:Int):Act:=⟨#[pt xb,y,y,pt xb,pt xb,π (Z (F xb 13)),I a,I (a+1),pt xb,π (Z (F xb 13)),y,y,y,y,y,y,y,y,y,y,y,y,y,y,y,y,y,y],[]⟩
abbrev Pp(xb:Nat)(a:Int)(b D:Nat):Act:=⟨#[pt xb,y,y,pt xb,pt xb,π (Z (F xb 13)),I a,I (a+1),pt xb,π (Z (F xb 13)),pt xb,.func (.func 99) #[] #[pt b],y,y,y,y,y,y,y,y,y,y,y,y,y,y,y,y],[{target:=.collected D,args:=#[]}]⟩
abbrev AN(xb:Nat)(a:Int)(b c:Nat):Act:=⟨#[pt xb,y,pt c,pt xb,pt xb,π (Z (F xb 13)),I a,I (a+1),pt xb,π (Z (F xb 13)),pt xb,.func (.func 99) #[] #[pt b],pt c,y,y,y,y,y,y,y,y,y,y,y,y,y,y,y],[]⟩
section
abbrev cZ.as(L:cZ):av (aV Nat):=L.cs.map λl=>l.map Lc.c
variable {w W W':aq} {f:Fx} {xb:Nat} {L:cZ}
def An{s c:Nat}(h:L.as[s]? =Z (Z c)):∃l,L.cs[s]? =Z (Z l)/\l.c=c:=by
 rw[qC]at h;rcases hl:L.cs[s]? with _|o;rw[hl]at h;cases h;rw[hl]at h;cases o with
 |none=>cases h
 |some l=>exact⟨l,U,acm⟩
def aE.Eh(h:aE W f xb L){s c:Nat}(j:L.as[s]? =Z (Z c)):∃l k,L.cs[s]? =Z (Z l)/\l.c=c/\f.K[s]? =Z (Z k)/\l.At W f.g k/\l.iC λb=>L.own b=7+2*s:=by
 let⟨l,a,e⟩:=An j;have i:s<f.K.length:=by rw[<-h.cs.len];exact(bY.1 a).1
 have d:=dj i;have:=h.cs.at_ s _ _ d a;rcases hk:f.K[s]with _|k;rw[hk]at this;exact this.e;rw[hk]at this d;exact⟨l,k,a,e,d,this.1,this.2⟩
def aE.OB(h:aE W f xb L):∃g:Nat->Nat,∀(s c:Nat),L.as[s]? =Z (Z c)->g c=s:=by
 classical
 refine⟨λc=>if e:∃s,L.as[s]? =Z (Z c)then e.choose else 0,λs c a=>?_⟩;have e:∃s,L.as[s]? =Z (Z c):=⟨s,a⟩;show(if e:∃s,L.as[s]? =Z (Z c)then e.choose else 0)=s;rw[wy e];let⟨l,k,_,m,_,_,b⟩:=h.Eh a;let⟨p,o,_,n,_,_,d⟩:=h.Eh e.choose_spec;have i:=b.1;have j:=d.1;grind
def aE.IP(h:aE W f xb L)(a:f.K.length<=65535):W.cell? (F xb 9)=Z (ζ (Z<|F L.sb 0) f.K.length f.K.length)/\L.as.length=f.K.length/\∀(j:Nat) v,L.as[j]? =Z v->W.cell? (F L.sb j)=Z (kY v):=by refine⟨aD h.box U,by rw[pI];exact h.cs.len,λj v hv=>aD h.dL (xA hv)⟩
def RX{c}(h:c∈cI L.as):∃s:Nat,L.as[s]? =Z (Z c):=ahq.1 h
def Fx.fY(f:Fx)(s:Nat):Fx:=match f.K[s]? with|some (Z k)=>f.at s (k.dh f.g)|_=>f
def Fx.uS(f:Fx):Fx:=(dA f.K.length).foldl Fx.fY f
def GB{s}(h:f.K[s]? =Z aj\/f.K[s]? =aj):f.fY s=f:=by unfold Fx.fY;rcases h with h|h<;>rw[h]
def Mf{f:Fx}{s k}(h:f.K[s]? =Z (Z k)):f.fY s=f.at s (k.dh f.g):=by unfold Fx.fY;rw[h]
def Me(f:Fx)(s):(f.fY s).K.length=f.K.length/\(f.fY s).g=f.g/\∀(j:Nat),((f.fY s).K[j]? =Z aj↔f.K[j]? =Z aj):=by unfold Fx.fY;grind
def aE.all(h:aE W f xb L)(step:Fx->Nat->Fx)(A:∀(f:Fx) (s:Nat),f.K[s]? =Z aj->step f s=f)(v:∀(f:Fx) (s j:Nat),f.K[j]? =Z aj->(step f s).K[j]? =Z aj){i:Nat->Nat}(B:∀(s c:Nat),L.as[s]? =Z (Z c)->i c=s):
  (cI L.as).foldl (λa c=>step a (i c)) f=(dA f.K.length).foldl step f:=by
 have key:∀(cs:av (aV Nat)) (o:Nat) (a:Fx),(∀(s c:Nat),cs[s]? =Z (Z c)->i c=o+s)->(∀(s:Nat),cs[s]? =Z aj->a.K[o+s]? =Z aj)->
   (cI cs).foldl (λa c=>step a (i c)) a=(dA cs.length).foldl (λa s=>step a (o+s)) a:=by
  intro cs;induction cs with
  |nil=>exact λ_ _ _ _=>U
  |cons x cs t=>
   intro o a m n;rcases x with _|c;have e:cI (aj::cs)=cI cs:=U;rw[e,t (o+1) a (λs c g=>by have:=m (s+1) c g;omega) (λs d=>by have:=n (s+1) d;rwa [show o+(s+1)=o+1+s by omega]at this),gH,C5,uy,A8,A a _ (n 0 U)]
   congr 1;funext b s;rw[show o+1+s=o+s.succ by omega];have e:cI (Z c::cs)=c::cI cs:=U;have u:=m 0 c U;rw[e,uy,t (o+1) _ (λs c g=>by have:=m (s+1) c g;omega) (λs d=>by have:=n (s+1) d;rw[show o+(s+1)=o+1+s by omega]at this;exact v _ _ _ this),gH,C5,uy,A8,u]
   congr 1;funext b s;rw[show o+1+s=o+s.succ by omega]
 have:=key L.as 0 f (λs c g=>by rw[B s c g];omega) (λs d=>?_);rw[this,pI,h.cs.len]
 congr 1
 funext b s
 rw[jM];rw[jM];rw[qC]at d;rcases hl':L.cs[s]? with _|o;rw[hl']at d;cases d;rw[hl']at d;cases o with
 |some l=>cases d
 |none=>
  have z:s<f.K.length:=by rw[<-h.cs.len];exact(bY.1 hl').1
  have p:=dj z;have q:=h.cs.at_ s _ _ p hl';cases r:f.K[s]with
  |none=>rw[p,r]
  |some k=>rw[r]at q;exact q.e
structure wD(f f':Fx):Prop where
 g:f'.g=f.g
 tok:∀(s:Nat) k,f'.K[s]? =Z (Z k)->0<=k.tok/\k.tok<=65535
 len:f'.K.length=f.K.length
def wD.next{f f'}(h:wD f f')(hr:0<=f.g.rt/\f.g.rt<=65535)(d:0<=f.g.bu/\f.g.bu<=65535)(s:Nat):wD f (f'.fY s):=by refine⟨(Me f' s).2.1.t h.g,λj k a=>?_,(Me f' s).1.t h.len⟩;unfold Fx.fY at a;split at a;rename_i b c;rw[show(f'.at s<|b.dh f'.g).K=f'.K.set s (Z<|b.dh f'.g) from U,rM]at a;split at a;split at a;cases a;have:=h.tok s b c;rw[h.g];show 0<=min (b.tok+f.g.rt) f.g.bu/\min (b.tok+f.g.rt) f.g.bu<=65535;omega;cases a;exact h.tok j k a;exact h.tok j k a
def aas(xb f L wW w)(h:aE w f xb L)(X:f.K.length<=65535)(hr:0<=f.g.rt/\f.g.rt<=65535)(hb:0<=f.g.bu/\f.g.bu<=65535)(ht:∀(s:Nat) k,f.K[s]? =Z (Z k)->0<=k.tok/\k.tok<=65535)(aJ:∀x,w.heap.size<=x->L.own x=0):
  (ma f31).wp prog (λe a p=>e=.normal/\∃N0 D,a=Pp xb wW N0 D/\w.heap.size<=D/\p.heap[D]? =Z (.deferred<|Z [])/\aE p f.uS xb L/\aS (λi=>L.own i≠0) w p) (Po xb wW) w:=by
 apply(wpIn_wide (n:=3)).1;simp only[ma,kv,dg,oK,f31]
 gi_wp2_with (first|(refine⟨trivial,?_⟩;gi_at_call 60;apply(callsIn_wide.2<|IN xb _).m;rintro e w1 ⟨rfl,rfl⟩))
 have G:aK w (w.alloc<|au #[pt xb] 29):=bq;have bX:(w.alloc<|au #[pt xb] 29).heap.size=w.heap.size+1:=ay;have e3:(w.alloc<|au #[pt xb] 29).heap[w.heap.size]? =Z (au #[pt xb] 29 (0,0)):=heap_alloc_new w _;show Qd ig 3 prog _ _ _ (w.alloc<|au #[pt xb] 29);generalize w.alloc (au #[pt xb] 29)=C at*
 let⟨d,Dz⟩:=h.OB
 have bB:f.uS=(cI L.as).foldl (λa c=>a.fY (d c)) f:=(h.all Fx.fY (λf s N=>GB (aA N)) (λf s j hj=>((Me f s).2.2 j).2 hj) Dz).y
 have bI:Bears (λr=>False\/r=C.heap.size+1) (λ(pre:av Nat) W=>aE W (pre.foldl (λa c=>a.fY (d c)) f) xb L/\wD f (pre.foldl (λa c=>a.fY (d c)) f)/\aS (λi=>L.own i≠0) w W):=by
  rintro pre W W' row ⟨h1,h2,E⟩ hg hr;have bP:∀r,row=Z r->r=w.heap.size+2:=λr e=>by rcases hr r e with h|h;cases h;omega
  have yK:∀k,k<W.heap.size->k≠w.heap.size+2->W'.heap[k]? =W.heap[k]? :=λk J bL=>hg.block k J λe=>bL (bP k e.y);refine⟨h1.yE λb hb ho=>yK b hb λe=>ho (aJ b Y),h2,⟨hg.os.t E.os,cM E.size hg.size,λk J hx=>?_⟩⟩;exact(yK k (cS J E.size) Y).t<|E.block k J hx
 have HH:=aX h;have hS:=h.IP X;have bp:aE C f xb L:=h.below G;have bO:wD f f:=⟨U,ht,U⟩;clear h ht
 refine Ba (w:=C) U aM (gf:=99) (lb:=#[aQ w.heap.size]) U trivial (enters_of func99 aW U) (encs:=yY) (λ_=>U)
  (R:=λ_=>False) (Kp:=λA B=>B.heap[L.sb]? =A.heap[L.sb]?) (V:=λt=>∃r,cI L.as=t++r) (S:=λt _=>t=cI L.as) (Sp:=λpre _=>∃r,cI L.as=pre++r)
  (λW hW=>?seq) (λr h=>h.e) (λh k=>k.t h) (λW o=>gq ?sbn) (λt W W' row h _ _=>h) (λt W W' row h _ _=>h)
  (λ(pre:av Nat) W=>aE W (pre.foldl (λa c=>a.fY (d c)) f) xb L/\wD f (pre.foldl (λa c=>a.fY (d c)) f)/\aS (λi=>L.own i≠0) w W) (λ_ _=>False) bI (λ_ _ _ _ h _ _=>h) ⟨bp,bO,.below G⟩ (λc a _=>a=AN xb wW w.heap.size c) (λc a W W' row h _ _=>h) ?assign ?body ?done ?stop
 case sbn=>have:=(bf.1 HH.dL).1;omega
 case seq=>have bC:aK w W:=G.grown hW G.size (λk e=>by cases e);have Dr:=(HH.below bC).IP X;exact IQ 2 aM w.heap.size xb L.sb f.K.length L.as W (aD (nT e3 hW ay) U) Dr.1 Dr.2.1 X Dr.2.2
 case assign=>rintro l pre c W K m hv jR hK;gi_wp2;exact hK _ W ⟨U,U⟩ U m U
 case body=>
  rintro l pre c a' W ⟨m,u,H⟩ rfl ⟨r,hv⟩ jR;have hc:c∈cI L.as:=by rw[hv];simp
  let⟨s,N⟩:=RX hc;let⟨lc,k,y1,O,P,y4,z⟩:=m.Eh N;have bR:d c=s:=Dz s c N;have HE:Hid (Calls prog 61 #[aQ c] W λe p=>e=aG (θ #[])/\aE p ((pre++[c]).foldl (λa c=>a.fY (d c)) f) xb L/\wD f ((pre++[c]).foldl (λa c=>a.fY (d c)) f)/\aS (λi=>i=c) W p):=by
   rw[zG];show Calls _ _ _ _ λe p=>e=aG (θ #[])/\aE p (Fx.fY _<|d c) xb L/\wD f (Fx.fY _<|d c)/\_;rw[bR,<-O];refine(aar lc.c lc.rb lc.mb lc.ch lc.q lc.v _ k W y4 (by rw[u.g];exact hr)<|u.tok s k P).m ?_;rintro e p ⟨rfl,T,g2⟩;have e1:Fx.fY (pre.foldl (λa c=>a.fY (d c)) f) s=(pre.foldl (λa c=>a.fY (d c)) f).at s (k.dh (pre.foldl (λa c=>a.fY (d c)) f).g):=Mf P;have Q:({L with cs:=L.cs.set s<|Z lc,own:=L.own}:cZ)=L:=by rw[yZ y1]
   refine⟨U,?_,u.next hr hb s,g2⟩;rw[e1,<-Q];exact m.client (cq:=L.own) (l':=lc) y1 U P g2 (λb _ e=>by rw[e];exact z.1) T (λ_ _=>U) z
  have bg:=aX H;have bW:c<w.heap.size:=by rcases lq c w.heap.size with bJ|hge;exact bJ;have e1:=aJ c hge;have Q:=z.1;rw[O]at Q;omega
  have bE:L.own c=7+2*s:=by rw[<-O];exact z.1
  have bG:c≠L.sb:=λe=>by have:=m.je;rw[<-e]at this;omega
  have bQ:L.sb<W.heap.size:=(bf.1 m.dL).1;clear m u H y1 O P y4 z;gi_wp2_with (first|(refine⟨trivial,?_⟩;gi_at_call 61;apply(rI l<|callsIn_wide.2 HE).m;rintro e w1 ⟨rfl,T,bn,g2⟩));exact⟨⟨g2.block _ Y Y,g2.block _ Y Y⟩,g2.block _ bQ<|λe=>bG e.y,T,bn,bg.t (g2.m λk _ e=>by rw[e,bE];omega)⟩
 case done=>rintro t W rfl ⟨m,u,H⟩ hD;exact⟨U,w.heap.size,C.heap.size,U,Y,hD,by rw[bB];exact m,H⟩
 case stop=>exact λ_ _ _ h _=>h.e
end
end
section
attribute [local go_sem] Oper.semAt_some
open Go.RowKit Go.Shelf
def Ck.num(k:Ck)(n:Int):Ck:={k with q:=(bL n k.q).1}
def Fx.eV(f:Fx)(s:Nat):Fx:=match f.K[s]? with|some (Z k)=>{f.at s (k.num f.acc)with acc:=(bL f.acc k.q).2}|_=>f
def Fx.mG(f:Fx):Fx:=(dA f.K.length).foldl Fx.eV f
def AT{f:Fx}{s}(h:f.K[s]? =Z aj\/f.K[s]? =aj):f.eV s=f:=by unfold Fx.eV;rcases h with h|h<;>rw[h]
def DS{f:Fx}{s k}(h:f.K[s]? =Z (Z k)):f.eV s={f.at s (k.num f.acc)with acc:=(bL f.acc k.q).2}:=by unfold Fx.eV;rw[h]
def WA(f:Fx)(s):(f.eV s).K.length=f.K.length/\(f.eV s).g=f.g/\∀(j:Nat),((f.eV s).K[j]? =Z aj↔f.K[j]? =Z aj):=by unfold Fx.eV;grind
structure wJ(f f':Fx)(n:Nat):Prop where
 g:f'.g=f.g
 q:∀(s:Nat) k,f'.K[s]? =Z (Z k)->k.q.length<=1048576
 lo:0<=f'.acc
 hi:f'.acc<=f.acc+1048576*n
def wJ.next{f f' n}(h:wJ f f' n)(s):wJ f (f'.eV s) (n+1):=by rcases hk:f'.K[s]? with _|o;rw[AT<|az hk];exact⟨h.g,h.q,h.lo,by have:=h.hi;omega⟩;rcases o with _|k;rw[AT<|aA hk];exact⟨h.g,h.q,h.lo,by have:=h.hi;omega⟩;rw[DS hk];have c:=DT k.q f'.acc;have d:=h.q s k hk;have e:=h.hi;have i:=h.lo;refine⟨h.g,λj b a=>?_,?_,?_⟩;rw[show({f'.at s (k.num f'.acc)with acc:=(bL f'.acc k.q).2}:Fx).K=f'.K.set s (Z<|k.num f'.acc) from U,rM]at a;split at a;split at a;cases a;show(bL f'.acc k.q).1.length<=_;rwa [yP];cases a;exact h.q j b a;show 0<=(bL f'.acc k.q).2;omega;show(bL f'.acc k.q).2<=_;omega
def OM:∀(cs:av (aV Nat)),(cI cs).length<=cs.length
 |[]=>aR 0|none::cs=>by have:=OM cs;show(cI cs).length<=cs.length+1;omega|some c::cs=>by have:=OM cs;show(cI cs).length+1<=cs.length+1;omega
abbrev zp(xb d g e f c:Nat)(a b:Int):Act:=⟨#[pt xb,pt d,pt g,y,pt c,pt xb,.func (.func 99) #[] #[pt e],y,y,y,θ #[],pt xb,.func (.func 99) #[] #[pt f],pt c,pt xb,pt c,pt xb,pt xb,π (Z (F xb 11)),I a,I b,pt xb,π (Z (F xb 11))],[]⟩
def WY(xb m Wg B2 D:Nat)(f:Fx)(L:cZ)(w:aq)(h:aE w f xb L)(hN:f.K.length<=65535)(hq:∀(s:Nat) k,f.K[s]? =Z (Z k)->k.q.length<=1048576)(ha:0<=f.acc/\f.acc<=140737488355328)(aC:∀x,w.heap.size<=x->L.own x=0)(C:w.heap[m]? =Z (au #[pt xb] 29 (0,0)))(cg:L.own m=0)(hD:w.heap[D]? =Z (.deferred<|Z []))(bD:L.own D=0):
  (xH f62).wpIn ig 3 prog (bodyPostM ig 3 prog f62 λe w'=>e=aG (θ #[])/\aE w' f.mG xb L/\aS (λi=>i=D\/L.own i≠0) w w') (zt xb m Wg B2 D) w:=by
 have cB:=aJ w m 0 (pt xb) C;simp only[xH,Bt,f62]
 gi_wp2_with (first|(refine⟨trivial,?_⟩;gi_at_call 60;refine(callsIn_wide.2<|IN xb _).m ?_;rintro e n ⟨rfl,rfl⟩))
 have ak:aK w (w.alloc<|au #[pt xb] 29):=bq;have dr:(w.alloc<|au #[pt xb] 29).heap.size=w.heap.size+1:=ay;have e3:(w.alloc<|au #[pt xb] 29).heap[w.heap.size]? =Z (au #[pt xb] 29 (0,0)):=heap_alloc_new w _;have cu:D<w.heap.size:=(bf.1 hD).1;have bC:m<w.heap.size:=(bf.1 C).1;show Qd ig 3 prog _ _ _ (w.alloc<|au #[pt xb] 29);generalize w.alloc (au #[pt xb] 29)=z at*;obtain⟨d,Dz⟩:=h.OB;have cw:f.mG=(cI L.as).foldl (λa c=>a.eV (d c)) f:=(h.all Fx.eV (λf s hs=>AT (aA hs)) (λf s j hj=>((WA f s).2.2 j).2 hj) Dz).y
 have bI:Bears (λr=>False\/r=z.heap.size+1) (λ(pre:av Nat) W=>aE W (pre.foldl (λa c=>a.eV (d c)) f) xb L/\wJ f (pre.foldl (λa c=>a.eV (d c)) f) pre.length/\aS (λi=>L.own i≠0) w W):=by
  rintro pre W W' row ⟨h1,h2,h3⟩ hg hr;have cT:∀r,row=Z r->r=w.heap.size+2:=λr e=>by rcases hr r e with h|h;cases h;omega
  have yK:∀k,k<W.heap.size->k≠w.heap.size+2->W'.heap[k]? =W.heap[k]? :=λk J an=>hg.block k J λe=>an (cT k e.y);refine⟨h1.yE λb G ho=>yK b G λe=>ho (aC b Y),h2,⟨hg.os.t h3.os,cM h3.size hg.size,λk J hx=>?_⟩⟩;exact(yK k (cS J h3.size) Y).t<|h3.block k J hx
 have X:Hid (aE w f xb L/\w.heap[m]? =Z (au #[pt xb] 29 (0,0))/\w.heap[D]? =Z (.deferred<|Z [])):=⟨h,C,hD⟩;have b9:aE z f xb L:=h.below ak;have cN:wJ f f 0:=⟨U,hq,ha.1,Y⟩;have dm:L.as.length<=65535:=by rw[pI,h.cs.len];exact hN
 clear h hq C hD cB
 refine Ba (w:=z) U aM (gf:=99) (lb:=#[aQ w.heap.size]) U trivial (enters_of func99 aW U) (encs:=yY) (λ_=>U)
  (R:=λ_=>False) (Kp:=λA B=>B.heap[L.sb]? =A.heap[L.sb]?) (V:=λN=>∃r,cI L.as=N++r) (S:=λN _=>N=cI L.as) (Sp:=λpre _=>∃r,cI L.as=pre++r)
  (λW hW=>?seq) (λr h=>h.e) (λh k=>k.t h) (λW o=>gq ?sbn) (λN W W' row h _ _=>h) (λN W W' row h _ _=>h)
  (λ(pre:av Nat) W=>aE W (pre.foldl (λa c=>a.eV (d c)) f) xb L/\wJ f (pre.foldl (λa c=>a.eV (d c)) f) pre.length/\aS (λi=>L.own i≠0) w W) (λ_ _=>False) bI (λ_ _ _ _ h _ _=>h) ⟨b9,cN,.below ak⟩ (λc a _=>a=zr xb m Wg B2 w.heap.size c) (λc a W W' row h _ _=>h) ?assign ?body ?done ?stop
 case sbn=>have:=(bf.1 X.u.1.dL).1;omega
 case seq=>have b7:=nT e3 hW ay;have Dr:=(X.u.1.below (ak.grown hW ak.size (λk e=>by cases e))).IP hN;exact IQ 2 aM w.heap.size xb L.sb f.K.length L.as W (aD b7 U) Dr.1 Dr.2.1 hN Dr.2.2
 case assign=>rintro l pre c W K p hv jR Q;gi_wp2;exact Q _ W ⟨U,U⟩ U p U
 case body=>
  rintro l pre c a' W ⟨p,H,u⟩ rfl ⟨r,hv⟩ jR;have hc:c∈cI L.as:=by rw[hv];simp
  obtain⟨s,hs⟩:=RX hc;have dn:pre.length+1<=65535:=by
   have h1:=OM L.as;have h2:(cI L.as).length=pre.length+1+r.length:=by rw[hv];simp only[fQ,gH,nB]
   omega
  have C:=(u.block m bC (by simp[cg])).t X.u.2.1;have cB:=aJ W m 0 (pt xb) C;obtain⟨E,T,bU,HN⟩:∃E T:Int,W.cell? (F xb 11)=Z (I E)/\Hid (Calls prog 105 #[pt c,I E] W.drew λe n=>e=aG (I T)/\n.cell? (F m 0)=Z (pt xb)/\n.cell? (F xb 11)=Z (I E)/\n.frozen? (F xb 11)=aa/\Hid (ER 3 (roundEnd z.heap.size (λA B=>B.heap[L.sb]? =A.heap[L.sb]?) (λ(pre:av Nat) W=>aE W (pre.foldl (λa c=>a.eV (d c)) f) xb L/\wJ f (pre.foldl (λa c=>a.eV (d c)) f) pre.length/\aS (λi=>L.own i≠0) w W) (λ_ _=>False) (pre++[c]) W) .normal (zp xb m Wg B2 w.heap.size c E T)<|n.setCell (F xb 11)<|I T)):=by
   have cD:(pre++[c]).foldl (λa c=>a.eV (d c)) f=(pre.foldl (λa c=>a.eV (d c)) f).eV s:=by rw[zG];show Fx.eV _ (d c)=_;rw[Dz s c hs]
   obtain⟨lc,k,y1,y2,y3,y4,y5⟩:=p.Eh hs;have cA:=aJ W xb 11 (I (pre.foldl (λa c=>a.eV (d c)) f).acc) p.box;have cL:=DS y3;have oY:=H.lo;have lD:=H.hi;generalize pre.foldl (λa c=>a.eV (d c)) f=t at*;refine⟨t.acc,(bL t.acc k.q).2,cA,?_⟩;show Calls _ _ _ _ _;have xh:w.heap.size+2<=W.heap.size:=by have:=jR;omega
   have dz:=p.eR;have cW:=p.je;have cV:L.sb<W.heap.size:=(bf.1 p.dL).1;have dx:xb<W.heap.size:=(bf.1 p.box).1;subst y2;refine(aev lc.c lc.rb lc.mb lc.ch lc.q lc.v _ k t.acc W.drew (y4.old<|(Below.refl _ W).drew) ⟨oY,Y⟩ (H.q s k y3)).m ?_;rintro e n ⟨rfl,g1,g2⟩;have aL:∀b,Z b=lc.q.ownBlock->L.own b=7+2*s:=λb e=>y5.2.2.2.2.1 b e.y;have O:aS (λb=>Z b=lc.q.ownBlock) W n:=⟨g2.os,g2.size,g2.block⟩;have e2:({L with cs:=L.cs.set s<|Z lc,own:=L.own}:cZ)=L:=by rw[yZ y1]
   have k1:aE n (t.at s<|k.num t.acc) xb L:=by have:=p.client (cq:=L.own) (l':=lc) y1 U y3 O (λb _ e=>aL b e) (show lc.At n t.g (k.num t.acc) from g1) (λ_ _=>U) y5;rw[e2]at this;exact this
   have k2:aE (n.setCell (F xb 11)<|I (bL t.acc k.q).2) (t.eV s) xb L:=by rw[cL];exact k1.put 11 _ _ U U U U U U ⟨U,U,U⟩
   have bw:aS (λb=>b=xb\/Z b=lc.q.ownBlock) W (n.setCell (F xb 11)<|I (bL t.acc k.q).2):=by refine⟨O.os,by simpa using O.size,λb G hx=>?_⟩;rw[Below.heap_setCell n _ _ b<|λe=>hx (aA e)];exact O.block b G λe=>hx (az e)
   have bH:∀b,(b=xb\/Z b=lc.q.ownBlock)->L.own b≠0:=λb e=>by rcases e with e|e;rw[e];omega;rw[aL b e];omega
   have bG:∀b,b<W.heap.size->L.own b=0->(n.setCell (F xb 11)<|I (bL t.acc k.q).2).heap[b]? =W.heap[b]? :=λb G h0=>bw.block b G λe=>bH b e h0;refine⟨U,?_,aD k1.box U,bp k1.box 11,?_⟩;refine aD ((O.block m (cS bC u.size) λe=>?_).t C) U;have:=aL m e;omega;refine⟨⟨bG _ Y<|aC _ Y,bG _ Y<|aC _ Y⟩,bw.block _ cV λe=>?_,?_⟩;rcases e with e|e;rw[e]at cW;omega;have:=aL _ e;omega;show aE _ ((pre++[lc.c]).foldl (λa c=>a.eV (d c)) f) xb L/\wJ f ((pre++[lc.c]).foldl (λa c=>a.eV (d c)) f) (pre++[lc.c]).length/\_;rw[cD];exact⟨k2,by simpa using (H.next s),u.t<|bw.m λb _ e=>bH b e⟩
  have HI:Hid (aE W (pre.foldl (λa c=>a.eV (d c)) f) xb L):=p;clear p H u C;gi_wp2;refine JA (S:=λW=>W.cell? (F m 0)=Z (pt xb)/\W.cell? (F xb 11)=Z (I E)) 9 aW ⟨cB,bU⟩ λhH=>?_;apply tg [0,1,2,3,4,5];refine jr 6 λK Q=>?_;go_simp;refine⟨trivial,?_⟩;refine(rI l<|callsIn_wide.2 HN.u).m ?_;rintro e n ⟨rfl,bV,bT,dg,cC⟩;refine Q.u _ _ ⟨bV,bT⟩ λMI=>?_;apply tg [7,8];refine jz λK Q=>?_;go_simp;refine Q.u _ _ ?_;refine Jz aW ?_ _;exact cC.u
 case done=>rintro N W rfl ⟨p,H,u⟩ cj;have cr:=(u.block D cu (by simp[bD])).t X.u.2.2;have cm:D≠z.heap.size:=Y;gi_wp2;have ck:(W.putObj z.heap.size<|.deferred aj).heap[D]? =Z (.deferred<|Z []):=(gq cm).t cr;refine⟨ay,aA ⟨_,_,U,rU (P:=prog) cj,ay,aA ⟨_,_,U,rU ck,θ #[],by simp[results,results62],U,?_,?_⟩⟩⟩;rw[cw];have cK:L.own z.heap.size=0:=aC _ Y;refine p.yE λb G ho=>?_;have e2:b≠z.heap.size:=λe=>ho (by rw[e];exact cK);rw[gq (λe=>ho (by rw[e];exact bD)),gq e2];refine⟨u.os,by simpa using u.size,λk J an=>?_⟩;rw[gq<|λe=>an (aA e),gq Y];exact u.block k J λe=>an (az e)
 case stop=>exact λ_ _ _ h _=>h.e
end
section
open Classical
def aE.V0{W W' f xb L}(h:aE W f xb L){K' cs' cq}(E:K'.length=f.K.length)(A:∀b,b<W.heap.size->(∀s,L.own b≠7+2*s)->W'.heap[b]? =W.heap[b]?)(r:∀b,b<W.heap.size->cq b=L.own b)(z:yh W' cq f.g K' cs')(hc:(cs'.map λl=>l.map Lc.c)=L.as):
  aE W' {f with K:=K'} xb {L with cs:=cs',own:=cq}:=by
 have a:fT W W' L.own cq λt=>∃s,t=7+2*s:=⟨λb x B=>A b x λs e=>B ⟨s,e⟩,r⟩;have b1:=a.blk h.box h.eR Y;have i:=a.blk h.dL h.je Y;have j:=a.row h.bD h.jP Y;have m:=a.row h.log h.ni Y;have p:=a.fG h.fG h.jH Y;refine⟨?_,b1.2,?_,i.2,z,a.js h.js (λs lc C=>?_) (λn=>by rintro⟨s,e⟩;omega),a.pZ h.fl Y,j.1,j.2,m.1,m.2,p.1,p.2⟩;have e:=b1.1
 grind
 show Ai W' L.sb (cs'.map λl=>l.map Lc.c);rw[hc];exact i.1;have d:(cs'.map λl=>l.map Lc.c)[s]? =Z (Z lc.c):=by rw[hc,qC,C];rfl
 rw[qC]at d;rcases hx:cs'[s]? with _|o;rw[hx]at d;cases d;rw[hx]at d;cases o with
 |none=>cases d
 |some D=>exact⟨D,U,by simpa using d⟩
def Lc.Mine(l:Lc)(b:Nat):Prop:=b=l.c\/b=l.rb\/b=l.mb\/b=l.ch\/l.q.ownBlock=Z b\/l.v.ownBlock=Z b
def Lc.iC.mine{l:Lc}{P}(h:l.iC P){b}(a:l.Mine b):P b:=by rcases a with rfl|rfl|rfl|rfl|e|e;exact h.1;exact h.2.1;exact h.2.2.1;exact h.2.2.2.1;exact h.2.2.2.2.1 b e;exact h.2.2.2.2.2 b e
def Lc.mine(l:Lc):l.iC l.Mine:=⟨aA U,az<|aA U,az<|az<|aA U,az<|az<|az<|aA U,λ_ e=>az (az<|az<|az<|aA e),λ_ e=>az (az<|az<|az<|az e)⟩
section
variable [an] {ρ:Ren} {u w:aq}
def Ud{s v}(hf:mN (@rv _ s v)):@rv _ s v=v:=by cases v<;>first|(simp only[rv];done)|(simp only[rv]at hf;exact hf.e)
def Ue{v}(hf:mN v):VR ρ v v:=λ_ _=>by cases v<;>first|exact hf.e|(simp only[rv];done)
def abi{s}(a:Ag ρ s){x x'}(hf:∀u∈x.toList,mN u)(h:mV ρ x x'):x'=x:=by have e:=h s a;subst e;exact((uf λv hv=>Ud (hf _<|vG.2<|rC.2 ⟨v,hv,U⟩)).t<|xO x').y
def VR.slice{a}(h:ρ a.block a.block)(n c):VR ρ (ζ (Z a) n c) (ζ (Z a) n c):=λg b=>by simp only[rv,ra,eO,b _ _ h]
def VR.map{r}(h:ρ r r):VR ρ (.map<|Z r) (.map<|Z r):=λg a=>by simp only[rv,eO,a _ _ h]
def VR.chan{r}(h:ρ r r):VR ρ (.chan<|Z r) (.chan<|Z r):=λg a=>by simp only[rv,eO,a _ _ h]
def VR.ahu(n c):VR ρ (ζ aj n c) (ζ aj n c):=λg a=>by simp only[rv,iA]
def XC(p:Wl (λ_=>False) ρ u w){T k n:Nat}{v a:aB}{xs:av aB}(hr:u.ownsRow 0 T k v n xs)(D:nP u v)(hv:VR ρ v a):w.ownsRow 0 T k a n xs/\nP w a/\∀g,a.ownBlock=Z g->ρ.im g:=by
 obtain⟨s,d⟩:=nk (λ_=>False) p.jU;rcases hr.2 with⟨e,r⟩|⟨g,cap,b,e,H,l,t,x,A,B⟩;subst e;have:=Xa d.to hv;subst this;exact⟨⟨hr.1,aA ⟨U,r⟩⟩,Et w,λg C=>by cases C⟩;subst e;have e:=hv s d.to;cases a<;>simp only[rv,G8,reduceCtorEq]at e;rename_i f _ _;obtain⟨e,rfl,rfl⟩:=e;cases f with
 |none=>cases e
 |some f=>
  obtain⟨h,K,z⟩:=f;simp only[eO,we,ra,Zm]at e;obtain⟨e,rfl,rfl⟩:=e;have j:=d.of h j4;rw[<-e]at j;have m:∀u∈b.toList,mN u:=Jm D l;obtain⟨J,E,G,_⟩:=LQ p j l;have o:w.heap[h]? =Z (au b T (0,0)):=by rw[E,abi d.to m G]
  refine⟨⟨hr.1,az ⟨h,cap,b,U,cO _,o,t,x,A,B⟩⟩,λg2 i=>?_,λg2 i=>?_⟩;cases i;exact⟨b,T,o,m⟩;cases i;exact⟨_,j⟩
def WH(i:Wl (λ_=>False) ρ u w){a b o}(l:ρ a b)(m:u.heap[a]? =Z o):∃s:Sg,Ag ρ s/\∃d,w.heap[b]? =Z d/\o=@ro _ s d/\kd o=kd d:=by obtain⟨s,h⟩:=i.ag;obtain⟨o,d,h0,j,f⟩:=cX.obj i l id;rw[show((u.tp<|laid u w).heap)[a]? =_ from m]at h0;cases h0;have e:=(f.2 s h).1;exact⟨s,h,d,j,e,by rw[e];exact @yM _ s d (by rw[<-e];exact f.1)⟩
def ajD{s v}(h:@rv _ s v=ν #[]):v=ν #[]:=by cases v<;>simp_all[rv]
def ajH(o:Wl (λ_=>False) ρ u w){mb us}(hm:ρ mb mb)(h:Uses u mb us):Uses w mb us:=by
 obtain⟨n,C,i,b,j,l⟩:=h;obtain⟨s,E,A,B,e,a⟩:=WH o hm i;cases A<;>first|cases a|skip
 rename_i f D;simp only[ro,F5]at e;obtain⟨e,rfl⟩:=e;have:n=f:=by
  rw[e];refine(uf λm hm=>?_).t<|xO f;obtain⟨G,d⟩:=b.reads (re m) (vG.2 j4);obtain⟨x,a,_,_⟩:=D9 (q:=.i64) aW (G9 d);obtain⟨z,p,_⟩:=H7 d;obtain⟨hv,_⟩:=unitElem_inv p;have r:=Ud (by rw[show rv m.key=_ from a];trivial);have t:rv m.val=m.val:=by rw[show rv m.val=_ from hv,ajD hv]
  unfold re;rw[r,t]
 subst this;exact⟨_,_,B,b,j,l⟩
variable {c rb mb ch:Nat} {g:Cf} {k:Ck} {q v:aB}
def cg.DN(f:Wl (λ_=>False) ρ u w)(hc:ρ c c)(hr:ρ rb rb)(hm:ρ mb mb)(o:ρ ch ch)(h:cg u c rb mb ch q v g k):∃j b,cg w c rb mb ch j b g k/\(⟨c,rb,mb,ch,j,b⟩:Lc).iC ρ.im:=by
 obtain⟨s,d⟩:=f.ag;obtain⟨l,x,_,C,D⟩:=LQ f hc h.p.box;have key:=D;obtain⟨j,A,Q⟩:=key 13 q U;obtain⟨b,B,R⟩:=key 16 v U;have r:l=kO g k rb j b ch:=by
  have num:∀(i:Nat) (t:IntKind) (n:Int),(kO g k rb q v ch)[i]? =Z (ι t n)->l[i]? =Z (ι t n):=λi t n E=>by obtain⟨b,a1,a⟩:=key i _ E;rw[a1,Jt d a]
  apply By;intro i;match i with
  |0=>exact num 0 _ _ U
  |1=>exact num 1 _ _ U
  |2=>exact num 2 _ _ U
  |3=>exact num 3 _ _ U
  |4=>exact num 4 _ _ U
  |5=>exact num 5 _ _ U
  |6=>exact num 6 _ _ U
  |7=>exact num 7 _ _ U
  |8=>exact num 8 _ _ U
  |9=>exact num 9 _ _ U
  |10=>exact num 10 _ _ U
  |11=>obtain⟨b,a1,a⟩:=key 11 _ U;rw[a1,Xb d hr a];rfl
  |12=>obtain⟨b,a1,a⟩:=key 12 _ U;rw[a1,WZ d a];rfl
  |13=>exact A
  |14=>exact num 14 _ _ U
  |15=>exact num 15 _ _ U
  |16=>exact B
  |17=>exact num 17 _ _ U
  |18=>exact num 18 _ _ U
  |19=>exact num 19 _ _ U
  |20=>obtain⟨b,a1,a⟩:=key 20 _ U;rw[a1,Yw d o a];rfl
  |n+21=>have S:l.size=21:=C;rw[vC Y];rfl
 rw[r]at x;obtain⟨J,K,L⟩:=XC f h.p.row h.p.tq Q;obtain⟨p1,N,O⟩:=XC f h.p.u h.p.tv R;obtain⟨rp,z,P⟩:=h.rd;refine⟨j,b,⟨⟨x,J,p1,K,N,?_⟩,rp,⟨?_,ajH f hm z.uses⟩,P⟩,⟨_,hc⟩,⟨_,hr⟩,⟨_,hm⟩,⟨_,o⟩,L,O⟩;obtain⟨s,_,H,V,e,G⟩:=WH f o h.p.chan;cases H<;>first|cases G|skip
 simp only[ro]at e;split at e;rename_i T;grind;cases e;obtain⟨l,m1,_,m2,m⟩:=LQ f hr z.box;have r:l=#[I g.sz,I g.mx,I rp,.map<|Z mb]:=by
  apply By;intro i;match i with
  |0=>obtain⟨b,a1,a⟩:=m 0 _ U;rw[a1,Jt d a];rfl
  |1=>obtain⟨b,a1,a⟩:=m 1 _ U;rw[a1,Jt d a];rfl
  |2=>obtain⟨b,a1,a⟩:=m 2 _ U;rw[a1,Jt d a];rfl
  |3=>obtain⟨b,a1,a⟩:=m 3 _ U;rw[a1,Ys d hm a];rfl
  |n+4=>grind
 rwa [r]at m1
def XD{C:Nat->Prop}{T k n:Nat}{v:aB}{xs:av aB}(hr:u.ownsRow 0 T k v n xs)(a:∀b,v.ownBlock=Z b->C b):VR (gu C) v v:=by rcases hr.2 with⟨e,f⟩|⟨g,cap,d,e,h⟩;subst e;exact .ahu _ _;subst e;exact .slice ⟨rfl,a g rfl⟩ _ _
def Lc.At.closed{l:Lc}(h:l.At u g k):Closed l.Mine u:=by
 have a:=l.mine;have t:=XD (C:=l.Mine) h.p.row a.2.2.2.2.1;have hv:=XD (C:=l.Mine) h.p.out a.2.2.2.2.2;obtain⟨rp,j,J⟩:=h.rd;rintro b (rfl|rfl|rfl|rfl|e|e);·refine⟨_,h.p.box,DX (λx d=>?_) _ _⟩;simp at d;rcases d with rfl|rfl|rfl|rfl|rfl|rfl|rfl|rfl|rfl|rfl|rfl|rfl|rfl|rfl|rfl|rfl|rfl|rfl|rfl|rfl|rfl;all_goals first|exact .int _ _|exact .string _|exact t|exact hv|exact .ptr ⟨rfl,a.2.1⟩|exact .chan ⟨rfl,a.2.2.2.1⟩
 ·refine⟨_,j.box,DX (λx d=>?_) _ _⟩;simp at d;rcases d with rfl|rfl|rfl|rfl;all_goals first|exact .int _ _|exact .map ⟨rfl,a.2.2.1⟩
 obtain⟨r,E,n,o,G,H⟩:=j.uses;refine⟨_,n,p9,λs A=>⟨?_,U⟩⟩;simp only[ro,F5,xY];refine((uf λm hm=>?_).trans<|xO r).symm;obtain⟨K,i⟩:=o.reads m (vG.2 hm);obtain⟨x,f,_,_⟩:=D9 (q:=.i64) aW (G9 i);obtain⟨z,B,_⟩:=H7 i;obtain⟨hv,_⟩:=unitElem_inv B;obtain⟨a1,D,a3⟩:=m;simp only at f hv;subst f hv;simp[re,rv];exact⟨_,h.p.chan,p9,λs A=>⟨akX,U⟩⟩;obtain⟨x,T,t1,t2⟩:=h.p.tq b e;exact⟨_,t1,DX (λv hv=>Ue (t2 v<|vG.2 hv)) _ _⟩;obtain⟨x,T,t1,t2⟩:=h.p.tv b e;exact⟨_,t1,DX (λv hv=>Ue (t2 v<|vG.2 hv)) _ _⟩
end
end
section
open Classical
open Go.ConcR (Payload)
def Ck.dQ(g:Cf)(k:Ck):Ck:=Ck.read g (k.aN.size+1) k
def Fx.readAll(f:Fx):Fx:={f with K:=f.K.map λo=>o.map (Ck.dQ f.g)}
section
variable {u:aq} {f:Fx} {xb:Nat} {L:cZ}
def aE.tp(h:aE u f xb L)(a:Tape):aE (u.tp a) f xb L:=h.old λ_ _=>U
def aE.XJ(h:aE u f xb L){s a:Nat}{l l'}(g:L.cs[s]? =Z (Z l))(i:L.cs[a]? =Z (Z l'))(e:l.c=l'.c):s=a:=by let⟨j,b⟩:=h.OB;have a1:=b s l.c j4;have d:=b a l'.c j4;rw[e]at a1;omega
def aE.who(h:aE u f xb L):∃aqc:Nat->Lc×Ck×Nat,∀(s:Nat) l,L.cs[s]? =Z (Z l)->(aqc l.c).1=l/\(aqc l.c).2.2=s/\f.K[s]? =Z (Z (aqc l.c).2.1)/\l.At u f.g (aqc l.c).2.1/\l.iC λb=>L.own b=7+2*s:=by
 have n:∀c:Nat,∃x:Lc×Ck×Nat,∀(s:Nat) l,L.cs[s]? =Z (Z l)->l.c=c->x.1=l/\x.2.2=s/\f.K[s]? =Z (Z x.2.1)/\l.At u f.g x.2.1/\l.iC λb=>L.own b=7+2*s:=λc=>by by_cases e:∃(s:Nat) (l:Lc),L.cs[s]? =Z (Z l)/\l.c=c;let⟨s,l,a,d⟩:=e;let⟨p,k,i,r,t,v,w⟩:=h.Eh (s:=s) (c:=c) j4;rw[a]at i;cases i;refine⟨⟨l,k,s⟩,λq o j m=>?_⟩;obtain rfl:=h.XJ a j (d.t m.y);grind;exact⟨⟨⟨0,0,0,0,ζ aj 0 0,ζ aj 0 0⟩,⟨0,0,0,⟨#[]⟩,[],0,0,⟨#[]⟩,0,0,0,[]⟩,0⟩,λs l a d=>absurd ⟨s,l,a,d⟩ e⟩
 let⟨aqc,hF⟩:=Zy n;exact⟨aqc,λs l a=>hF l.c s l a U⟩
end
section
variable [an] [Payload] {l:av aZ} {u:aq} {f:Fx} {xb:Nat} {L:cZ} {aqc:Nat->Lc×Ck×Nat}
def RA(g:Cf)(aqc:Nat->Lc×Ck×Nat)(c:Nat)(e:Ending)(u:aq):Prop:=e=aG (θ #[])/\∃q v,cg u c (aqc c).1.rb (aqc c).1.mb (aqc c).1.ch q v g (Ck.dQ g (aqc c).2.1)
abbrev yr(u:aq)(f:Fx)(L:cZ)(aqc:Nat->Lc×Ck×Nat):Prop:=∀(s:Nat) l,L.cs[s]? =Z (Z l)->(aqc l.c).1=l/\(aqc l.c).2.2=s/\f.K[s]? =Z (Z (aqc l.c).2.1)/\l.At u f.g (aqc l.c).2.1/\l.iC λb=>L.own b=7+2*s
def aE.enters(h:aE u f xb L)(hF:yr u f L aqc)(B:Fit prog l)(D:an.ok 103)(E:an.ok 99)(C:an.known 62)(G:an.dU 62=[])(x:f.K.length<=65535)(t:∀(s:Nat) k,f.K[s]? =Z (Z k)->k.CF f.g):
  Enters l (λc=>(aqc c).1.Mine) (RA f.g aqc) u L.as xb L.sb f.K.length:=by
 letI:bJ:=eL []
 have hS:=h.IP x
 have mine:∀{s c b:Nat},L.as[s]? =Z (Z c)->(aqc c).1.Mine b->L.own b=7+2*s:=λ{s c b} d a=>by obtain⟨l,j,rfl⟩:=An d;obtain⟨i,_,_,_,r⟩:=hF s l j;rw[i]at a;exact r.mine a
 refine⟨B,D,E,C,G,hS.2.1,Y,hS.1,hS.2.2,⟨_,h.dL,by simp[cC]⟩,λs c d=>?_,λs V c P d T S b a R=>?_,λs c d=>⟨λa=>?_,λa=>?_⟩,λc e u n hr=>⟨hr.1,?_⟩,λc e u hr=>⟨_,hr.1⟩,λs c d w H _ _ n=>?_⟩;obtain⟨l,j,rfl⟩:=An d;obtain⟨i,_,_,m,_⟩:=hF s l j;show Closed (aqc l.c).1.Mine u/\(aqc l.c).1.Mine l.c;rw[i];exact⟨m.closed,aA U⟩;have:=mine d a
 grind
 have:=mine d a;have:=h.eR;omega;have:=mine d a;have:=h.je;omega;obtain⟨q,v,hr⟩:=hr.2;exact⟨q,v,hr.keep (O:=λ_=>True) ⟨trivial,trivial,trivial,trivial,λ_ _=>trivial,λ_ _=>trivial⟩ λ_ _ _=>U⟩;obtain⟨l,j,rfl⟩:=An d;obtain⟨i,Q,o,m,_⟩:=hF s l j
 have z:cg ((mask (aqc l.c).1.Mine w).tp n) l.c l.rb l.mb l.ch l.q l.v f.g (aqc l.c).2.1:=by have p:cg u l.c l.rb l.mb l.ch l.q l.v f.g (aqc l.c).2.1:=m;rw[i];exact p.keep (O:=l.Mine) l.mine λb a _=>(xp a).t (H b j4)
 refine callsIn_wide.1<|(dQ l.c _ _ _ _ _ f.g _ _ z<|t s _ o).m ?_;rintro e W ⟨A,J,N,hr⟩;refine⟨A,J,N,?_⟩;rw[i];exact hr
structure J8(u u':aq)(f:Fx)(xb:Nat)(L a:cZ):Prop where
 at_:aE u' f.readAll xb a
 own:∀b,b<u.heap.size->a.own b=L.own b
 new:∀b,u'.heap.size<=b->a.own b=0
 sb:a.sb=L.sb
def abC{u' B1 Wg B2 D}(h:aE u f xb L)(hF:yr u f L aqc)(m:After (λc=>(aqc c).1.Mine) (RA f.g aqc) L.as u u' xb B1 Wg B2 D):
  ∃C,J8 u u' f xb L C/\C.own B1=0/\C.own D=0/\aS (λb=>L.own b≠0) u u':=by
 letI:bJ:=eL []
 obtain⟨j,i1,P,i3⟩:=m.reads
 have key:∀c:Nat,∃x:aB×aB,c∈sat L.as->cg u' c (aqc c).1.rb (aqc c).1.mb (aqc c).1.ch x.1 x.2 f.g (Ck.dQ f.g (aqc c).2.1)/\(⟨c,(aqc c).1.rb,(aqc c).1.mb,(aqc c).1.ch,x.1,x.2⟩:Lc).iC λb=>j c b/\b<u'.heap.size:=λc=>by
  by_cases n:c∈sat L.as;obtain⟨uc,bq,v,⟨_,q0,v0,p⟩,r,Q,h5⟩:=i3 c n;obtain⟨s,N⟩:=Ig.1 n;obtain⟨l,y1,rfl⟩:=An N;obtain⟨t,_,_,_,_⟩:=hF s l y1;have E:=(aqc l.c).1.mine;have G:(aqc l.c).1.Mine l.c:=by rw[t];exact aA U
  obtain⟨q',v',m1,m2⟩:=cg.DN Q (r _ _ ⟨U,G⟩) (r _ _ ⟨U,E.2.1⟩) (r _ _ ⟨U,E.2.2.1⟩) (r _ _ ⟨U,E.2.2.2.1⟩) p;exact⟨(q',v'),λ_=>⟨m1,m2.m λb ⟨a,R⟩=>⟨h5 a b R,(Q.dom a b R).2⟩⟩⟩;exact⟨(y,y),λh=>absurd h n⟩
 obtain⟨B,aL⟩:=Zy key
 let A:Nat->Nat:=λb=>if b<u.heap.size then L.own b else if e:∃(s:Nat) (l:Lc),L.cs[s]? =Z (Z l)/\j l.c b/\b<u'.heap.size then 7+2*e.choose else 0
 have V:∀{s:Nat} {l:Lc},L.cs[s]? =Z (Z l)->l.c∈sat L.as:=λ{s l} i=>Ig.2 ⟨s,by rw[qC,i];rfl⟩
 have mine:∀{s:Nat} {l:Lc} {b:Nat},L.cs[s]? =Z (Z l)->(aqc l.c).1.Mine b->L.own b=7+2*s:=λ{s l b} i d=>by obtain⟨t,_,_,_,e5⟩:=hF s l i;rw[t]at d;exact e5.mine d
 have aK:∀{s:Nat} {l:Lc} {b:Nat},L.cs[s]? =Z (Z l)->j l.c b->b<u'.heap.size->A b=7+2*s:=λ{s l b} i d aJ=>by by_cases O:b<u.heap.size;show(if b<u.heap.size then L.own b else _)=_;rw[aO O];exact mine i<|(P _ b (V i) d).2.2.2 O;have e:∃(s:Nat) (l:Lc),L.cs[s]? =Z (Z l)/\j l.c b/\b<u'.heap.size:=⟨s,l,i,d,aJ⟩;show(if b<u.heap.size then L.own b else if e:∃(s:Nat) (l:Lc),L.cs[s]? =Z (Z l)/\j l.c b/\b<u'.heap.size then 7+2*e.choose else 0)=_;rw[aI O,wy e];obtain⟨l',p,r,_⟩:=e.choose_spec;rw[h.XJ p i j4]
 have S:∀b,b<u.heap.size->(∀s,L.own b≠7+2*s)->u'.heap[b]? =u.heap[b]? :=λb d H=>m.kept b d λs c N hm=>by obtain⟨l,p,rfl⟩:=An N;exact H s<|mine p hm
 have aH:yh u' A f.g (f.K.map λo=>o.map (Ck.dQ f.g)) (L.cs.map λo=>o.map λl=>{l with q:=(B l.c).1,v:=(B l.c).2}):=by
  refine⟨by rw[pI,pI];exact h.cs.len,λs x bp W hy=>?_⟩;rw[qC,gJ]at W hy;obtain⟨x0,X,rfl⟩:=W;obtain⟨y0,z,rfl⟩:=hy;have:=h.cs.at_ s _ _ X z;rcases x0 with _|k;cases y0 with
  |none=>trivial
  |some l=>exact this.e
  cases y0 with
  |none=>exact this.e
  |some l=>obtain⟨t,_,e3,_,_⟩:=hF s l z;rw[X]at e3;have an:k=(aqc l.c).2.1:=j4;have J:=aL l.c (V z);rw[t]at J;refine⟨?_,?_⟩;rw[an];exact J.1;exact J.2.m λb d=>aK z d.1 d.2
 have T:∀b,u.heap.size<=b->(∀c,c∈sat L.as->¬j c b)->A b=0:=λb d w=>by grind
 refine⟨{L with cs:=L.cs.map λo=>o.map λl=>{l with q:=(B l.c).1,v:=(B l.c).2},own:=A},⟨?_,λb d=>aO d,λb d=>?_,U⟩,?_,?_,⟨m.os,m.size,λb d H=>?_⟩⟩;refine h.V0 j4 S (λb d=>aO d) aH ?_;rw[List.map_map]
 congr 1
 funext o
 cases o<;>rfl;show(if b<u.heap.size then L.own b else if e:∃(s:Nat) (l:Lc),L.cs[s]? =Z (Z l)/\j l.c b/\b<u'.heap.size then 7+2*e.choose else 0)=0;have:=m.size;rw[aI Y,dif_neg];rintro⟨s,l,p,_,r⟩;omega;exact T B1 m.news.1 λc n w=>(P c B1 n w).1 U;exact T D m.news.2.2.2 λc n w=>(P c D n w).2.2.1 U;refine S b d λs e=>H ?_;rw[e];omega
def aE.S5(h:aE u f xb L)(P:Fit prog l)(T:eW prog l aa (xH f62)=M)(R:an.ok 103)(S:an.ok 99)(Q:an.known 62)(W:an.dU 62=[])(t:f.K.length<=65535)(N:∀(s:Nat) k,f.K[s]? =Z (Z k)->k.CF f.g)(V:∀(s:Nat) k,f.readAll.K[s]? =Z (Z k)->k.q.length<=1048576)(O:0<=f.acc/\f.acc<=140737488355328)(_hnew:∀x,u.heap.size<=x->L.own x=0):
  dX prog 62 #[pt xb] u λe i=>e=aG (θ #[])/\∃c,aE i f.readAll.mG xb c/\(∀b,b<u.heap.size->c.own b=L.own b)/\aS (λb=>L.own b≠0) u i:=by
 obtain⟨aqc,hF⟩:=h.who;refine S7 (h.enters hF P R S Q W t N) T ?_ (λe u hr=>⟨_,hr.1⟩) λi w A z D j m=>?_;rintro e i m ⟨d,c,o,p,a⟩;exact⟨d,c,o.tp m,p,⟨a.os,a.size,a.block⟩⟩;obtain⟨c,d,o,p,a⟩:=abC h hF j;have X:=WY xb w A z D f.readAll c (i.tp m) (d.at_.tp m) (by show(f.K.map _).length<=_;rw[pI];exact t) V O d.new j.b1 o j.df p;obtain⟨e,w',J,⟨B,C,n⟩,E,G,H⟩:=V4 (b:=eD) func62 U U U X [bot prog];refine⟨e,w',J,⟨B,c,C,d.own,⟨n.os.t a.os,cM a.size n.size,λb r v=>(n.block b (cS r a.size) ?_).t (a.block b r v)⟩⟩,E,G,H⟩;rintro(rfl|e);have:=j.news.2.2.2;omega;rw[d.own b r]at e;exact v e
end
end
section
open Go.ConcR (Payload)
abbrev YC(xb:Nat)(a:Int)(b D:Nat)(stop:Bool):Act:=⟨#[pt xb,y,y,pt xb,pt xb,π (Z (F xb 13)),I a,I (a+1),pt xb,π (Z (F xb 13)),pt xb,.func (.func 99) #[] #[pt b],y,y,y,pt xb,pt xb,π (Z (F xb 14)),ω stop,ω !stop,y,y,y,y,y,y,y,y],[{target:=.collected D,args:=#[]}]⟩
abbrev Pq(xb:Nat)(a:Int)(b D:Nat)(stop:Bool)(c d e f:aB):Act:=⟨#[pt xb,y,y,pt xb,pt xb,π (Z (F xb 13)),I a,I (a+1),pt xb,π (Z (F xb 13)),pt xb,.func (.func 99) #[] #[pt b],y,y,y,pt xb,pt xb,π (Z (F xb 14)),ω stop,ω !stop,c,d,e,f,y,y,y,y],[{target:=.collected D,args:=#[]}]⟩
def opsOf:fu->aF Oper|.region _ a _=>a|_=>#[]
section
variable [an] {l:av aZ}
def WX.R9{P:bM}{Q:Exit->Act->aq->Prop}{a:Act}{u:aq}{ops:aF Oper}{id d f:Nat}{b g:Oper}{j:aF aY}{fn:Func}{body:fu}{v:aB}(h:Fit P l)(hr:dA ops.size=[0,1])(h0:ops[0]? =Z b)(hm:b.op=.move (.tmp 0))(hd:b.dst=Z d)(q:b.guard=aj)(n:ops[1]? =Z g)(x:g.op=.call {callee:=.value<|.func f,args:=#[.tmp d],argTypes:=j}) (s:g.guard=aj)
  (p:P.funcs[f]? =Z fn) (w:(fn.name== "runtime.NumGoroutine")=aa) (o:fn.body=Z body) (t:an.known f) (z:an.dU f=[]) (hv:a.eval (.tmp 0)=v) (A:(a.put (Z d) v).eval (.tmp d)=v)
  (c:dX P f #[v] u λe i=>∃r,e=aG r/\Q .normal ((a.put (Z d) v).put g.dst r) i):WX P (.region id ops aa) Q a u:=by
 refine GX.region ?_;rw[hr];refine OX.value (v:=v) (u1:=u) h h0 (by simp[cY,q]) (by rw[hm];rfl) (λB=>?_) ?_;unfold execOp;rw[hm];simp[hv];rw[hd];refine OX.call h n (by simp[cY,s]) x p w o t z (by simp[dY]) ?_;have:(#[Operand.tmp d].map (a.put (Z d) v).eval)=#[v]:=j4
 rw[this];refine c.mono λe i ⟨r,k,m⟩=>⟨r,k,GO.nil m⟩
end
def Eu(fn:Func):fu:=dg (dg<|dg<|fn.body.getD .skip)
def Fx.goes(f:Fx):Fx:=if f.stop then f else f.readAll.mG
def Fx.ends(f:Fx):Fx:=Fx.fin f.fl.length f
def Fx.takes(f:Fx):Fx:=Fx.turns (f.fuel 0) 0 f
def Fx.lets(f:Fx):Fx:=f.bQ f.K.length
def Fx.early(f:Fx):Fx:={f with clock:=f.clock+1}.uS
def Fx.tick(f:Fx):Fx:=f.early.goes.ends.takes.lets
section
variable {u w:aq} {f:Fx} {xb:Nat} {L L0:cZ}
def bE.tp(h:bE w L u L0)(a:Tape):bE w L (u.tp a) L0:=⟨h.own,⟨h.cy.os,h.cy.size,h.cy.block⟩⟩
def bE.base{τ}(h:bE (w.tp τ) L u L0):bE w L u L0:=⟨h.own,⟨h.cy.os,h.cy.size,h.cy.block⟩⟩
def aE.norm(h:aE u f xb L)(hf:bE w L0 u L):∃c,aE u f xb c/\bE w L0 u c/\∀x,u.heap.size<=x->c.own x=0:=by refine⟨{L with own:=λb=>if b<u.heap.size then L.own b else 0},h.owns _ λb a=>aO a,⟨λb a=>?_,hf.cy⟩,λx d=>aI Y⟩;show(if b<u.heap.size then L.own b else 0)=L0.own b;rw[aO<|cS a hf.cy.size];exact hf.own b a
end
def UZ{u f xb L}(h:aE u f xb L)(j:0<=f.clock/\f.clock<=281474976710656):
  (lz f31).wp prog (λe a d=>e=.normal/\a=Po xb f.clock/\aE d {f with clock:=f.clock+1} xb L/\bE u L d L) ⟨#[pt xb,y,y,y,y,y,y,y,y,y,y,y,y,y,y,y,y,y,y,y,y,y,y,y,y,y,y,y],[]⟩ u:=by
 have m:=aJ u xb 13 (I f.clock) h.box;have f13:=bp h.box 13;have b:CE (f.clock+1)=f.clock+1:=by unfold CE;omega
 have c:aS (λi=>i=xb) u (u.setCell (F xb 13)<|I<|CE<|f.clock+1):=(aS.refl (λi=>i=xb) u).set (p:=F xb 13) U _
 have g:Hid (CE (f.clock+1)=f.clock+1/\aE (u.setCell (F xb 13)<|I<|CE<|f.clock+1) {f with clock:=f.clock+1} xb L/\bE u L (u.setCell (F xb 13)<|I<|CE<|f.clock+1) L):=⟨b,by rw[b];exact h.put 13 _ _ U U U U U U ⟨U,U,U⟩,⟨λ_ _=>U,c.m λk _ e=>by rw[e,h.eR];omega⟩⟩
 clear h c b j;generalize f.clock=n at*;simp only[lz,kv,oK,f31];go_wp2;exact g
def VD{u f xb L wW N0 D}(h:aE u f xb L):
  (l0 f31).wp prog (λe a b=>e=.normal/\a=YC xb wW N0 D f.stop/\b=u) (Pp xb wW N0 D) u:=by
 have c:=aJ u xb 14 (ω f.stop) h.box;generalize f.stop=stop at*;simp only[l0,kv,dg,oK,f31];go_wp2
def Vm(P Q:Fx->Prop)(v:nt P)(z:CO P)(p:Abides Q)(hS:∀f,Q f->f.sn){u f xb L wW N0 D st v20 v21}(h:aE u f xb L)(A:P f)(hPQ:P f.ends->Q f.ends):
  (Eu f31).wp prog (λe a q=>e=.normal/\a.defers=[{target:=.collected D,args:=#[]}]/\Q f.ends.takes/\∃b,aE q f.ends.takes.lets xb b/\bE u L q b) (Pq xb wW N0 D st v20 v21 y y) u:=by
 have r:=abB P v z u f xb L h A
 have t:Hid (∀c,(P f.ends/\∃b,aE c f.ends xb b/\bE u L c b)->Calls prog 64 #[aQ xb] c λe g=>e=aG (θ #[])/\Hid (Q f.ends.takes/\∃b,aE g f.ends.takes xb b/\bE u L g b)):=λc ⟨d,k,j,i⟩=>(abI Q p c f.ends xb k j<|hPQ d).m λe g ⟨m,x,b,n,o⟩=>⟨m,x,b,n,i.t o⟩
 have s:Hid (∀c,(Q f.ends.takes/\∃b,aE c f.ends.takes xb b/\bE u L c b)->Calls prog 65 #[aQ xb] c λe g=>e=aG (θ #[])/\Hid (Q f.ends.takes/\∃b,aE g f.ends.takes.lets xb b/\bE u L g b)):=λc ⟨d,k,j,i⟩=>(Mx c f.ends.takes xb k j (hS _ d) (p.Bq _ d).2.2.2.1).m λe g ⟨m,b,n,o⟩=>⟨m,d,b,n,i.t o⟩
 simp only[Eu,kv,dg,oK,f31];go_wp2_with (first|(go_at_call 63;apply r.m;rintro e c ⟨rfl,d⟩)|(go_at_call 64;apply(t _ d).m;rintro e B ⟨rfl,j⟩)|(go_at_call 65;apply(s _ j).m;rintro e C ⟨rfl,i⟩));exact⟨i.1,i.2⟩
structure Fx.RE(P:Fx->Prop)(f:Fx):Prop where
 clock:0<=f.clock/\f.clock<=281474976710656
 len:f.K.length<=65535
 rt:0<=f.g.rt/\f.g.rt<=65535
 bu:0<=f.g.bu/\f.g.bu<=65535
 tok:∀(s:Nat) k,f.K[s]? =Z (Z k)->0<=k.tok/\k.tok<=65535
 Ly:∀(s:Nat) k,f.early.K[s]? =Z (Z k)->k.CF f.early.g
 q:∀(s:Nat) k,f.early.readAll.K[s]? =Z (Z k)->k.q.length<=1048576
 acc:0<=f.early.acc/\f.early.acc<=140737488355328
 adf:f.early.K.length<=65535
 next:P f.early.goes
section
variable [an] {l:av aZ}
structure CR(l:av aZ):Prop where
 fit:Fit prog l
 tail:eW prog l aa (xH f62)=M
 oR:an.ok 103
 oS:an.ok 99
 kR:an.known 62
 t0:eW prog l aa (lz f31)=M
 t1:eW prog l aa (ma f31)=M
 t4:eW prog l aa (l0 f31)=M
 t67:eW prog l aa (Eu f31)=M
 vR:an.dU 62=[]
 vT:an.dU 31=[]
variable [Payload] {u:aq} {f:Fx} {xb:Nat} {L:cZ}
def aE.S6(P Q:Fx->Prop)(aH:nt P)(hE:CO P)(aL:Abides Q)(hS:∀f,Q f->f.sn)(h:aE u f xb L)(G:CR l)(p:f.RE P)(hPQ:P f.early.goes.ends->Q f.early.goes.ends):
  dX prog 31 #[pt xb] u λe d=>e=aG (.tuple #[])/\Q f.early.goes.ends.takes/\∃m,aE d f.tick xb m/\bE u L d m:=by
 have aS:(⟨#[pt xb]++oG (f31.ntmps - #[pt xb].size) y,[]⟩:Act)=⟨#[pt xb,y,y,y,y,y,y,y,y,y,y,y,y,y,y,y,y,y,y,y,y,y,y,y,y,y,y,y],[]⟩:=aW;have e5:lL f31=.region 5 (opsOf<|lL f31) aa:=aW;refine dX.aeB (n:=1) G.fit G.vT func31 (c:=.seq (lz f31)<|.seq (ma f31)<|.seq (.seq (l0 f31)<|.cond (.tmp 19) (lL f31) .skip)<|Eu f31) U ?_ (λe u hr=>⟨_,hr.1⟩) ?_
 ·rintro e d g ⟨i,j,m,k,o⟩;exact⟨i,j,m,k.tp g,o.tp g⟩
 rw[aS];refine GX.seq<|(WX.lift (Q:=λe a d=>e=.normal/\a=Po xb f.clock/\aE d {f with clock:=f.clock+1} xb L/\bE u L d L) G.fit G.t0 ?_ ?_ ?_ λg=>?_).mono ?_;rintro e a d g ⟨i,j,k,o⟩;exact⟨i,j,k.tp g,o.tp g⟩;rintro x a d ⟨h,_⟩;cases h;rintro a d ⟨h,_⟩;cases h
 ·exact wp_mono (UZ (h.tp g) p.clock) λe a d ⟨i,j,k,o⟩=>⟨i,j,k,o.base⟩
 rintro e a S ⟨rfl,rfl,bk,bq⟩;obtain⟨A,m1,t1,O⟩:=bk.norm bq;refine GX.seq<|(WX.lift (Q:=λe a d=>e=.normal/\∃r D,a=Pp xb f.clock r D/\S.heap.size<=D/\d.heap[D]? =Z (.deferred<|Z [])/\aE d f.early xb A/\bE u L d A/\S.heap.size<=d.heap.size) G.fit G.t1 ?_ ?_ ?_ λg=>?_).mono ?_;rintro e a d g ⟨i,r,D,j,k,o,z,B,h7⟩;exact⟨i,r,D,j,k,o,z.tp g,B.tp g,h7⟩;rintro x a d ⟨h,_⟩;cases h;rintro a d ⟨h,_⟩;cases h
 ·refine wp_mono (aas xb {f with clock:=f.clock+1} A f.clock (S.tp g) (m1.tp g) p.len p.rt p.bu p.tok O) ?_;rintro e a d ⟨i,r,D,j,k,o,z,B⟩;exact⟨i,r,D,j,k,o,z,t1.trans ⟨λ_ _=>U,⟨B.os,B.size,B.block⟩⟩,B.size⟩
 rintro e a T ⟨rfl,r,D,rfl,aN,J,m2,t2,jR⟩;have R:A.own D=0:=O D aN;have ak:D<T.heap.size:=(bf.1 J).1;have bz:=t1.cy.size;refine GX.seq<|GX.seq<|(WX.lift (Q:=λe a d=>e=.normal/\a=YC xb f.clock r D f.early.stop/\∃g,d=T.tp g) G.fit G.t4 ?_ ?_ ?_ λg=>?_).mono ?_;rintro e a d g ⟨i,j,aD,rfl⟩;exact⟨i,j,g,U⟩;rintro x a d ⟨h,_⟩;cases h;rintro a d ⟨h,_⟩;cases h
 ·exact wp_mono (VD<|m2.tp g) λe a d ⟨i,j,k⟩=>⟨i,j,g,k⟩
 rintro e a u3 ⟨rfl,rfl,g,rfl⟩;have m3:=m2.tp g;have t3:=t2.tp g
 have rest:∀(V W:aB) (s:aq) (t:cZ),aE s f.early.goes xb t->bE u L s t->t.own D=0->s.heap[D]? =Z (.deferred<|Z [])->WX prog (Eu f31) (λe a d=>e=.normal/\∀g,LeavesInM ig 1 prog f31 a.tmps (λe d=>e=aG (.tuple #[])/\Q f.early.goes.ends.takes/\∃m,aE d f.tick xb m/\bE u L d m) a.defers .returning<|aq.tp d g) (Pq xb f.clock r D f.early.stop V W y y) s:=λV W s t N t4 E d4=>by
  refine(WX.lift (a:=Pq xb f.clock r D f.early.stop V W y y) (Q:=λe a d=>e=.normal/\a.defers=[{target:=.collected D,args:=#[]}]/\Q f.early.goes.ends.takes/\∃m,aE d f.early.goes.ends.takes.lets xb m/\bE s t d m) G.fit G.t67 ?_ ?_ ?_ λaD=>?_).mono ?_;rintro e a d g ⟨i,j,k,m,o,z⟩;exact⟨i,j,k,m,o.tp g,z.tp g⟩;rintro x a d ⟨h,_⟩;cases h;rintro a d ⟨h,_⟩;cases h;·exact wp_mono (Vm P Q aH hE aL hS (N.tp aD) p.next hPQ) λe a d ⟨i,j,k,m,o,z⟩=>⟨i,j,k,m,o,z.base⟩
  rintro e a u6 ⟨rfl,hd,hp,L6,m6,t6⟩;refine⟨U,λX=>?_⟩;rw[hd];have ah:D<s.heap.size:=(bf.1 d4).1;refine⟨ay,aA ⟨_,_,U,rU ((t6.cy.block D ah (by simp[E])).trans d4),.tuple #[],by simp[results,results31],U,hp,L6,(m6.tp X).yE λb hb K=>gq λe=>K (by rw[e];exact (t6.own D ah).trans E),?_⟩⟩;have t7:=(t4.trans t6).tp X;have hu:=t7.cy.size;refine⟨t7.own,t7.cy.os,by simpa using t7.cy.size,λb hb K=>?_⟩;rw[gq Y];exact t7.cy.block b hb K
 unfold Exit.then;refine GX.cond (v:=!f.early.stop) U ?_;cases H:f.early.stop with
 |true=>
  rw[H]at rest;refine GX.skip ?_;have C:f.early.goes=f.early:=by unfold Fx.goes;rw[H];rfl
  rw[C]at rest;rw[show f.tick=f.early.ends.takes.lets by unfold Fx.tick;rw[C]]at rest⊢;have:=rest y y _ A m3 t3 R J;rw[C];exact this
 |false=>
  rw[H]at rest;have C:f.early.goes=f.early.readAll.mG:=by unfold Fx.goes;rw[H];rfl
  show WX _ (lL f31) _ _ _;rw[e5];refine WX.R9 (f:=62) (v:=pt xb) G.fit U U U U U U U U func62 U U G.kR G.vR U U ?_;refine(m3.S5 G.fit G.tail G.oR G.oS G.kR G.vR p.adf p.Ly p.q p.acc (λx hx=>O x (cM jR hx))).mono ?_;rintro e s ⟨rfl,t,N,E,t4⟩;refine⟨_,U,rest (pt xb) (.tuple #[]) s t (by rw[C];exact N) (t3.trans ⟨E,t4⟩) ((E D ak).trans R) ?_⟩;exact(t4.block D ak (by simp[R])).trans J
end
end
structure Cf.Is(g:Cf):Prop where
 sz:4<=g.sz/\g.sz<=256/\g.sz %4=0
 cl:1<=g.cl/\g.cl<=8
 qu:1<=g.qu/\g.qu<=8
 mx:4<=g.mx/\g.mx<=32/\g.mx %4=0
 qn:g.mx<=g.qn/\g.qn<=64
 rt:1<=g.rt/\g.rt<=16
 bu:1<=g.bu/\g.bu<=32
 wk:1<=g.wk/\g.wk<=8
 ou:g.mx+4<=g.ou/\g.ou<=256
structure Rq.Gd(g:Cf)(r:Rq):Prop where
 kd:0<=r.m.kd/\r.m.kd<=4
 ck:0<=r.m.ck/\r.m.ck<=65535
 of:0<=r.m.of/\0<=r.m.ln/\r.m.of+r.m.ln<=g.sz/\r.m.ln<=g.mx/\r.m.ln %4=0
 ln:r.m.kd≠2->0<r.m.ln
 z:r.m.kd=2->r.m.of=0/\r.m.ln=0
 dt:r.m.kd=1->(r.m.dt.size:Int)=r.m.ln
def Rq.Gd.ok{g}{r:Rq}(a:g.Is)(h:r.Gd g):r.Ok:=by have:=h.of;have:=a.sz;exact⟨Y,Y,Y,Y⟩
def Rq.Gd.size{g}{r:Rq}(a:g.Is)(h:r.Gd g):4<=sizeOf' r.m/\sizeOf' r.m<=36:=by have:=h.of;have:=a.mx;unfold sizeOf';split<;>omega
def Rq.Gd.cost{g}{r:Rq}(a:g.Is)(h:r.Gd g):1<=cw r.m/\cw r.m<=g.mx:=by have:=h.of;have:=a.mx;have:=h.ln;unfold cw;split<;>omega
structure Ck.In(g:Cf)(c:Int)(k:Ck):Prop where
 ph:0<=k.ph/\k.ph<=4
 wt:1<=k.wt/\k.wt<=4
 aN:k.aN.size<=1024
 q:∀r∈k.q,r.Gd g
 len:(k.q.length:Int)<=g.qu
 out:(k.u.size:Int)+k.prom<=g.ou
 tok:0<=k.tok/\k.tok<=32
 de:0<=k.de
 sv:0<=k.sv/\k.sv+32*k.tok<=1024*(c+1)
 us:wR k.us
abbrev Ck.In.u:=@Ck.In.out
def YI{sz kd fl of ln}(h:verdict sz kd fl of ln=0):kd<=5/\(kd≠0/\kd≠3/\kd≠1/\kd≠4->of=0/\ln=0)/\((kd=0\/kd=3\/kd=1\/kd=4)->ln≠0/\ln %4=0/\of %4=0/\of+ln<=sz):=by unfold verdict at h;split at h;omega;split at h;omega;split at h;split at h<;>omega;split at h;omega;split at h;split at h<;>omega;omega
def aaZ{g}(q:g.Is){ph us s}(h:accepted (first g.sz g.mx ph us s).1=M):(⟨(first g.sz g.mx ph us s).1,-1⟩:Rq).Gd g/\(first g.sz g.mx ph us s).1.ck∉us:=by
 have a:(first g.sz g.mx ph us s).1.wh=3/\(first g.sz g.mx ph us s).1.er=0/\(first g.sz g.mx ph us s).1.kd≠5:=by simpa[accepted]using h
 have A:=q.sz;have key:∀d:ByteArray,(bt s 1=1->(d.size:Int)=two s 7)->verdict g.sz (bt s 1) (bt s 2) (two s 5) (two s 7)=0->bt s 1≠5->¬(bt s 0≠81\/g.mx<two s 7\/two s 3∈us)->(⟨(xB s d<|verdict g.sz (bt s 1) (bt s 2) (two s 5)<|two s 7),-1⟩:Rq).Gd g/\two s 3∉us:=λd p hv x t=>by have v:=nU s 1;have w:=pF s 5;have o:=pF s 7;let⟨B,C,D⟩:=YI hv;have z:two s 7<=g.mx:=j4;have r:¬two s 3∈us:=λe=>t (az<|az e);refine⟨⟨?_,(pF s 3),?_,?_,?_,p⟩,r⟩;show 0<=bt s 1/\bt s 1<=4;omega;show 0<=two s 5/\0<=two s 7/\two s 5+two s 7<=g.sz/\two s 7<=g.mx/\two s 7%4=0;omega;show bt s 1≠2->0<two s 7;omega;show bt s 1=2->two s 5=0/\two s 7=0;omega
 unfold first at a⊢
 split at a;rename_i e;exfalso;rw[qb]at a;have:∀f i,(cL s f i).1.wh≠3:=by
  intro f;induction f with
  |zero=>intro i;unfold cL;split<;>simp[bh.zero]
  |succ f u=>intro i;unfold cL;split;simp[bh.zero];split;exact u _;simp[bh.closing]
 exact this 5 0 a.1;rename_i k;split at a;rename_i b;exfalso;unfold opt at a;split at a;simp[bh.zero]at a;split at a;simp[bh.closing]at a;simp at a;rename_i b;split at a;rename_i l;rw[aI k,aI b,aO l];unfold mH at a⊢;split at a;simp[bh.zero]at a;rename_i m;split at a;simp[bh.closing]at a;rename_i c;rw[aI m,aI c];split at a;rename_i j;rw[aO j];split at a;simp[bh.zero]at a;rename_i n;rw[aI n];refine key _ (λ_=>?_) a.2.1 a.2.2 c;have o:=pF s 7;have:(s.extract 9 (9+two s 7).toNat).size=(9+two s 7).toNat-9:=by rw[oH];omega
 omega;rename_i j;grind;simp[bh.zero]at a
def Xq(er:UInt8)(ck d):(jy er ck d).size=4+d.size:=by unfold jy;simp;rfl
def RO{g ph us s}:(gM g (first g.sz g.mx ph us s).1).size<=6:=by unfold gM;split;split;exact cO _;rw[Xq];exact(by decide:4+0<=6);unfold answer;split;split<;>exact(by decide:1<=6);split;rename_i a;split;simp;exact(by decide:1+2+2<=6);split;exact(by decide:1<=6);simp;have:=TZ g.sz g.mx ph us s;have e:(⟨#[85]⟩:ByteArray).size=1:=U;omega;exact cO _
section
variable {g:Cf} {c:Int} {k:Ck}
def aec{g}(a:g.Is){q}(h:∀r∈q,r.Gd g):6<=needs q:=by unfold needs;rcases q with _|⟨r,t⟩;exact fI _;have:=(h r fJ).size a;grind
def M4{ph}(h:0<=ph/\ph<=4)(m):0<=after ph m/\after ph m<=4:=by unfold after;grind
def Ck.In.hear(i:g.Is)(h:k.In g c)(hm:k.may g):(k.hear g<|first g.sz g.mx k.ph k.us k.aN).In g c:=by
 have j:=aec i h.q;have t:(gM g (first g.sz g.mx k.ph k.us k.aN).1).size<=6:=RO;have d:=λe=>aaZ (ph:=k.ph) (us:=k.us) (s:=k.aN) i e;have p:=hm.2.2;have o:=hm.2.1;generalize first g.sz g.mx k.ph k.us k.aN=x at*
 refine⟨M4 h.ph _,h.wt,?_,?_,?_,?_,h.tok,h.de,h.sv,?_⟩;show(k.aN.extract x.2.toNat k.aN.size).size<=1024;rw[oH];have:=h.aN;omega;show ∀r∈(if accepted x.1 then k.q++[⟨x.1,-1⟩]else k.q),r.Gd g;split;rename_i e;intro r hr;rcases jg.1 hr with hr|hr;exact h.q r hr;rw[iz.1 hr];exact(d e).1;exact h.q;show((if accepted x.1 then k.q++[⟨x.1,-1⟩]else k.q).length:Int)<=g.qu;grind;show((k.u++gM g x.1).size:Int)+k.prom<=g.ou;grind;show wR (if accepted x.1 then k.us++[x.1.ck]else k.us);split;rename_i e;have j:=(d e).2;refine⟨Ca.2 ⟨h.us.1,ay,λa l b m f=>?_⟩,λn hy=>?_⟩;rw[iz.1 m]at f;exact j (f▸l);rcases jg.1 hy with hy|hy;exact h.us.2 n hy;rw[iz.1 hy];exact((d e).1.ck);exact h.us
def Ck.In.shut(a:g.Is)(h:k.In g c):k.shut.In g c:=by refine⟨⟨by show(0:Int)<=4;omega,by show(4:Int)<=4;omega⟩,h.wt,by show(0:Nat)<=1024;omega,λr hr=>(by cases hr),?_,?_,h.tok,h.de,h.sv,h.us⟩;have:=a.qu;show((0:Nat):Int)<=g.qu;omega;have:=h.u;show((0:Nat):Int)+k.prom<=g.ou;omega
def Ck.In.read(a:g.Is):∀(f:Nat) (k:Ck),k.In g c->(Ck.read g f k).In g c
 |0,k,h=>h|f+1,k,h=>by unfold Ck.read;split;rename_i hm;dsimp only;split;exact h;split;exact h.shut a;exact Ck.In.read a f _<|h.hear a hm;exact h
def Iz(g):∀(f:Nat) (k:Ck),(Ck.read g f k).no=k.no/\(Ck.read g f k).wt=k.wt/\(Ck.read g f k).bw=k.bw/\(Ck.read g f k).prom=k.prom/\(Ck.read g f k).de=k.de/\(Ck.read g f k).tok=k.tok/\(Ck.read g f k).sv=k.sv
 |0,k=>⟨U,U,U,U,U,U,U⟩|f+1,k=>by unfold Ck.read;split;dsimp only;split;exact⟨U,U,U,U,U,U,U⟩;split;exact⟨U,U,U,U,U,U,U⟩;exact Iz g f _;exact⟨U,U,U,U,U,U,U⟩
def NA:∀(l:av Rq) (n:Int),∀r∈(bL n l).1,∃b∈l,r.m=b.m
 |[],_,r,hr=>by cases hr
 |a::l,n,r,hr=>by unfold bL at hr;split at hr;rcases jh.1 hr with rfl|hr;exact⟨a,fJ,rfl⟩;obtain⟨b,d,e⟩:=NA l _ r hr;exact⟨b,gC _ d,e⟩;rcases jh.1 hr with rfl|hr;exact⟨r,fJ,rfl⟩;let⟨b,d,e⟩:=NA l _ r hr;exact⟨b,gC _ d,e⟩
def Rq.Gd.same{r r':Rq}(h:r'.Gd g)(e:r.m=r'.m):r.Gd g:=by let⟨a,b,d,f,i,j⟩:=h;exact⟨by rw[e];exact a,by rw[e];exact b,by rw[e];exact d,by rw[e];exact f,by rw[e];exact i,by rw[e];exact j⟩
def Ck.In.num(h:k.In g c)(n):(k.num n).In g c:=by refine⟨h.ph,h.wt,h.aN,λr hr=>?_,?_,h.u,h.tok,h.de,h.sv,h.us⟩;let⟨d,a,b⟩:=NA k.q n r hr;exact(h.q d a).same b;show((bL n k.q).1.length:Int)<=g.qu;rw[yP];exact h.len
def Ck.In.dh(a:g.Is)(h:k.In g c):(k.dh g).In g (c+1):=by have b:=h.tok;have d:=h.sv;have e:=a.bu;have f:=a.rt;refine⟨h.ph,h.wt,h.aN,h.q,h.len,h.u,?_,h.de,?_,h.us⟩;show 0<=min (k.tok+g.rt) g.bu/\min (k.tok+g.rt) g.bu<=32;omega;show 0<=k.sv/\k.sv+32*min (k.tok+g.rt) g.bu<=1024*(c+1+1);omega
def TJ:∀(n:Nat) (l:av Nat),l.Nodup->(∀x∈l,x<n)->l.length<=n
 |0,l,_,h=>by
  cases l with
  |nil=>exact aR _
  |cons a l=>exact absurd (h a fJ)<|rR _
 |n+1,l,b,h=>by
  have d:(l.erase n).length<=n:=TJ n (l.erase n) (b.erase n) λx e=>by grind
  grind
def Ck.In.Ly(d:g.Is)(h:k.In g c)(m:0<=k.prom):k.CF g:=by
 have:=d.sz;have:=d.mx;have:=d.qu;have:=d.ou;have:=h.u;have:=h.aN;have:=h.len
 have:=(by
    have:=TJ 65536 (k.us.map Int.toNat) ?_ ?_;rwa [pI]at this;apply Fp.2;apply(List.Pairwise.and_mem.1 h.us.1).imp;rintro a b ⟨f,i,j⟩ e;have:=h.us.2 a f;have:=h.us.2 b i;exact j Y;intro x l;obtain⟨a,f,rfl⟩:=jY.1 l;have:=h.us.2 a f;omega)
 exact⟨Y,Y,λr hr=>(h.q r hr).ok d,Y,Y,Y,Y,Y,Y,Y⟩
end
def gw:av Jb->Nat->Int
 |[],_=>0|b::l,s=>(if b.s=s then(b.rs.length:Int)else 0)+gw l s
def iJ:av Rq->Int
 |[]=>0|r::l=>sizeOf' r.m+iJ l
def oo:av Rq->Int
 |[]=>0|r::l=>r.m.ln+oo l
def ir:av Jb->Nat->Int
 |[],_=>0|b::l,s=>(if b.s=s then iJ b.rs else 0)+ir l s
def Mq(s):∀a b:av Jb,gw (a++b) s=gw a s+gw b s
 |[],b=>by simp[gw]|x::a,b=>by simp only[lT,gw,Mq s a b];omega
def NS(s):∀a b:av Jb,ir (a++b) s=ir a s+ir b s
 |[],b=>by simp[ir]|x::a,b=>by simp only[lT,ir,NS s a b];omega
def NV:∀a b:av Rq,iJ (a++b)=iJ a+iJ b
 |[],b=>by simp[iJ]|x::a,b=>by simp only[lT,iJ,NV a b];omega
def Nj:∀a b:av Rq,oo (a++b)=oo a+oo b
 |[],b=>by simp[oo]|x::a,b=>by simp only[lT,oo,Nj a b];omega
def abk(b l s):gw (fP b l) s=(if b.s=s then(b.rs.length:Int)else 0)+gw l s:=by unfold fP jw;have:=Mq s (l.take<|oq b l) (l.drop<|oq b l);rw[pL]at this;rw[Mq,this];simp only[gw];omega
def afn(b l s):ir (fP b l) s=(if b.s=s then iJ b.rs else 0)+ir l s:=by unfold fP jw;have:=NS s (l.take<|oq b l) (l.drop<|oq b l);rw[pL]at this;rw[NS,this];simp only[ir];omega
def Iq{g}(a:g.Is):∀{l:av Rq},(∀r∈l,r.Gd g)->0<=iJ l
 |[],_=>fI 0|r::l,h=>by have c:=(h r fJ).size a;have d:=Iq a λx b=>h x (gC _ b);show 0<=sizeOf' r.m+iJ l;omega
structure Gg(g:Cf)(rs:av Rq):Prop where
 ne:rs≠[]
 end_:(rs[0]?.getD qZ).m.of+oo rs=(rs[rs.length-1]?.getD qZ).m.of+(rs[rs.length-1]?.getD qZ).m.ln
 gd:∀r∈rs,r.Gd g
 dO:4*(rs.length:Int)<=oo rs+4/\oo rs<=g.mx
structure Fx.Core(f:Fx):Prop where
 g:f.g.Is
 len:(f.K.length:Int)=f.g.cl
 aC:f.aC<f.K.length
 cl:∀(s:Nat) k,f.K[s]? =Z (Z k)->k.In f.g f.clock/\k.bw=gw f.fl s/\k.prom=ir f.fl s
 de:∀(s:Nat) k,f.K[s]? =Z (Z k)->k.de<=(if s=f.aC/\f.opn=M then 288 else 32)
 lI:∀(s:Nat) k,f.K[s]? =Z (Z k)->0<=k.no/\k.no<f.bF
 one:∀(s t:Nat) k c,f.K[s]? =Z (Z k)->f.K[t]? =Z (Z c)->k.no=c.no->s=t
 jb:∀b∈f.fl,Gg f.g b.rs/\b.rs.length<=8/\(0<=b.ft.part/\b.ft.part<=9223372036854775807)/\∃k,f.K[b.s]? =Z (Z k)
 sorted:f.fl.Pairwise λa b=>eI a.key b.key=M
 pq:f.fl.Pairwise λa b=>a.order≠b.order
 fresh:∀b∈f.fl,b.order<f.bO/\b.due<=f.clock+16
 kA:(f.fl.length:Int)<=f.g.wk
 clock:0<=f.clock
 B:(f.B.size:Int)=f.g.sz
 bD:f.bD.length<=1048576/\∀t∈f.bD,(0<=t.delay/\t.delay<=16)/\(0<=t.part/\t.part<=9223372036854775807)
 acc:0<=f.acc
 bF:0<=f.bF
section
variable {f:Fx}
def GK:∀(l:av Jb) (s:Nat),0<=gw l s
 |[],_=>fI 0|b::l,s=>by have:=GK l s;show 0<=(if b.s=s then(b.rs.length:Int)else 0)+gw l s;split<;>omega
def Ui:∀{l:av Jb} {b:Jb},b∈l->(b.rs.length:Int)<=gw l b.s
 |a::l,b,h=>by show _<=(if a.s=b.s then(a.rs.length:Int)else 0)+gw l b.s;rcases jh.1 h with rfl|h;have:=GK l b.s;rw[aO U];omega;have:=Ui h;split<;>omega
def Uh(n):∀(l:av Jb) (s:Nat),(∀b∈l,b.rs.length<=n)->gw l s<=n*l.length
 |[],_,_=>by simp[gw]|b::l,s,h=>by have c:=Uh n l s λx a=>h x (gC _ a);have d:=h b fJ;show(if b.s=s then(b.rs.length:Int)else 0)+gw l s<=n*((l.length+1:Nat):Int);grind
def NU{g}(a:g.Is):∀{l:av Jb} (s:Nat),(∀b∈l,∀r∈b.rs,r.Gd g)->0<=ir l s
 |[],_,_=>fI 0|b::l,s,h=>by have d:=NU a s λx c=>h x (gC _ c);have e:=Iq a (h b fJ);show 0<=(if b.s=s then iJ b.rs else 0)+ir l s;split<;>omega
def Fx.Core.prom(h:f.Core)(s):0<=ir f.fl s:=NU h.g s λb a=>(h.jb b a).1.gd
def Fx.Core.bw(h:f.Core)(s):0<=gw f.fl s/\gw f.fl s<=64:=by refine⟨GK _ _,?_⟩;have c:=Uh 8 f.fl s λb a=>(h.jb b a).2.1;have d:=h.kA;have e:=h.g.wk;grind
def Fx.Core.small(h:f.Core):f.K.length<=8:=by have:=h.len;have:=h.g.cl;omega
def Fx.Core.stay(h:f.Core):f.sn:=λb a k d=>by have g:=(h.cl _ k d).2.1;have i:=Ui a;obtain⟨r,-,-,-⟩:=h.jb b a;have j:b.rs.length≠0:=λe=>r.ne (vQ.1 e);have c:k.bw≠0:=Y;unfold Ck.gone;simp[c]
def Fx.Core.map(h:f.Core){f':Fx}(j:f'.g=f.g)(hf:f'.fl=f.fl)(p:f'.aC=f.aC)(x:f'.opn=f.opn)(hc:f'.bF=f.bF)(hd:f'.bO=f.bO)(u:f'.B.size=f.B.size)(w:f'.bD=f.bD)(v:0<=f'.acc)(J:f.clock<=f'.clock)(hl:f'.K.length=f.K.length)
  (l:∀(s:Nat) a,f'.K[s]? =Z (Z a)->∃k,f.K[s]? =Z (Z k)/\a.In f.g f'.clock/\a.bw=k.bw/\a.prom=k.prom/\a.de=k.de/\a.no=k.no)
  (L:∀(s:Nat) k,f.K[s]? =Z (Z k)->∃a,f'.K[s]? =Z (Z a)):f'.Core:=by
 refine⟨by rw[j];exact h.g,by rw[j,hl];exact h.len,by rw[p,hl];exact h.aC,λs a m=>?_,λs a m=>?_,λs a m=>?_,λs t z A q r e=>?_,λb i=>?_,by rw[hf];exact h.sorted,by rw[hf];exact h.pq,λb i=>by rw[hf]at i;have:=h.fresh b i;rw[hd];omega,by rw[hf,j];exact h.kA,by have:=h.clock;omega,by rw[u,j];exact h.B,by rw[w];exact h.bD,v,by rw[hc];exact h.bF⟩
 let⟨k,a1,c,a3,d,n,o⟩:=l s a m
 rw[j,hf,a3,d];exact⟨c,(h.cl s k a1).2⟩
 let⟨k,a1,c,a3,d,n,o⟩:=l s a m
 rw[p,x,n];exact h.de s k a1
 let⟨k,a1,c,a3,d,n,o⟩:=l s a m
 rw[hc,o];exact h.lI s k a1
 let⟨k,a1,c,a3,d,n,o⟩:=l s z q
 let⟨a,b1,C,D,E,G,H⟩:=l t A r
 exact h.one s t k a a1 b1 j4;rw[hf]at i
 let⟨a1,c,a3,k,d⟩:=h.jb b i
 grind
end
section
variable {f:Fx}
def Tt(f):∀m,m<=f.K.length->∃K,(dA m).foldl Fx.fY f={f with K:=K}/\K.length=f.K.length/\∀(s:Nat),K[s]? =if s<m then(f.K[s]?).map (Option.map<|Ck.dh f.g)else f.K[s]?
 |0,_=>⟨f.K,U,U,λs=>by rw[aI<|rR s]⟩|m+1,hm=>by obtain⟨K,c,h,i⟩:=Tt f m Y;rw[uB,zG,c];show ∃e,Fx.fY {f with K:=K} m=_/\_;have b:K[m]? =f.K[m]? :=j4;have d:m<f.K.length:=Y;have a:=dj d;rcases hx:f.K[m]with _|k;rw[hx]at a;rw[GB<|aA<|b.t a];grind;rw[hx]at a;rw[Mf<|b.t a];grind
def aap(f:Fx):f.uS={f with K:=f.K.map λo=>o.map (Ck.dh f.g)}:=by
 let⟨K,a,b,c⟩:=Tt f f.K.length (aR _);unfold Fx.uS;rw[a];have:K=f.K.map λo=>o.map (Ck.dh f.g):=by apply ux;grind
 rw[this]
def Dh(f:Fx):f.early={f with clock:=f.clock+1,K:=f.K.map λo=>o.map (Ck.dh f.g)}:=aap _
def map_some{K:av (aV Ck)}{φ}{s:Nat}{k':Ck}(h:(K.map λo=>o.map φ)[s]? =Z (Z k')):∃k,K[s]? =Z (Z k)/\k'=φ k:=by rw[qC,gJ]at h;let⟨o,b,a⟩:=h;rw[gJ]at a;grind
def Ya{K:av (aV Ck)}{φ:Ck->Ck}{s:Nat}{k}(h:K[s]? =Z (Z k)):(K.map λo=>o.map φ)[s]? =Z (Z<|φ k):=by grind
def Fx.Core.early(h:f.Core):f.early.Core:=by rw[Dh];refine h.map U U U U U U U U h.acc j4 ay (λs c a=>?_)<|λs k a=>⟨_,Ya a⟩;obtain⟨k,b,rfl⟩:=map_some a;exact⟨k,b,(h.cl s k b).1.dh h.g,U,U,U,U⟩
def Fx.Core.readAll(h:f.Core):f.readAll.Core:=by refine h.map U U U U U U U U h.acc (fI _) (by simp[Fx.readAll]) (λs n a=>?_) (λs k a=>⟨_,Ya a⟩);obtain⟨k,b,rfl⟩:=map_some a;let⟨c,j,d,e,i,l,m⟩:=Iz f.g (k.aN.size+1) k;exact⟨k,b,Ck.In.read h.g _ k (h.cl s k b).1,d,e,i,c⟩
def WC(f)(n:Nat)(l:∀(s:Nat) k,f.K[s]? =Z (Z k)->k.q.length<=n):∀m,m<=f.K.length->∃K a,(dA m).foldl Fx.eV f={f with K:=K,acc:=a}/\K.length=f.K.length/\(f.acc<=a/\a<=f.acc+n*m)/\∀(s:Nat),(f.K[s]? =aj->K[s]? =aj)/\(f.K[s]? =Z aj->K[s]? =Z aj)/\∀k,f.K[s]? =Z (Z k)->(m<=s->K[s]? =Z (Z k))/\∃i,K[s]? =Z (Z<|k.num i)\/K[s]? =Z (Z k)
 |0,_=>⟨f.K,f.acc,U,U,⟨fI _,ay⟩,λs=>⟨id,id,λk c=>⟨λ_=>c,0,az c⟩⟩⟩|m+1,hm=>by obtain⟨K,a,e,g,h,b⟩:=WC f n l m Y;rw[uB,zG,e];show ∃o p,Fx.eV {f with K:=K,acc:=a} m=_/\_;have j:m<f.K.length:=Y;have d:=dj j;have t:(n:Int) *((m+1:Nat):Int)=n*(m:Int)+n:=j4;rcases hx:f.K[m]with _|k;rw[hx]at d;rw[AT<|aA<|(b m).2.1 d];refine⟨K,a,rfl,g,⟨h.1,Y⟩,λs=>⟨(b s).1,(b s).2.1,λk c=>⟨λu=>((b s).2.2 k c).1 Y,((b s).2.2 k c).2⟩⟩⟩;rw[hx]at d;rw[DS<|((b m).2.2 k d).1 (aR m)];have r:=DT k.q a;grind
def Fx.Core.mG(h:f.Core):f.mG.Core/\(f.acc<=f.mG.acc/\f.mG.acc<=f.acc+64)/\∃K a,f.mG={f with K:=K,acc:=a}:=by
 have q:=h.g.qu;let⟨K,a,l,m,p,c⟩:=WC f 8 (λs k n=>by have:=(h.cl s k n).1.len;omega) f.K.length (aR _);have e:f.mG={f with K:=K,acc:=a}:=l;have d:=h.small;refine⟨?_,?_,K,a,e⟩;rw[e];refine h.map U U U U U U U U (by have:=h.acc;show 0<=a;omega) (fI _) m (λs j d=>?_) (λs k d=>?_);have b:=d;rcases hx:f.K[s]? with _|o;rw[(c s).1 hx]at b;cases b;cases o with
 |none=>rw[(c s).2.1 hx]at b;cases b
 |some k=>let⟨i,hi⟩:=((c s).2.2 k hx).2;rcases hi with hi|hi;rw[b]at hi;cases hi;exact⟨k,rfl,(h.cl s k hx).1.num i,rfl,rfl,rfl,rfl⟩;rw[b]at hi;cases hi;exact⟨j,rfl,(h.cl s j hx).1,rfl,rfl,rfl,rfl⟩
 let⟨i,hi⟩:=((c s).2.2 k d).2;grind;rw[e];grind
def Fx.Core.goes(h:f.Core):f.goes.Core/\(f.goes.acc<=f.acc+64)/\∃K a,f.goes={f with K:=K,acc:=a}:=by unfold Fx.goes;split;exact⟨h,Y,f.K,f.acc,U⟩;let⟨b,c,K,a,d⟩:=h.readAll.mG;refine⟨b,c.2,K,a,d⟩
end
def UB(B no r b)(h:0<=r.m.ln):((lO B<|mZ no r b).size:Int)+4<=sizeOf' r.m:=by unfold lO sizeOf';by_cases e:r.m.kd=0;rw[aO e];split;show((B.extract r.m.of.toNat<|r.m.of.toNat+r.m.ln.toNat).size:Int)+4<=_;grind;show((0:Nat):Int)+4<=_;omega;rw[aI e,aI<|λh=>e h.1];show((0:Nat):Int)+4<=_;omega
structure wP(k k':Ck)(n:Nat)(p:Int):Prop where
 no:k'.no=k.no
 ph:k'.ph=k.ph
 wt:k'.wt=k.wt
 aN:k'.aN=k.aN
 q:k'.q=k.q
 tok:k'.tok=k.tok
 de:k'.de=k.de
 sv:k'.sv=k.sv
 bw:k'.bw=k.bw-n
 prom:k'.prom=k.prom-p
 out:(k'.u.size:Int)+k'.prom<=k.u.size+k.prom
 us:wR k.us->wR k'.us
abbrev wP.u:=@wP.out
def acA{g}(B)(ft:Ft)(k r)(h:r.Gd g):wP k (k.hrd B ft r) 1 (sizeOf' r.m):=by have c:=UB B k.no r ft.eJ h.of.2.1;unfold Ck.hrd Ck.nQ;split;refine⟨U,U,U,U,U,U,U,U,U,U,?_,id⟩;grind;refine⟨U,U,U,U,U,U,U,U,U,U,?_,λa=>⟨a.1.sublist List.filter_sublist,λx b=>a.2 x (rO.1 b).1⟩⟩;show((k.u++jy (sF ft) r.m.ck (lO B<|mZ k.no r ft.eJ)).size:Int)+(k.prom-sizeOf' r.m)<=k.u.size+k.prom;rw[qB,Xq];omega
def wP.trans{a b c n m p q}(h:wP a b n p)(k:wP b c m q):wP a c (n+m) (p+q):=⟨k.no.t h.no,k.ph.t h.ph,k.wt.t h.wt,k.aN.t h.aN,k.q.t h.q,k.tok.t h.tok,k.de.t h.de,k.sv.t h.sv,by rw[k.bw,h.bw];omega,by rw[k.prom,h.prom];omega,by have:=h.u;have:=k.u;omega,λd=>k.us (h.us d)⟩
abbrev wP.t:=@wP.trans
def CZ{g}(B)(ft:Ft):∀(a:av Rq) (k:Ck),(∀r∈a,r.Gd g)->wP k (k.answers B ft a) a.length (iJ a)
 |[],k,_=>⟨U,U,U,U,U,U,U,U,by show k.bw=k.bw-((0:Nat):Int);omega,by show k.prom=k.prom-0;omega,fI _,id⟩|r::a,k,h=>by have b:=acA B ft k r (h r fJ);have d:=b.t (CZ B ft a (k.hrd B ft r) λx c=>h x (gC _ c));have e:a.length+1=1+a.length:=Y;show wP k ((k.hrd B ft r).answers B ft a) (a.length+1) (sizeOf' r.m+iJ a);rwa [e]
def afo{g}(a:g.Is){rs}(h:∀r∈rs,r.Gd g)(i):0<=iJ (rs.take i)/\iJ (rs.take i)<=iJ rs:=by have c:=Iq a (l:=rs.take i) λr hr=>h r (uA hr);have d:=Iq a (l:=rs.drop i) λr hr=>h r (BZ hr);have b:=NV (rs.take i) (rs.drop i);rw[pL]at b;omega
def afi{g}{r:Rq}(h:r.Gd g):(r.piece.length:Int)<=r.m.ln/\r.piece.length %4=0:=by have b:=h.of;unfold Rq.piece;split;rename_i e;have c:=h.dt e;have a:r.m.dt.data.toList.length=r.m.dt.size:=U;omega;split;rw[Lib.repeatL_length];simp;omega;show((0:Nat):Int)<=r.m.ln/\0%4=0;omega
def LZ{g:Cf}:∀{a:av Rq},(∀r∈a,r.Gd g)->((dF a).length:Int)<=oo a/\(dF a).length %4=0
 |[],_=>⟨fI 0,U⟩|r::a,h=>by
  have c:=afi (h r fJ);have d:=LZ λx b=>h x (gC _ b);have e:(dF (r::a)).length=r.piece.length+(dF a).length:=by unfold dF;rw[pH,fQ]
  rw[e];show((r.piece.length+(dF a).length:Nat):Int)<=r.m.ln+oo a/\_;omega
def Gg.fits{g rs}(h:Gg g rs):∃r t,rs=r::t/\r.Gd g/\r.m.of+oo rs<=g.sz:=by have a:=h.end_;have b:=h.gd;rcases rs with _|⟨r,t⟩;exact absurd rfl h.ne;refine⟨r,t,rfl,b r fJ,?_⟩;have d:((r::t)[0]?.getD qZ)=r:=U;rw[d]at a;have c:(r::t).length-1<(r::t).length:=ay;have hm:=b _ (Qw c);rw[(dj c)]at a;simp only[oK]at a;have:=hm.of;omega
def agP(o s q):(secs o s q).length=q:=by simp[secs]
def U1(d:Dk)(rs)(ft:Ft):(d.change rs ft).C.length<=d.C.length+(dF rs).length / 4:=by unfold Dk.change;rcases rs with _|⟨r,t⟩;exact Nat.le_add_right _ _;dsimp only;split;exact cO _;split;show(stay _ _ d.C).length<=_;grind;show(d.C++secs _ _ _).length<=_;rw[fQ,agP];have:=Zg (r::t) ft;omega
def oy{K:av (aV Ck)}{s t k' x}(h:(K.set s<|Z k')[t]? =Z (Z x)):(t=s/\x=k')\/(t≠s/\K[t]? =Z (Z x)):=by grind
def IW{K:av (aV Ck)}{s t:Nat}{k' x}(h:K[t]? =Z (Z x)):∃a,(K.set s<|Z k')[t]? =Z (Z a):=by grind
section
variable {f:Fx}
def Fx.Core.does(h:f.Core){b r}(z:f.fl=b::r):∃k,f.K[b.s]? =Z (Z k)/\({f with fl:=r}.does b).Core:=by
 let⟨X,UY,af,k,j⟩:=h.jb b j4;refine⟨k,j,?_⟩;obtain⟨m,l,O,E,T,a⟩:∃(m:Dk) (l:Ck) (O:av En),({f with fl:=r}:Fx).does b={f with fl:=r,K:=f.K.set b.s<|Z l,B:=m.B,D:=m.D,C:=m.C,log:=O}/\m.B.size=f.B.size/\wP k l b.rs.length (iJ b.rs):=⟨({f with fl:=r}:Fx).dk.change b.rs b.ft,k.answers (({f with fl:=r}:Fx).dk.change b.rs b.ft).B b.ft<|b.rs.take b.rs.length,_,sE j,Gu _ _ _,by rw[pM];exact CZ _ _ _ _ X.gd⟩;rw[E];have G:∀x∈r,x∈f.fl:=λx d=>by grind
 have V:∀s,gw f.fl s=(if b.s=s then(b.rs.length:Int)else 0)+gw r s:=λs=>by rw[z];rfl
 have W:∀s,ir f.fl s=(if b.s=s then iJ b.rs else 0)+ir r s:=λs=>by rw[z];rfl
 have n:∀(s:Nat) x,(f.K.set b.s<|Z l)[s]? =Z (Z x)->(s=b.s/\x=l)\/(s≠b.s/\f.K[s]? =Z (Z x)):=λs x d=>oy d;refine⟨h.g,?_,?_,λs x d=>?_,λs x d=>?_,λs x d=>?_,λs t x o d J e=>?_,λc p=>?_,?_,?_,λc p=>h.fresh c (G c p),?_,h.clock,?_,h.bD,h.acc,h.bF⟩;show((f.K.set b.s<|Z l).length:Int)=f.g.cl;rw[jB];exact h.len;show f.aC<(f.K.set b.s<|Z l).length;rw[jB];exact h.aC;show x.In f.g f.clock/\x.bw=gw r s/\x.prom=ir r s;rcases n s x d with⟨rfl,rfl⟩|⟨A,d⟩;let⟨i,L,N⟩:=h.cl _ k j;rw[V,aO U]at L;rw[W,aO U]at N;refine⟨⟨by rw[a.ph];exact i.ph,by rw[a.wt];exact i.wt,by rw[a.aN];exact i.aN,by rw[a.q];exact i.q,by rw[a.q];exact i.len,by have:=a.u;have:=i.u;omega,by rw[a.tok];exact i.tok,by rw[a.de];exact i.de,by rw[a.sv,a.tok];exact i.sv,a.us i.us⟩,by rw[a.bw];omega,by rw[a.prom];omega⟩;let⟨i,L,N⟩:=h.cl _ x d;grind;rcases n s x d with⟨rfl,rfl⟩|⟨A,d⟩;rw[a.de];exact h.de _ k j;exact h.de s x d;rcases n s x d with⟨rfl,rfl⟩|⟨A,d⟩;rw[a.no];exact h.lI _ k j;exact h.lI s x d;rcases n s x d with⟨R,S⟩|⟨_,H⟩;rcases n t o J with⟨v,w⟩|⟨_,u⟩;omega;rw[S,a.no]at e;rw[R];exact h.one _ _ k o j u e;rcases n t o J with⟨v,w⟩|⟨_,u⟩;rw[w,a.no]at e;rw[v];exact h.one _ _ x k H j e;exact h.one _ _ x o H u e;let⟨a1,P,a3,k0,Q⟩:=h.jb c (G c p);exact⟨a1,P,a3,IW Q⟩;have:=h.sorted;grind;have:=h.pq;grind;have:=h.kA;grind;show(m.B.size:Int)=f.g.sz;rw[T];exact h.B
def Fx.Core.aag(h:f.Core){b r}(n:f.fl=b::r){k}(w:f.K[b.s]? =Z (Z k))(q:f.C.length+1048576<=1099511627776):CN {f with fl:=r} b k:=by
 have u:b∈f.fl:=j4;let⟨a,Q,G,_⟩:=h.jb b u;let⟨j,t,p,g0,af⟩:=a.fits;have v:=LZ a.gd;have L:=h.B;have X:=h.g.sz;have E:=g0.of;refine⟨⟨j,t,p,Y,?_,?_⟩,Y,⟨Y,v.2⟩,λx d=>?_,G,q,λi P=>?_⟩;show j.m.of.toNat<f.B.size;by_cases e:j.m.kd=2;have:=g0.z e;omega;have:=g0.ln e;omega;show j.m.of.toNat+(dF b.rs).length<=f.B.size;omega;have l:=a.gd x d;refine⟨l.ok h.g,l.ck,λ_=>?_⟩;have:=l.of;grind;have c:=CZ (({f with fl:=r}:Fx).dk.change b.rs b.ft).B b.ft (b.rs.take i) k λx d=>a.gd x (uA d);let⟨o,i2,i3⟩:=h.cl _ k w;have T:=afo h.g a.gd i;have O:gw f.fl b.s=(b.rs.length:Int)+gw r b.s:=by rw[n];show(if b.s=b.s then _ else _)+_=_;rw[aO U]
 have W:ir f.fl b.s=iJ b.rs+ir r b.s:=by rw[n];show(if b.s=b.s then _ else _)+_=_;rw[aO U]
 have N:=GK r b.s;have V:=NU h.g b.s λx d=>(h.jb x (by rw[n];exact gC _ d)).1.gd;have J:=(h.bw b.s).2;have S:=h.g.ou;have E:=o.u;have R:=c.u;have A:(b.rs.take i).length=i:=j4;refine⟨c.us o.us,?_,?_,?_⟩;rw[c.bw,A];omega;rw[c.prom];omega;have:=c.prom;omega
end
structure Fx.nK(f:Fx):Prop where
 core:f.Core
 clock:f.clock<=1073741824
 bO:(f.bO:Int)<=8*(f.clock-1)
 log:(f.log.length:Int)+8*f.fl.length<=64*f.clock
 C:(f.C.length:Int)+64*f.fl.length<=512*f.clock
 acc:f.acc<=64*f.clock
def wY:CO Fx.nK:=by refine⟨λf b r h c=>?_,λf b r h c w=>?_⟩;have d:=h.core.sorted;have i:=h.core.pq;have j:=h.core.kA;have q:=h.core.g.wk;rw[c]at d i j;rw[gH]at j;exact⟨(sY.1 d).1,λx o e=>(sY.1 i).1 x o e.y,Y⟩;let⟨k,a,n⟩:=h.core.does c;have s:=h.C;have u:=h.log;have v:=h.clock;have A:(f.fl.length:Int)=r.length+1:=j4;have m:b∈f.fl:=j4;let⟨l,B,_,_⟩:=h.core.jb b m;let⟨H,t,p,g0,G⟩:=l.fits;have z:=LZ l.gd;have E:=h.core.g.sz;have D:=g0.of;refine⟨⟨k,a,h.core.aag c a Y⟩,Y,⟨n,?_,?_,?_,?_,?_⟩⟩;rw[sE (f:={f with fl:=r}) a];exact h.clock;rw[sE (f:={f with fl:=r}) a];exact h.bO;rw[sE (f:={f with fl:=r}) a];show((f.log++({f with fl:=r}:Fx).lgs b k).length:Int)+8*r.length<=64*f.clock;rw[List.length_append,List.length_map,List.length_map,List.take_length];grind;rw[sE (f:={f with fl:=r}) a];show(((({f with fl:=r}:Fx).dk.change b.rs b.ft).C.length:Nat):Int)+64*r.length<=512*f.clock;have:=U1 ({f with fl:=r}:Fx).dk b.rs b.ft;grind;rw[sE (f:={f with fl:=r}) a];exact h.acc
structure uK(g:Cf)(c:Int)(k0 k:Ck)(rs:av Rq):Prop where
 uX:k.In g c
 bw:k.bw=k0.bw+rs.length
 prom:k.prom=k0.prom+iJ rs
 len:rs.length+k.q.length=k0.q.length
 no:k.no=k0.no
 de:k.de<=k0.de
 run:Gg g rs
section
variable {g:Cf} {c:Int} {k k0:Ck} {rs:av Rq}
def Ck.In.bO(a:g.Is)(h:k.In g c){r l}(b:k.q=r::l)(p:0<k.tok)(o:(k.u.size:Int)+k.prom+sizeOf' r.m<=g.ou)(hc:cw r.m<=k.de):(k.bO r l).In g c:=by have hr:=h.q r j4;have f:=hr.cost a;have i:=h.tok;have j:=h.sv;have n:=a.mx;have d:=h.len;rw[b,gH]at d;refine⟨h.ph,h.wt,h.aN,λx e=>h.q x (by rw[b];exact gC _ e),?_,?_,?_,?_,?_,h.us⟩;show(l.length:Int)<=g.qu;omega;show(k.u.size:Int)+(k.prom+sizeOf' r.m)<=g.ou;omega;show 0<=k.tok-1/\k.tok-1<=32;omega;show 0<=k.de-cw r.m;omega;show 0<=k.sv+cw r.m/\k.sv+cw r.m+32*(k.tok-1)<=1024*(c+1);omega
def Wv{r l}(a:k.q=r::l):k.fst=r/\k.next=k.bO r l:=by
 have e:k.fst=r:=by unfold Ck.fst;rw[a]
 refine⟨e,?_⟩;unfold Ck.next;rw[e,a];rfl
def uK.first (d:g.Is)(h:k.In g c)(hr:k.eM g=M)(hc:cw k.fst.m<=k.de):uK g c k k.next [k.fst]:=by obtain⟨r,l,a,p,-,j,i⟩:=yT hr;let⟨b,f⟩:=Wv a;rw[f,b];rw[b]at hc;have e:=h.q r j4;have o:=e.cost d;have s:=e.of;refine⟨h.bO d a j i hc,U,?_,?_,U,?_,⟨ay,?_,λx n=>?_,by show 4*((1:Nat):Int)<=r.m.ln+0+4;omega,by show r.m.ln+0<=g.mx;omega⟩⟩;show k.prom+sizeOf' r.m=k.prom+(sizeOf' r.m+0);omega;rw[a];show 1+l.length=l.length+1;omega;show k.de-cw r.m<=k.de;omega;show r.m.of+(r.m.ln+0)=r.m.of+r.m.ln;omega;rwa [iz.1 n]
def uK.step(f:g.Is)(h:uK g c k0 k rs)(hr:k.eM g=M)(hc:cw k.fst.m<=k.de)(p:k.fst.m.of=(rs[rs.length-1]?.getD qZ).m.of+(rs[rs.length-1]?.getD qZ).m.ln)(i:k.fst.m.kd≠2/\k.fst.m.of+k.fst.m.ln-(rs[0]?.getD qZ).m.of<=g.mx):uK g c k0 k.next (rs++[k.fst]):=by
 obtain⟨r,l,d,A,-,s,o⟩:=yT hr;let⟨e,j⟩:=Wv d;rw[j,e];rw[e]at hc p i;have b:=h.uX.q r j4;have v:=b.cost f;have n:=h.len;rw[d,gH]at n;have D:=b.of;have C:=b.ln i.1;have B:=h.run.dO;have z:=h.run.end_;refine⟨h.uX.bO f d s o hc,?_,?_,?_,h.no,?_,⟨ay,?_,λx hx=>?_,?_⟩⟩;show k.bw+1=k0.bw+((rs++[r]).length:Int);rw[fQ,h.bw];simp;omega;show k.prom+sizeOf' r.m=k0.prom+iJ (rs++[r]);rw[NV,h.prom];show _=k0.prom+(iJ rs+(sizeOf' r.m+0));omega;rw[fQ];show rs.length+1+l.length=_;omega;show k.de-cw r.m<=k0.de;have:=h.de;omega;have w:=h.run.end_;have u:(rs++[r])[0]? =rs[0]? :=by rcases rs with _|⟨a,t⟩;exact absurd rfl h.run.ne;rfl
 have l1:(rs++[r])[(rs++[r]).length-1]? =Z r:=j4;rw[u,l1,Nj];simp;show _+(oo rs+(r.m.ln+0))=_;omega;rcases jg.1 hx with hx|hx;exact h.run.gd x hx;rwa [iz.1 hx];rw[Nj,fQ];show 4*((rs.length+1:Nat):Int)<=oo rs+(r.m.ln+0)+4/\oo rs+(r.m.ln+0)<=g.mx;omega
def N8{f:Fx}{s}(h:f.along s k rs=M):k.eM f.g=M/\cw k.fst.m<=k.de/\k.fst.m.of=(rs[rs.length-1]?.getD qZ).m.of+(rs[rs.length-1]?.getD qZ).m.ln/\k.fst.m.kd≠2/\k.fst.m.of+k.fst.m.ln-(rs[0]?.getD qZ).m.of<=f.g.mx:=by unfold Fx.along at h;rw[cQ,cQ,tB]at h;let⟨a,b,d⟩:=h;unfold Fx.free at a;rw[cQ]at a;refine⟨a.1,b,?_⟩;unfold tN at d;grind
def My{f:Fx}{s}(a:f.g.Is):∀(n:Nat) (k:Ck) (rs:av Rq),uK f.g c k0 k rs->uK f.g c k0 (f.eK s n k rs).1 (f.eK s n k rs).2
 |0,k,rs,h=>h|n+1,k,rs,h=>by unfold Fx.eK;split;rename_i e;obtain⟨a1,b,a3,d⟩:=N8 e;exact My a n _ _<|h.step a a1 b a3 d;exact h
end
def Q1{a b c}(d:eI a b=M)(e:eI b c=M):eI a c=M:=by unfold eI at*;simp at*;omega
def yL{b x l}:x∈fP b l↔x=b\/x∈l:=by unfold fP jw;rw[jg,jh];constructor;rintro(h|h|h);exact az<|uA h;exact aA h;exact az<|BZ h;rintro(h|h);exact az<|aA h;rw[<-pL (oq b l) l]at h;grind
def Vw(b l):(fP b l).length=l.length+1:=by unfold fP jw;grind
def acK{b l}(h:l.Pairwise λa b=>a.order≠b.order)(e:∀x∈l,x.order<b.order):(fP b l).Pairwise λa b=>a.order≠b.order:=by unfold fP jw;rw[<-pL (oq b l) l]at h;let⟨f,i,j⟩:=Kt.1 h;refine Kt.2 ⟨f,sY.2 ⟨λx d=>?_,i⟩,λx d m hy=>?_⟩;have:=e x (BZ d);omega;rcases jh.1 hy with rfl|hy;have:=e x (uA d);omega;exact j x d m hy
def Vx{b}:∀{l:av Jb},(l.Pairwise λa b=>eI a.key b.key=M)->(∀x∈l,x.order<b.order)->(fP b l).Pairwise λa b=>eI a.key b.key=M
 |[],_,_=>List.pairwise_singleton _ _|a::l,h,i=>by
  obtain⟨f,m⟩:=sY.1 h;cases d:eI a.key b.key with
  |true=>
   have e:fP b (a::l)=a::fP b l:=by unfold fP jw oq;rw[C7,aO d];rfl
   rw[e];refine sY.2 ⟨λx hx=>?_,Vx m λx hx=>i x (gC _ hx)⟩;rcases yL.1 hx with rfl|hx;exact d;exact f x hx
  |false=>
   have e:fP b (a::l)=b::a::l:=by unfold fP jw oq;rw[C7,aI j4];rfl
   rw[e];have j:eI b.key a.key=M:=by have:=i a fJ;unfold eI Jb.key at*;simp at d;simp;omega
   refine sY.2 ⟨λx hx=>?_,h⟩;rcases jh.1 hx with rfl|hx;exact j;exact Q1 j<|f x hx
section
variable {f:Fx}
def Fx.Core.put(h:f.Core){s k k' o}(d:f.K[s]? =Z (Z k))(G:k'.In f.g f.clock)(C:k'.bw=k.bw)(D:k'.prom=k.prom)(j:k'.no=k.no)(hd:k'.de<=(if s=f.aC/\o=M then 288 else 32))(H:∀(t:Nat) x,t≠s->f.K[t]? =Z (Z x)->x.de<=(if t=f.aC/\o=M then 288 else 32)):({f.at s k' with opn:=o}:Fx).Core:=by have b:∀(t:Nat) x,(f.K.set s<|Z k')[t]? =Z (Z x)->(t=s/\x=k')\/(t≠s/\f.K[t]? =Z (Z x)):=λt x a=>oy a;refine⟨h.g,?_,?_,λt x a=>?_,λt x a=>?_,λt x a=>?_,λt u x i a r e=>?_,λc E=>?_,h.sorted,h.pq,h.fresh,h.kA,h.clock,h.B,h.bD,h.acc,h.bF⟩;show((f.K.set s<|Z k').length:Int)=f.g.cl;rw[jB];exact h.len;show f.aC<(f.K.set s<|Z k').length;rw[jB];exact h.aC;rcases b t x a with⟨rfl,rfl⟩|⟨l,a⟩;rw[C,D];exact⟨G,(h.cl _ k d).2⟩;exact h.cl t x a;rcases b t x a with⟨rfl,rfl⟩|⟨l,a⟩;exact hd;exact H t x l a;rcases b t x a with⟨rfl,rfl⟩|⟨l,a⟩;rw[j];exact h.lI _ k d;exact h.lI t x a;rcases b t x a with⟨z,A⟩|⟨_,q⟩;rcases b u i r with⟨n,p⟩|⟨_,m⟩;omega;rw[A,j]at e;rw[z];exact h.one _ _ k i d m e;rcases b u i r with⟨n,p⟩|⟨_,m⟩;rw[p,j]at e;rw[n];exact h.one _ _ x k q d e;exact h.one _ _ x i q m e;let⟨a1,v,a3,J,w⟩:=h.jb c E;exact⟨a1,v,a3,IW w⟩
def Fx.Core.Jq(h:f.Core){k}(b:f.K[f.aC]? =Z (Z k)):(f.aT k).In f.g f.clock/\(f.aT k).de<=288/\(f.aT k).bw=k.bw/\(f.aT k).prom=k.prom/\(f.aT k).no=k.no/\(f.aT k).wt=k.wt/\(f.aT k).q=k.q:=by
 have a:=(h.cl _ k b).1;have d:=h.de _ k b;unfold Fx.aT;split;rename_i e;grind;rename_i e;rw[aI<|λx=>e x.2]at d;have j:=h.g.qn;have hm:=h.g.mx;have l:=a.wt;have h0:=a.de;have i:0<=k.wt*f.g.qn/\k.wt*f.g.qn<=256:=by have c:k.wt=1\/k.wt=2\/k.wt=3\/k.wt=4:=Y;rcases c with e|e|e|e<;>rw[e]<;>omega
 refine⟨⟨a.ph,a.wt,a.aN,a.q,a.len,a.u,a.tok,?_,a.sv,a.us⟩,?_,U,U,U,U,U⟩;show 0<=k.de+k.wt*f.g.qn;omega;show k.de+k.wt*f.g.qn<=288;omega
def Fx.Core.turned(h:f.Core){k}(a:f.K[f.aC]? =Z (Z k)):(f.turned k).Core:=by let⟨a1,e,a3,b,c,_⟩:=h.Jq a;refine h.put a a1 a3 b c j4 λt x g d=>?_;have:=h.de t x d;grind
def Fx.Core.dG(h:f.Core):(0<=f.dG.delay/\f.dG.delay<=16)/\0<=f.dG.part/\f.dG.part<=9223372036854775807:=by unfold Fx.dG;split;decide;rename_i t r e;exact h.bD.2 t j4
def Fx.Core.gN(h:f.Core)(D:f.opn=M){k}(n:f.K[f.aC]? =Z (Z k))(hr:k.eM f.g=M)(hc:cw k.fst.m<=k.de)(V:(f.fl.length:Int)<f.g.wk):(f.gN f.aC k).Core:=by
 let⟨H,W,X⟩:=h.cl _ k n;have d:=My (s:=f.aC) (f:=f) h.g k.next.q.length k.next [k.fst] (uK.first h.g H hr hc);have N:f.gN f.aC k={f.at f.aC (f.eK f.aC k.next.q.length k.next [k.fst]).1 with bD:=f.bD.tail,bO:=f.bO+1,fl:=fP ⟨f.aC,(f.eK f.aC k.next.q.length k.next [k.fst]).2,f.dG,f.clock+f.dG.delay,f.bO⟩ f.fl}:=U;rw[N];generalize (f.eK f.aC k.next.q.length k.next [k.fst]).1=i at*;generalize (f.eK f.aC k.next.q.length k.next [k.fst]).2=z at*
 let⟨S,O⟩:=h.dG;have j:∀(t:Nat) x,(f.K.set f.aC<|Z i)[t]? =Z (Z x)->(t=f.aC/\x=i)\/(t≠f.aC/\f.K[t]? =Z (Z x)):=λt x a=>oy a;have T:=h.g.qu;refine⟨h.g,?_,?_,λt x a=>?_,λt x a=>?_,λt x a=>?_,λt J x u a G e=>?_,λc hc=>?_,Vx h.sorted λb v=>(h.fresh b v).1,acK h.pq λb v=>(h.fresh b v).1,λc hc=>?_,?_,h.clock,h.B,⟨?_,λt P=>h.bD.2 t (Kr P)⟩,h.acc,h.bF⟩;show((f.K.set f.aC<|Z i).length:Int)=f.g.cl;rw[jB];exact h.len;show f.aC<(f.K.set f.aC<|Z i).length;rw[jB];exact h.aC;show x.In f.g f.clock/\x.bw=gw (fP _ f.fl) t/\x.prom=ir (fP _ f.fl) t;rw[abk,afn];rcases j t x a with⟨rfl,rfl⟩|⟨r,a⟩;rw[aO rfl,aO rfl];have a1:=d.bw;have o:=d.prom;exact⟨d.uX,by show x.bw=(z.length:Int)+_;omega,by show x.prom=iJ z+_;omega⟩;rw[aI<|λe=>r e.y,aI<|λe=>r e.y];let⟨b1,Q,R⟩:=h.cl t x a;exact⟨b1,Y,Y⟩;rcases j t x a with⟨p,l⟩|⟨r,a⟩;have a1:=d.de;have o:=h.de _ k n;rw[aO ⟨U,D⟩]at o;show x.de<=(if t=f.aC/\f.opn=M then 288 else 32);rw[aO ⟨p,D⟩,l];omega;exact h.de t x a;rcases j t x a with⟨p,l⟩|⟨r,a⟩;rw[l,d.no];exact h.lI _ k n;exact h.lI t x a;rcases j t x a with⟨p,l⟩|⟨_,E⟩;rcases j J u G with⟨A,C⟩|⟨_,w⟩;omega;rw[l,d.no]at e;rw[p];exact h.one _ _ k u n w e;rcases j J u G with⟨A,C⟩|⟨_,w⟩;rw[C,d.no]at e;rw[A];exact h.one _ _ x k E n e;exact h.one _ _ x u E w e;rcases yL.1 hc with rfl|hc;refine⟨d.run,?_,O,i,?_⟩;show z.length<=8;have:=d.len;have:=H.len;omega;show(f.K.set f.aC<|Z i)[f.aC]? =Z (Z i);rw[rM,aO U,aO h.aC];let⟨a1,o,a3,k0,L⟩:=h.jb c hc;exact⟨a1,o,a3,IW L⟩;show c.order<f.bO+1/\c.due<=f.clock+16;rcases yL.1 hc with rfl|hc;exact⟨FA _,by show f.clock+f.dG.delay<=_;omega⟩;have:=h.fresh c hc;omega;show((fP _ f.fl).length:Int)<=f.g.wk;rw[Vw];omega;show f.bD.tail.length<=1048576;have:=h.bD.1;rw[List.length_tail];omega
end
end Go.Proofs.YtpobhljcainmdabGreat
