/- Parts of the proof. -/
import Derived.ChangeOld
import Derived.ChangeSlices
import Derived.Conc.Holds
import Derived.OpenShut
import Derived.ProofKit
import Derived.Test.YtpobhljcainmdaaGreatS04
set_option maxRecDepth 100000
set_option maxHeartbeats 8000000
set_option linter.all false
namespace Go.Proofs.YtpobhljcainmdaaGreat
open Go renaming Value->aD,World->az,TypeId->aQ,heap_alloc_new->cG,wp_region_noPanic->iD,FuncId->bC,callsIn_wide->gy,run_takeDeferred->qP,run_convert_bytes_back->Bt,maxLen->cC,info_parts->qO,Addr->bZ,Program->aY
open Go.IntKind renaming i64->dJ,u8->Il
open Go.World renaming putObj_heap_other->fS,ownsRow_nil->qM,news_of_block->Bi,cell?->fC
open _root_.List renaming replicate->mU,range->dH,pairwise_singleton->Wt,range_succ_eq_map->Wu,takeWhile_cons->Wv,foldl_map->Wp
open Go.NoPanic renaming normal->gE
open _root_.UInt8 renaming ofNat->tR
open _root_.Option renaming map->Bb
open _root_.Classical renaming axiomOfChoice->VF
open Go.Fence renaming wide->iS
open Go.ConcR renaming Payload->pX
open _root_.ByteArray renaming data_append->VE
open Go.Value renaming oneCell'->za,ownBlock->sE
open Go.Region renaming wanted->dg
open Go.Maps renaming keyOf_int_inv->Wz
open _root_.Int renaming mul_comm->NF,sub_mul->NG,natCast_add->Wa
open _root_.List.Pairwise renaming nil->Wl
open Go.WideElems renaming rd_key->WO,rd_val->WQ
open _root_.Nat renaming zero_lt_succ->WG,succ_lt_succ->WE
open Go.CallsIn renaming inRound->mR
open _root_.Array renaming replicate->oF
open Go.RowKit renaming wrap64->Bz,intOf->eY
open Go.Oper renaming wp->II
open Go renaming undef->au
open Go.Ending renaming returned->aM
open Go.Obj renaming cells->aA
open _root_.Bool renaming false->av,true->aq
open _root_.Option renaming none->ay,some->aa
open _root_.Or renaming inl->aF,inr->aE
section
attribute [local go_sem ↓] Go.wp_at_zero Go.wp_at_succ
attribute [local go_sem] bV bQ
open Go.Conc Go.RowKit
open Go.Proofs.Tryz
def Fx.does(f:Fx)(b:Jb):Fx:=match f.K[b.s]? with
 |some (aa k)=>{f.dn b k b.rs.length with log:=f.log++nA b k b.rs.length}
 |_=>f
def uj{f:Fx}{b:Jb}{k:Ck}(h:f.K[b.s]? =aa (aa k)):f.does b={f.dn b k b.rs.length with log:=f.log++nA b k b.rs.length}:=by unfold Fx.does;rw[h]
def Fx.fin:Nat->Fx->Fx
 |0,f=>f
 |n+1,f=>match f.fl with
  |[]=>f
  |b::r=>if b.due<=f.clock then Fx.fin n ({f with fl:=r}.does b)else f
def BU(f:Fx)(b:Jb):(f.does b).fl=f.fl/\(f.does b).clock=f.clock/\(f.does b).g=f.g:=by unfold Fx.does;split<;>exact⟨rfl,rfl,rfl⟩
structure xm(P:Fx->Prop):Prop where
 top:∀f b r,P f->f.fl=b::r->(∀x∈r,dW b.key x.key=aq)/\(∀x∈r,x.order≠b.order)/\r.length<1048576
 does:∀f b r,P f->f.fl=b::r->b.due<=f.clock->(∃k,f.K[b.s]? =aa (aa k)/\BD {f with fl:=r} b k)/\f.log.length+65536<=1099511627776/\P ({f with fl:=r}.does b)
structure Chg(P:Fx->Prop):Prop where
 run:∀{f1 F:Fx} {r:aB Jb} {b:Jb} {k:Ck} {W:az} {xb:Nat} {L:dy} {lj:Lj},P f1->f1.fl=b::r->F={f1 with fl:=r}->aL W F xb L->fj W L.own L.cs b lj->BD F b k->OQ W F xb L b lj
def E9{W f xb L}(h:aL W f xb L)(hf:f.fl=[]):fK 103 #[.pointer (aa (aj xb 18))] W (.tuple #[.pointer ay,.bool av]):=by
 have hr:=h.fl.row;rw[hf]at hr;obtain⟨a,b,e⟩:=mO hr
 have c:W.cell? (aj xb 18)=aa (.slice a 0 b):=by have:W.cell? (aj xb 18)=aa L.hv:=aI h.box rfl;rw[this,e];rfl
 go_enter func103,ntmps103;go_wp2
 go_ret2
 exact⟨rfl,rfl⟩
structure BG(P:Fx->Prop)(w:az)(L:dy)(F:Fx)(xb:Nat)(wr:az)(f1:Fx)(a:dy):Prop where
 at_:aL wr f1 xb a
 gJ:bJ w L wr a
 pp:P f1
 end_:Fx.fin f1.fl.length f1=F
def QD{f}(h:f.fl=[])(n):Fx.fin n f=f:=by cases n<;>simp[Fx.fin,h]
def ZW{f b r}(h:f.fl=b::r)(a:¬b.due<=f.clock)(n):Fx.fin n f=f:=by cases n<;>simp[Fx.fin,h,a]
def ZV{f b r}(h:f.fl=b::r)(a:b.due<=f.clock):Fx.fin f.fl.length f=Fx.fin ({f with fl:=r}.does b).fl.length ({f with fl:=r}.does b):=by rw[(BU _ b).1,h];show Fx.fin (r.length+1) f=_;simp only[Fx.fin,h,a,cV]
def BG.len{P w wr L L1 F f1 xb}(h:BG P w L F xb wr f1 L1):rz (wr.cell? (aj xb 18))=f1.fl.length:=by obtain⟨a,b,e⟩:=mO h.at_.fl.row;have:wr.cell? (aj xb 18)=aa L1.hv:=aI h.at_.box rfl;rw[this,e];rfl
def logged{w W c f xb L L1 a l}(h:aL W f xb L1)(hf:bJ w L W L1)(hr:c.ownsRow 0 96 7 a l.length (l.flatMap mI))(i:W.grownBy c L1.lv.ownBlock)(hw:a.ownBlock=L1.lv.ownBlock\/∀g,a.ownBlock=aa g->W.heap.size<=g):
  ∃j,aL (c.setCell (aj xb 20) a) {f with log:=l} xb j/\bJ w L (c.setCell (aj xb 20) a) j:=by
 have n:bh (λb=>aa b=L1.lv.ownBlock) W c:=⟨i.os,i.size,λx t s=>i.block x t s⟩;have m:∀b,b<W.heap.size->aa b=L1.lv.ownBlock->L1.own b=5:=λb _ e=>h.mM b e.symm;have k:∀b,b<W.heap.size->pL L1.own W.heap.size a 5 b=L1.own b:=λb d=>Lt d
 have q:∀b,a.ownBlock=aa b->pL L1.own W.heap.size a 5 b=5:=λb e=>by
  rcases mX b W.heap.size with r|hge
  ·rw[Lt r];rcases hw with hw|hw
   ·exact h.mM b (hw▸e)
   ·have:=hw b e;omega
  ·exact Ls hge e
 refine⟨_,h.logs (cA:=pL L1.own W.heap.size a 5) n m hr k q,hf.trans ⟨k,?_⟩⟩;have o:bh (λb=>L1.own b≠0) W c:=n.mono λb d e=>by rw[m b d e];omega
 exact o.set (p:=aj xb 20) (by show L1.own xb≠0;rw[h.eR];omega) _
structure Xg(P:Fx->Prop)(f1 F a G:Fx)(b:Jb)(r:aB Jb)(k:Ck):Prop where
 eq:a={f1 with fl:=r}
 K:a.K[b.s]? =aa (aa k)
 ok:BD a b k
 log:a.log.length+65536<=1099511627776
 pp:P G
 end_:Fx.fin G.fl.length G=F
 fl:G.fl=r
 res:G={a.dn b k b.rs.length with log:=a.log++nA b k b.rs.length}
 lt:r.length<f1.fl.length
def Zq{P:Fx->Prop}(h:xm P){f1 F:Fx}{b:Jb}{r:aB Jb}(m:P f1)(a:f1.fl=b::r)(c:b.due<=f1.clock)(g:Fx.fin f1.fl.length f1=F):∃e G k,Xg P f1 F e G b r k:=by
 obtain⟨⟨k,d,l⟩,j,i⟩:=h.does f1 b r m a c;refine⟨{f1 with fl:=r},{f1 with fl:=r}.does b,k,⟨rfl,d,l,j,i,?_,(BU _ b).1,uj (f:={f1 with fl:=r}) d,?_⟩⟩
 ·rw[<-ZV a c];exact g
 ·rw[a];simp
def w9(l:aB En):(l.flatMap mI).length=l.length*7:=by
 induction l with
 |nil=>rfl
 |cons a l b=>rw[DL,gW,b];simp;omega
def n9:∀u∈(Value.agg mJ).cells.toList,lz u:=by intro u a;have:(Value.agg mJ).cells.toList=mJ.toList:=rfl;rw[this]at a;simp at a;rcases a with rfl;trivial
def aau(l:aB En):∀u∈l.flatMap mI,u.oneCell'=aq:=by intro u b;obtain⟨e,_,a⟩:=DQ.1 b;simp at a;rcases a with rfl|rfl|rfl|rfl|rfl|rfl|rfl<;>rfl
def cell_eq{W a:az}{b i:Nat}(h:a.heap[b]? =W.heap[b]?):a.cell? (aj b i)=W.cell? (aj b i):=by unfold fC;rw[h]
def D9(P:Fx->Prop)(Z:Chg P)(hP:xm P)(w:az)(f:Fx)(xb:Nat)(L:dy)(h:aL w f xb L)(hp:P f):
  Calls prog 62 #[jp xb] w λe o=>e=aM (.tuple #[])/\P (Fx.fin f.fl.length f)/\∃x,aL o (Fx.fin f.fl.length f) xb x/\bJ w L o x:=by
 have H0:Hid (BG P w L (Fx.fin f.fl.length f) xb w f L):=⟨h,.refl w L,hp,rfl⟩;generalize Fx.fin f.fl.length f=F at*;obtain⟨iE,bw,nC,bB,nD⟩:=qO RX;have HP:Hid (xm P):=hP;clear h hp hP;go_enter func62,ntmps62;go_wp2
 go_loopw [] (λwr=>∃f1 I,Hid (BG P w L F xb wr f1 I)) (λwr=>rz (wr.cell? (aj xb 18)))
 case atStart=>exact⟨f,L,H0.out⟩
 case round=>
  obtain⟨f1,I,hR⟩:=hrel;have bz:=hR.out.len;have bL:=aS wr xb 13 (an f1.clock) hR.out.at_.box;cases q:f1.fl with
  |nil=>
   have H:Hid (fK 103 #[.pointer (aa (aj xb 18))] wr (.tuple #[.pointer ay,.bool av])):=E9 hR.out.at_ q
   have A:Hid (f1=F):=by have:=hR.out.end_;rw[QD q]at this;exact this
   go_wp2_with (go_at_call 103;refine H.out.mono ?_;rintro e w1 ⟨rfl,rfl⟩);refine bodyPost_ret (results_none rfl _ _ _) rfl ⟨rfl,?_,I,?_,hR.out.gJ⟩
   ·rw[<-A.out];exact hR.out.pp
   ·rw[<-A.out];exact hR.out.at_
  |cons b r=>
   obtain⟨t1,t2,t3⟩:=HP.out.top f1 b r hR.out.pp q;obtain⟨y,J,hJ,Q,E⟩:=E8 hR.out.at_ q t1 f1.clock;have H:Hid (fK 103 #[.pointer (aa (aj xb 18))] wr (.tuple #[jp y.j,.bool aq])):=Q
   by_cases i:b.due<=f1.clock
   ·have R:Hid (fK 104 #[jp y.j,an f1.clock] wr (.bool aq)):=by
     have:=E;rw[iC i]at this;exact this
    obtain⟨n,G,k,m⟩:=Zq HP.out hR.out.pp q i hR.out.end_
    have bp:Hid (Calls prog 105 #[.pointer (aa (aj xb 18))] wr λe o=>e=aM (.tuple #[jp y.j,.bool aq])/\∃a s,s.j=y.j/\aL o n xb a/\bJ w L o a/\fj o a.own a.cs b s):=by refine(E4 hR.out.at_ q t1 t2 t3).mono ?_;rintro e o ⟨s,rfl,p0,a,p1,p2,p3⟩;exact⟨by rw[J],a,s,by rw[p0,J],by rw[m.eq];exact p1,hR.out.gJ.trans p2,p3⟩
    clear Q E t1 t2 t3 hJ J
    go_upto_region 3 with(first|(go_at_call 103;refine H.out.mono ?_;rintro e w1 ⟨rfl,rfl⟩)|(go_at_call 104;refine R.out.mono ?_;rintro e w2 ⟨rfl,rfl⟩)|(go_at_call 105;refine bp.out.mono ?_;rintro e t ⟨rfl,a,s,el,C,x2,x3⟩))
    have Pz:=aS t xb 20 a.lv C.box;have aH:=aS t xb 19 (jp a.d) C.box
    have bn:Hid (Calls prog 106 #[jp y.j,jp a.d] t.drew λe o=>∃v x lc,e=aM v/\nR t a n xb b s k lc.c b.rs.length v o x lc):=by have bk:fj t.drew a.own a.cs b s:=fj.aside (W:=t) (T:=λ_=>False) ⟨λ_ _ _=>rfl,λ_ _=>rfl⟩ x3 (pN _) (λe=>e);have:=D7 t.drew n xb a b s k C.drew bk m.K m.ok (Z.run hR.out.pp q m.eq C.drew bk m.ok);rw[el]at this;refine this.mono ?_;rintro e o ⟨v,x,lc,rfl,i⟩;exact⟨v,x,lc,rfl,⟨i.fx,i.nE,⟨i.gJ.own,⟨i.gJ.cI.os,i.gJ.cI.size,i.gJ.cI.block⟩⟩,i.d,i.aG,i.c,i.row,i.cO,i.new,i.lv⟩⟩
    refine iD ?_;refine dY (S:=λW=>W.cell? (aj xb 20)=aa a.lv/\W.cell? (aj xb 19)=aa (jp a.d)) 14 aT ⟨Pz,aH⟩ ?_;intro hS;refine gk 0 ?_;refine gk 1 ?_;refine gk 2 ?_;refine gk 3 ?_;refine gs 4 ?_;refine gk 5 ?_;refine gk 6 ?_;refine gk 7 ?_;refine gk 8 ?_;refine gs 9 ?_;refine gr 10 λK p=>?_;go_simp;go_at_call 106;refine bn.out.mono ?_;rintro e z ⟨v,L6,l6,rfl,l⟩;have d20:z.cell? (aj xb 20)=aa a.lv:=by rw[<-l.lv];exact aI l.fx.box rfl
    have d19:z.cell? (aj xb 19)=aa (jp a.d):=by rw[<-l.d];exact aI l.fx.box rfl
    refine p.out _ _ ⟨d20,d19⟩ (λbP=>?_);clear p K;obtain⟨r0,t0,Cg,_⟩:=m.ok.ne;have aX:0<b.rs.length:=by rw[Cg];simp
    have RJ:=m.ok.many;obtain⟨g,bt,Y,_,bQ⟩:=l.row.form aX;have RI:z.ownsRow 0 96 7 a.lv n.log.length (n.log.flatMap mI):=by rw[<-l.lv];exact l.fx.log
    have aR:((nA b k b.rs.length).flatMap mI).length=b.rs.length*7:=by rw[w9];simp
    obtain⟨v',u,X,V,U,FF⟩:=ED (P:=prog) z 93 93 96 iE _ 7 56 underlying93 bw nC bB nD rfl ak n9 a.lv n.log.length (n.log.flatMap mI) RI ⟨g,0,ay⟩ b.rs.length bt ((nA b k b.rs.length).flatMap mI) aR (l.row.cells (by rw[Y];rfl)) (aau _) aX (by have:=m.log;unfold cC;omega) (by have:=m.log;omega);rw[<-Y]at X;obtain⟨M,N,rfl⟩:=mO V;refine gr 11 λK p=>?_;refine ya rfl rfl rfl rfl X ?_
    have xM:aa xb≠a.lv.ownBlock:=λe=>by have h1:=l.fx.mM xb (by rw[l.lv];exact e.symm);have h2:=l.fx.eR;omega
    have bA:xb<z.heap.size:=(bq.1 l.fx.box).1;have D:u.heap[xb]? =z.heap[xb]? :=U.block xb bA xM;refine p.out _ _ ⟨by rw[cell_eq D];exact d20,by rw[cell_eq D];exact d19⟩ (λFu=>?_);clear p K;refine gk 12 ?_;refine gk 13 ?_;have O:u.heap[xb]? =aa (aA (lJ (n.dn b k b.rs.length) L6) 112 (0,0)):=D.trans l.fx.box;have bU:=aS u xb 20 L6.lv O;have bV:=bF O 20
    obtain⟨B,g1,g2⟩:∃B,aL (u.setCell (aj xb 20) (.slice M (n.log.length+b.rs.length) N)) G xb B/\bJ w L (u.setCell (aj xb 20) (.slice M (n.log.length+b.rs.length) N)) B:=by rw[m.res];refine logged l.fx (x2.trans l.gJ) ?_ (by rw[l.lv];exact U) (by rw[l.lv];exact FF.at_);rw[gW,yK];have e:(nA b k b.rs.length).length=b.rs.length:=aC;rw[e];exact V
    have HF:Hid (BG P w L F xb (u.setCell (aj xb 20) (.slice M (n.log.length+b.rs.length) N)) G B):=⟨g1,g2,m.pp,m.end_⟩
    have HM:Hid (rz ((u.setCell (aj xb 20) (.slice M (n.log.length+b.rs.length) N)).cell? (aj xb 18))<f1.fl.length):=by show _<_;rw[HF.out.len,m.fl];exact m.lt
    clear g1 g2 O D l V U FF X RI aR Y C x2 x3 Cg aH Pz d19 d20;refine gz λK p=>?_;go_simp;refine p.out _ _ ?_;clear p K;refine ef aT ?_ _;refine gE ?_;go_wp2_with fail;exact⟨⟨G,B,HF.out⟩,by rw[bz];exact HM.out⟩
   ·have R:Hid (fK 104 #[jp y.j,an f1.clock] wr (.bool av)):=by
     have:=E;rw[iB i]at this;exact this
    have A:Hid (f1=F):=by have:=hR.out.end_;rw[ZW q i]at this;exact this
    clear Q E t1 t2 t3 hJ J;go_wp2_with (first|(go_at_call 103;refine H.out.mono ?_;rintro e w1 ⟨rfl,rfl⟩)|(go_at_call 104;refine R.out.mono ?_;rintro e w2 ⟨rfl,rfl⟩));refine bodyPost_ret (results_none rfl _ _ _) rfl ⟨rfl,?_,I,?_,hR.out.gJ⟩
    ·rw[<-A.out];exact hR.out.pp
    ·rw[<-A.out];exact hR.out.at_
end
section
attribute [local go_sem ↓] Go.wp_at_zero Go.wp_at_succ
attribute [local go_sem] Oper.semAt_some
attribute [local go_sem] bV bQ
open Go.Conc Go.RowKit Go.Shelf
open Go.Proofs.Tryz
section
abbrev dy.as(L:dy):aB (aZ Nat):=L.cs.map λl=>l.map Lc.c
variable {w W W':az} {f:Fx} {xb:Nat} {L:dy}
def zA{s c:Nat}(h:L.as[s]? =aa (aa c)):∃l,L.cs[s]? =aa (aa l)/\l.c=c:=by
 rw[jA]at h;cases a:L.cs[s]? with
 |none=>rw[a]at h;cases h
 |some o=>
  rw[a]at h;cases o with
  |none=>cases h
  |some l=>exact⟨l,rfl,by simpa using h⟩
def aL.CI(h:aL W f xb L){s c:Nat}(m:L.as[s]? =aa (aa c)):∃l k,L.cs[s]? =aa (aa l)/\l.c=c/\f.K[s]? =aa (aa k)/\l.At W f.g k/\l.ij λb=>L.own b=7+2*s:=by
 obtain⟨l,a,i⟩:=zA m;have j:s<f.K.length:=by rw[<-h.cs.len];exact(dS.1 a).1
 have d:=eI j;have:=h.cs.at_ s _ _ d a;cases e:f.K[s]with
 |none=>rw[e]at this;exact this.elim
 |some k=>rw[e]at this d;exact⟨l,k,a,i,d,this.1,this.2⟩
def aL.LY(h:aL W f xb L):∃n:Nat->Nat,∀(s c:Nat),L.as[s]? =aa (aa c)->n c=s:=by
 classical
 refine⟨λc=>if e:∃s,L.as[s]? =aa (aa c)then e.choose else 0,λs c a=>?_⟩;have e:∃s,L.as[s]? =aa (aa c):=⟨s,a⟩;show(if e:∃s,L.as[s]? =aa (aa c)then e.choose else 0)=s;rw[tS e];obtain⟨l,k,_,g,_,_,j⟩:=h.CI a;obtain⟨p,o,_,i,_,_,m⟩:=h.CI e.choose_spec;have b:=j.1;have d:=m.1;rw[g]at b;rw[i]at d;omega
def aL.Gy(h:aL W f xb L)(a:f.K.length<=65535):W.cell? (aj xb 9)=aa (.slice (aa (aj L.sb 0)) f.K.length f.K.length)/\L.as.length=f.K.length/\∀(j:Nat) v,L.as[j]? =aa v->W.cell? (aj L.sb j)=aa (kW v):=by refine⟨aI h.box rfl,by rw[nQ];exact h.cs.len,λj v hv=>aI h.dX (wo hv)⟩
def Pq{c}(h:c∈cP L.as):∃s:Nat,L.as[s]? =aa (aa c):=adl.1 h
def Fx.gp(f:Fx)(s:Nat):Fx:=match f.K[s]? with
 |some (aa k)=>f.at s (k.lX f.g)
 |_=>f
def Fx.BW(f:Fx):Fx:=(dH f.K.length).foldl Fx.gp f
def Qk{s}(h:f.K[s]? =aa ay\/f.K[s]? =ay):f.gp s=f:=by unfold Fx.gp;rcases h with h|h<;>rw[h]
def Ql{f:Fx}{s:Nat}{k:Ck}(h:f.K[s]? =aa (aa k)):f.gp s=f.at s (k.lX f.g):=by unfold Fx.gp;rw[h]
def JI(f:Fx)(s:Nat):(f.gp s).K.length=f.K.length/\(f.gp s).g=f.g/\∀(j:Nat),((f.gp s).K[j]? =aa ay↔f.K[j]? =aa ay):=by
 unfold Fx.gp;split
 ·rename_i k a;refine⟨aC,rfl,λj=>?_⟩;rw[ko];split
  ·rename_i e;subst e;rw[a];split<;>simp
  ·exact oI
 ·exact⟨rfl,rfl,λ_=>oI⟩
def aL.all(h:aL W f xb L)(step:Fx->Nat->Fx)(A:∀(f:Fx) (s:Nat),f.K[s]? =aa ay->step f s=f)(y:∀(f:Fx) (s j:Nat),f.K[j]? =aa ay->(step f s).K[j]? =aa ay){i:Nat->Nat}(B:∀(s c:Nat),L.as[s]? =aa (aa c)->i c=s):
  (cP L.as).foldl (λa c=>step a (i c)) f=(dH f.K.length).foldl step f:=by
 have key:∀(cs:aB (aZ Nat)) (o:Nat) (a:Fx),(∀(s c:Nat),cs[s]? =aa (aa c)->i c=o+s)->(∀(s:Nat),cs[s]? =aa ay->a.K[o+s]? =aa ay)->
   (cP cs).foldl (λa c=>step a (i c)) a=(dH cs.length).foldl (λa s=>step a (o+s)) a:=by
  intro cs;induction cs with
  |nil=>exact λ_ _ _ _=>rfl
  |cons x cs u=>
   intro o a n p;cases x with
   |none=>
    have e:cP (ay::cs)=cP cs:=rfl;have h0:step a (o+0)=a:=A a _ (p 0 rfl);rw[e,u (o+1) a (λs c g=>by have:=n (s+1) c g;omega) (λs d=>by have:=p (s+1) d;rwa [show o+(s+1)=o+1+s by omega]at this),eM,Wu,tK,Wp,h0]
    congr 1
    funext b s
    rw[show o+1+s=o+s.succ by omega]
   |some c=>
    have e:cP (aa c::cs)=c::cP cs:=rfl;have v:i c=o+0:=n 0 c rfl;rw[e,tK,u (o+1) _ (λs c g=>by have:=n (s+1) c g;omega) (λs d=>by have:=p (s+1) d;rw[show o+(s+1)=o+1+s by omega]at this;exact y _ _ _ this),eM,Wu,tK,Wp,v]
    congr 1
    funext b s
    rw[show o+1+s=o+s.succ by omega]
 have:=key L.as 0 f (λs c g=>by rw[B s c g];omega) (λs d=>?_)
 ·rw[this,nQ,h.cs.len]
  congr 1
  funext b s
  rw[fX]
 ·rw[fX];rw[jA]at d;cases m:L.cs[s]? with
  |none=>rw[m]at d;cases d
  |some o=>
   rw[m]at d;cases o with
   |some l=>cases d
   |none=>
    have z:s<f.K.length:=by rw[<-h.cs.len];exact(dS.1 m).1
    have q:f.K[s]? =aa f.K[s]:=eI z;have r:=h.cs.at_ s _ _ q m;cases t:f.K[s]with
    |none=>rw[q,t]
    |some k=>rw[t]at r;exact r.elim
structure vk(f f':Fx):Prop where
 g:f'.g=f.g
 tok:∀(s:Nat) k,f'.K[s]? =aa (aa k)->0<=k.tok/\k.tok<=65535
 len:f'.K.length=f.K.length
def vk.next{f f'}(h:vk f f')(hr:0<=f.g.rt/\f.g.rt<=65535)(d:0<=f.g.bu/\f.g.bu<=65535)(s:Nat):vk f (f'.gp s):=by
 refine⟨(JI f' s).2.1.trans h.g,λj k a=>?_,(JI f' s).1.trans h.len⟩;unfold Fx.gp at a;split at a
 ·rename_i b c;rw[show(f'.at s (b.lX f'.g)).K=f'.K.set s (aa (b.lX f'.g)) from rfl,ko]at a;split at a
  ·split at a
   ·cases a;have:=h.tok s b c;rw[h.g];show 0<=min (b.tok+f.g.rt) f.g.bu/\min (b.tok+f.g.rt) f.g.bu<=65535;omega
   ·cases a
  ·exact h.tok j k a
 ·exact h.tok j k a
def Zv(xb:Nat)(f:Fx)(L:dy)(M:Int)(w:az)(h:aL w f xb L)(P:f.K.length<=65535)(hr:0<=f.g.rt/\f.g.rt<=65535)(T:0<=f.g.bu/\f.g.bu<=65535)(ht:∀(s:Nat) k,f.K[s]? =aa (aa k)->0<=k.tok/\k.tok<=65535)(ah:∀x,w.heap.size<=x->L.own x=0):
  (tk1 f26).wp prog (λe a p=>e=.normal/\∃N0 D,a=MA xb M N0 D/\w.heap.size<=D/\p.heap[D]? =aa (.deferred (aa []))/\aL p f.BW xb L/\bh (λi=>L.own i≠0) w p) (Mz xb M) w:=by
 refine(wpIn_wide (n:=3)).1 ?_;simp only[tk1,nZ,eT,mY,f26]
 gi_wp2_with (first|(refine⟨trivial,?_⟩;gi_at_call 59;refine(gy.2 (Gx xb _)).mono ?_;rintro e w1 ⟨rfl,rfl⟩))
 have E:aN w (w.alloc (aA #[pt xb] 36)):=bp;have bQ:(w.alloc (aA #[pt xb] 36)).heap.size=w.heap.size+1:=aC;have e3:(w.alloc (aA #[pt xb] 36)).heap[w.heap.size]? =aa (aA #[pt xb] 36 (0,0)):=cG w _;show Code.wpIn iS 3 prog _ _ _ (w.alloc (aA #[pt xb] 36));generalize w.alloc (aA #[pt xb] 36)=z at*;obtain⟨d,Ci⟩:=h.LY;have bn:f.BW=(cP L.as).foldl (λa c=>a.gp (d c)) f:=(h.all Fx.gp (λf s H=>Qk (aF H)) (λf s j hj=>((JI f s).2.2 j).2 hj) Ci).symm
 have bI:Bears (λr=>False\/r=z.heap.size+1) (λ(pre:aB Nat) W=>aL W (pre.foldl (λa c=>a.gp (d c)) f) xb L/\vk f (pre.foldl (λa c=>a.gp (d c)) f)/\bh (λi=>L.own i≠0) w W):=by
  rintro pre W W' row ⟨h1,h2,C⟩ U hr;have bH:∀r,row=aa r->r=w.heap.size+2:=λr e=>by rcases hr r e with h|h;cases h;omega
  have Cj:∀k,k<W.heap.size->k≠w.heap.size+2->W'.heap[k]? =W.heap[k]? :=λk G bF=>U.block k G λe=>bF (bH k e.symm);refine⟨h1.uo λb T ho=>Cj b T λe=>ho (ah b ak),h2,⟨U.os.trans C.os,dM C.size U.size,λk G hx=>?_⟩⟩;exact(Cj k (dI G C.size) ak).trans (C.block k G hx)
 have Y:=bf h;have hS:=h.Gy P;have aU:aL z f xb L:=h.below E;have KA:vk f f:=⟨rfl,ht,rfl⟩;clear h ht
 refine zS (w:=z) rfl bL (gf:=96) (lb:=#[aR w.heap.size]) rfl trivial (enters_of func96 aT rfl) (encs:=yd) (λ_=>rfl)
  (R:=λ_=>False) (Kp:=λA B=>B.heap[L.sb]? =A.heap[L.sb]?) (V:=λt=>∃r,cP L.as=t++r) (S:=λt _=>t=cP L.as) (Sp:=λpre _=>∃r,cP L.as=pre++r)
  (λW hW=>?seq) (λr h=>h.elim) (λh k=>k.trans h) (λW o=>fS ?sbn) (λt W W' row h _ _=>h) (λt W W' row h _ _=>h)
  (λ(pre:aB Nat) W=>aL W (pre.foldl (λa c=>a.gp (d c)) f) xb L/\vk f (pre.foldl (λa c=>a.gp (d c)) f)/\bh (λi=>L.own i≠0) w W) (λ_ _=>False) bI (λ_ _ _ _ h _ _=>h) ⟨aU,KA,.below E⟩ (λc a _=>a=tkE xb M w.heap.size c) (λc a W W' row h _ _=>h) ?assign ?body ?done ?stop
 case sbn=>
  have:=(bq.1 Y.out.dX).1;omega
 case seq=>
  have bt:aN w W:=E.grown hW E.size (λk e=>by cases e);have xB:=nk e3 hW aC;have Q:=(Y.out.below bt).Gy P;exact Gz 2 bL w.heap.size xb L.sb f.K.length L.as W (aI xB rfl) Q.1 Q.2.1 P Q.2.2
 case assign=>
  rintro l pre c W K m hv iN hK
  gi_wp2
  exact hK _ W ⟨rfl,rfl⟩ rfl m rfl
 case body=>
  rintro l pre c a' W ⟨m,u,F⟩ rfl ⟨r,hv⟩ iN;have hc:c∈cP L.as:=by rw[hv];simp
  obtain⟨s,H⟩:=Pq hc;obtain⟨lc,k,X,I,J,y4,y⟩:=m.CI H;have KD:d c=s:=Ci s c H
  have HE:Hid (Calls prog 60 #[aR c] W λe p=>e=aM (.tuple #[])/\aL p ((pre++[c]).foldl (λa c=>a.gp (d c)) f) xb L/\vk f ((pre++[c]).foldl (λa c=>a.gp (d c)) f)/\bh (λi=>i=c) W p):=by
   rw[AP];show Calls _ _ _ _ λe p=>e=aM (.tuple #[])/\aL p (Fx.gp _ (d c)) xb L/\vk f (Fx.gp _ (d c))/\_;rw[KD,<-I];refine(Zu lc.c lc.rb lc.mb lc.ch lc.q lc.v _ k W y4 (by rw[u.g];exact hr) (u.tok s k J)).mono ?_;rintro e p ⟨rfl,O,g2⟩;have Z:Fx.gp (pre.foldl (λa c=>a.gp (d c)) f) s=(pre.foldl (λa c=>a.gp (d c)) f).at s (k.lX (pre.foldl (λa c=>a.gp (d c)) f).g):=Ql J;have N:({L with cs:=L.cs.set s (aa lc),own:=L.own}:dy)=L:=by rw[wu X]
   refine⟨rfl,?_,u.next hr T s,g2⟩;rw[Z,<-N];exact m.client (cA:=L.own) (l':=lc) X rfl J g2 (λb _ e=>by rw[e];exact y.1) O (λ_ _=>rfl) y
  have aH:=bf F
  have bP:c<w.heap.size:=by
   rcases mX c w.heap.size with bE|hge
   ·exact bE
   ·have Z:=ah c hge;have N:=y.1;rw[I]at N;omega
  have bz:L.own c=7+2*s:=by rw[<-I];exact y.1
  have bA:c≠L.sb:=λe=>by have:=m.jd;rw[<-e]at this;omega
  have bJ:L.sb<W.heap.size:=(bq.1 m.dX).1;clear m u F X I J y4 y
  gi_wp2_with (first|(refine⟨trivial,?_⟩;gi_at_call 60;refine(mR l (gy.2 HE.out)).mono ?_;rintro e w1 ⟨rfl,O,F2,g2⟩))
  exact⟨⟨g2.block _ ak ak,g2.block _ ak ak⟩,g2.block _ bJ (λe=>bA e.symm),O,F2,aH.out.trans (g2.mono λk _ e=>by rw[e,bz];omega)⟩
 case done=>
  rintro t W rfl ⟨m,u,F⟩ hD;exact⟨rfl,w.heap.size,z.heap.size,rfl,ak,hD,by rw[bn];exact m,F⟩
 case stop=>exact λ_ _ _ h _=>h.elim
end
end
section
attribute [local go_sem] Oper.semAt_some
attribute [local go_sem] bV bQ
open Go.Proofs.Tryz
open Go.RowKit Go.Shelf
def Ck.num(k:Ck)(n:Int):Ck:={k with q:=(cz n k.q).1}
def Fx.fU(f:Fx)(s:Nat):Fx:=match f.K[s]? with
 |some (aa k)=>{f.at s (k.num f.acc)with acc:=(cz f.acc k.q).2}
 |_=>f
def Fx.jY(f:Fx):Fx:=(dH f.K.length).foldl Fx.fU f
def FY{f:Fx}{s:Nat}(h:f.K[s]? =aa ay\/f.K[s]? =ay):f.fU s=f:=by unfold Fx.fU;rcases h with h|h<;>rw[h]
def Ll{f:Fx}{s:Nat}{k:Ck}(h:f.K[s]? =aa (aa k)):f.fU s={f.at s (k.num f.acc)with acc:=(cz f.acc k.q).2}:=by unfold Fx.fU;rw[h]
def aaf(f:Fx)(s:Nat):(f.fU s).K.length=f.K.length/\(f.fU s).g=f.g/\∀(j:Nat),((f.fU s).K[j]? =aa ay↔f.K[j]? =aa ay):=by
 unfold Fx.fU;split
 ·rename_i k a;refine⟨aC,rfl,λj=>?_⟩;rw[ko];split
  ·rename_i e;subst e;rw[a];split<;>simp
  ·exact oI
 ·exact⟨rfl,rfl,λ_=>oI⟩
structure vB(f f':Fx)(n:Nat):Prop where
 g:f'.g=f.g
 q:∀(s:Nat) k,f'.K[s]? =aa (aa k)->k.q.length<=1048576
 lo:0<=f'.acc
 hi:f'.acc<=f.acc+1048576*n
def vB.next{f f':Fx}{n:Nat}(h:vB f f' n)(s):vB f (f'.fU s) (n+1):=by
 cases b:f'.K[s]? with
 |none=>rw[FY (aE b)];exact⟨h.g,h.q,h.lo,by have:=h.hi;omega⟩
 |some o=>
  cases o with
  |none=>rw[FY (aF b)];exact⟨h.g,h.q,h.lo,by have:=h.hi;omega⟩
  |some k=>
   rw[Ll b];have e:=Lm k.q f'.acc;have c:=h.q s k b;have i:=h.hi;have l:=h.lo;refine⟨h.g,λj d a=>?_,?_,?_⟩
   ·rw[show({f'.at s (k.num f'.acc)with acc:=(cz f'.acc k.q).2}:Fx).K=f'.K.set s (aa (k.num f'.acc)) from rfl,ko]at a;split at a
    ·split at a
     ·cases a;show(cz f'.acc k.q).1.length<=_;rw[xV];exact c
     ·cases a
    ·exact h.q j d a
   ·show 0<=(cz f'.acc k.q).2;omega
   ·show(cz f'.acc k.q).2<=_;omega
def Mi:∀(cs:aB (aZ Nat)),(cP cs).length<=cs.length
 |[]=>bD 0
 |none::cs=>by have:=Mi cs;show(cP cs).length<=cs.length+1;omega
 |some c::cs=>by have:=Mi cs;show(cP cs).length+1<=cs.length+1;omega
abbrev tlX(xb d g e f c:Nat)(a b:Int):Act:=⟨#[pt xb,pt d,pt g,au,pt c,pt xb,.func (.func 96) #[] #[pt e],au,au,au,.tuple #[],pt xb,.func (.func 96) #[] #[pt f],pt c,pt xb,pt c,pt xb,pt xb,.pointer (aa (aj xb 11)),an a,an b,pt xb,.pointer (aa (aj xb 11))],[]⟩
def afy(xb m Wg B2 D:Nat)(f:Fx)(L:dy)(w:az)(h:aL w f xb L)(hN:f.K.length<=65535)(hq:∀(s:Nat) k,f.K[s]? =aa (aa k)->k.q.length<=1048576)(ha:0<=f.acc/\f.acc<=140737488355328)(X:∀x,w.heap.size<=x->L.own x=0)(y:w.heap[m]? =aa (aA #[pt xb] 36 (0,0)))(bV:L.own m=0)(hD:w.heap[D]? =aa (.deferred (aa [])))(bz:L.own D=0):
  (wE f61).wpIn iS 3 prog (bodyPostM iS 3 prog f61 λe w'=>e=aM (.tuple #[])/\aL w' f.jY xb L/\bh (λi=>i=D\/L.own i≠0) w w') (tlA xb m Wg B2 D) w:=by
 have cB:=aS w m 0 (pt xb) y;simp only[wE,An,f61]
 gi_wp2_with (first|(refine⟨trivial,?_⟩;gi_at_call 59;refine(gy.2 (Gx xb _)).mono ?_;rintro e n ⟨rfl,rfl⟩))
 have T:aN w (w.alloc (aA #[pt xb] 36)):=bp;have cS:(w.alloc (aA #[pt xb] 36)).heap.size=w.heap.size+1:=aC;have e3:(w.alloc (aA #[pt xb] 36)).heap[w.heap.size]? =aa (aA #[pt xb] 36 (0,0)):=cG w _;have bY:D<w.heap.size:=(bq.1 hD).1;have bw:m<w.heap.size:=(bq.1 y).1;show Code.wpIn iS 3 prog _ _ _ (w.alloc (aA #[pt xb] 36));generalize w.alloc (aA #[pt xb] 36)=u at*;obtain⟨d,Ci⟩:=h.LY;have b8:f.jY=(cP L.as).foldl (λa c=>a.fU (d c)) f:=(h.all Fx.fU (λf s hs=>FY (aF hs)) (λf s j hj=>((aaf f s).2.2 j).2 hj) Ci).symm
 have bI:Bears (λr=>False\/r=u.heap.size+1) (λ(pre:aB Nat) W=>aL W (pre.foldl (λa c=>a.fU (d c)) f) xb L/\vB f (pre.foldl (λa c=>a.fU (d c)) f) pre.length/\bh (λi=>L.own i≠0) w W):=by
  rintro pre W O row ⟨h1,h2,Q⟩ hg hr;have cx:∀r,row=aa r->r=w.heap.size+2:=λr e=>by rcases hr r e with h|h;cases h;omega
  have Cj:∀k,k<W.heap.size->k≠w.heap.size+2->O.heap[k]? =W.heap[k]? :=λk G U=>hg.block k G λe=>U (cx k e.symm);refine⟨h1.uo λb C Y=>Cj b C λe=>Y (X b ak),h2,⟨hg.os.trans Q.os,dM Q.size hg.size,λk G hx=>?_⟩⟩;exact(Cj k (dI G Q.size) ak).trans (Q.block k G hx)
 have N:Hid (aL w f xb L/\w.heap[m]? =aa (aA #[pt xb] 36 (0,0))/\w.heap[D]? =aa (.deferred (aa []))):=⟨h,y,hD⟩;have bU:aL u f xb L:=h.below T;have KA:vB f f 0:=⟨rfl,hq,ha.1,ak⟩;have cQ:L.as.length<=65535:=by rw[nQ,h.cs.len];exact hN
 clear h hq y hD cB
 refine zS (w:=u) rfl bL (gf:=96) (lb:=#[aR w.heap.size]) rfl trivial (enters_of func96 aT rfl) (encs:=yd) (λ_=>rfl)
  (R:=λ_=>False) (Kp:=λA B=>B.heap[L.sb]? =A.heap[L.sb]?) (V:=λH=>∃r,cP L.as=H++r) (S:=λH _=>H=cP L.as) (Sp:=λpre _=>∃r,cP L.as=pre++r)
  (λW hW=>?seq) (λr h=>h.elim) (λh k=>k.trans h) (λW o=>fS ?sbn) (λH W O row h _ _=>h) (λH W O row h _ _=>h)
  (λ(pre:aB Nat) W=>aL W (pre.foldl (λa c=>a.fU (d c)) f) xb L/\vB f (pre.foldl (λa c=>a.fU (d c)) f) pre.length/\bh (λi=>L.own i≠0) w W) (λ_ _=>False) bI (λ_ _ _ _ h _ _=>h) ⟨bU,KA,.below T⟩ (λc a _=>a=tlB xb m Wg B2 w.heap.size c) (λc a W O row h _ _=>h) ?assign ?body ?done ?stop
 case sbn=>
  have:=(bq.1 N.out.1.dX).1;omega
 case seq=>
  have b9:aN w W:=T.grown hW T.size (λk e=>by cases e);have sW:=(N.out.1.below b9).Gy hN;exact Gz 2 bL w.heap.size xb L.sb f.K.length L.as W (aI (nk e3 hW aC) rfl) sW.1 sW.2.1 hN sW.2.2
 case assign=>
  rintro l pre c W K p hv iN J
  gi_wp2
  exact J _ W ⟨rfl,rfl⟩ rfl p rfl
 case body=>
  rintro l pre c a' W ⟨p,E,t⟩ rfl ⟨r,hv⟩ iN;have hc:c∈cP L.as:=by rw[hv];simp
  obtain⟨s,hs⟩:=Pq hc;have KD:d c=s:=Ci s c hs
  have cR:pre.length+1<=65535:=by
   have h1:=Mi L.as;have h2:(cP L.as).length=pre.length+1+r.length:=by rw[hv];simp only[gW,eM,gX]
   omega
  have y:=(t.block m bw (by simp[bV])).trans N.out.2.1;have cB:=aS W m 0 (pt xb) y
  obtain⟨z,M,bO,HN⟩:∃z M:Int,W.cell? (aj xb 11)=aa (an z)/\Hid (Calls prog 102 #[pt c,an z] W.drew λe n=>e=aM (an M)/\n.cell? (aj m 0)=aa (pt xb)/\n.cell? (aj xb 11)=aa (an z)/\n.frozen? (aj xb 11)=av/\Hid (Exit.inBlock 3 (roundEnd u.heap.size (λA B=>B.heap[L.sb]? =A.heap[L.sb]?) (λ(pre:aB Nat) W=>aL W (pre.foldl (λa c=>a.fU (d c)) f) xb L/\vB f (pre.foldl (λa c=>a.fU (d c)) f) pre.length/\bh (λi=>L.own i≠0) w W) (λ_ _=>False) (pre++[c]) W) .normal (tlX xb m Wg B2 w.heap.size c z M) (n.setCell (aj xb 11) (an M)))):=by
   have cq:(pre++[c]).foldl (λa c=>a.fU (d c)) f=(pre.foldl (λa c=>a.fU (d c)) f).fU s:=by rw[AP];show Fx.fU _ (d c)=_;rw[KD]
   obtain⟨lc,k,y1,y2,y3,y4,y5⟩:=p.CI hs;have ck:=aS W xb 11 (an (pre.foldl (λa c=>a.fU (d c)) f).acc) p.box;have cv:=Ll y3;have pE:=E.lo;have lZ:=E.hi;have cw:=E.q s k y3;generalize pre.foldl (λa c=>a.fU (d c)) f=F at*;refine⟨F.acc,(cz F.acc k.q).2,ck,?_⟩;show Calls _ _ _ _ _
   have cT:w.heap.size+2<=W.heap.size:=by have:=iN;omega
   have cW:=p.eR;have cD:=p.jd;have cy:L.sb<W.heap.size:=(bq.1 p.dX).1;have cU:xb<W.heap.size:=(bq.1 p.box).1;subst y2;refine(aah lc.c lc.rb lc.mb lc.ch lc.q lc.v _ k F.acc W.drew (y4.old ((Below.refl _ W).drew)) ⟨pE,ak⟩ cw).mono ?_;rintro e n ⟨rfl,g1,g2⟩;have Z:∀b,aa b=lc.q.ownBlock->L.own b=7+2*s:=λb e=>y5.2.2.2.2.1 b e.symm;have I:bh (λb=>aa b=lc.q.ownBlock) W n:=⟨g2.os,g2.size,g2.block⟩;have e2:({L with cs:=L.cs.set s (aa lc),own:=L.own}:dy)=L:=by rw[wu y1]
   have k1:aL n (F.at s (k.num F.acc)) xb L:=by have:=p.client (cA:=L.own) (l':=lc) y1 rfl y3 I (λb _ e=>Z b e) (show lc.At n F.g (k.num F.acc) from g1) (λ_ _=>rfl) y5;rw[e2]at this;exact this
   have k2:aL (n.setCell (aj xb 11) (an (cz F.acc k.q).2)) (F.fU s) xb L:=by rw[cv];exact k1.put 11 _ _ rfl rfl rfl rfl rfl rfl ⟨rfl,rfl,rfl⟩
   have bl:bh (λb=>b=xb\/aa b=lc.q.ownBlock) W (n.setCell (aj xb 11) (an (cz F.acc k.q).2)):=by refine⟨I.os,by simpa using I.size,λb C hx=>?_⟩;rw[Below.heap_setCell n _ _ b (λe=>hx (aF e))];exact I.block b C λe=>hx (aE e)
   have bE:∀b,(b=xb\/aa b=lc.q.ownBlock)->L.own b≠0:=λb e=>by
    rcases e with e|e
    ·rw[e];omega
    ·rw[Z b e];omega
   have bB:∀b,b<W.heap.size->L.own b=0->(n.setCell (aj xb 11) (an (cz F.acc k.q).2)).heap[b]? =W.heap[b]? :=λb C h0=>bl.block b C λe=>bE b e h0;refine⟨rfl,?_,aI k1.box rfl,bF k1.box 11,?_⟩
   ·refine aI ((I.block m (dI bw t.size) λe=>?_).trans y) rfl;have:=Z m e;omega
   ·refine⟨⟨bB _ ak (X _ ak),bB _ ak (X _ ak)⟩,bl.block _ cy λe=>?_,?_⟩
    ·rcases e with e|e
     ·rw[e]at cD;omega
     ·have:=Z _ e;omega
    ·show aL _ ((pre++[lc.c]).foldl (λa c=>a.fU (d c)) f) xb L/\vB f ((pre++[lc.c]).foldl (λa c=>a.fU (d c)) f) (pre++[lc.c]).length/\_;rw[cq];exact⟨k2,by simpa using(E.next s),t.trans (bl.mono λb _ e=>bE b e)⟩
  have HI:=bf p;clear p E t y
  gi_wp2
  refine MT (S:=λW=>W.cell? (aj m 0)=aa (pt xb)/\W.cell? (aj xb 11)=aa (an z)) 9 aT ⟨cB,bO⟩ λhH=>?_;refine js 0 ?_;refine jk 1 ?_;refine js 2 ?_;refine jk 3 ?_;refine jk 4 ?_;refine js 5 ?_;refine jr 6 λK J=>?_;go_simp;refine⟨trivial,?_⟩;refine(mR l (gy.2 HN.out)).mono ?_;rintro e n ⟨rfl,bQ,bP,cN,cm⟩;refine J.out _ _ ⟨bQ,bP⟩ λKi=>?_;refine jk 7 ?_;refine jk 8 ?_;refine jz λK J=>?_;go_simp;refine J.out _ _ ?_;refine MR aT ?_ _;exact cm.out
 case done=>
  rintro H W rfl ⟨p,E,t⟩ Kh;have bX:D≠u.heap.size:=ak
  gi_wp2
  have t1:=qP (P:=prog) Kh;have bW:(W.putObj u.heap.size (.deferred ay)).heap[D]? =aa (.deferred (aa [])):=(fS bX).trans ((t.block D bY (by simp[bz])).trans N.out.2.2);refine⟨aC,aF ⟨_,_,rfl,t1,aC,aF ⟨_,_,rfl,qP bW,.tuple #[],by simp[results,results61],rfl,?_,?_⟩⟩⟩
  ·rw[b8];have cu:L.own u.heap.size=0:=X _ ak;refine p.uo λb C Y=>?_;have e1:b≠D:=λe=>Y (by rw[e];exact bz);have e2:b≠u.heap.size:=λe=>Y (by rw[e];exact cu);rw[fS e1,fS e2]
  ·refine⟨t.os,by simpa using t.size,λk G U=>?_⟩;rw[fS (λe=>U (aF e)),fS ak];exact t.block k G λe=>U (aE e)
 case stop=>exact λ_ _ _ h _=>h.elim
end
section
open Classical
open Go.Conc Go.RowKit
open Go.Proofs.Tryz
def aL.Yy{W W' f xb L}(h:aL W f xb L){j d cA}(D:j.length=f.K.length)(C:∀b,b<W.heap.size->(∀s,L.own b≠7+2*s)->W'.heap[b]? =W.heap[b]?)(z:∀b,b<W.heap.size->cA b=L.own b)(B:xj W' cA f.g j d)(hc:(d.map λl=>l.map Lc.c)=L.as):
  aL W' {f with K:=j} xb {L with cs:=d,own:=cA}:=by
 have a:fE W W' L.own cA λt=>∃s,t=7+2*s:=⟨λb A E=>C b A λs e=>E ⟨s,e⟩,z⟩;have b1:=a.blk h.box h.eR ak;have m:=a.blk h.dX h.jd ak;have p:=a.row h.bP h.lY ak;have r:=a.row h.log h.mM ak;have x:=a.fO h.fO h.oo ak;refine⟨?_,b1.2,?_,m.2,B,a.js h.js (λs lc F=>?_) (λn=>by rintro⟨s,e⟩;omega),a.qp h.fl ak,p.1,p.2,r.1,r.2,x.1,x.2⟩
 ·have e:=b1.1;simp only[lJ,D]at e⊢;exact e
 ·show xw W' L.sb (d.map λl=>l.map Lc.c);rw[hc];exact m.1
 ·have i:(d.map λl=>l.map Lc.c)[s]? =aa (aa lc.c):=by rw[hc,jA,F];rfl
  rw[jA]at i;cases y:d[s]? with
  |none=>rw[y]at i;cases i
  |some o=>
   rw[y]at i;cases o with
   |none=>cases i
   |some G=>exact⟨G,rfl,by simpa using i⟩
def Lc.Mine(l:Lc)(b:Nat):Prop:=b=l.c\/b=l.rb\/b=l.mb\/b=l.ch\/l.q.ownBlock=aa b\/l.v.ownBlock=aa b
def Lc.ij.mine{l:Lc}{P:Nat->Prop}(h:l.ij P){b:Nat}(a:l.Mine b):P b:=by
 rcases a with rfl|rfl|rfl|rfl|e|e
 ·exact h.1
 ·exact h.2.1
 ·exact h.2.2.1
 ·exact h.2.2.2.1
 ·exact h.2.2.2.2.1 b e
 ·exact h.2.2.2.2.2 b e
def Lc.mine(l:Lc):l.ij l.Mine:=⟨aF rfl,aE (aF rfl),aE (aE (aF rfl)),aE (aE (aE (aF rfl))),λ_ e=>aE (aE (aE (aE (aF e)))),λ_ e=>aE (aE (aE (aE (aE e))))⟩
section
variable [aP] {ρ:Ren} {P:aY} {u w:az}
def x9{v v'}(hf:lz v)(h:VR ρ v v'):v'=v:=by cases h<;>first|rfl|exact hf.elim
def y7{v}(hf:lz v):VR ρ v v:=by cases v<;>first|exact hf.elim|constructor
def y8{x x'}(hf:∀u∈x.toList,lz u)(h:bK ρ x x'):x'=x:=by
 apply yC;intro i;cases b:x[i]? with
 |none=>
  have a:=wH.1 b;exact lN (by rw[h.1];exact a)
 |some v=>
  have a:i<x'.size:=by rw[h.1];exact(bq.1 b).1
  have hv:v∈x.toList:=by have:=mw b;exact tE.2 this
  rw[cX a,x9 (hf v hv) (h.2 i v _ b (cX a))]
def QN{x}(hf:∀u∈x.toList,lz u):bK ρ x x:=⟨rfl,λi v d a b=>by rw[a]at b;cases b;exact y7 (hf v (tE.2 (mw a)))⟩
def TF(F:fy P ρ u w){T k n v v' xs}(hr:u.ownsRow 0 T k v n xs)(E:ng u v)(hv:VR ρ v v'):w.ownsRow 0 T k v' n xs/\ng w v'/\∀g,v'.ownBlock=aa g->ρ.im g:=by
 rcases hr.2 with⟨e,s⟩|⟨g,r,a,e,J,i,t,x,A,B⟩
 ·subst e;have:=agx hv;subst this;exact⟨⟨hr.1,aF ⟨rfl,s⟩⟩,Ah w,λg D=>by cases D⟩
 ·subst e;cases hv with
  |@slice _ p _ _ C=>
   obtain⟨f,m,o⟩:=C;obtain⟨b,y,z⟩:=p;simp only at f m o;subst m o;have j:∀u∈a.toList,lz u:=GX E i
   have l:w.heap[b]? =aa (aA a T (0,0)):=by
    rcases F.obj g b _ f i with h|⟨K,H,I⟩
    ·cases h
    ·cases I with
     |cells _ _ G=>rw[H,y8 j G]
   refine⟨⟨hr.1,aE ⟨b,r,a,rfl,eZ _,l,t,x,A,B⟩⟩,λg2 d=>?_,λg2 d=>?_⟩
   ·cases d;exact⟨a,T,l,j⟩
   ·cases d;exact⟨_,f⟩
def agf(C:fy P ρ u w){mb us}(hm:ρ mb mb)(h:Uses u mb us):Uses w mb us:=by
 obtain⟨f,s,t,e,A,B⟩:=h;rcases C.obj mb mb _ hm t with h|⟨L,F,G⟩
 ·cases h
 ·cases G with
  |@map _ a _ d=>
   have:a=f:=by
    apply yC;intro i;cases b:f[i]? with
    |none=>exact lN (by rw[d.1];exact wH.1 b)
    |some m=>
     have l:i<a.size:=by rw[d.1];exact(bq.1 b).1
     obtain⟨o,p,r⟩:=d.2 i m _ b (cX l);obtain⟨y,n⟩:=e.reads m (tE.2 (mw b));obtain⟨x,j,_,_⟩:=Wz (q:=.i64) aT (WO n);obtain⟨z,D,_⟩:=WQ n;obtain⟨hv,_⟩:=unitElem_inv D;rw[cX l];generalize a[i]=E at*;obtain⟨a1,I,a3⟩:=m;obtain⟨b1,J,K⟩:=E;simp only at o p r j hv;subst j hv r;rw[Da o];cases p with
     |@agg _ a H M=>
      have:a=#[]:=Hi H;rw[this]
   subst this;exact⟨_,s,F,e,A,B⟩
variable {c rb mb ch:Nat} {g:Cf} {k:Ck} {q v:aD}
def cj.Cy(d:fy P ρ u w)(hc:ρ c c)(hr:ρ rb rb)(hm:ρ mb mb)(l:ρ ch ch)(h:cj u c rb mb ch q v g k):∃f b,cj w c rb mb ch f b g k/\(⟨c,rb,mb,ch,f,b⟩:Lc).ij ρ.im:=by
 obtain⟨e,r,z,A⟩:=PI d hc h.p.box;have key:=A;obtain⟨f,x,L⟩:=key 13 q rfl;obtain⟨b,y,M⟩:=key 16 v rfl
 have m:e=jI g k rb f b ch:=by
  have num:∀(i:Nat) (o:IntKind) (n:Int),(jI g k rb q v ch)[i]? =aa (.int o n)->e[i]? =aa (.int o n):=λi o n C=>by obtain⟨b,a1,a⟩:=key i _ C;rw[a1,Da a]
  apply yC;intro i
  match i with
  |0=>exact num 0 _ _ rfl
  |1=>exact num 1 _ _ rfl
  |2=>exact num 2 _ _ rfl
  |3=>exact num 3 _ _ rfl
  |4=>exact num 4 _ _ rfl
  |5=>exact num 5 _ _ rfl
  |6=>exact num 6 _ _ rfl
  |7=>exact num 7 _ _ rfl
  |8=>exact num 8 _ _ rfl
  |9=>exact num 9 _ _ rfl
  |10=>exact num 10 _ _ rfl
  |11=>obtain⟨b,a1,a⟩:=key 11 _ rfl;rw[a1,agw d.one hr a];rfl
  |12=>obtain⟨b,a1,a⟩:=key 12 _ rfl;rw[a1,agy a];rfl
  |13=>exact x
  |14=>exact num 14 _ _ rfl
  |15=>exact num 15 _ _ rfl
  |16=>exact y
  |17=>exact num 17 _ _ rfl
  |18=>exact num 18 _ _ rfl
  |19=>exact num 19 _ _ rfl
  |20=>obtain⟨b,a1,a⟩:=key 20 _ rfl;rw[a1,agt d.one l a];rfl
  |n+21=>
   have B:e.size=21:=z;rw[lN ak];rfl
 rw[m]at r;obtain⟨D,E,F⟩:=TF d h.p.row h.p.tq L;obtain⟨p1,G,H⟩:=TF d h.p.out h.p.tv M;obtain⟨t,s,K⟩:=h.rd;refine⟨f,b,⟨⟨r,D,p1,E,G,?_⟩,t,⟨?_,agf d hm s.uses⟩,K⟩,⟨_,hc⟩,⟨_,hr⟩,⟨_,hm⟩,⟨_,l⟩,F,H⟩
 ·rcases d.obj ch ch _ l h.p.chan with h|⟨N,I,J⟩
  ·cases h
  ·cases J;exact I
 ·obtain⟨e,m1,m2,j⟩:=PI d hr s.box
  have m:e=#[an g.sz,an g.mx,an t,.map (aa mb)]:=by
   apply yC;intro i
   match i with
   |0=>obtain⟨b,a1,a⟩:=j 0 _ rfl;rw[a1,Da a];rfl
   |1=>obtain⟨b,a1,a⟩:=j 1 _ rfl;rw[a1,Da a];rfl
   |2=>obtain⟨b,a1,a⟩:=j 2 _ rfl;rw[a1,Da a];rfl
   |3=>obtain⟨b,a1,a⟩:=j 3 _ rfl;rw[a1,agv d.one hm a];rfl
   |n+4=>
    have B:e.size=4:=m2;rw[lN ak];rfl
  rw[m]at m1;exact m1
def TG{C T k n v xs}(hr:u.ownsRow 0 T k v n xs)(a:∀b,v.ownBlock=aa b->C b):VR (eF C) v v:=by
 rcases hr.2 with⟨e,h⟩|⟨g,d,f,e,i⟩
 ·subst e;exact .fH _ _
 ·subst e;exact .slice _ _ ⟨⟨rfl,a g rfl⟩,rfl,rfl⟩
def Lc.At.closed{l:Lc}(h:l.At u g k):Closed l.Mine u:=by
 have f:=l.mine;have hv:=TG (C:=l.Mine) h.p.out f.2.2.2.2.2;obtain⟨K,r,J⟩:=h.rd;rintro b (rfl|rfl|rfl|rfl|e|e)
 ·refine⟨_,h.p.box,.cells _ _ ⟨rfl,λi x D a d=>?_⟩⟩;rw[a]at d;cases d;have j:i<21:=(bq.1 a).1
  match i,j,a with
  |0,_,a=>cases a;exact .int _ _
  |1,_,a=>cases a;exact .int _ _
  |2,_,a=>cases a;exact .int _ _
  |3,_,a=>cases a;exact .int _ _
  |4,_,a=>cases a;exact .int _ _
  |5,_,a=>cases a;exact .int _ _
  |6,_,a=>cases a;exact .int _ _
  |7,_,a=>cases a;exact .int _ _
  |8,_,a=>cases a;exact .int _ _
  |9,_,a=>cases a;exact .int _ _
  |10,_,a=>cases a;exact .int _ _
  |11,_,a=>cases a;exact .ptr ⟨⟨rfl,f.2.1⟩,rfl,rfl⟩
  |12,_,a=>cases a;exact .string _
  |13,_,a=>cases a;exact(TG (C:=l.Mine) h.p.row f.2.2.2.2.1)
  |14,_,a=>cases a;exact .int _ _
  |15,_,a=>cases a;exact .int _ _
  |16,_,a=>cases a;exact hv
  |17,_,a=>cases a;exact .int _ _
  |18,_,a=>cases a;exact .int _ _
  |19,_,a=>cases a;exact .int _ _
  |20,_,a=>cases a;exact .chan ⟨rfl,f.2.2.2.1⟩
  |n+21,j,_=>omega
 ·refine⟨_,r.box,.cells _ _ ⟨rfl,λi x D a d=>?_⟩⟩;rw[a]at d;cases d;have j:i<4:=(bq.1 a).1
  match i,j,a with
  |0,_,a=>cases a;exact .int _ _
  |1,_,a=>cases a;exact .int _ _
  |2,_,a=>cases a;exact .int _ _
  |3,_,a=>cases a;exact .map ⟨rfl,f.2.2.1⟩
  |n+4,j,_=>omega
 ·obtain⟨H,E,s,t,F,G⟩:=r.uses;refine⟨_,s,.map _ ⟨rfl,λi m I a d=>?_⟩⟩;rw[a]at d;cases d;obtain⟨y,o⟩:=t.reads m (tE.2 (mw a));obtain⟨x,A,_,_⟩:=Wz (q:=.i64) aT (WO o);obtain⟨z,B,_⟩:=WQ o;obtain⟨hv,_⟩:=unitElem_inv B;rw[A,hv];exact⟨.int _ _,.agg rfl (λi v L h=>by simp at h),rfl⟩
 ·exact⟨_,h.p.chan,.chan _ _ _ _ _⟩
 ·obtain⟨x,T,t1,t2⟩:=h.p.tq b e;exact⟨_,t1,.cells _ _ (QN t2)⟩
 ·obtain⟨x,T,t1,t2⟩:=h.p.tv b e;exact⟨_,t1,.cells _ _ (QN t2)⟩
end
end
section
open Classical
open Go.Conc Go.RowKit
open Go.ConcR (Payload)
open Go.Proofs.Tryz
def Ck.uy(g:Cf)(k:Ck):Ck:=Ck.read g (k.aU.size+1) k
def Fx.readAll(f:Fx):Fx:={f with K:=f.K.map λo=>o.map (Ck.uy f.g)}
section
variable {u:az} {f:Fx} {xb:Nat} {L:dy}
def aL.tp(h:aL u f xb L)(a:Tape):aL (u.tp a) f xb L:=h.old λ_ _=>rfl
def aL.TK(h:aL u f xb L){s a:Nat}{l l':Lc}(g:L.cs[s]? =aa (aa l))(i:L.cs[a]? =aa (aa l'))(e:l.c=l'.c):s=a:=by obtain⟨j,b⟩:=h.LY;have a1:=b s l.c (by grind);have d:=b a l'.c (by grind);rw[e]at a1;omega
def aL.who(h:aL u f xb L):∃F:Nat->Lc×Ck×Nat,∀(s:Nat) l,L.cs[s]? =aa (aa l)->(F l.c).1=l/\(F l.c).2.2=s/\f.K[s]? =aa (aa (F l.c).2.1)/\l.At u f.g (F l.c).2.1/\l.ij λb=>L.own b=7+2*s:=by
 have n:∀c:Nat,∃x:Lc×Ck×Nat,∀(s:Nat) l,L.cs[s]? =aa (aa l)->l.c=c->x.1=l/\x.2.2=s/\f.K[s]? =aa (aa x.2.1)/\l.At u f.g x.2.1/\l.ij λb=>L.own b=7+2*s:=λc=>by
  by_cases e:∃(s:Nat) (l:Lc),L.cs[s]? =aa (aa l)/\l.c=c
  ·obtain⟨s,l,a,d⟩:=e;obtain⟨t,k,j,w,o,p,q⟩:=h.CI (s:=s) (c:=c) (by rw[jA,a];show aa (aa l.c)=_;rw[d]);rw[a]at j;cases j;refine⟨⟨l,k,s⟩,λv r i m=>?_⟩;obtain rfl:=h.TK a i (d.trans m.symm);rw[a]at i;cases i;exact⟨rfl,rfl,o,p,q⟩
  ·exact⟨⟨⟨0,0,0,0,.slice ay 0 0,.slice ay 0 0⟩,⟨0,0,0,⟨#[]⟩,[],0,0,⟨#[]⟩,0,0,0,[]⟩,0⟩,λs l a d=>absurd ⟨s,l,a,d⟩ e⟩
 obtain⟨F,hF⟩:=VF n;exact⟨F,λs l a=>hF l.c s l a rfl⟩
end
section
variable [aP] [pX] {l:aB bC} {u:az} {f:Fx} {xb:Nat} {L:dy} {F:Nat->Lc×Ck×Nat}
def OY(g:Cf)(F:Nat->Lc×Ck×Nat)(c:Nat)(e:Ending)(u:az):Prop:=
 e=aM (.tuple #[])/\∃q v,cj u c (F c).1.rb (F c).1.mb (F c).1.ch q v g (Ck.uy g (F c).2.1)
abbrev Who(u:az)(f:Fx)(L:dy)(F:Nat->Lc×Ck×Nat):Prop:=∀(s:Nat) l,L.cs[s]? =aa (aa l)->(F l.c).1=l/\(F l.c).2.2=s/\f.K[s]? =aa (aa (F l.c).2.1)/\l.At u f.g (F l.c).2.1/\l.ij λb=>L.own b=7+2*s
def aL.enters(h:aL u f xb L)(hF:Who u f L F)(A:Fit prog l)(C:aP.ok 100)(D:aP.ok 96)(B:aP.known 61)(t:f.K.length<=65535)(r:∀(s:Nat) k,f.K[s]? =aa (aa k)->k.BA f.g):
  Enters l (λc=>(F c).1.Mine) (OY f.g F) u L.as xb L.sb f.K.length:=by
 letI:bw:=bU []
 have hS:=h.Gy t
 have mine:∀{s c b:Nat},L.as[s]? =aa (aa c)->(F c).1.Mine b->L.own b=7+2*s:=λ{s c b} d a=>by obtain⟨l,j,rfl⟩:=zA d;obtain⟨i,_,_,_,p⟩:=hF s l j;rw[i]at a;exact p.mine a
 refine⟨A,C,D,B,hS.2.1,ak,hS.1,hS.2.2,⟨_,h.dX,by simp[cm]⟩,λs c d=>?_,λs O c J d E N b a y=>?_,λs c d=>⟨λa=>?_,λa=>?_⟩,λc e u n hr=>⟨hr.1,?_⟩,λc e u hr=>⟨_,hr.1⟩,λs c d w G _ _ n=>?_⟩
 ·obtain⟨l,j,rfl⟩:=zA d;obtain⟨i,_,_,m,_⟩:=hF s l j;rw[i];exact⟨m.closed,aF rfl⟩
 ·have:=mine d a;have:=mine E y;omega
 ·have:=mine d a;have:=h.eR;omega
 ·have:=mine d a;have:=h.jd;omega
 ·obtain⟨q,v,hr⟩:=hr.2;exact⟨q,v,hr.keep ⟨trivial,trivial,trivial,trivial,λ_ _=>trivial,λ_ _=>trivial⟩ λ_ _ _=>rfl⟩
 ·obtain⟨l,j,rfl⟩:=zA d;obtain⟨i,M,o,m,_⟩:=hF s l j
  have x:cj ((mask (F l.c).1.Mine w).tp n) l.c l.rb l.mb l.ch l.q l.v f.g (F l.c).2.1:=by rw[i];exact m.keep l.mine λb a _=>(pI a).trans (G b (by rw[i];exact a))
  refine gy.1 ((uy l.c _ _ _ _ _ f.g _ _ x (r s _ o)).mono ?_);rintro e P ⟨z,H,I,hr⟩;refine⟨z,H,I,?_⟩;rw[i];exact hr
structure Xj(u c:az)(f:Fx)(xb:Nat)(L a:dy):Prop where
 at_:aL c f.readAll xb a
 own:∀b,b<u.heap.size->a.own b=L.own b
 new:∀b,c.heap.size<=b->a.own b=0
 sb:a.sb=L.sb
def E0{i:az}{B Wg B2 D:Nat}(h:aL u f xb L)(hF:Who u f L F)(r:After (λc=>(F c).1.Mine) (OY f.g F) L.as u i xb B Wg B2 D):
  ∃H,Xj u i f xb L H/\H.own B=0/\H.own D=0/\bh (λb=>L.own b≠0) u i:=by
 letI:bw:=bU []
 obtain⟨p,i1,Q,i3⟩:=r.reads
 have key:∀c:Nat,∃x:aD×aD,c∈sat L.as->cj i c (F c).1.rb (F c).1.mb (F c).1.ch x.1 x.2 f.g (Ck.uy f.g (F c).2.1)/\(⟨c,(F c).1.rb,(F c).1.mb,(F c).1.ch,x.1,x.2⟩:Lc).ij λb=>p c b/\b<i.heap.size:=λc=>by
  by_cases t:c∈sat L.as
  ·obtain⟨uc,bn,v,⟨_,q0,v0,j⟩,m,S,h4,h5⟩:=i3 c t;obtain⟨s,O⟩:=FV.1 t;obtain⟨l,y1,rfl⟩:=zA O;obtain⟨w,_,_,_,_⟩:=hF s l y1;have I:=(F l.c).1.mine;have J:(F l.c).1.Mine l.c:=by rw[w];exact aF rfl
   obtain⟨q',v',m1,m2⟩:=cj.Cy S (m _ _ ⟨rfl,J⟩) (m _ _ ⟨rfl,I.2.1⟩) (m _ _ ⟨rfl,I.2.2.1⟩) (m _ _ ⟨rfl,I.2.2.2.1⟩) j;exact⟨(q',v'),λ_=>⟨m1,m2.mono λb ⟨a,T⟩=>⟨h5 a b T,(S.lt a b T).2⟩⟩⟩
  ·exact⟨(au,au),λh=>absurd h t⟩
 obtain⟨G,aO⟩:=VF key
 let E:Nat->Nat:=λb=>if b<u.heap.size then L.own b else if e:∃(s:Nat) (l:Lc),L.cs[s]? =aa (aa l)/\p l.c b/\b<i.heap.size then 7+2*e.choose else 0
 have A:∀{s:Nat} {l:Lc},L.cs[s]? =aa (aa l)->l.c∈sat L.as:=λ{s l} n=>FV.2 ⟨s,by rw[jA,n];rfl⟩
 have mine:∀{s:Nat} {l:Lc} {b:Nat},L.cs[s]? =aa (aa l)->(F l.c).1.Mine b->L.own b=7+2*s:=λ{s l b} n d=>by obtain⟨w,_,_,_,e5⟩:=hF s l n;rw[w]at d;exact e5.mine d
 have aN:∀{s:Nat} {l:Lc} {b:Nat},L.cs[s]? =aa (aa l)->p l.c b->b<i.heap.size->E b=7+2*s:=λ{s l b} n d aI=>by
  by_cases P:b<u.heap.size
  ·show(if b<u.heap.size then L.own b else _)=_;rw[aW P];exact mine n ((Q _ b (A n) d).2.2.2 P)
  ·have e:∃(s:Nat) (l:Lc),L.cs[s]? =aa (aa l)/\p l.c b/\b<i.heap.size:=⟨s,l,n,d,aI⟩;show(if b<u.heap.size then L.own b else if e:∃(s:Nat) (l:Lc),L.cs[s]? =aa (aa l)/\p l.c b/\b<i.heap.size then 7+2*e.choose else 0)=_;rw[aK P,tS e];obtain⟨l',j,m,_⟩:=e.choose_spec
   have J:l'.c=l.c:=by
    by_cases W:l'.c=l.c
    ·exact W
    ·exact absurd d (i1 _ _ b (A j) (A n) W m)
   rw[h.TK j n J]
 have U:∀b,b<u.heap.size->(∀s,L.own b≠7+2*s)->i.heap[b]? =u.heap[b]? :=λb d M=>r.kept b d λs c O hm=>by obtain⟨l,j,rfl⟩:=zA O;exact M s (mine j hm)
 have aH:xj i E f.g (f.K.map λo=>o.map (Ck.uy f.g)) (L.cs.map λo=>o.map λl=>{l with q:=(G l.c).1,v:=(G l.c).2}):=by
  refine⟨by rw[nQ,nQ];exact h.cs.len,λs x y X Z=>?_⟩;rw[jA,eV]at X Z;obtain⟨x0,Y,rfl⟩:=X;obtain⟨y0,C,rfl⟩:=Z;have:=h.cs.at_ s _ _ Y C;cases x0 with
  |none=>cases y0 with
   |none=>trivial
   |some l=>exact this.elim
  |some k=>cases y0 with
   |none=>exact this.elim
   |some l=>
    obtain⟨w,_,R,_,_⟩:=hF s l C;rw[Y]at R;have xB:k=(F l.c).2.1:=by simpa using R
    have N:=aO l.c (A C);rw[w]at N;refine⟨?_,?_⟩
    ·rw[xB];exact N.1
    ·exact N.2.mono λb d=>aN C d.1 d.2
 have V:∀b,u.heap.size<=b->(∀c,c∈sat L.as->¬p c b)->E b=0:=λb d z=>by show(if b<u.heap.size then L.own b else if e:∃(s:Nat) (l:Lc),L.cs[s]? =aa (aa l)/\p l.c b/\b<i.heap.size then 7+2*e.choose else 0)=0;rw[aK ak,gK];rintro⟨s,l,j,m,_⟩;exact z l.c (A j) m
 refine⟨{L with cs:=L.cs.map λo=>o.map λl=>{l with q:=(G l.c).1,v:=(G l.c).2},own:=E},⟨?_,λb d=>aW d,λb d=>?_,rfl⟩,?_,?_,⟨r.os,r.size,λb d M=>?_⟩⟩
 ·refine h.Yy (by rw[nQ]) U (λb d=>aW d) aH ?_;rw[List.map_map]
  congr 1
  funext o
  cases o<;>rfl
 ·show(if b<u.heap.size then L.own b else if e:∃(s:Nat) (l:Lc),L.cs[s]? =aa (aa l)/\p l.c b/\b<i.heap.size then 7+2*e.choose else 0)=0;have:=r.size;rw[aK ak,gK];rintro⟨s,l,j,_,m⟩;omega
 ·exact V B r.news.1 λc t z=>(Q c B t z).1 rfl
 ·exact V D r.news.2.2.2 λc t z=>(Q c D t z).2.2.1 rfl
 ·refine U b d λs e=>M ?_;rw[e];omega
def aL.Yh(h:aL u f xb L)(M:Fit prog l)(Q:eK prog l av (wE f61)=aq)(O:aP.ok 100)(P:aP.ok 96)(N:aP.known 61)(t:f.K.length<=65535)(I:∀(s:Nat) k,f.K[s]? =aa (aa k)->k.BA f.g)(R:∀(s:Nat) k,f.readAll.K[s]? =aa (aa k)->k.q.length<=1048576)(J:0<=f.acc/\f.acc<=140737488355328)(_hnew:∀x,u.heap.size<=x->L.own x=0):
  fc prog 61 #[pt xb] u λe i=>e=aM (.tuple #[])/\∃c,aL i f.readAll.jY xb c/\(∀b,b<u.heap.size->c.own b=L.own b)/\bh (λb=>L.own b≠0) u i:=by
 obtain⟨F,hF⟩:=h.who;refine Yj (h.enters hF M O P N t I) Q ?_ (λe u hr=>⟨_,hr.1⟩) λi w z y D j m=>?_
 ·rintro e i m ⟨d,c,o,p,a⟩;exact⟨d,c,o.tp m,p,⟨a.os,a.size,a.block⟩⟩
 ·obtain⟨c,d,o,p,a⟩:=E0 h hF j;have S:=afy xb w z y D f.readAll c (i.tp m) (d.at_.tp m) (by show(f.K.map _).length<=_;rw[nQ];exact t) R J d.new j.b1 o j.df p;obtain⟨e,T,H,⟨A,B,n⟩,C,E,G⟩:=YC (b:=eu) func61 rfl rfl rfl S [bot prog];refine⟨e,T,H,⟨A,c,B,d.own,⟨n.os.trans a.os,dM a.size n.size,λb r v=>(n.block b (dI r a.size) ?_).trans (a.block b r v)⟩⟩,C,E,G⟩;rintro(rfl|e)
  ·have:=j.news.2.2.2;omega
  ·rw[d.own b r]at e;exact v e
end
end
section
attribute [local go_sem ↓] Go.wp_at_zero Go.wp_at_succ
attribute [local go_sem] bV bQ
open Go.Conc Go.RowKit
open Go.ConcR (Payload)
open Go.Proofs.Tryz
def CS(fn:Func):Code:=eT (eT (eT (fn.body.getD .skip)))
def Fx.goes(f:Fx):Fx:=if f.stop then f else f.readAll.jY
def Fx.ends(f:Fx):Fx:=Fx.fin f.fl.length f
def Fx.takes(f:Fx):Fx:=Fx.turns (f.fuel 0) 0 f
def Fx.lets(f:Fx):Fx:=f.dj f.K.length
def Fx.early(f:Fx):Fx:={f with clock:=f.clock+1}.BW
def Fx.tick(f:Fx):Fx:=f.early.goes.ends.takes.lets
section
variable {u w:az} {f:Fx} {xb:Nat} {L L0:dy}
def bJ.tp(h:bJ w L u L0)(a:Tape):bJ w L (u.tp a) L0:=⟨h.own,⟨h.cI.os,h.cI.size,h.cI.block⟩⟩
def bJ.base{τ}(h:bJ (w.tp τ) L u L0):bJ w L u L0:=⟨h.own,⟨h.cI.os,h.cI.size,h.cI.block⟩⟩
def aL.norm(h:aL u f xb L)(hf:bJ w L0 u L):∃c,aL u f xb c/\bJ w L0 u c/\∀x,u.heap.size<=x->c.own x=0:=by refine⟨{L with own:=λb=>if b<u.heap.size then L.own b else 0},h.owns _ λb a=>aW a,⟨λb a=>?_,hf.cI⟩,λx d=>aK ak⟩;show(if b<u.heap.size then L.own b else 0)=L0.own b;rw[aW (dI a hf.cI.size)];exact hf.own b a
end
def afI{u f xb L}(h:aL u f xb L)(j:0<=f.clock/\f.clock<=281474976710656):
  (tkZ f26).wp prog (λe a d=>e=.normal/\a=Mz xb f.clock/\aL d {f with clock:=f.clock+1} xb L/\bJ u L d L) ⟨#[pt xb,au,au,au,au,au,au,au,au,au,au,au,au,au,au,au,au,au,au,au,au,au,au,au,au,au,au,au],[]⟩ u:=by
 have m:=aS u xb 13 (an f.clock) h.box;have f13:=bF h.box 13;have b:Bz (f.clock+1)=f.clock+1:=by unfold Bz;omega
 have c:bh (λi=>i=xb) u (u.setCell (aj xb 13) (an (Bz (f.clock+1)))):=(bh.refl (λi=>i=xb) u).set (p:=aj xb 13) rfl _
 have g:Hid (Bz (f.clock+1)=f.clock+1/\aL (u.setCell (aj xb 13) (an (Bz (f.clock+1)))) {f with clock:=f.clock+1} xb L/\bJ u L (u.setCell (aj xb 13) (an (Bz (f.clock+1)))) L):=
  ⟨b,by rw[b];exact h.put 13 _ _ rfl rfl rfl rfl rfl rfl ⟨rfl,rfl,rfl⟩,⟨λ_ _=>rfl,c.mono λk _ e=>by rw[e,h.eR];omega⟩⟩
 clear h c b j;generalize f.clock=n at*;simp only[tkZ,nZ,mY,f26];go_wp2;exact g.out
def afG{u f xb L PL N0 D}(h:aL u f xb L):
  (tk4 f26).wp prog (λe a b=>e=.normal/\a=UL xb PL N0 D f.stop/\b=u) (MA xb PL N0 D) u:=by
 have c:=aS u xb 14 (.bool f.stop) h.box;generalize f.stop=stop at*;simp only[tk4,nZ,eT,mY,f26];go_wp2
def afH(P Q:Fx->Prop)(Z:Chg P)(A:xm P)(p:Abides Q)(hS:∀f,Q f->f.vF){u:az}{f:Fx}{xb:Nat}{L:dy}{y:Int}{x D:Nat}{st:Bool}{B C:aD}(h:aL u f xb L)(q:P f)(hPQ:P f.ends->Q f.ends):
  (CS f26).wp prog (λe a r=>e=.normal/\a.defers=[{target:=.collected D,args:=#[]}]/\Q f.ends.takes/\∃b,aL r f.ends.takes.lets xb b/\bJ u L r b) (MB xb y x D st B C au au) u:=by
 have s:Hid (Calls prog 62 #[aR xb] u λe d=>e=aM (.tuple #[])/\Hid (P f.ends/\∃b,aL d f.ends xb b/\bJ u L d b)):=D9 P Z A u f xb L h q
 have v:Hid (∀c,(P f.ends/\∃b,aL c f.ends xb b/\bJ u L c b)->Calls prog 63 #[aR xb] c λe d=>e=aM (.tuple #[])/\Hid (Q f.ends.takes/\∃b,aL d f.ends.takes xb b/\bJ u L d b)):=λc ⟨g,k,j,i⟩=>
  (E7 Q p c f.ends xb k j (hPQ g)).mono λe d ⟨m,z,b,n,o⟩=>⟨m,z,b,n,i.trans o⟩
 have t:Hid (∀c,(Q f.ends.takes/\∃b,aL c f.ends.takes xb b/\bJ u L c b)->Calls prog 64 #[aR xb] c λe d=>e=aM (.tuple #[])/\Hid (Q f.ends.takes/\∃b,aL d f.ends.takes.lets xb b/\bJ u L d b)):=λc ⟨g,k,j,i⟩=>
  (QZ c f.ends.takes xb k j (hS _ g) (p.Aj _ g).2.2.2.1).mono λe d ⟨m,b,n,o⟩=>⟨m,g,b,n,i.trans o⟩
 clear h q hPQ;simp only[CS,nZ,eT,mY,f26];go_wp2_with (first|(go_at_call 62;refine s.out.mono ?_;rintro e c ⟨rfl,g⟩)|(go_at_call 63;refine(v.out _ g.out).mono ?_;rintro e E ⟨rfl,j⟩)|(go_at_call 64;refine(t.out _ j.out).mono ?_;rintro e F ⟨rfl,i⟩));exact⟨i.out.1,i.out.2⟩
structure Fx.Pd(P:Fx->Prop)(f:Fx):Prop where
 clock:0<=f.clock/\f.clock<=281474976710656
 len:f.K.length<=65535
 rt:0<=f.g.rt/\f.g.rt<=65535
 bu:0<=f.g.bu/\f.g.bu<=65535
 tok:∀(s:Nat) k,f.K[s]? =aa (aa k)->0<=k.tok/\k.tok<=65535
 EB:∀(s:Nat) k,f.early.K[s]? =aa (aa k)->k.BA f.early.g
 q:∀(s:Nat) k,f.early.readAll.K[s]? =aa (aa k)->k.q.length<=1048576
 acc:0<=f.early.acc/\f.early.acc<=140737488355328
 Sn:f.early.K.length<=65535
 next:P f.early.goes
section
variable [aP] {l:aB bC}
structure zn(l:aB bC):Prop where
 fit:Fit prog l
 tail:eK prog l av (wE f61)=aq
 oR:aP.ok 100
 oS:aP.ok 96
 kR:aP.known 61
 t0:eK prog l av (tkZ f26)=aq
 t1:eK prog l av (tk1 f26)=aq
 t4:eK prog l av (tk4 f26)=aq
 t67:eK prog l av (CS f26)=aq
variable [pX] {u:az} {f:Fx} {xb:Nat} {L:dy}
def aL.Yi(P Q:Fx->Prop)(Z:Chg P)(hE:xm P)(ah:Abides Q)(hS:∀f,Q f->f.vF)(h:aL u f xb L)(G:zn l)(p:f.Pd P)(hPQ:P f.early.goes.ends->Q f.early.goes.ends):
  fc prog 26 #[pt xb] u λe d=>e=aM (.tuple #[])/\Q f.early.goes.ends.takes/\∃m,aL d f.tick xb m/\bJ u L d m:=by
 have aG:(⟨#[pt xb]++oF (f26.ntmps - #[pt xb].size) au,[]⟩:Act)=⟨#[pt xb,au,au,au,au,au,au,au,au,au,au,au,au,au,au,au,au,au,au,au,au,au,au,au,au,au,au,au],[]⟩:=aT;have Y:tk5 f26=.region 5 (opsOf (tk5 f26)) av:=aT;refine fc.aap (n:=1) G.fit func26 (c:=.seq (tkZ f26) (.seq (tk1 f26) (.seq (.seq (tk4 f26) (.cond (.tmp 19) (tk5 f26) .skip)) (CS f26)))) rfl ?_ (λe u hr=>⟨_,hr.1⟩) ?_
 ·rintro e d g ⟨i,j,m,k,o⟩;exact⟨i,j,m,k.tp g,o.tp g⟩
 rw[aG];refine WX.seq ((WX.lift (Q:=λe a d=>e=.normal/\a=Mz xb f.clock/\aL d {f with clock:=f.clock+1} xb L/\bJ u L d L) G.fit G.t0 ?_ ?_ ?_ λg=>?_).mono ?_)
 ·rintro e a d g ⟨i,j,k,o⟩;exact⟨i,j,k.tp g,o.tp g⟩
 ·rintro x a d ⟨h,_⟩;cases h
 ·rintro a d ⟨h,_⟩;cases h
 ·exact wp_mono (afI (h.tp g) p.clock) λe a d ⟨i,j,k,o⟩=>⟨i,j,k,o.base⟩
 rintro e a M ⟨rfl,rfl,aP,aX⟩;obtain⟨z,m1,t1,J⟩:=aP.norm aX;refine WX.seq ((WX.lift (Q:=λe a d=>e=.normal/\∃r D,a=MA xb f.clock r D/\M.heap.size<=D/\d.heap[D]? =aa (.deferred (aa []))/\aL d f.early xb z/\bJ u L d z/\M.heap.size<=d.heap.size) G.fit G.t1 ?_ ?_ ?_ λg=>?_).mono ?_)
 ·rintro e a d g ⟨i,r,D,j,k,o,y,A,h7⟩;exact⟨i,r,D,j,k,o,y.tp g,A.tp g,h7⟩
 ·rintro x a d ⟨h,_⟩;cases h
 ·rintro a d ⟨h,_⟩;cases h
 ·refine wp_mono (Zv xb {f with clock:=f.clock+1} z f.clock (M.tp g) (m1.tp g) p.len p.rt p.bu p.tok J) ?_;rintro e a d ⟨i,r,D,j,k,o,y,A⟩;exact⟨i,r,D,j,k,o,y,t1.trans ⟨λ_ _=>rfl,⟨A.os,A.size,A.block⟩⟩,A.size⟩
 rintro e a N ⟨rfl,r,D,rfl,aj,F,m2,t2,iN⟩;have n2:∀x,N.heap.size<=x->z.own x=0:=λx hx=>J x (dM iN hx);have K:z.own D=0:=J D aj;have U:D<N.heap.size:=(bq.1 F).1;have bh:=t1.cI.size;refine WX.seq (WX.seq ((WX.lift (Q:=λe a d=>e=.normal/\a=UL xb f.clock r D f.early.stop/\∃g,d=N.tp g) G.fit G.t4 ?_ ?_ ?_ λg=>?_).mono ?_))
 ·rintro e a d g ⟨i,j,X,rfl⟩;exact⟨i,j,g,rfl⟩
 ·rintro x a d ⟨h,_⟩;cases h
 ·rintro a d ⟨h,_⟩;cases h
 ·exact wp_mono (afG (m2.tp g)) λe a d ⟨i,j,k⟩=>⟨i,j,g,k⟩
 rintro e a u3 ⟨rfl,rfl,g,rfl⟩;have W:=m2.tp g;have t3:=t2.tp g
 have rest:∀(O R:aD) (s:az) (t:dy),aL s f.early.goes xb t->bJ u L s t->t.own D=0->s.heap[D]? =aa (.deferred (aa []))->WX prog (CS f26) (λe a d=>e=.normal/\∀g,LeavesInM iS 1 prog f26 a.tmps (λe d=>e=aM (.tuple #[])/\Q f.early.goes.ends.takes/\∃m,aL d f.tick xb m/\bJ u L d m) a.defers .returning (az.tp d g)) (MB xb f.clock r D f.early.stop O R au au) s:=λO R s t I t4 C d4=>by
  refine(WX.lift (a:=MB xb f.clock r D f.early.stop O R au au) (Q:=λe a d=>e=.normal/\a.defers=[{target:=.collected D,args:=#[]}]/\Q f.early.goes.ends.takes/\∃m,aL d f.early.goes.ends.takes.lets xb m/\bJ s t d m) G.fit G.t67 ?_ ?_ ?_ λX=>?_).mono ?_
  ·rintro e a d g ⟨i,j,k,m,o,y⟩;exact⟨i,j,k,m,o.tp g,y.tp g⟩
  ·rintro x a d ⟨h,_⟩;cases h
  ·rintro a d ⟨h,_⟩;cases h
  ·exact wp_mono (afH P Q Z hE ah hS (I.tp X) p.next hPQ) λe a d ⟨i,j,k,m,o,y⟩=>⟨i,j,k,m,o,y.base⟩
  ·rintro e a u6 ⟨rfl,hd,hp,L6,m6,t6⟩;refine⟨rfl,λS=>?_⟩;rw[hd];have T:D<s.heap.size:=(bq.1 d4).1;have aI:(u6.tp S).heap[D]? =aa (.deferred (aa [])):=(t6.cI.block D T (by simp[C])).trans d4;have o6:L6.own D=0:=(t6.own D T).trans C;refine⟨aC,aF ⟨_,_,rfl,qP aI,.tuple #[],by simp[results,results26],rfl,hp,L6,(m6.tp S).uo λb V H=>fS λe=>H (by rw[e];exact o6),?_⟩⟩;have t7:=(t4.trans t6).tp S;have hu:=t7.cI.size;refine⟨t7.own,t7.cI.os,by simpa using t7.cI.size,λb V H=>?_⟩;rw[fS ak];exact t7.cI.block b V H
 refine WX.cond (v:=!f.early.stop) rfl ?_;cases E:f.early.stop with
 |true=>
  rw[E]at rest;refine WX.skip ?_;have B:f.early.goes=f.early:=by unfold Fx.goes;rw[E];rfl
  rw[B]at rest;rw[show f.tick=f.early.ends.takes.lets by unfold Fx.tick;rw[B]]at rest⊢;have:=rest au au _ z W t3 K F;rw[B];exact this
 |false=>
  rw[E]at rest;have B:f.early.goes=f.early.readAll.jY:=by unfold Fx.goes;rw[E];rfl
  show WX _ (tk5 f26) _ _ _;rw[Y];refine WX.Ye (f:=61) (v:=pt xb) G.fit rfl rfl rfl rfl rfl rfl rfl rfl func61 rfl rfl G.kR rfl rfl ?_;refine(W.Yh G.fit G.tail G.oR G.oS G.kR p.Sn p.EB p.q p.acc n2).mono ?_;rintro e s ⟨rfl,t,I,C,t4⟩;refine⟨_,rfl,rest (pt xb) (.tuple #[]) s t (by rw[B];exact I) (t3.trans ⟨C,t4⟩) ((C D U).trans K) ?_⟩;exact(t4.block D U (by simp[K])).trans F
end
end
section
open Go.Proofs.Tryz
structure Cf.Is(g:Cf):Prop where
 sz:4<=g.sz/\g.sz<=256/\g.sz %4=0
 cl:1<=g.cl/\g.cl<=8
 qu:1<=g.qu/\g.qu<=8
 mx:4<=g.mx/\g.mx<=32/\g.mx %4=0
 qn:g.mx<=g.qn/\g.qn<=64
 rt:1<=g.rt/\g.rt<=16
 bu:1<=g.bu/\g.bu<=32
 wk:1<=g.wk/\g.wk<=8
 ou:g.mx+4<=g.ou/\g.ou<=256
structure Rq.Gd(g:Cf)(r:Rq):Prop where
 kd:0<=r.m.kd/\r.m.kd<=4
 ck:0<=r.m.ck/\r.m.ck<=65535
 of:0<=r.m.of/\0<=r.m.ln/\r.m.of+r.m.ln<=g.sz/\r.m.ln<=g.mx/\r.m.ln %4=0
 ln:r.m.kd≠2->0<r.m.ln
 z:r.m.kd=2->r.m.of=0/\r.m.ln=0
 dt:r.m.kd=1->(r.m.dt.size:Int)=r.m.ln
def Rq.Gd.ok{g}{r:Rq}(a:g.Is)(h:r.Gd g):r.Ok:=by have:=h.of;have:=a.sz;exact⟨ak,ak,ak,ak⟩
def Rq.Gd.size{g}{r:Rq}(a:g.Is)(h:r.Gd g):4<=sizeOf' r.m/\sizeOf' r.m<=36:=by have:=h.of;have:=a.mx;unfold sizeOf';split<;>omega
def Rq.Gd.cost{g}{r:Rq}(a:g.Is)(h:r.Gd g):1<=bY r.m/\bY r.m<=g.mx:=by have:=h.of;have:=a.mx;have:=h.ln;unfold bY;split<;>omega
structure Ck.In(g:Cf)(c:Int)(k:Ck):Prop where
 ph:0<=k.ph/\k.ph<=4
 wt:1<=k.wt/\k.wt<=4
 aU:k.aU.size<=1024
 q:∀r∈k.q,r.Gd g
 len:(k.q.length:Int)<=g.qu
 out:(k.out.size:Int)+k.prom<=g.ou
 tok:0<=k.tok/\k.tok<=32
 de:0<=k.de
 sv:0<=k.sv/\k.sv+32*k.tok<=1024*(c+1)
 us:qX k.us
def agl{sz kd fl of ln}(h:verdict sz kd fl of ln=0):kd<=5/\(kd≠0/\kd≠3/\kd≠1/\kd≠4->of=0/\ln=0)/\((kd=0\/kd=3\/kd=1\/kd=4)->ln≠0/\ln %4=0/\of %4=0/\of+ln<=sz):=by
 unfold verdict at h;split at h
 ·omega
 ·split at h
  ·omega
  ·split at h
   ·split at h<;>omega
   ·split at h
    ·omega
    ·split at h
     ·split at h<;>omega
     ·omega
def j8{g}(r:g.Is){ph us s}(h:accepted (first g.sz g.mx ph us s).1=aq):(⟨(first g.sz g.mx ph us s).1,-1⟩:Rq).Gd g/\(first g.sz g.mx ph us s).1.ck∉us:=by
 have a:(first g.sz g.mx ph us s).1.wh=3/\(first g.sz g.mx ph us s).1.er=0/\(first g.sz g.mx ph us s).1.kd≠5:=by simpa[accepted]using h
 have A:=r.sz
 have key:∀d:ByteArray,(bt s 1=1->(d.size:Int)=two s 7)->verdict g.sz (bt s 1) (bt s 2) (two s 5) (two s 7)=0->bt s 1≠5->¬(bt s 0≠81\/g.mx<two s 7\/two s 3∈us)->(⟨(nI s d (verdict g.sz (bt s 1) (bt s 2) (two s 5) (two s 7))),-1⟩:Rq).Gd g/\two s 3∉us:=λd q hv y k=>by
  have w:=pg s 1;have x:=lM s 5;have p:=lM s 7;obtain⟨B,C,D⟩:=agl hv
  have z:two s 7<=g.mx:=by
   rcases Int.lt_or_le g.mx (two s 7)with u|hge
   ·exact absurd (aE (aF u)) k
   ·exact hge
  have t:¬two s 3∈us:=λe=>k (aE (aE e));refine⟨⟨?_,(lM s 3),?_,?_,?_,?_⟩,t⟩
  ·show 0<=bt s 1/\bt s 1<=4;omega
  ·show 0<=two s 5/\0<=two s 7/\two s 5+two s 7<=g.sz/\two s 7<=g.mx/\two s 7%4=0;omega
  ·show bt s 1≠2->0<two s 7;omega
  ·show bt s 1=2->two s 5=0/\two s 7=0;omega
  ·exact q
 unfold first at a⊢
 split at a
 ·rename_i e;exfalso;rw[nB]at a
  have:∀f i,(dz s f i).1.wh≠3:=by
   intro f;induction f with
   |zero=>intro i;unfold dz;split<;>simp[bg.zero]
   |succ f v=>
    intro i;unfold dz;split
    ·simp[bg.zero]
    ·split
     ·exact v _
     ·simp[bg.closing]
  exact this 5 0 a.1
 ·rename_i l;split at a
  ·rename_i j;exfalso;unfold opt at a;split at a
   ·simp[bg.zero]at a
   ·split at a
    ·simp[bg.closing]at a
    ·simp at a
  ·rename_i j;split at a
   ·rename_i m;rw[aK l,aK j,aW m];unfold kU at a⊢;split at a
    ·simp[bg.zero]at a
    ·rename_i n;split at a
     ·simp[bg.closing]at a
     ·rename_i c;rw[aK n,aK c];split at a
      ·rename_i b;rw[aW b];split at a
       ·simp[bg.zero]at a
       ·rename_i o;rw[aK o];refine key _ (λ_=>?_) a.2.1 a.2.2 c;have p:=lM s 7
        have:(s.extract 9 (9+two s 7).toNat).size=(9+two s 7).toNat-9:=by rw[mQ];omega
        omega
      ·rename_i b;rw[aK b];exact key _ (λe=>absurd e b) a.2.1 a.2.2 c
   ·simp[bg.zero]at a
def Tt(er:UInt8)(ck d):(nG er ck d).size=4+d.size:=by unfold nG;simp;rfl
def XI{g ph us s}:(iI g (first g.sz g.mx ph us s).1).size<=6:=by
 unfold iI;split
 ·split
  ·exact eZ _
  ·rw[Tt];exact(by decide:4+0<=6)
 ·unfold answer;split
  ·split<;>exact(by decide:1<=6)
  ·split
   ·rename_i a;split
    ·simp;exact(by decide:1+2+2<=6)
    ·split
     ·exact(by decide:1<=6)
     ·simp;have:=QJ g.sz g.mx ph us s;have e:(⟨#[85]⟩:ByteArray).size=1:=rfl;omega
   ·exact eZ _
section
variable {g:Cf} {c:Int} {k:Ck}
def Y2{g}(a:g.Is){q}(h:∀r∈q,r.Gd g):6<=needs q:=by
 unfold needs;cases q with
 |nil=>exact jQ _
 |cons r t=>
  have:=(h r dw).size a;show 6<=6+sizeOf' r.m;omega
def Xt{ph}(h:0<=ph/\ph<=4)(m):0<=after ph m/\after ph m<=4:=by
 unfold after;split
 ·omega
 ·split
  ·omega
  ·split
   ·omega
   ·split<;>omega
def Ck.In.hear(i:g.Is)(h:k.In g c)(hm:k.may g):(k.hear g (first g.sz g.mx k.ph k.us k.aU)).In g c:=by
 have j:=Y2 i h.q;have p:(iI g (first g.sz g.mx k.ph k.us k.aU).1).size<=6:=XI;have d:=λe=>j8 (ph:=k.ph) (us:=k.us) (s:=k.aU) i e;have o:=hm.2.2;have n:=hm.2.1;generalize first g.sz g.mx k.ph k.us k.aU=x at*
 refine⟨Xt h.ph _,h.wt,?_,?_,?_,?_,h.tok,h.de,h.sv,?_⟩
 ·show(k.aU.extract x.2.toNat k.aU.size).size<=1024;rw[mQ];have:=h.aU;omega
 ·show ∀r∈(if accepted x.1 then k.q++[⟨x.1,-1⟩]else k.q),r.Gd g;split
  ·rename_i e;intro r hr;rcases iT.1 hr with hr|hr
   ·exact h.q r hr
   ·rw[iA.1 hr];exact(d e).1
  ·exact h.q
 ·show((if accepted x.1 then k.q++[⟨x.1,-1⟩]else k.q).length:Int)<=g.qu;split
  ·rw[gW];simp;omega
  ·exact h.len
 ·show((k.out++iI g x.1).size:Int)+k.prom<=g.ou;rw[qI];omega
 ·show qX (if accepted x.1 then k.us++[x.1.ck]else k.us);split
  ·rename_i e;have j:=(d e).2;refine⟨List.nodup_append.2 ⟨h.us.1,aC,λa l b m f=>?_⟩,λy hy=>?_⟩
   ·rw[iA.1 m]at f;exact j (f▸l)
   ·rcases iT.1 hy with hy|hy
    ·exact h.us.2 y hy
    ·rw[iA.1 hy];exact((d e).1.ck)
  ·exact h.us
def Ck.In.shut(a:g.Is)(h:k.In g c):k.shut.In g c:=by
 refine⟨⟨by show(0:Int)<=4;omega,by show(4:Int)<=4;omega⟩,h.wt,by show(0:Nat)<=1024;omega,λr hr=>(by cases hr),?_,?_,h.tok,h.de,h.sv,h.us⟩
 ·have:=a.qu;show((0:Nat):Int)<=g.qu;omega
 ·have:=h.out;show((0:Nat):Int)+k.prom<=g.ou;omega
def Ck.In.read(a:g.Is):∀(f:Nat) (k:Ck),k.In g c->(Ck.read g f k).In g c
 |0,k,h=>h
 |f+1,k,h=>by
  unfold Ck.read;split
  ·rename_i hm;dsimp only;split
   ·exact h
   ·split
    ·exact h.shut a
    ·exact Ck.In.read a f _ (h.hear a hm)
  ·exact h
def To(g):∀(f:Nat) (k:Ck),(Ck.read g f k).no=k.no/\(Ck.read g f k).wt=k.wt/\(Ck.read g f k).bE=k.bE/\(Ck.read g f k).prom=k.prom/\(Ck.read g f k).de=k.de/\(Ck.read g f k).tok=k.tok/\(Ck.read g f k).sv=k.sv
 |0,k=>⟨rfl,rfl,rfl,rfl,rfl,rfl,rfl⟩
 |f+1,k=>by
  unfold Ck.read;split
  ·dsimp only;split
   ·exact⟨rfl,rfl,rfl,rfl,rfl,rfl,rfl⟩
   ·split
    ·exact⟨rfl,rfl,rfl,rfl,rfl,rfl,rfl⟩
    ·exact To g f _
  ·exact⟨rfl,rfl,rfl,rfl,rfl,rfl,rfl⟩
def Ga:∀(l:aB Rq) (n:Int),∀r∈(cz n l).1,∃b∈l,r.m=b.m
 |[],_,r,hr=>by cases hr
 |a::l,n,r,hr=>by
  unfold cz at hr;split at hr
  ·rcases jR.1 hr with rfl|hr
   ·exact⟨a,dw,rfl⟩
   ·obtain⟨b,d,e⟩:=Ga l _ r hr;exact⟨b,eJ _ d,e⟩
  ·rcases jR.1 hr with rfl|hr
   ·exact⟨r,dw,rfl⟩
   ·obtain⟨b,d,e⟩:=Ga l _ r hr;exact⟨b,eJ _ d,e⟩
def Rq.Gd.same{r a:Rq}(h:a.Gd g)(e:r.m=a.m):r.Gd g:=by obtain⟨b,d,f,i,j,l⟩:=h;exact⟨by rw[e];exact b,by rw[e];exact d,by rw[e];exact f,by rw[e];exact i,by rw[e];exact j,by rw[e];exact l⟩
def Ck.In.num(h:k.In g c)(n):(k.num n).In g c:=by
 refine⟨h.ph,h.wt,h.aU,λr hr=>?_,?_,h.out,h.tok,h.de,h.sv,h.us⟩
 ·obtain⟨d,a,b⟩:=Ga k.q n r hr;exact(h.q d a).same b
 ·show((cz n k.q).1.length:Int)<=g.qu;rw[xV];exact h.len
def Ck.In.lX(a:g.Is)(h:k.In g c):(k.lX g).In g (c+1):=by
 have b:=h.tok;have d:=h.sv;have e:=a.bu;have f:=a.rt;refine⟨h.ph,h.wt,h.aU,h.q,h.len,h.out,?_,h.de,?_,h.us⟩
 ·show 0<=min (k.tok+g.rt) g.bu/\min (k.tok+g.rt) g.bu<=32;omega
 ·show 0<=k.sv/\k.sv+32*min (k.tok+g.rt) g.bu<=1024*(c+1+1);omega
def QA:∀(n:Nat) (l:aB Nat),l.Nodup->(∀x∈l,x<n)->l.length<=n
 |0,l,_,h=>by
  cases l with
  |nil=>exact bD _
  |cons a l=>exact absurd (h a dw) (su _)
 |n+1,l,b,h=>by
  have d:(l.erase n).length<=n:=QA n (l.erase n) (b.erase n) λx e=>by grind
  have:=List.length_erase (a:=n) (l:=l);split at this<;>omega
def ZT{us}(h:qX us):us.length<=65536:=by
 have:=QA 65536 (us.map Int.toNat) ?_ ?_
 ·rwa [nQ]at this
 ·refine DT.2 ?_;refine(List.Pairwise.and_mem.1 h.1).imp ?_;rintro a b ⟨d,f,i⟩ e;have:=h.2 a d;have:=h.2 b f;exact i ak
 ·intro x j;obtain⟨a,d,rfl⟩:=ku.1 j;have:=h.2 a d;omega
def Ck.In.EB(a:g.Is)(h:k.In g c)(b:0<=k.prom):k.BA g:=by have:=a.sz;have:=a.mx;have:=a.qu;have:=a.ou;have:=h.out;have:=h.aU;have:=h.len;have:=ZT h.us;exact⟨ak,ak,λr hr=>(h.q r hr).ok a,ak,ak,ak,ak,ak,ak,ak⟩
end
def gB:aB Jb->Nat->Int
 |[],_=>0
 |b::l,s=>(if b.s=s then(b.rs.length:Int)else 0)+gB l s
def gS:aB Rq->Int
 |[]=>0
 |r::l=>sizeOf' r.m+gS l
def nF:aB Rq->Int
 |[]=>0
 |r::l=>r.m.ln+nF l
def gR:aB Jb->Nat->Int
 |[],_=>0
 |b::l,s=>(if b.s=s then gS b.rs else 0)+gR l s
def JX(s):∀a b:aB Jb,gB (a++b) s=gB a s+gB b s
 |[],b=>by simp[gB]
 |x::a,b=>by simp only[ld,gB,JX s a b];omega
def LC(s):∀a b:aB Jb,gR (a++b) s=gR a s+gR b s
 |[],b=>by simp[gR]
 |x::a,b=>by simp only[ld,gR,LC s a b];omega
def LF:∀a b:aB Rq,gS (a++b)=gS a+gS b
 |[],b=>by simp[gS]
 |x::a,b=>by simp only[ld,gS,LF a b];omega
def KS:∀a b:aB Rq,nF (a++b)=nF a+nF b
 |[],b=>by simp[nF]
 |x::a,b=>by simp only[ld,nF,KS a b];omega
def y9(b l s):gB (fo b l) s=(if b.s=s then(b.rs.length:Int)else 0)+gB l s:=by unfold fo iZ;have:=JX s (l.take (oz b l)) (l.drop (oz b l));rw[rZ]at this;rw[JX,this];simp only[gB];omega
def aaY(b l s):gR (fo b l) s=(if b.s=s then gS b.rs else 0)+gR l s:=by unfold fo iZ;have:=LC s (l.take (oz b l)) (l.drop (oz b l));rw[rZ]at this;rw[LC,this];simp only[gR];omega
def Gi{g}(a:g.Is):∀{l:aB Rq},(∀r∈l,r.Gd g)->0<=gS l
 |[],_=>jQ 0
 |r::l,h=>by have c:=(h r dw).size a;have d:=Gi a λx b=>h x (eJ _ b);show 0<=sizeOf' r.m+gS l;omega
structure Ew(g:Cf)(rs:aB Rq):Prop where
 ne:rs≠[]
 end_:(rs[0]?.getD qC).m.of+nF rs=(rs[rs.length-1]?.getD qC).m.of+(rs[rs.length-1]?.getD qC).m.ln
 gd:∀r∈rs,r.Gd g
 eW:4*(rs.length:Int)<=nF rs+4/\nF rs<=g.mx
structure Fx.Core(f:Fx):Prop where
 g:f.g.Is
 len:(f.K.length:Int)=f.g.cl
 aG:f.aG<f.K.length
 cl:∀(s:Nat) k,f.K[s]? =aa (aa k)->k.In f.g f.clock/\k.bE=gB f.fl s/\k.prom=gR f.fl s
 de:∀(s:Nat) k,f.K[s]? =aa (aa k)->k.de<=(if s=f.aG/\f.opn=aq then 288 else 32)
 qy:∀(s:Nat) k,f.K[s]? =aa (aa k)->0<=k.no/\k.no<f.cM
 one:∀(s t:Nat) k c,f.K[s]? =aa (aa k)->f.K[t]? =aa (aa c)->k.no=c.no->s=t
 jb:∀b∈f.fl,Ew f.g b.rs/\b.rs.length<=8/\(0<=b.ft.part/\b.ft.part<=9223372036854775807)/\∃k,f.K[b.s]? =aa (aa k)
 sorted:f.fl.Pairwise λa b=>dW a.key b.key=aq
 pK:f.fl.Pairwise λa b=>a.order≠b.order
 fresh:∀b∈f.fl,b.order<f.bz/\b.due<=f.clock+16
 jW:(f.fl.length:Int)<=f.g.wk
 clock:0<=f.clock
 B:(f.B.size:Int)=f.g.sz
 bP:f.bP.length<=1048576/\∀t∈f.bP,(0<=t.delay/\t.delay<=16)/\(0<=t.part/\t.part<=9223372036854775807)
 acc:0<=f.acc
 cM:0<=f.cM
section
variable {f:Fx}
def Fh:∀(l:aB Jb) (s:Nat),0<=gB l s
 |[],_=>jQ 0
 |b::l,s=>by have:=Fh l s;show 0<=(if b.s=s then(b.rs.length:Int)else 0)+gB l s;split<;>omega
def QR:∀{l:aB Jb} {b:Jb},b∈l->(b.rs.length:Int)<=gB l b.s
 |a::l,b,h=>by
  show _<=(if a.s=b.s then(a.rs.length:Int)else 0)+gB l b.s;rcases jR.1 h with rfl|h
  ·have:=Fh l b.s;rw[aW rfl];omega
  ·have:=QR h;split<;>omega
def QO(n):∀(l:aB Jb) (s:Nat),(∀b∈l,b.rs.length<=n)->gB l s<=n*l.length
 |[],_,_=>by simp[gB]
 |b::l,s,h=>by
  have c:=QO n l s λx a=>h x (eJ _ a);have d:=h b dw;show(if b.s=s then(b.rs.length:Int)else 0)+gB l s<=n*((l.length+1:Nat):Int);have e:(n:Int) *((l.length+1:Nat):Int)=n*(l.length:Int)+n:=by grind
  split<;>omega
def LD{g}(a:g.Is):∀{l:aB Jb} (s:Nat),(∀b∈l,∀r∈b.rs,r.Gd g)->0<=gR l s
 |[],_,_=>jQ 0
 |b::l,s,h=>by have d:=LD a s λx c=>h x (eJ _ c);have e:=Gi a (h b dw);show 0<=(if b.s=s then gS b.rs else 0)+gR l s;split<;>omega
def Fx.Core.prom(h:f.Core)(s):0<=gR f.fl s:=LD h.g s λb a=>(h.jb b a).1.gd
def Fx.Core.bE(h:f.Core)(s):0<=gB f.fl s/\gB f.fl s<=64:=by refine⟨Fh _ _,?_⟩;have c:=QO 8 f.fl s λb a=>(h.jb b a).2.1;have d:=h.jW;have e:=h.g.wk;have:((8:Nat):Int)=8:=rfl;omega
def Fx.Core.small(h:f.Core):f.K.length<=8:=by have:=h.len;have:=h.g.cl;omega
def Fx.Core.stay(h:f.Core):f.vF:=λb a k d=>by have g:=(h.cl _ k d).2.1;have i:=QR a;obtain⟨r,-,-,-⟩:=h.jb b a;have j:b.rs.length≠0:=λe=>r.ne (yL.1 e);have c:k.bE≠0:=ak;unfold Ck.gone;simp[c]
def Fx.Core.map(h:f.Core){f':Fx}(i:f'.g=f.g)(hf:f'.fl=f.fl)(q:f'.aG=f.aG)(C:f'.opn=f.opn)(hc:f'.cM=f.cM)(y:f'.bz=f.bz)(w:f'.B.size=f.B.size)(z:f'.bP=f.bP)(x:0<=f'.acc)(J:f.clock<=f'.clock)(p:f'.K.length=f.K.length)
  (m:∀(s:Nat) a,f'.K[s]? =aa (aa a)->∃k,f.K[s]? =aa (aa k)/\a.In f.g f'.clock/\a.bE=k.bE/\a.prom=k.prom/\a.de=k.de/\a.no=k.no)
  (A:∀(s:Nat) k,f.K[s]? =aa (aa k)->∃a,f'.K[s]? =aa (aa a)):f'.Core:=by
 refine⟨by rw[i];exact h.g,by rw[i,p];exact h.len,by rw[q,p];exact h.aG,λs a n=>?_,λs a n=>?_,λs a n=>?_,λs t D E u v e=>?_,λb l=>?_,by rw[hf];exact h.sorted,by rw[hf];exact h.pK,λb l=>by rw[hf]at l;have:=h.fresh b l;rw[y];omega,by rw[hf,i];exact h.jW,by have:=h.clock;omega,by rw[w,i];exact h.B,by rw[z];exact h.bP,x,by rw[hc];exact h.cM⟩
 ·obtain⟨k,a1,c,a3,d,o,j⟩:=m s a n;rw[i,hf,a3,d];exact⟨c,(h.cl s k a1).2⟩
 ·obtain⟨k,a1,c,a3,d,o,j⟩:=m s a n;rw[q,C,o];exact h.de s k a1
 ·obtain⟨k,a1,c,a3,d,o,j⟩:=m s a n;rw[hc,j];exact h.qy s k a1
 ·obtain⟨k,a1,c,a3,d,o,j⟩:=m s D u;obtain⟨a,b1,F,G,H,I,r⟩:=m t E v;exact h.one s t k a a1 b1 (by rw[<-j,<-r];exact e)
 ·rw[hf]at l;obtain⟨a1,c,a3,k,d⟩:=h.jb b l;rw[i];exact⟨a1,c,a3,A _ k d⟩
end
section
variable {f:Fx}
def Qm(f):∀m,m<=f.K.length->∃K,(dH m).foldl Fx.gp f={f with K:=K}/\K.length=f.K.length/\∀(s:Nat),K[s]? =if s<m then(f.K[s]?).map (Bb (Ck.lX f.g))else f.K[s]?
 |0,_=>⟨f.K,rfl,rfl,λs=>by rw[aK (su s)]⟩
 |m+1,hm=>by
  obtain⟨K,l,c,d⟩:=Qm f m ak;rw[yP,AP,l];show ∃o,Fx.gp {f with K:=K} m=_/\_;have h:K[m]? =f.K[m]? :=by grind
  have n:m<f.K.length:=ak;have a:=eI n;cases i:f.K[m]with
  |none=>
   rw[i]at a;rw[Qk (aF (h.trans a))];refine⟨K,rfl,c,λs=>?_⟩;rw[d s]
   by_cases e:s=m
   ·subst e;rw[aK (sr s),aW (yS s),a];rfl
   ·by_cases b:s<m
    ·rw[aW b,aW ak]
    ·rw[aK b,aK ak]
  |some k=>
   rw[i]at a;rw[Ql (h.trans a)];refine⟨K.set m (aa (k.lX f.g)),rfl,by simp[c],λs=>?_⟩;rw[ko]
   by_cases e:s=m
   ·subst e;rw[aW rfl,aW ak,aW (yS s),a];rfl
   ·rw[aK (λj=>e j.symm),d s]
    by_cases b:s<m
    ·rw[aW b,aW ak]
    ·rw[aK b,aK ak]
def Zt(f:Fx):f.BW={f with K:=f.K.map λo=>o.map (Ck.lX f.g)}:=by
 obtain⟨K,a,c,b⟩:=Qm f f.K.length (bD _);unfold Fx.BW;rw[a]
 have:K=f.K.map λo=>o.map (Ck.lX f.g):=by
  apply yJ;intro s;rw[b s,jA];split
  ·rfl
  ·rename_i e;rw[AQ ak];rfl
 rw[this]
def ot(f:Fx):f.early={f with clock:=f.clock+1,K:=f.K.map λo=>o.map (Ck.lX f.g)}:=Zt _
def map_some{K:aB (aZ Ck)}{b:Ck->Ck}{s:Nat}{k':Ck}(h:(K.map λo=>o.map b)[s]? =aa (aa k')):∃k,K[s]? =aa (aa k)/\k'=b k:=by rw[jA,eV]at h;obtain⟨o,c,a⟩:=h;rw[eV]at a;obtain⟨k,rfl,d⟩:=a;exact⟨k,c,d.symm⟩
def Aa{K:aB (aZ Ck)}{a:Ck->Ck}{s:Nat}{k:Ck}(h:K[s]? =aa (aa k)):(K.map λo=>o.map a)[s]? =aa (aa (a k)):=by rw[jA,h];rfl
def Fx.Core.early(h:f.Core):f.early.Core:=by rw[ot];refine h.map (f':={f with clock:=f.clock+1,K:=f.K.map λo=>o.map (Ck.lX f.g)}) rfl rfl rfl rfl rfl rfl rfl rfl h.acc (by show f.clock<=f.clock+1;omega) aC (λs c a=>?_) (λs k a=>⟨_,Aa a⟩);obtain⟨k,b,rfl⟩:=map_some a;exact⟨k,b,(h.cl s k b).1.lX h.g,rfl,rfl,rfl,rfl⟩
def Fx.Core.readAll(h:f.Core):f.readAll.Core:=by refine h.map (f':=f.readAll) rfl rfl rfl rfl rfl rfl rfl rfl h.acc (jQ _) (by simp[Fx.readAll]) (λs n a=>?_) (λs k a=>⟨_,Aa a⟩);obtain⟨k,b,rfl⟩:=map_some a;obtain⟨c,j,d,e,i,l,m⟩:=To f.g (k.aU.size+1) k;exact⟨k,b,Ck.In.read h.g _ k (h.cl s k b).1,d,e,i,c⟩
def FZ(f:Fx)(n:Nat)(l:∀(s:Nat) k,f.K[s]? =aa (aa k)->k.q.length<=n):∀m,m<=f.K.length->∃K a,(dH m).foldl Fx.fU f={f with K:=K,acc:=a}/\K.length=f.K.length/\(f.acc<=a/\a<=f.acc+n*m)/\∀(s:Nat),(f.K[s]? =ay->K[s]? =ay)/\(f.K[s]? =aa ay->K[s]? =aa ay)/\∀k,f.K[s]? =aa (aa k)->(m<=s->K[s]? =aa (aa k))/\∃i,K[s]? =aa (aa (k.num i))\/K[s]? =aa (aa k)
 |0,_=>⟨f.K,f.acc,rfl,rfl,⟨jQ _,aC⟩,λs=>⟨id,id,λk g=>⟨λ_=>g,0,aE g⟩⟩⟩
 |m+1,hm=>by
  obtain⟨K,a,r,j,t,b⟩:=FZ f n l m ak;rw[yP,AP,r];show ∃w x,Fx.fU {f with K:=K,acc:=a} m=_/\_;have v:m<f.K.length:=ak;have d:=eI v;have z:(n:Int) *((m+1:Nat):Int)=n*(m:Int)+n:=by grind
  cases o:f.K[m]with
  |none=>
   rw[o]at d;rw[FY (aF ((b m).2.1 d))];refine⟨K,a,rfl,j,⟨t.1,ak⟩,λs=>⟨(b s).1,(b s).2.1,λk g=>⟨λc=>((b s).2.2 k g).1 ak,((b s).2.2 k g).2⟩⟩⟩
  |some k=>
   rw[o]at d;rw[Ll (((b m).2.2 k d).1 (bD m))];have y:=Lm k.q a;have A:=l m k d;refine⟨K.set m (aa (k.num a)),(cz a k.q).2,rfl,by simp[j],⟨ak,ak⟩,λs=>⟨λc=>?_,λc=>?_,λp h=>⟨λc=>?_,?_⟩⟩⟩
   ·rw[ko];split
    ·rename_i e;subst e;rw[d]at c;cases c
    ·exact(b s).1 c
   ·rw[ko];split
    ·rename_i e;subst e;rw[d]at c;cases c
    ·exact(b s).2.1 c
   ·rw[ko,aK ak];exact((b s).2.2 p h).1 ak
   ·by_cases e:m=s
    ·subst e;rw[d]at h;cases h;exact⟨a,aF (by grind)⟩
    ·obtain⟨i,u⟩:=((b s).2.2 p h).2;refine⟨i,?_⟩;rw[ko,aK e];exact u
def Fx.Core.jY(h:f.Core):f.jY.Core/\(f.acc<=f.jY.acc/\f.jY.acc<=f.acc+64)/\∃K a,f.jY={f with K:=K,acc:=a}:=by
 have t:=h.g.qu;obtain⟨K,a,m,n,q,d⟩:=FZ f 8 (λs k p=>by have:=(h.cl s k p).1.len;omega) f.K.length (bD _);have e:f.jY={f with K:=K,acc:=a}:=m;have j:=h.small;refine⟨?_,?_,K,a,e⟩
 ·rw[e];refine h.map (f':={f with K:=K,acc:=a}) rfl rfl rfl rfl rfl rfl rfl rfl (by have:=h.acc;show 0<=a;omega) (jQ _) n (λs l j=>?_) (λs k j=>?_)
  ·have b:K[s]? =aa (aa l):=j;cases c:f.K[s]? with
   |none=>rw[(d s).1 c]at b;cases b
   |some o=>
    cases o with
    |none=>rw[(d s).2.1 c]at b;cases b
    |some k=>
     obtain⟨i,hi⟩:=((d s).2.2 k c).2;rcases hi with hi|hi
     ·rw[b]at hi;cases hi;exact⟨k,rfl,(h.cl s k c).1.num i,rfl,rfl,rfl,rfl⟩
     ·rw[b]at hi;cases hi;exact⟨l,rfl,(h.cl s l c).1,rfl,rfl,rfl,rfl⟩
  ·obtain⟨i,hi⟩:=((d s).2.2 k j).2;rcases hi with hi|hi
   ·exact⟨_,hi⟩
   ·exact⟨_,hi⟩
 ·rw[e];show f.acc<=a/\a<=f.acc+64;have r:((8:Nat):Int) *(f.K.length:Int)<=64:=ak;omega
def Fx.Core.goes(h:f.Core):f.goes.Core/\(f.goes.acc<=f.acc+64)/\∃K a,f.goes={f with K:=K,acc:=a}:=by
 unfold Fx.goes;split
 ·exact⟨h,ak,f.K,f.acc,rfl⟩
 ·obtain⟨b,c,K,a,d⟩:=h.readAll.jY;refine⟨b,c.2,K,a,d⟩
end
def afM(B no r b)(h:0<=r.m.ln):((nL B (pq no r b)).size:Int)+4<=sizeOf' r.m:=by
 unfold nL sizeOf'
 by_cases e:r.m.kd=0
 ·rw[aW e];split
  ·show((B.extract r.m.of.toNat (r.m.of.toNat+r.m.ln.toNat)).size:Int)+4<=_;rw[Array.size_extract];omega
  ·show((0:Nat):Int)+4<=_;omega
 ·rw[aK e,aK (λh=>e h.1)];show((0:Nat):Int)+4<=_;omega
def afU{us}(h:qX us)(c):qX (freed us c):=⟨h.1.sublist List.filter_sublist,λx a=>h.2 x (AV.1 a).1⟩
structure vG(k k':Ck)(n:Nat)(p:Int):Prop where
 no:k'.no=k.no
 ph:k'.ph=k.ph
 wt:k'.wt=k.wt
 aU:k'.aU=k.aU
 q:k'.q=k.q
 tok:k'.tok=k.tok
 de:k'.de=k.de
 sv:k'.sv=k.sv
 bE:k'.bE=k.bE-n
 prom:k'.prom=k.prom-p
 out:(k'.out.size:Int)+k'.prom<=k.out.size+k.prom
 us:qX k.us->qX k'.us
def K7{g}(B)(a:Ft)(k r)(h:r.Gd g):vG k (k.hrd B a r) 1 (sizeOf' r.m):=by
 have c:=afM B k.no r a.eU h.of.2.1;unfold Ck.hrd Ck.uf;split
 ·refine⟨rfl,rfl,rfl,rfl,rfl,rfl,rfl,rfl,rfl,rfl,?_,id⟩;show(k.out.size:Int)+(k.prom-sizeOf' r.m)<=k.out.size+k.prom;omega
 ·refine⟨rfl,rfl,rfl,rfl,rfl,rfl,rfl,rfl,rfl,rfl,?_,λb=>afU b _⟩;show((k.out++nG (xC a) r.m.ck (nL B (pq k.no r a.eU))).size:Int)+(k.prom-sizeOf' r.m)<=k.out.size+k.prom;rw[qI,Tt];omega
def vG.trans{a b c n m p q}(h:vG a b n p)(k:vG b c m q):vG a c (n+m) (p+q):=
 ⟨k.no.trans h.no,k.ph.trans h.ph,k.wt.trans h.wt,k.aU.trans h.aU,k.q.trans h.q,k.tok.trans h.tok,k.de.trans h.de,k.sv.trans h.sv,by rw[k.bE,h.bE];omega,by rw[k.prom,h.prom];omega,by have:=h.out;have:=k.out;omega,λd=>k.us (h.us d)⟩
def BO{g}(B)(b:Ft):∀(a:aB Rq) (k:Ck),(∀r∈a,r.Gd g)->vG k (k.answers B b a) a.length (gS a)
 |[],k,_=>⟨rfl,rfl,rfl,rfl,rfl,rfl,rfl,rfl,by show k.bE=k.bE-((0:Nat):Int);omega,by show k.prom=k.prom-0;omega,jQ _,id⟩
 |r::a,k,h=>by have c:=K7 B b k r (h r dw);have d:=c.trans (BO B b a (k.hrd B b r) λx f=>h x (eJ _ f));have e:a.length+1=1+a.length:=ak;show vG k ((k.hrd B b r).answers B b a) (a.length+1) (sizeOf' r.m+gS a);rw[e];exact d
def aaZ{g}(a:g.Is){rs}(h:∀r∈rs,r.Gd g)(i):0<=gS (rs.take i)/\gS (rs.take i)<=gS rs:=by have c:=Gi a (l:=rs.take i) λr hr=>h r (rU hr);have d:=Gi a (l:=rs.drop i) λr hr=>h r (uV hr);have b:=LF (rs.take i) (rs.drop i);rw[rZ]at b;omega
def aaS{g}{r:Rq}(h:r.Gd g):(r.piece.length:Int)<=r.m.ln/\r.piece.length %4=0:=by
 have b:=h.of;unfold Rq.piece;split
 ·rename_i e;have c:=h.dt e;have a:r.m.dt.data.toList.length=r.m.dt.size:=rfl;omega
 ·split
  ·rw[Lib.repeatL_length];simp;omega
  ·show((0:Nat):Int)<=r.m.ln/\0%4=0;omega
def JG{g:Cf}:∀{a:aB Rq},(∀r∈a,r.Gd g)->((eC a).length:Int)<=nF a/\(eC a).length %4=0
 |[],_=>⟨jQ 0,rfl⟩
 |r::a,h=>by
  have c:=aaS (h r dw);have d:=JG λx b=>h x (eJ _ b)
  have e:(eC (r::a)).length=r.piece.length+(eC a).length:=by unfold eC;rw[DL,gW]
  rw[e];show((r.piece.length+(eC a).length:Nat):Int)<=r.m.ln+nF a/\_;omega
def Ew.fits{g a}(h:Ew g a):∃r t,a=r::t/\r.Gd g/\r.m.of+nF a<=g.sz:=by
 have b:=h.end_;have c:=h.gd;cases a with
 |nil=>exact absurd rfl h.ne
 |cons r t=>
  refine⟨r,t,rfl,c r dw,?_⟩;have e:((r::t)[0]?.getD qC)=r:=rfl;rw[e]at b;have d:(r::t).length-1<(r::t).length:=aC;have hm:=c _ (Wq d);rw[(eI d)]at b;simp only[mY]at b;have:=hm.of;omega
def acF(o s q):(secs o s q).length=q:=by simp[secs]
def Yo(d:Dk)(b)(a:Ft):(d.change b a).C.length<=d.C.length+(eC b).length / 4:=by
 unfold Dk.change;cases b with
 |nil=>exact NN _ _
 |cons r t=>
  dsimp only;split
  ·exact eZ _
  ·split
   ·show(stay _ _ d.C).length<=_;have:(stay r.m.of.toNat (r.m.of.toNat+(pP (r::t) a).length) d.C).length<=d.C.length:=List.length_filter_le _ _;omega
   ·show(d.C++secs _ _ _).length<=_;rw[gW,acF];have:=agN (r::t) a;omega
def zX{K:aB (aZ Ck)}{s t:Nat}{k' x:Ck}(h:(K.set s (aa k'))[t]? =aa (aa x)):(t=s/\x=k')\/(t≠s/\K[t]? =aa (aa x)):=by
 rw[ko]at h;split at h
 ·rename_i e;split at h
  ·cases h;exact aF ⟨e.symm,rfl⟩
  ·cases h
 ·rename_i e;exact aE ⟨λa=>e a.symm,h⟩
def GF{K:aB (aZ Ck)}{s t:Nat}{k' x:Ck}(h:K[t]? =aa (aa x)):∃y,(K.set s (aa k'))[t]? =aa (aa y):=by
 rw[ko];split
 ·rename_i e;subst e;rw[aW (dS.1 h).1];exact⟨_,rfl⟩
 ·exact⟨_,h⟩
section
variable {f:Fx}
def Fx.Core.does(h:f.Core){b:Jb}{r:aB Jb}(o:f.fl=b::r):∃k,f.K[b.s]? =aa (aa k)/\({f with fl:=r}.does b).Core:=by
 obtain⟨S,T,U,k,j⟩:=h.jb b (by grind);refine⟨k,j,?_⟩
 obtain⟨m,l,M,E,R,a⟩:∃(m:Dk) (l:Ck) (M:aB En),({f with fl:=r}:Fx).does b={f with fl:=r,K:=f.K.set b.s (aa l),B:=m.B,D:=m.D,C:=m.C,log:=M}/\m.B.size=f.B.size/\vG k l b.rs.length (gS b.rs):=
  ⟨({f with fl:=r}:Fx).dk.change b.rs b.ft,k.answers (({f with fl:=r}:Fx).dk.change b.rs b.ft).B b.ft (b.rs.take b.rs.length),_,uj j,JC _ _ _,by rw[wP];exact BO _ _ _ _ S.gd⟩
 rw[E];have I:∀x∈r,x∈f.fl:=λx d=>by grind
 have G:∀s,gB f.fl s=(if b.s=s then(b.rs.length:Int)else 0)+gB r s:=λs=>by rw[o];rfl
 have H:∀s,gR f.fl s=(if b.s=s then gS b.rs else 0)+gR r s:=λs=>by rw[o];rfl
 have n:∀(s:Nat) x,(f.K.set b.s (aa l))[s]? =aa (aa x)->(s=b.s/\x=l)\/(s≠b.s/\f.K[s]? =aa (aa x)):=λs x d=>zX d;refine⟨h.g,?_,?_,λs x d=>?_,λs x d=>?_,λs x d=>?_,λs t x y d L e=>?_,λc u=>?_,?_,?_,λc u=>h.fresh c (I c u),?_,h.clock,?_,h.bP,h.acc,h.cM⟩
 ·show((f.K.set b.s (aa l)).length:Int)=f.g.cl;rw[kr];exact h.len
 ·show f.aG<(f.K.set b.s (aa l)).length;rw[kr];exact h.aG
 ·show x.In f.g f.clock/\x.bE=gB r s/\x.prom=gR r s;rcases n s x d with⟨rfl,rfl⟩|⟨p,d⟩
  ·obtain⟨i,w,z⟩:=h.cl _ k j;rw[G,aW rfl]at w;rw[H,aW rfl]at z;refine⟨⟨by rw[a.ph];exact i.ph,by rw[a.wt];exact i.wt,by rw[a.aU];exact i.aU,by rw[a.q];exact i.q,by rw[a.q];exact i.len,by have:=a.out;have:=i.out;omega,by rw[a.tok];exact i.tok,by rw[a.de];exact i.de,by rw[a.sv,a.tok];exact i.sv,a.us i.us⟩,by rw[a.bE];omega,by rw[a.prom];omega⟩
  ·obtain⟨i,w,z⟩:=h.cl _ x d;rw[G,aK (λe=>p e.symm)]at w;rw[H,aK (λe=>p e.symm)]at z;exact⟨i,ak,ak⟩
 ·rcases n s x d with⟨rfl,rfl⟩|⟨p,d⟩
  ·rw[a.de];exact h.de _ k j
  ·exact h.de s x d
 ·rcases n s x d with⟨rfl,rfl⟩|⟨p,d⟩
  ·rw[a.no];exact h.qy _ k j
  ·exact h.qy s x d
 ·rcases n s x d with⟨P,Q⟩|⟨_,J⟩
  ·rcases n t y L with⟨A,F⟩|⟨_,v⟩
   ·omega
   ·rw[Q,a.no]at e;rw[P];exact h.one _ _ k y j v e
  ·rcases n t y L with⟨A,F⟩|⟨_,v⟩
   ·rw[F,a.no]at e;rw[A];exact h.one _ _ x k J j e
   ·exact h.one _ _ x y J v e
 ·obtain⟨a1,N,a3,V,O⟩:=h.jb c (I c u);exact⟨a1,N,a3,GF O⟩
 ·have:=h.sorted;rw[o]at this;exact(rV.1 this).2
 ·have:=h.pK;rw[o]at this;exact(rV.1 this).2
 ·have:=h.jW;rw[o,eM]at this;show(r.length:Int)<=f.g.wk;omega
 ·show(m.B.size:Int)=f.g.sz;rw[R];exact h.B
def Fx.Core.Zk(h:f.Core){b r}(j:f.fl=b::r){k}(w:f.K[b.s]? =aa (aa k))(q:f.C.length+1048576<=1099511627776):BD {f with fl:=r} b k:=by
 have u:b∈f.fl:=by rw[j];exact dw
 obtain⟨a,M,E,_⟩:=h.jb b u;obtain⟨l,t,p,g0,T⟩:=a.fits;have v:=JG a.gd;have H:=h.B;have S:=h.g.sz;have D:=g0.of;have F:=g0.z;have A:=g0.ln;refine⟨⟨l,t,p,ak,?_,?_⟩,ak,⟨ak,v.2⟩,λx d=>?_,E,q,λi L=>?_⟩
 ·show l.m.of.toNat<f.B.size
  by_cases e:l.m.kd=2
  ·have:=F e;omega
  ·have:=A e;omega
 ·show l.m.of.toNat+(eC b.rs).length<=f.B.size;omega
 ·have n:=a.gd x d;refine⟨n.ok h.g,n.ck,λ_=>?_⟩;have:=n.of;show x.m.of+x.m.ln<=f.B.size;omega
 ·have c:=BO (({f with fl:=r}:Fx).dk.change b.rs b.ft).B b.ft (b.rs.take i) k λx d=>a.gd x (rU d);obtain⟨o,U,V⟩:=h.cl _ k w;have P:=aaZ h.g a.gd i;have J:gB f.fl b.s=(b.rs.length:Int)+gB r b.s:=by rw[j];show(if b.s=b.s then _ else _)+_=_;rw[aW rfl]
  have R:gR f.fl b.s=gS b.rs+gR r b.s:=by rw[j];show(if b.s=b.s then _ else _)+_=_;rw[aW rfl]
  have I:=Fh r b.s;have Q:=LD h.g b.s λx d=>(h.jb x (by rw[j];exact eJ _ d)).1.gd;have G:=(h.bE b.s).2;have O:=h.g.ou;have D:=o.out;have N:=c.out;have y:(b.rs.take i).length=i:=by rw[yM];omega
  refine⟨c.us o.us,?_,?_,?_⟩
  ·rw[c.bE,y];omega
  ·rw[c.prom];omega
  ·have:=c.prom;omega
end
structure Fx.sJ(f:Fx):Prop where
 core:f.Core
 clock:f.clock<=1073741824
 bz:(f.bz:Int)<=8*(f.clock-1)
 log:(f.log.length:Int)+8*f.fl.length<=64*f.clock
 C:(f.C.length:Int)+64*f.fl.length<=512*f.clock
 acc:f.acc<=64*f.clock
def BV:xm Fx.sJ:=by
 refine⟨λf b r h c=>?_,λf b r h c w=>?_⟩
 ·have d:=h.core.sorted;have i:=h.core.pK;have j:=h.core.jW;have q:=h.core.g.wk;rw[c]at d i j;rw[eM]at j;exact⟨(rV.1 d).1,λx o e=>(rV.1 i).1 x o e.symm,ak⟩
 ·obtain⟨k,a,n⟩:=h.core.does c;have s:=h.C;have u:=h.log;have v:=h.clock;have z:(f.fl.length:Int)=r.length+1:=by grind
  have m:b∈f.fl:=by grind
  obtain⟨l,A,_,_⟩:=h.core.jb b m;obtain⟨F,t,p,g0,E⟩:=l.fits;have y:=JG l.gd;have D:=h.core.g.sz;have B:=g0.of;refine⟨⟨k,a,h.core.Zk c a ak⟩,ak,⟨n,?_,?_,?_,?_,?_⟩⟩
  ·rw[uj (f:={f with fl:=r}) a];exact h.clock
  ·rw[uj (f:={f with fl:=r}) a];exact h.bz
  ·rw[uj (f:={f with fl:=r}) a];show((f.log++nA b k b.rs.length).length:Int)+8*r.length<=64*f.clock;rw[gW,nQ,wP];omega
  ·rw[uj (f:={f with fl:=r}) a];show(((({f with fl:=r}:Fx).dk.change b.rs b.ft).C.length:Nat):Int)+64*r.length<=512*f.clock;have:=Yo ({f with fl:=r}:Fx).dk b.rs b.ft;have e:({f with fl:=r}:Fx).dk.C.length=f.C.length:=rfl;omega
  ·rw[uj (f:={f with fl:=r}) a];exact h.acc
structure vu(g:Cf)(c:Int)(k0 k:Ck)(rs:aB Rq):Prop where
 vU:k.In g c
 bE:k.bE=k0.bE+rs.length
 prom:k.prom=k0.prom+gS rs
 len:rs.length+k.q.length=k0.q.length
 no:k.no=k0.no
 de:k.de<=k0.de
 run:Ew g rs
section
variable {g:Cf} {c:Int} {k k0:Ck} {rs:aB Rq}
def Ck.In.bz(b:g.Is)(h:k.In g c){r l}(a:k.q=r::l)(p:0<k.tok)(o:(k.out.size:Int)+k.prom+sizeOf' r.m<=g.ou)(hc:bY r.m<=k.de):(k.bz r l).In g c:=by
 have hr:=h.q r (by rw[a];exact dw);have f:=hr.cost b;have i:=h.tok;have j:=h.sv;have n:=b.mx;have d:=h.len;rw[a,eM]at d;refine⟨h.ph,h.wt,h.aU,λx e=>h.q x (by rw[a];exact eJ _ e),?_,?_,?_,?_,?_,h.us⟩
 ·show(l.length:Int)<=g.qu;omega
 ·show(k.out.size:Int)+(k.prom+sizeOf' r.m)<=g.ou;omega
 ·show 0<=k.tok-1/\k.tok-1<=32;omega
 ·show 0<=k.de-bY r.m;omega
 ·show 0<=k.sv+bY r.m/\k.sv+bY r.m+32*(k.tok-1)<=1024*(c+1);omega
def SO{r l}(a:k.q=r::l):k.fst=r/\k.next=k.bz r l:=by
 have e:k.fst=r:=by unfold Ck.fst;rw[a]
 refine⟨e,?_⟩;unfold Ck.next
 rw[e,a];rfl
def vu.first (e:g.Is)(h:k.In g c)(hr:k.fB g=aq)(hc:bY k.fst.m<=k.de):vu g c k k.next [k.fst]:=by
 obtain⟨r,l,a,p,-,j,i⟩:=zT hr;obtain⟨d,f⟩:=SO a;rw[f,d];rw[d]at hc;have b:=h.q r (by rw[a];exact dw);have o:=b.cost e;have s:=b.of;refine⟨h.bz e a j i hc,rfl,?_,?_,rfl,?_,⟨aC,?_,λx n=>?_,by show 4*((1:Nat):Int)<=r.m.ln+0+4;omega,by show r.m.ln+0<=g.mx;omega⟩⟩
 ·show k.prom+sizeOf' r.m=k.prom+(sizeOf' r.m+0);omega
 ·rw[a];show 1+l.length=l.length+1;omega
 ·show k.de-bY r.m<=k.de;omega
 ·show r.m.of+(r.m.ln+0)=r.m.of+r.m.ln;omega
 ·rw[iA.1 n];exact b
def vu.step(f:g.Is)(h:vu g c k0 k rs)(hr:k.fB g=aq)(hc:bY k.fst.m<=k.de)(p:k.fst.m.of=(rs[rs.length-1]?.getD qC).m.of+(rs[rs.length-1]?.getD qC).m.ln)(i:k.fst.m.kd≠2/\k.fst.m.of+k.fst.m.ln-(rs[0]?.getD qC).m.of<=g.mx):vu g c k0 k.next (rs++[k.fst]):=by
 obtain⟨r,l,d,z,-,s,o⟩:=zT hr;obtain⟨e,j⟩:=SO d;rw[j,e];rw[e]at hc p i;have b:=h.vU.q r (by rw[d];exact dw);have v:=b.cost f;have n:=h.len;rw[d,eM]at n;have C:=b.of;have B:=b.ln i.1;have A:=h.run.eW;have y:=h.run.end_;refine⟨h.vU.bz f d s o hc,?_,?_,?_,h.no,?_,⟨aC,?_,λx hx=>?_,?_⟩⟩
 ·show k.bE+1=k0.bE+((rs++[r]).length:Int);rw[gW,h.bE];simp;omega
 ·show k.prom+sizeOf' r.m=k0.prom+gS (rs++[r]);rw[LF,h.prom];show _=k0.prom+(gS rs+(sizeOf' r.m+0));omega
 ·rw[gW];show rs.length+1+l.length=_;omega
 ·show k.de-bY r.m<=k0.de;have:=h.de;omega
 ·have w:=h.run.end_
  have u:(rs++[r])[0]? =rs[0]? :=by
   cases rs with
   |nil=>exact absurd rfl h.run.ne
   |cons a t=>rfl
  have l1:(rs++[r])[(rs++[r]).length-1]? =aa r:=by rw[gW];show(rs++[r])[rs.length+1-1]? =aa r;rw[Nat.add_sub_cancel,uR (bD _),Nat.sub_self];rfl
  rw[u,l1,KS];simp;show _+(nF rs+(r.m.ln+0))=_;omega
 ·rcases iT.1 hx with hx|hx
  ·exact h.run.gd x hx
  ·rw[iA.1 hx];exact b
 ·rw[KS,gW];show 4*((rs.length+1:Nat):Int)<=nF rs+(r.m.ln+0)+4/\nF rs+(r.m.ln+0)<=g.mx;omega
def Xy{f:Fx}{s}(h:f.along s k rs=aq):k.fB f.g=aq/\bY k.fst.m<=k.de/\k.fst.m.of=(rs[rs.length-1]?.getD qC).m.of+(rs[rs.length-1]?.getD qC).m.ln/\k.fst.m.kd≠2/\k.fst.m.of+k.fst.m.ln-(rs[0]?.getD qC).m.of<=f.g.mx:=by unfold Fx.along at h;rw[cE,cE,pZ]at h;obtain⟨b,d,a⟩:=h;unfold Fx.free at b;rw[cE]at b;refine⟨b.1,d,?_⟩;unfold pz at a;simp at a;exact⟨a.2.2.2.1,a.1,a.2.2.2.2⟩
def Rb{f:Fx}{s}(a:f.g.Is):∀(n:Nat) (k:Ck) (rs:aB Rq),vu f.g c k0 k rs->vu f.g c k0 (f.jK s n k rs).1 (f.jK s n k rs).2
 |0,k,rs,h=>h
 |n+1,k,rs,h=>by
  unfold Fx.jK;split
  ·rename_i e;obtain⟨a1,b,a3,d⟩:=Xy e;exact Rb a n _ _ (h.step a a1 b a3 d)
  ·exact h
end
def XQ{a b c}(d:dW a b=aq)(e:dW b c=aq):dW a c=aq:=by unfold dW at*;simp at*;omega
def KH{b x l}:x∈fo b l↔x=b\/x∈l:=by
 unfold fo iZ;rw[iT,jR];constructor
 ·rintro(h|h|h)
  ·exact aE (rU h)
  ·exact aF h
  ·exact aE (uV h)
 ·rintro(h|h)
  ·exact aE (aF h)
  ·rw[<-rZ (oz b l) l]at h;rcases iT.1 h with h|h
   ·exact aF h
   ·exact aE (aE h)
def RZ(b l):(fo b l).length=l.length+1:=by unfold fo iZ;have:=dZ List.length (rZ (oz b l) l);rw[gW]at this⊢;rw[eM];omega
def P8{b l}(h:l.Pairwise λa b=>a.order≠b.order)(e:∀x∈l,x.order<b.order):(fo b l).Pairwise λa b=>a.order≠b.order:=by
 unfold fo iZ;rw[<-rZ (oz b l) l]at h;obtain⟨f,i,j⟩:=Iw.1 h;refine Iw.2 ⟨f,rV.2 ⟨λx d=>?_,i⟩,λx d y hy=>?_⟩
 ·have:=e x (uV d);omega
 ·rcases jR.1 hy with rfl|hy
  ·have:=e x (rU d);omega
  ·exact j x d y hy
def Sa{b}:∀{l:aB Jb},(l.Pairwise λa b=>dW a.key b.key=aq)->(∀x∈l,x.order<b.order)->(fo b l).Pairwise λa b=>dW a.key b.key=aq
 |[],_,_=>Wt _ _
 |a::l,h,i=>by
  obtain⟨f,m⟩:=rV.1 h;cases d:dW a.key b.key with
  |true=>
   have e:fo b (a::l)=a::fo b l:=by unfold fo iZ oz;rw[Wv,aW d];rfl
   rw[e];refine rV.2 ⟨λx hx=>?_,Sa m λx hx=>i x (eJ _ hx)⟩;rcases KH.1 hx with rfl|hx
   ·exact d
   ·exact f x hx
  |false=>
   have e:fo b (a::l)=b::a::l:=by unfold fo iZ oz;rw[Wv,aK (by rw[d];simp)];rfl
   rw[e]
   have j:dW b.key a.key=aq:=by have:=i a dw;unfold dW Jb.key at*;simp at d;simp;omega
   refine rV.2 ⟨λx hx=>?_,h⟩;rcases jR.1 hx with rfl|hx
   ·exact j
   ·exact XQ j (f x hx)
section
variable {f:Fx}
def Fx.Core.put(h:f.Core){s k k' o}(d:f.K[s]? =aa (aa k))(F:k'.In f.g f.clock)(A:k'.bE=k.bE)(C:k'.prom=k.prom)(i:k'.no=k.no)(E:k'.de<=(if s=f.aG/\o=aq then 288 else 32))(G:∀(t:Nat) x,t≠s->f.K[t]? =aa (aa x)->x.de<=(if t=f.aG/\o=aq then 288 else 32)):({f.at s k' with opn:=o}:Fx).Core:=by
 have b:∀(t:Nat) x,(f.K.set s (aa k'))[t]? =aa (aa x)->(t=s/\x=k')\/(t≠s/\f.K[t]? =aa (aa x)):=λt x a=>zX a;refine⟨h.g,?_,?_,λt x a=>?_,λt x a=>?_,λt x a=>?_,λt r x y a q e=>?_,λc D=>?_,h.sorted,h.pK,h.fresh,h.jW,h.clock,h.B,h.bP,h.acc,h.cM⟩
 ·show((f.K.set s (aa k')).length:Int)=f.g.cl;rw[kr];exact h.len
 ·show f.aG<(f.K.set s (aa k')).length;rw[kr];exact h.aG
 ·rcases b t x a with⟨rfl,rfl⟩|⟨j,a⟩
  ·rw[A,C];exact⟨F,(h.cl _ k d).2⟩
  ·exact h.cl t x a
 ·rcases b t x a with⟨rfl,rfl⟩|⟨j,a⟩
  ·exact E
  ·exact G t x j a
 ·rcases b t x a with⟨rfl,rfl⟩|⟨j,a⟩
  ·rw[i];exact h.qy _ k d
  ·exact h.qy t x a
 ·rcases b t x a with⟨w,z⟩|⟨_,p⟩
  ·rcases b r y q with⟨m,n⟩|⟨_,l⟩
   ·omega
   ·rw[z,i]at e;rw[w];exact h.one _ _ k y d l e
  ·rcases b r y q with⟨m,n⟩|⟨_,l⟩
   ·rw[n,i]at e;rw[m];exact h.one _ _ x k p d e
   ·exact h.one _ _ x y p l e
 ·obtain⟨a1,u,a3,H,v⟩:=h.jb c D;exact⟨a1,u,a3,GF v⟩
def Fx.Core.MG(h:f.Core){k}(c:f.K[f.aG]? =aa (aa k)):(f.aX k).In f.g f.clock/\(f.aX k).de<=288/\(f.aX k).bE=k.bE/\(f.aX k).prom=k.prom/\(f.aX k).no=k.no/\(f.aX k).wt=k.wt/\(f.aX k).q=k.q:=by
 have a:=(h.cl _ k c).1;have b:=h.de _ k c;unfold Fx.aX;split
 ·rename_i e;rw[aW ⟨rfl,e⟩]at b;exact⟨a,b,rfl,rfl,rfl,rfl,rfl⟩
 ·rename_i e;rw[aK (λx=>e x.2)]at b;have j:=h.g.qn;have hm:=h.g.mx;have l:=a.wt;have h0:=a.de
  have i:0<=k.wt*f.g.qn/\k.wt*f.g.qn<=256:=by have d:k.wt=1\/k.wt=2\/k.wt=3\/k.wt=4:=ak;rcases d with e|e|e|e<;>rw[e]<;>omega
  refine⟨⟨a.ph,a.wt,a.aU,a.q,a.len,a.out,a.tok,?_,a.sv,a.us⟩,?_,rfl,rfl,rfl,rfl,rfl⟩
  ·show 0<=k.de+k.wt*f.g.qn;omega
  ·show k.de+k.wt*f.g.qn<=288;omega
def Fx.Core.turned(h:f.Core){k}(a:f.K[f.aG]? =aa (aa k)):(f.turned k).Core:=by obtain⟨a1,i,a3,c,d,_⟩:=h.MG a;refine h.put a a1 a3 c d (by grind) λt x b g=>?_;have:=h.de t x g;rw[aK (λe=>b e.1)]at this;rw[aK (λe=>b e.1)];exact this
def Fx.Core.eo(h:f.Core):(0<=f.eo.delay/\f.eo.delay<=16)/\0<=f.eo.part/\f.eo.part<=9223372036854775807:=by
 unfold Fx.eo;split
 ·decide
 ·rename_i t r e;exact h.bP.2 t (by rw[e];exact dw)
def Fx.Core.iJ(h:f.Core)(C:f.opn=aq){k}(n:f.K[f.aG]? =aa (aa k))(hr:k.fB f.g=aq)(hc:bY k.fst.m<=k.de)(Q:(f.fl.length:Int)<f.g.wk):(f.iJ f.aG k).Core:=by
 obtain⟨F,R,S⟩:=h.cl _ k n;have d:=Rb (s:=f.aG) (f:=f) h.g k.next.q.length k.next [k.fst] (vu.first h.g F hr hc)
 have I:f.iJ f.aG k={f.at f.aG (f.jK f.aG k.next.q.length k.next [k.fst]).1 with bP:=f.bP.tail,bz:=f.bz+1,fl:=fo ⟨f.aG,(f.jK f.aG k.next.q.length k.next [k.fst]).2,f.eo,f.clock+f.eo.delay,f.bz⟩ f.fl}:=rfl;rw[I];generalize (f.jK f.aG k.next.q.length k.next [k.fst]).1=i at*;generalize (f.jK f.aG k.next.q.length k.next [k.fst]).2=w at*;obtain⟨O,J⟩:=h.eo;have j:∀(t:Nat) x,(f.K.set f.aG (aa i))[t]? =aa (aa x)->(t=f.aG/\x=i)\/(t≠f.aG/\f.K[t]? =aa (aa x)):=λt x a=>zX a;have P:=h.g.qu;refine⟨h.g,?_,?_,λt x a=>?_,λt x a=>?_,λt x a=>?_,λt G x y a E e=>?_,λc hc=>?_,Sa h.sorted λb u=>(h.fresh b u).1,P8 h.pK λb u=>(h.fresh b u).1,λc hc=>?_,?_,h.clock,h.B,⟨?_,λt L=>h.bP.2 t (List.mem_of_mem_tail L)⟩,h.acc,h.cM⟩
 ·show((f.K.set f.aG (aa i)).length:Int)=f.g.cl;rw[kr];exact h.len
 ·show f.aG<(f.K.set f.aG (aa i)).length;rw[kr];exact h.aG
 ·show x.In f.g f.clock/\x.bE=gB (fo _ f.fl) t/\x.prom=gR (fo _ f.fl) t;rw[y9,aaY];rcases j t x a with⟨rfl,rfl⟩|⟨r,a⟩
  ·rw[aW rfl,aW rfl];have a1:=d.bE;have o:=d.prom;exact⟨d.vU,by show x.bE=(w.length:Int)+_;omega,by show x.prom=gS w+_;omega⟩
  ·rw[aK (λe=>r e.symm),aK (λe=>r e.symm)];obtain⟨b1,M,N⟩:=h.cl t x a;exact⟨b1,ak,ak⟩
 ·rcases j t x a with⟨p,l⟩|⟨r,a⟩
  ·have a1:=d.de;have o:=h.de _ k n;rw[aW ⟨rfl,C⟩]at o;show x.de<=(if t=f.aG/\f.opn=aq then 288 else 32);rw[aW ⟨p,C⟩,l];omega
  ·exact h.de t x a
 ·rcases j t x a with⟨p,l⟩|⟨r,a⟩
  ·rw[l,d.no];exact h.qy _ k n
  ·exact h.qy t x a
 ·rcases j t x a with⟨p,l⟩|⟨_,D⟩
  ·rcases j G y E with⟨z,A⟩|⟨_,v⟩
   ·omega
   ·rw[l,d.no]at e;rw[p];exact h.one _ _ k y n v e
  ·rcases j G y E with⟨z,A⟩|⟨_,v⟩
   ·rw[A,d.no]at e;rw[z];exact h.one _ _ x k D n e
   ·exact h.one _ _ x y D v e
 ·rcases KH.1 hc with rfl|hc
  ·refine⟨d.run,?_,J,i,?_⟩
   ·show w.length<=8;have:=d.len;have:=F.len;omega
   ·show(f.K.set f.aG (aa i))[f.aG]? =aa (aa i);rw[ko,aW rfl,aW h.aG]
  ·obtain⟨a1,o,a3,T,H⟩:=h.jb c hc;exact⟨a1,o,a3,GF H⟩
 ·show c.order<f.bz+1/\c.due<=f.clock+16;rcases KH.1 hc with rfl|hc
  ·exact⟨yS _,by show f.clock+f.eo.delay<=_;omega⟩
  ·have:=h.fresh c hc;omega
 ·show((fo _ f.fl).length:Int)<=f.g.wk;rw[RZ];omega
 ·show f.bP.tail.length<=1048576;have:=h.bP.1;rw[List.length_tail];omega
end
structure Fx.ue(f:Fx):Prop where
 core:f.Core
 clock:f.clock<=1073741824
 bz:(f.bz:Int)<=8*(f.clock-1)+f.fl.length
 log:(f.log.length:Int)<=64*f.clock
 C:(f.C.length:Int)<=512*f.clock
 acc:f.acc<=64*f.clock
section
variable {f:Fx}
def aaF{l:aB Jb}(h:l.Pairwise λa b=>a.order≠b.order):∀(i j:Nat) (b c:Jb),l[i]? =aa b->l[j]? =aa c->b.order=c.order->i=j:=by
 induction l with
 |nil=>intro i j b c d;simp at d
 |cons a l o=>
  obtain⟨m,n⟩:=rV.1 h;intro i j b c d k e
  match i,j with
  |0,0=>rfl
  |0,j+1=>
   have g:a=b:=by simpa using d
   exact absurd (g▸e) (m c (lf (by simpa using k)))
  |i+1,0=>
   have g:a=c:=by simpa using k
   exact absurd (g▸e.symm) (m b (lf (by simpa using d)))
  |i+1,j+1=>
   have:=o n i j b c (by simpa using d) (by simpa using k) e;omega
def Ck.In.go{g c}{k:Ck}(a:g.Is)(h:k.In g c)(hc:c<=1073741824)(o:0<=k.prom)(hf:0<=k.bE/\k.bE<=64)(n:k.de<=288):k.Go:=by have b:=h.out;have d:=a.ou;have e:=h.tok;have i:=h.de;have j:=h.sv;have l:=h.len;have m:=a.qu;exact⟨ak,ak,λr hr=>(h.q r hr).ok a,ak,ak,ak,ak⟩
def Fx.ue.Aj(h:f.ue):f.zx/\(∀k,f.K[f.aG]? =aa (aa k)->k.q.length<=1048576)/\f.g.cl=f.K.length/\f.K.length<=65535/\1<=f.g.wk:=by
 have a:=h.core;have c:=a.g;have N:=a.small;have H:=a.jW;have t:=c.wk;have M:=c.qu;have L:=c.qn;have I:=c.mx;have J:=c.ou;have E:=a.clock;have o:=h.clock;have F:=h.bz;have G:=a.eo.1;refine⟨⟨⟨⟨λk d=>?_,λb i=>?_,ak,ak,aaF a.pK⟩,ak,λb i=>(a.fresh b i).1,ak,ak,a.bP.1,ak,ak⟩,a.aG,ak,λk d=>?_⟩,λk d=>?_,a.len.symm,ak,t.1⟩
 ·obtain⟨s,p⟩:=tM.1 d;obtain⟨e,v,w⟩:=a.cl s k p;have l:=e.out;have m:=a.prom s;exact⟨ak,ak,λr hr=>(e.q r hr).ok c⟩
 ·obtain⟨a1,j,_⟩:=a.jb b i;exact⟨λx u=>(a1.gd x u).ok c,ak⟩
 ·obtain⟨e,v,w⟩:=a.cl _ k d;obtain⟨a1,j,a3,y,z,A,B⟩:=a.MG d;have l:=a.de _ k d;have m:=e.wt;have n:=e.de;have C:=a.prom f.aG;have D:=a.bE f.aG;refine⟨ak,⟨n,by split at l<;>omega⟩,a1.go c o ak ak j⟩
 ·have:=(a.cl _ k d).1.len;omega
def GZ{k}(a:f.K[f.aG]? =aa (aa k)):f.bR=if(f.turned k).free (f.aX k)then(if bY (f.aX k).fst.m<=(f.aX k).de then((f.turned k).iJ f.aG (f.aX k),aq)else(f.turned k,av))else((f.turned k).at f.aG (f.aX k).lose,av):=by unfold Fx.bR;rw[a]
def ML(a:∀k,f.K[f.aG]? ≠aa (aa k)):f.bR=(f,av):=by
 unfold Fx.bR;split
 ·rename_i k e;exact absurd e (a k)
 ·rfl
def MH{k}(h:f.Core):(f.turned k).K[(f.turned k).aG]? =aa (aa (f.aX k)):=by show(f.K.set f.aG (aa (f.aX k)))[f.aG]? =_;rw[ko,aW rfl,aW h.aG]
def Fx.Core.pass(h:f.Core)(b:∀k,f.K[f.aG]? =aa (aa k)->k.de<=32):f.pass.Core:=by
 refine⟨h.g,h.len,?_,h.cl,λs k c=>?_,h.qy,h.one,h.jb,h.sorted,h.pK,h.fresh,h.jW,h.clock,h.B,h.bP,h.acc,h.cM⟩
 ·show(f.aG+1)%f.K.length<f.K.length;have:=h.aG;exact AZ _ ak
 ·have a:f.K[s]? =aa (aa k):=c;show k.de<=(if s=(f.aG+1)%f.K.length/\av=aq then 288 else 32);rw[aK aC]
  by_cases e:s=f.aG
  ·rw[e]at a;exact b k a
  ·have:=h.de s k a;rw[aK (λx=>e x.1)]at this;exact this
def Fx.Core.lose(h:f.Core){k}(b:f.K[f.aG]? =aa (aa k)):(f.at f.aG k.lose).Core:=by obtain⟨a,d,e⟩:=h.cl _ k b;refine h.put b ⟨a.ph,a.wt,a.aU,a.q,a.len,a.out,a.tok,jQ 0,a.sv,a.us⟩ rfl rfl rfl ?_ λt x _ c=>h.de t x c;show(0:Int)<=_;split<;>omega
end
def MF:Abides Fx.ue:=by
 refine⟨λf h=>h.Aj,λf h t b=>?_,λf h b=>?_⟩
 ·by_cases e:∃k,f.K[f.aG]? =aa (aa k)
  ·obtain⟨k,a⟩:=e;rw[GZ a]at b⊢;split at b
   ·rename_i c;rw[aW c];split at b
    ·rename_i d;rw[aW d]
     have j:(f.aX k).fB (f.turned k).g=aq:=by unfold Fx.free at c;rw[cE]at c;exact c.1
     refine⟨((h.core.turned a).iJ rfl (MH h.core) j d t),h.clock,?_,h.log,h.C,h.acc⟩;show((f.bz+1:Nat):Int)<=8*(f.clock-1)+((fo _ f.fl).length:Int);rw[RZ];have:=h.bz;omega
    ·cases b
   ·cases b
  ·rw[ML (λk a=>e ⟨k,a⟩)]at b;cases b
 ·by_cases e:∃k,f.K[f.aG]? =aa (aa k)
  ·obtain⟨k,a⟩:=e;rw[GZ a]at b⊢;split at b
   ·rename_i c;rw[aW c];split at b
    ·cases b
    ·rename_i d;rw[aK d];refine⟨(h.core.turned a).pass λx m=>?_,h.clock,h.bz,h.log,h.C,h.acc⟩;have n:=(MH h.core).symm.trans m;cases n
     have j:(f.aX k).fB f.g=aq:=by unfold Fx.free at c;rw[cE]at c;exact c.1
     obtain⟨r,l,s,o,_⟩:=zT j;have p:=(h.core.MG a).1.q r (by rw[s];exact dw);have:=p.cost h.core.g;have:=h.core.g.mx;rw[o]at d;omega
   ·rename_i c;rw[aK c];refine⟨((h.core.turned a).lose (MH h.core)).pass λx m=>?_,h.clock,h.bz,h.log,h.C,h.acc⟩;have n:((f.K.set f.aG (aa (f.aX k))).set f.aG (aa (f.aX k).lose))[f.aG]? =aa (aa x):=m;rcases zX n with⟨_,i⟩|⟨i,_⟩
    ·rw[i];show(0:Int)<=32;omega
    ·exact absurd rfl i
  ·rw[ML (λk a=>e ⟨k,a⟩)];refine⟨h.core.pass λk a=>absurd ⟨k,a⟩ e,h.clock,h.bz,h.log,h.C,h.acc⟩
structure Fx.Rest(f:Fx):Prop where
 core:f.Core
 bz:(f.bz:Int)<=8*f.clock
 log:(f.log.length:Int)<=64*f.clock
 C:(f.C.length:Int)<=512*f.clock
 acc:f.acc<=64*f.clock
section
variable {f:Fx}
def zY{K:aB (aZ Ck)}{j t:Nat}{x:Ck}(h:(K.set j ay)[t]? =aa (aa x)):t≠j/\K[t]? =aa (aa x):=by
 rw[ko]at h;split at h
 ·split at h<;>cases h
 ·rename_i e;exact⟨λa=>e a.symm,h⟩
def Fx.Core.leave(h:f.Core){j:Nat}{o:Bool}(n:∀b∈f.fl,b.s≠j)(p:o=f.opn\/f.aG=j):({f with K:=f.K.set j ay,opn:=o}:Fx).Core:=by
 refine⟨h.g,?_,?_,λs k a=>h.cl s k (zY a).2,λs k a=>?_,λs k a=>h.qy s k (zY a).2,λs t k r a q e=>h.one s t k r (zY a).2 (zY q).2 e,λb d=>?_,h.sorted,h.pK,h.fresh,h.jW,h.clock,h.B,h.bP,h.acc,h.cM⟩
 ·show((f.K.set j ay).length:Int)=f.g.cl;rw[kr];exact h.len
 ·show f.aG<(f.K.set j ay).length;rw[kr];exact h.aG
 ·have c:=h.de s k (zY a).2;rcases p with rfl|e
  ·exact c
  ·have i:=(zY a).1;rw[aK (λx=>i (x.1.trans e))];rw[aK (λx=>i (x.1.trans e))]at c;exact c
 ·obtain⟨a1,l,a3,k,m⟩:=h.jb b d;refine⟨a1,l,a3,k,?_⟩;rw[ko,aK (λe=>n b d e.symm)];exact m
def Fx.Core.gL(h:f.Core)(j):(f.gL j).Core:=by
 unfold Fx.gL;split
 ·rename_i k d;split
  ·rename_i c;refine h.leave (λb a e=>?_) ?_
   ·have:=h.stay b a k (by grind);rw[c]at this;cases this
   ·by_cases e:f.aG=j
    ·exact aE e
    ·rw[aK e];exact aF rfl
  ·exact h
 ·exact h
def G0(f:Fx)(j:Nat):(f.gL j).clock=f.clock/\(f.gL j).bz=f.bz/\(f.gL j).log=f.log/\(f.gL j).C=f.C/\(f.gL j).acc=f.acc/\(f.gL j).stop=f.stop/\(f.gL j).cM=f.cM/\(f.gL j).g=f.g/\(f.gL j).B=f.B:=by
 unfold Fx.gL;split
 ·split<;>exact⟨rfl,rfl,rfl,rfl,rfl,rfl,rfl,rfl,rfl⟩
 ·exact⟨rfl,rfl,rfl,rfl,rfl,rfl,rfl,rfl,rfl⟩
def Fx.Core.dj(h:f.Core):∀n,(f.dj n).Core/\(f.dj n).clock=f.clock/\(f.dj n).bz=f.bz/\(f.dj n).log=f.log/\(f.dj n).C=f.C/\(f.dj n).acc=f.acc/\(f.dj n).stop=f.stop/\(f.dj n).cM=f.cM/\(f.dj n).g=f.g/\(f.dj n).B=f.B
 |0=>⟨h,rfl,rfl,rfl,rfl,rfl,rfl,rfl,rfl,rfl⟩
 |n+1=>by obtain⟨a1,b,a3,c,d,e,i,j,k,a⟩:=Fx.Core.dj h n;obtain⟨m,o,p,q,r,s,t,u,l⟩:=G0 (f.dj n) n;rw[zJ];exact⟨a1.gL n,m.trans b,o.trans a3,p.trans c,q.trans d,r.trans e,s.trans i,t.trans j,u.trans k,l.trans a⟩
def Fx.Rest.dj(h:f.Rest)(n):(f.dj n).Rest:=by obtain⟨a1,a,a3,b,c,d,_⟩:=h.core.dj n;exact⟨a1,by rw[a,a3];exact h.bz,by rw[a,b];exact h.log,by rw[a,c];exact h.C,by rw[a,d];exact h.acc⟩
def QB:∀(n:Nat) (f:Fx),(Fx.fin n f).clock=f.clock
 |0,f=>rfl
 |n+1,f=>by
  unfold Fx.fin;split
  ·rfl
  ·split
   ·exact(QB n _).trans (BU _ _).2.1
   ·rfl
def UY(f:Fx):f.bR.1.clock=f.clock:=by
 unfold Fx.bR;split
 ·split
  ·split<;>rfl
  ·rfl
 ·rfl
def MJ:∀(n p:Nat) (f:Fx),(Fx.turns n p f).clock=f.clock
 |0,_,f=>rfl
 |n+1,p,f=>by
  unfold Fx.turns;split
  ·split
   ·exact(MJ n _ _).trans (UY f)
   ·exact(MJ n _ _).trans (UY f)
  ·rfl
def Fx.Rest.early(h:f.Rest)(hc:f.clock<1073741824):f.early.goes.sJ:=by
 obtain⟨l,g2,K,a,d⟩:=h.core.early.goes;have b:=ot f;have r:=h.core.jW;have s:=h.core.g.wk;have n:=h.bz;have o:=h.log;have p:=h.C;have q:=h.acc;have c:f.early.goes.clock=f.clock+1:=by rw[d,b]
 have i:f.early.goes.bz=f.bz:=by rw[d,b]
 have j:f.early.goes.log=f.log:=by rw[d,b]
 have k:f.early.goes.C=f.C:=by rw[d,b]
 have e:f.early.goes.fl=f.fl:=by rw[d,b]
 have m:f.early.acc=f.acc:=by rw[b]
 exact⟨l,by rw[c];omega,by rw[c,i];omega,by rw[c,j,e];omega,by rw[c,k,e];omega,by rw[c];omega⟩
def Fx.Rest.ok(h:f.Rest)(hc:f.clock<1073741824):f.Pd Fx.sJ:=by
 have c:=h.core.g;have u:=h.core.small;have q:=h.core.clock;have a:=h.core.early;have r:=c.qu;have t:=c.rt;have p:=c.bu;have n:=h.core.acc;have o:=h.acc;have d:f.early.acc=f.acc:=by rw[ot]
 refine⟨ak,ak,ak,ak,λs k b=>?_,λs k b=>?_,λs k b=>?_,by rw[d];omega,by have:=a.small;omega,h.early hc⟩
 ·have:=(h.core.cl s k b).1.tok;omega
 ·obtain⟨j,v,l⟩:=a.cl s k b;exact j.EB a.g (by rw[l];exact a.prom s)
 ·have e:=(a.readAll.cl s k b).1.len;have m:=a.g.qu;have i:f.early.readAll.g=f.early.g:=rfl;rw[i]at e;omega
def Fx.sJ.uF(h:f.sJ):f.ue:=by have a:=h.bz;have b:=h.log;have c:=h.C;exact⟨h.core,h.clock,ak,ak,ak,h.acc⟩
def Fx.ue.rest(h:f.ue):f.Rest:=by have a:=h.bz;have b:=h.core.jW;have c:=h.core.g.wk;exact⟨h.core,ak,h.log,h.C,h.acc⟩
def afF(h:f.Rest)(b:f.early.goes.ends.takes.ue):f.tick.Rest/\f.tick.clock=f.clock+1:=by
 obtain⟨e,g2,K,a,d⟩:=h.core.early.goes;have c:f.early.goes.clock=f.clock+1:=by rw[d,ot]
 refine⟨b.rest.dj _,?_⟩;show(f.early.goes.ends.takes.dj _).clock=_;rw[(b.core.dj _).2.1];show(Fx.turns _ _ (Fx.fin _ f.early.goes)).clock=_;rw[MJ,QB,c]
end
end
section
open Go.Conc
open Go.Proofs.Tryz
def oy:aB bC:=[66,36,37,33,34,20,59,60,100,102,62,63,64,304,81,111,71,72,73,68,74,69,70,54,96,151,152,153,103,104,105,106,77,107,108,109,119,120,115,112,116,117,113,114,188,189,75,192,193,159,160,161,162,163,164,165,166,167,168,169,172,171,170,78,201,225,190,191,202,232,233,195,196,197,198,199,200,203,204,205,206,207,208,209,210,211,212,226,228,229,230,231,237,238,224,234,235,236,239,240,241,242,243,244,245,227,260,261,262,263,264,265,266,267,268,269,270,273,274,275,276,277,278,279,280,281,282,284,285,286,287,28,21,29,67,30,31,41,25,76,43,42,35,58,95]
def vV:aB bC:=[61,26,98,12,13,15,10,32]
def ahf:MV prog=aq:=aT
def okP:oy.all (okF prog oy)=aq:=aT
def Q7:vV.all (knF prog)=aq:=aT
def BZ(d:Nat)(t:Nat->aZ Obj):@Fit (um prog oy vV d t) prog oy:=l7 ahf okP Q7
def F6(d:Nat)(t:Nat->aZ Obj):@zn (um prog oy vV d t) oy:=by
 letI:aP:=um prog oy vV d t
 exact⟨BZ d t,aT,((BZ d t).ok _).2 aT,((BZ d t).ok _).2 aT,aE aT,aT,aT,aT,aT⟩
end
section
open Go.Conc Go.RowKit
open Go.ConcR (Payload)
open Go.Proofs.Tryz
section
variable {f:Fx}
def Fx.Rest.put(h:f.Rest){s k k'}(a:f.K[s]? =aa (aa k))(i:k'.In f.g f.clock)(b:k'.bE=k.bE)(c:k'.prom=k.prom)(d:k'.no=k.no)(e:k'.de=k.de):(f.at s k').Rest:=by refine⟨h.core.put a i b c d (by rw[e];exact h.core.de s k a) λt x _ j=>h.core.de t x j,h.bz,h.log,h.C,h.acc⟩
def Fx.Rest.send(h:f.Rest){s k}(b:f.K[s]? =aa (aa k))(x):(f.send s k x).1.Rest:=by
 unfold Fx.send;split
 ·exact h
 ·split
  ·exact h
  ·rename_i c d;have a:=(h.core.cl s k b).1;refine h.put b ⟨a.ph,a.wt,?_,a.q,a.len,a.out,a.tok,a.de,a.sv,a.us⟩ rfl rfl rfl rfl;show(k.aU++x).size<=1024;rw[qI];omega
def Fx.Rest.take(h:f.Rest){s k}(c:f.K[s]? =aa (aa k))(n):(f.at s (k.takes n)).Rest/\(f.take s k n).Rest:=by
 have b:=(h.core.cl s k c).1
 have a:(f.at s (k.takes n)).Rest:=by
  unfold Ck.takes;split
  ·exact h.put c b rfl rfl rfl rfl
  ·refine h.put c ⟨b.ph,b.wt,b.aU,b.q,b.len,?_,b.tok,b.de,b.sv,b.us⟩ rfl rfl rfl rfl;have:=b.out;show((k.take (k.much n)).out.size:Int)+k.prom<=f.g.ou
   have e:(k.take (k.much n)).out.size<=k.out.size:=by show(k.out.extract _ _).size<=_;rw[mQ];omega
   omega
 exact⟨a,a.dj _⟩
def A3{l s}(h:∀b∈l,b.s≠s):gB l s=0/\gR l s=0:=by
 induction l with
 |nil=>exact⟨rfl,rfl⟩
 |cons b l g=>
  obtain⟨c,d⟩:=g λx e=>h x (eJ _ e);have a:=h b dw;refine⟨?_,?_⟩
  ·show(if b.s=s then(b.rs.length:Int)else 0)+gB l s=0;rw[aK a,c];rfl
  ·show(if b.s=s then gS b.rs else 0)+gR l s=0;rw[aK a,d];rfl
end
section
variable [aP] [pX]
end
end
section
attribute [local go_sem ↓] Go.wp_at_zero Go.wp_at_succ
attribute [local go_sem] bV bQ
open Go.Conc Go.RowKit
open Go.ConcR (Payload)
open Go.Proofs.Tryz
def Zr(d a e n off:Nat)(c:aD)(B D:aJ UInt8)(C:aB (Nat×aB UInt8))(w:az)(h:jF w d a e c n B D C)(q:off<n):
  fK 200 #[jp d,an off,.string ⟨#[]⟩] w (.tuple #[]):=by
 have o:=h.small;have s:=h.sizes.1;have i:=aS w d 0 (.slice (aa (aj a 0)) n n) h.box;have k:(off:Int)<=(n:Int):=ak;have p:¬n=off:=ak
 obtain⟨r,m⟩:∃r,(Builtin.copy_ #[158,9] 3 #[.slice (aa (aj a off)) (n-off) (n-off),.string ⟨#[]⟩]).run prog w=.ok r w:=by obtain⟨r,h⟩:=acu w 158 9 3 5 a off (n-off) (n-off) ⟨#[]⟩ [] underlying158 adp aC (λj b=>by cases b) (λj b=>by cases b);exact⟨r,h⟩
 clear h;go_enter func200,ntmps200;go_wp2
 go_loopw [6] (λg wr=>g=an 0/\wr=w) (λ_ _=>0)
 case atStart=>exact⟨rfl,rfl⟩
 case round=>
  obtain⟨rfl,rfl⟩:=hrel;go_wp2;refine fI rfl rfl ⟨rfl,rfl⟩
def Qa{a:aB Rq}(h:∀x∈a,x.m.kd=0):eC a=[]:=by refine List.flatMap_eq_nil_iff.2 λx b=>?_;have:=h x b;unfold Rq.piece;rw[aK ak,aK ak]
def Vs{a:aB Rq}{b:Ft}(h:∀x∈a,x.m.kd=0):pP a b=[]:=by unfold pP;rw[Qa h];simp
def Yq{k:Dk}{r:Rq}{t:aB Rq}{a:Ft}(h:∀x∈r::t,x.m.kd=0)(hf:r.m.fl=0):k.change (r::t) a=k:=by have h0:=h r (dw ..);unfold Dk.change;simp only[Vs h];rw[aK ak,aK ak];show(⟨k.B,k.D,k.C++[]⟩:Dk)=k;rw[DJ]
def Yp(Z:Bld)(j c:Nat)(rv:aD)(r:Rq)(t:aB Rq)(g:Ft)(due aG:Int)(d y A n:Nat)(z:aD)(B D:aJ UInt8)(C:aB (Nat×aB UInt8))(w:az)(h:eP w j c rv (r::t) g due aG)(G:jF w d y A z n B D C)(hrd:∀x∈r::t,x.m.kd=0)(I:r.m.fl=0)(N:(r::t).length<=1048576)(M:∀x∈r::t,0<=x.m.ln/\x.m.ln<=65535)(hp:0<=g.part/\g.part<=9223372036854775807)(h0:0<=r.m.of)(F:r.m.of.toNat<n):
  bN 161 #[jp j,jp d] w (.tuple #[]):=by
 obtain⟨qa,qc,rfl,_⟩:=h.row.form;obtain⟨E,rfl,O,P,Q,R,T,U,V,X,Y,k9⟩:=h.row.at (i:=0) (r:=r) rfl;have k:Hid (ChS j E (r::t).length qc r g.eU w):=⟨⟨aI h.box rfl,aI h.box rfl⟩,O,P,Q,R,T,U,V,X,Y,k9⟩
 have HW:Hid (∀W,aN w W->bN 199 #[jp j] W (.string ⟨#[]⟩)):=λW q=>by have:=agO Z j c _ _ g due aG W (h.below q) (by rw[Qa hrd];simp) N M hp;rw[Vs hrd]at this;exact this
 have aU:Hid (∀W,aN w W->fK 200 #[jp d,an r.m.of,.string ⟨#[]⟩] W (.tuple #[])):=λW q=>by have:=Zr d y A n r.m.of.toNat z B D C W (G.below q) F;rw[show((r.m.of.toNat:Nat):Int)=r.m.of by omega]at this;exact this
 have J:=hrd r (dw ..);have d1:(r.m.kd==2)=av:=by rw[J];rfl
 have d3:(r.m.fl==1)=av:=by rw[I];rfl
 clear h G N M h0 F O P Q R T U V X Y k9 hrd J I;have bn:0<(r::t).length:=aC;generalize (r::t).length=nr at*;have bl:(0:Int)<(nr:Int):=ak;go_enter func161,ntmps161
 go_upto_region 0 with fail
 go_cut [4,5] (λp4 p5 w'=>p4=aR w.heap.size/\p5=.bool (!g.eU)/\w'.heap[w.heap.size]? =aa (aA (aO r) 134 (0,0))/\aN w w')
 case first=>
  refine iD ?_;refine dY (S:=ChS j E nr qc r g.eU) 14 aT k.out ?_;intro hS;refine gk 0 ?_;refine gk 1 ?_;refine gk 2 ?_;refine gs 3 ?_;refine gk 4 ?_;refine gs 5 ?_;refine gk 6 ?_;refine gk 7 ?_;refine gk 8 ?_;refine gk 9 ?_;refine gs 10 ?_;refine gk 11 ?_;have b1:aN w (w.alloc (aA (aO ⟨⟨0,⟨#[]⟩,0,0,0,0,0,⟨#[]⟩,0⟩,0⟩) 134)).drew:=bp.drew;refine gr 12 λK a=>?_;go_simp;refine a.out _ _ (k.out.old b1) (λaX=>?_);clear a K;have s:aN w (w.alloc (aA (aO r) 134)).drew:=bp.drew;refine gr 13 λK a=>?_;go_simp;refine a.out _ _ (k.out.old s) (λFu=>?_);clear a K;refine gz λK a=>?_;go_simp;refine a.out _ _ ?_;clear a K;refine ef aT ?_ _;refine gE ?_;go_wp2_with fail
  go_meet
  case rel=>exact⟨rfl,rfl,cG w _,s⟩
 case rest=>
  obtain⟨rfl,rfl,p,H⟩:=hcut;have s2:=aI p (i:=2) (v:=an r.m.kd) rfl;have s3:=aI p (i:=3) (v:=an r.m.fl) rfl;have s5:=aI p (i:=5) (v:=an r.m.of) rfl;have b:Hid (aN w wc):=H;clear H p k
  go_upto_region 1 with fail
  refine iD ?_;refine dY (S:=λW=>W.cell? (aj w.heap.size 5)=aa (an r.m.of)/\aN w W) 6 aT ⟨s5,b.out.drew⟩ ?_;intro hS;refine gk 0 ?_;refine gk 1 ?_;refine gk 2 ?_;refine gs 3 ?_;refine gk 4 ?_;refine gr 5 λK a=>?_;go_simp;go_at_call 199;refine(HW.out _ b.out.drew).mono ?_;rintro e w1 ⟨rfl,o⟩;refine a.out _ _ ⟨bO o s5,b.out.drew.trans (o.mono b.out.drew.size)⟩ (λaX=>?_);clear a K;refine gz λK a=>?_;go_simp;go_at_call 200;refine(aU.out _ (b.out.drew.trans (o.mono b.out.drew.size))).mono ?_;rintro e w2 ⟨rfl,hk⟩;refine a.out _ _ ?_;clear a K;refine ef aT ?_ _;refine gE ?_;go_wp2_with fail;subst hk;refine fI rfl rfl ⟨rfl,b.out.drew.trans (o.mono b.out.drew.size)⟩
def Fx.Rds(f:Fx):Prop:=∀b∈f.fl,∀r∈b.rs,r.m.kd=0/\r.m.fl=0
def Ys(Z:Bld){P:Fx->Prop}(v:∀f,P f->f.Rds):Chg P:=⟨λ{f1 F r b k W xb L i} z w _ h q ok=>by have hr:=v _ z b (by rw[w];exact dw ..);obtain⟨n,t0,g,A,E,I⟩:=ok.ne;obtain⟨t,y⟩:=Lk h q;obtain⟨lc,J,G,K⟩:=q;have H:eP W i.j lc.c i.rv (n::t0) b.ft b.due b.order:=g▸G;have hrd:∀x∈n::t0,x.m.kd=0:=λx a=>(hr x (g▸a)).1;have p:=(hr n (g▸dw ..)).2;refine(Yp Z i.j lc.c i.rv n t0 b.ft b.due b.order L.d L.bb L.db F.B.size L.cv F.B F.D F.C W H h.fO hrd p (g▸dM ok.many ak) (λx a=>have s:=g▸a;⟨(ok.ok x s).1.mL,(ok.ok x s).1.qx⟩) ok.part A E).mono ?_;rintro e M ⟨rfl,o⟩;refine⟨rfl,{L with own:=gu L.own W.heap.size 0},?_,⟨λx a=>iO a,.below o⟩,fj.aside (T:=λ_=>False) ⟨λx a _=>o.block x a,λ_ _=>rfl⟩ y (pN _) (λe=>e),rfl,rfl,rfl,λx a=>aF (uw a)⟩;rw[g,Yq hrd p];exact t.below o⟩
def Zp:xm λf=>f.sJ/\f.Rds:=⟨λf b r h=>BV.top f b r h.1,λf b r h a i=>by obtain⟨d,e,g⟩:=BV.does f b r h.1 a i;refine⟨d,e,g,λx c=>h.2 x ?_⟩;rw[(BU _ b).1]at c;rw[a];exact eJ _ c⟩
section
variable [aP] [pX] {l:aB bC} {u:az} {f:Fx} {xb:Nat} {L:dy}
def aL.UK(Z:Bld)(h:aL u f xb L)(G:zn l)(hR:f.Rest)(hc:f.clock<1073741824)(hr:f.Rds):
  fc prog 26 #[pt xb] u λe g=>e=aM (.tuple #[])/\(f.tick.Rest/\f.tick.clock=f.clock+1)/\∃c,aL g f.tick xb c/\bJ u L g c:=
 (h.Yi (λf=>f.sJ/\f.Rds) Fx.ue (Ys Z λ_ h=>h.2) Zp MF (λ_ h=>h.core.stay) G (have o:=hR.ok hc;⟨o.clock,o.len,o.rt,o.bu,o.tok,o.EB,o.q,o.acc,o.Sn,o.next,λb d=>hr b (by obtain⟨_,_,K,a,i⟩:=hR.core.early.goes;rw[i,ot f]at d;exact d)⟩) (λh=>h.1.uF)).mono λ_ _ ⟨j,k,m⟩=>⟨j,afF hR k,m⟩
end
end
section
open Go.Proofs.Tryz
section
variable {f:Fx}
def Fx.Rest.nJ(h:f.Rest){j wt}(J:f.K[j]? =aa ay)(L:1<=wt/\wt<=4):(f.nJ j wt).Rest:=by
 have m:=h.core.g;have O:=m.bu;have S:=m.qu;have R:=m.ou;have Q:=m.mx;have G:=h.core.clock;have P:=h.core.cM
 have H:∀b∈f.fl,b.s≠j:=λb E e=>by obtain⟨_,_,_,k,u⟩:=h.core.jb b E;rw[e,J]at u;cases u
 obtain⟨M,N⟩:=A3 H
 have I:(Ck.fresh f.cM wt f.g.bu).In f.g f.clock:=by
  refine⟨⟨jQ 0,by show(0:Int)<=4;omega⟩,L,by show(0:Nat)<=1024;omega,λr hr=>(by cases hr),?_,?_,?_,jQ 0,?_,⟨List.nodup_nil,λx a=>(by cases a)⟩⟩
  ·show((0:Nat):Int)<=f.g.qu;omega
  ·show((0:Nat):Int)+0<=f.g.ou;omega
  ·show 0<=f.g.bu/\f.g.bu<=32;omega
  ·show(0:Int)<=0/\0+32*f.g.bu<=1024*(f.clock+1);omega
 have l:∀(t:Nat) x,(f.K.set j (aa (Ck.fresh f.cM wt f.g.bu)))[t]? =aa (aa x)->(t=j/\x=Ck.fresh f.cM wt f.g.bu)\/(t≠j/\f.K[t]? =aa (aa x)):=λt x a=>zX a;refine⟨⟨m,?_,?_,λt x a=>?_,λt x a=>?_,λt x a=>?_,λt o x y a v e=>?_,λc F=>?_,h.core.sorted,h.core.pK,h.core.fresh,h.core.jW,G,h.core.B,h.core.bP,h.core.acc,by show 0<=f.cM+1;omega⟩,h.bz,h.log,h.C,h.acc⟩
 ·show((f.K.set j _).length:Int)=f.g.cl;rw[kr];exact h.core.len
 ·show f.aG<(f.K.set j _).length;rw[kr];exact h.core.aG
 ·show x.In f.g f.clock/\x.bE=gB f.fl t/\x.prom=gR f.fl t;rcases l t x a with⟨n,i⟩|⟨_,d⟩
  ·rw[n,i,M,N];exact⟨I,rfl,rfl⟩
  ·exact h.core.cl t x d
 ·rcases l t x a with⟨n,i⟩|⟨_,d⟩
  ·rw[i];show(0:Int)<=_;split<;>omega
  ·exact h.core.de t x d
 ·show 0<=x.no/\x.no<f.cM+1;rcases l t x a with⟨n,i⟩|⟨_,d⟩
  ·rw[i];show 0<=f.cM/\f.cM<f.cM+1;omega
  ·have:=h.core.qy t x d;omega
 ·rcases l t x a with⟨n,i⟩|⟨_,d⟩
  ·rcases l o y v with⟨D,q⟩|⟨_,p⟩
   ·omega
   ·have:=h.core.qy o y p;rw[i]at e;have A:f.cM=y.no:=e;omega
  ·rcases l o y v with⟨D,q⟩|⟨_,p⟩
   ·have:=h.core.qy t x d;rw[q]at e;have A:x.no=f.cM:=e;omega
   ·exact h.core.one t o x y d p e
 ·obtain⟨a1,w,a3,k,z⟩:=h.core.jb c F;exact⟨a1,w,a3,GF z⟩
def Fx.Core.is(h:f.Core){s k}(a:f.K[s]? =aa (aa k)):f.Is k.no s k:=⟨a,rfl,λt c b e=>h.one t s c k b a e⟩
end
def qlO:aZ (aZ Ck)->Nat
 |some (aa k)=>k.q.length
 |_=>0
abbrev Fx.ql(f:Fx)(s:Nat):Nat:=qlO f.K[s]?
def tV(f f':Fx):Prop:=∀s,f'.ql s<=f.ql s
section
variable {f f1 f':Fx} {s:Nat} {k k':Ck}
def tV.trans(h:tV f f1)(a:tV f1 f'):tV f f':=λs=>dM (a s) (h s)
def tV.refl(f):tV f f:=λ_=>bD _
def Zw{o}(a:f'.K=f.K.set s o)(h:qlO (aa o)<=f.ql s):tV f f':=λt=>by
 show qlO f'.K[t]? <=_;rw[a,ko];split
 ·rename_i e;subst e;split
  ·exact h
  ·exact eZ _
 ·exact bD _
def abg(a:f.K[s]? =aa (aa k)):f.ql s=k.q.length:=by show qlO f.K[s]? =_;rw[a];rfl
def QC:∀(n:Nat) (f:Fx),f.sJ->tV f (Fx.fin n f)/\(Fx.fin n f).sJ/\(∀b∈(Fx.fin n f).fl,b∈f.fl)/\(f.fl.length<=n->∀b∈(Fx.fin n f).fl,f.clock<b.due)
 |0,f,h=>⟨.refl f,h,λ_ h=>h,λc b a=>by have g:b∈f.fl:=a;rw[yL.1 (Nat.le_zero.1 c)]at g;cases g⟩
 |n+1,f,h=>by
  unfold Fx.fin;split
  ·rename_i e;exact⟨.refl f,h,λ_ h=>h,λ_ b a=>by rw[e]at a;cases a⟩
  ·rename_i b r e;split
   ·rename_i i;obtain⟨⟨k,j,_⟩,_,o⟩:=BV.does f b r h e i;obtain⟨d,m,_⟩:=BU {f with fl:=r} b;obtain⟨u,v,w,l⟩:=QC n _ o;have t:=(h.core.jb b (by rw[e];exact dw)).1;have p:=(BO (({f with fl:=r}:Fx).dk.change b.rs b.ft).B b.ft (b.rs.take b.rs.length) k (by rw[wP];exact t.gd)).q;refine⟨tV.trans (Zw (by rw[uj (f:={f with fl:=r}) j]) ?_) u,v,λx hx=>?_,λc x hx=>?_⟩
    ·show(k.answers _ _ _).q.length<=_;rw[p,abg j];exact bD _
    ·have:=w x hx;rw[d]at this;rw[e];exact eJ _ this
    ·rw[m]at l;exact l (by rw[d];rw[e]at c;exact Nat.le_of_succ_le_succ c) x hx
   ·rename_i i;refine⟨.refl f,h,λ_ h=>h,λ_ x hx=>?_⟩;rw[e]at hx;rcases jR.1 hx with rfl|hx
    ·omega
    ·have:=(BV.top f b r h e).1 x hx;unfold dW at this;simp at this;omega
def B6(j:f'.g=f.g)(hf:f'.fl=f.fl)(i:f'.K.map (Bb Ck.lose)=f.K.map (Bb Ck.lose))(c:k'.lose=k.lose):f'.free k'=f.free k:=by
 have d:k'.fB f.g=k.fB f.g:=show k'.lose.fB f.g=k.lose.fB f.g by rw[c]
 have e:k'.fst=k.fst:=show k'.lose.fst=k.lose.fst by rw[c]
 unfold Fx.free Fx.held;rw[j,hf,d,e]
 have b:∀(a:aZ Ck->Bool) (K:aB (aZ Ck)),(∀o,a (o.map Ck.lose)=a o)->K.any a=(K.map (Bb Ck.lose)).any a:=λa K h=>by
  rw[List.any_map]
  congr 1
  funext o
  exact(h o).symm
 rw[b _ f'.K,b _ f.K,i]
 all_goals exact λo=>by cases o<;>rfl
def U1(a:f.K[s]? =aa (aa k))(h:k'.lose=k.lose):(f.K.set s (aa k')).map (Bb Ck.lose)=f.K.map (Bb Ck.lose):=by rw[DO];exact wu (by rw[jA,a];exact dZ (λx=>aa (aa x)) h.symm)
def US(f:Fx)(k):(f.aX k).lose=k.lose:=by unfold Fx.aX;split<;>rfl
end
structure Rq.Rd(g:Cf)(r:Rq):Prop where
 kd:r.m.kd=0
 of:r.m.of=0
 ln:4<=r.m.ln/\r.m.ln<=g.mx
 fg:r.m.fl=0
def kM(x:Nat×Nat):aB UInt8:=81::0::0::eG x.1++0::0::eG x.2
structure jU(g:Cf)(W:Int)(l:aB (Nat×Nat))(k:Ck):Prop where
 aU:k.aU.data.toList=l.flatMap kM
 pw:l.Pairwise λa b=>a.1<b.1
 ok:∀x∈l,(x.1:Int)<=W/\4<=x.2/\(x.2:Int)<=g.mx/\x.2%4=0
 us:(∀u∈k.us,u<=W)/\∀u∈k.us,∀x∈l,u<(x.1:Int)
 eW:l.length<=10
def jU.to{g:Cf}{W:Int}{l:aB (Nat×Nat)}{k k':Ck}(h:jU g W l k)(d:k'.aU=k.aU)(b:∀u∈k'.us,u∈k.us):jU g W l k':=⟨by rw[d];exact h.aU,h.pw,h.ok,⟨λu a=>h.us.1 u (b u a),λu a=>h.us.2 u (b u a)⟩,h.eW⟩
structure Ck.Hot(g:Cf)(W:Int)(j:Nat)(k:Ck):Prop where
 ph:k.ph=2
 jc:∃l,jU g W l k
 q:∀r∈k.q,r.Rd g
 len:8<=k.q.length+j
 tok:16<=k.tok+j
 out:k.out.size<=116
structure Owe(f:Fx)(c wt:Nat->Int)(r:Int)(s:Nat)(k:Ck):Prop where
 qG:k.wt=wt s
 no:k.no=s
 sum:k.sv+k.de=(r+(if s<f.aG\/s=f.aG/\f.opn=aq then 1 else 0)-c s) *(wt s*f.g.qn)
 de:k.de<=f.g.mx+(if s=f.aG/\f.opn=aq then wt s*f.g.qn else 0)
def Se{p q:Prop}[Decidable p][Decidable q]{a b:Int}(h:p↔q):(if p then a else b)=if q then a else b:=by
 by_cases d:p
 ·rw[aW d,aW (h.1 d)]
 ·rw[aK d,aK λx=>d (h.2 x)]
def mu:aZ Ck->Int
 |some k=>k.sv
 |none=>0
def jv:aB (aZ Ck)->Int
 |[]=>0
 |o::l=>mu o+jv l
def UE:∀(l:aB (aZ Ck)) (s:Nat) (o a:aZ Ck),l[s]? =aa o->jv (l.set s a)=jv l-mu o+mu a
 |[],s,o,a,h=>by cases h
 |x::l,0,o,a,h=>by cases h;show mu a+jv l=mu x+jv l-mu x+mu a;omega
 |x::l,s+1,o,a,h=>by have:=UE l s o a h;show mu x+jv (l.set s a)=mu x+jv l-mu o+mu a;omega
structure Fx.Sh(c wt:Nat->Int)(W:Int)(f:Fx):Prop where
 uF:f.ue
 wk:f.g.wk<=3
 ou:f.g.ou=256
 ft:f.bP=[]
 fl:∀b∈f.fl,∃r,b.rs=[r]/\r.Rd f.g/\b.due=f.clock+1
 cl:∀s,s<f.K.length->∃k,f.K[s]? =aa (aa k)/\k.Hot f.g W f.fl.length
 mh:∃r,∀s k,f.K[s]? =aa (aa k)->Owe f c wt r s k
 sum:4*(f.bz:Int)<=jv f.K
section
variable {f:Fx} {g:Cf} {c wt:Nat->Int} {W:Int} {s:Nat} {k:Ck} {r r':Rq}
def Rq.Rd.touch(h:r.Rd g)(a:r'.Rd g):r.touch r'=av:=by simp[Rq.touch,h.kd,a.kd]
def LG(hm:g.mx<=32)(s:Nat):∀l:aB Jb,(∀b∈l,∃r,b.rs=[r]/\r.Rd g)->gR l s<=36*l.length
 |[],_=>jQ _
 |b::l,h=>by
  have i:=LG hm s l λx a=>h x (eJ _ a);obtain⟨r,e,hr⟩:=h b dw;have d:=hr.ln
  have j:gS b.rs<=36:=by rw[e];show sizeOf' r.m+0<=36;unfold sizeOf';rw[aW hr.kd];omega
  have n:gR (b::l) s<=36+gR l s:=by show(if b.s=s then gS b.rs else 0)+gR l s<=_;split<;>omega
  rw[eM]
  push_cast
  omega
def Ck.Hot.cons(h:k.Hot g W f.fl.length)(a:f.fl.length<3):∃r l,k.q=r::l/\k.fst=r/\r.Rd g:=by
 cases e:k.q with
 |nil=>
  have:=h.len;rw[e]at this;simp only[gX]at this;omega
 |cons r l=>exact⟨r,l,rfl,by unfold Ck.fst;rw[e],h.q r (by rw[e];exact dw)⟩
def Fx.Sh.free(h:f.Sh c wt W)(C:(f.fl.length:Int)<f.g.wk)(e:f.K[s]? =aa (aa k)):f.free k=aq:=by
 have G:=h.wk;have n:f.fl.length<3:=ak
 have q:∀{s:Nat} {k:Ck},f.K[s]? =aa (aa k)->k.Hot f.g W f.fl.length:=λ{s k} e=>by obtain⟨x,a,d⟩:=h.cl s (dS.1 e).1;rw[e]at a;cases a;exact d
 have H:=q e;obtain⟨r,l,u,v,hr⟩:=H.cons n;have j:=h.uF.core;have hm:=j.g.mx;have E:=LG (g:=f.g) hm.2.1 s f.fl λb i=>by obtain⟨r,a,d,_⟩:=h.fl b i;exact⟨r,a,d⟩
 have D:=hr.ln;have p:=H.out;have F:=H.tok
 have hrd:k.fB f.g=aq:=by
  unfold Ck.fB;rw[u];have:sizeOf' r.m=4+r.m.ln:=by unfold sizeOf';rw[aW hr.kd]
  have z:=(j.cl s k e).2.2;simp only[cE,pZ];rw[h.ou,z,this];omega
 unfold Fx.free;rw[hrd,v]
 have:f.held r=av:=by
  unfold Fx.held;rw[Bool.or_eq_false_iff];refine⟨?_,?_⟩
  ·rw[AO];intro b i;obtain⟨x,a,d,_⟩:=h.fl b i;rw[a];simp[hr.touch d]
  ·rw[AO];intro o p;cases o with
   |none=>simp
   |some x=>
    obtain⟨t,A⟩:=tM.1 p;obtain⟨y,I,_,w,B⟩:=(q A).cons n;simp[w,B.touch hr]
 rw[this];rfl
def XA(h:∀r∈k.q,r.Rd g)(hr:r.Rd g)(i:k.q≠[]):f.along s k [r]=av:=by
 cases e:k.q with
 |nil=>exact absurd e i
 |cons x l=>
  have j:=h x (by rw[e];exact dw);have a:k.fst=x:=by unfold Ck.fst;rw[e]
  have b:=j.of;have d:=hr.of;have n:=hr.ln
  have:pz r r x f.g.mx=av:=by
   unfold pz;have:(x.m.of==r.m.of+r.m.ln)=av:=by rw[sG,b,d];omega
   rw[this];simp
  unfold Fx.along;rw[a];show((f.at s k).free k&&(decide (bY x.m<=k.de)&&pz r r x f.g.mx))=av;rw[this];simp
def F4(n:Nat)(h:∀r∈k.q,r.Rd g)(hr:r.Rd g)(a:n=k.q.length):f.jK s n k [r]=(k,[r]):=by
 cases n with
 |zero=>rfl
 |succ n=>
  show(if f.along s k [r]then _ else(k,[r]))=_;rw[XA h hr λe=>by rw[e]at a;cases a];rfl
def P4{b:Jb}{l:aB Jb}{x:Jb}(h:x∈fo b l):x=b\/x∈l:=by
 unfold fo iZ at h;rcases iT.1 h with h|h
 ·exact aE (rU h)
 ·rcases jR.1 h with h|h
  ·exact aF h
  ·exact aE (uV h)
def Fx.Sh.use(h:f.Sh c wt W)(z:(f.fl.length:Int)<f.g.wk):(f.bR.2=aq->f.bR.1.Sh c wt W/\f.bR.1.bz=f.bz+1)/\(f.bR.2=av->f.bR.1.pass.Sh c wt W/\f.bR.1.pass.bz=f.bz/\f.opn=aq):=by
 have o:=h.uF.core;obtain⟨k,d,H⟩:=h.cl _ o.aG;have hw:=h.wk;have S:f.fl.length<3:=ak;obtain⟨r,l,p,Z,hr⟩:=H.cons S
 have Q:(f.turned k).free (f.aX k)=aq:=by rw[<-h.free z d];exact B6 rfl rfl (U1 d (US f k)) (US f k)
 obtain⟨R,hR⟩:=h.mh;have O:=hR _ k d;have B:bY r.m=r.m.ln:=by unfold bY;rw[hr.kd];rfl
 have RH:=hr.ln;have aj:=o.g.mx;have an:=o.g.qn;have ah:=(o.cl _ k d).1.de;have aL:=(o.cl _ k d).1.wt
 have hP:f.g.qn<=wt f.aG*f.g.qn:=by rw[<-O.qG];have J:k.wt=1\/k.wt=2\/k.wt=3\/k.wt=4:=ak;rcases J with e|e|e|e<;>rw[e]<;>omega
 have G:(f.aX k).q=r::l:=by
  unfold Fx.aX;split
  ·exact p
  ·exact p
 have v:(f.aX k).fst=r:=by unfold Ck.fst;rw[G]
 have A:(f.aX k).de=k.de+(if f.opn=aq then 0 else wt f.aG*f.g.qn):=by
  unfold Fx.aX;split
  ·omega
  ·show k.de+k.wt*f.g.qn=_;rw[O.qG]
 have hS:(f.aX k).sv=k.sv/\(f.aX k).tok=k.tok/\(f.aX k).ph=k.ph/\(f.aX k).out=k.out/\(f.aX k).wt=k.wt/\(f.aX k).no=k.no/\(f.aX k).aU=k.aU/\(f.aX k).us=k.us:=by unfold Fx.aX;split<;>exact⟨rfl,rfl,rfl,rfl,rfl,rfl,rfl,rfl⟩
 have I:=O.sum;have E:=O.de;have n:=MF.used f h.uF z;have j:=MF.pass f h.uF;rw[GZ d,aW Q,v,B]at n j⊢
 by_cases y:r.m.ln<=(f.aX k).de
 ·rw[aW y]at n j⊢;refine⟨λ_=>?_,λe=>by cases e⟩;have n:=n rfl;have D:(f.aX k).next.q=l:=by unfold Ck.next;rw[v];show(f.aX k).q.tail=l;rw[G];rfl
  have M:(f.turned k).jK f.aG (f.aX k).next.q.length (f.aX k).next [(f.aX k).fst]=((f.aX k).next,[r]):=by rw[v];exact F4 (g:=f.g) _ (λx a=>H.q x (by rw[p];rw[D]at a;exact eJ _ a)) hr rfl
  have L:(f.turned k).iJ f.aG (f.aX k)={f.at f.aG (f.aX k).next with opn:=aq,bP:=f.bP.tail,bz:=f.bz+1,fl:=fo ⟨f.aG,[r],f.eo,f.clock+f.eo.delay,f.bz⟩ f.fl}:=by unfold Fx.iJ;rw[M];simp only[Fx.at,Fx.turned,DU];rfl
  have T:(fo ⟨f.aG,[r],f.eo,f.clock+f.eo.delay,f.bz⟩ f.fl).length=f.fl.length+1:=Gm (LB _ _);have P:f.eo=⟨1,av,0⟩:=by unfold Fx.eo;rw[h.ft]
  rw[L]at n⊢;refine⟨⟨n,h.wk,h.ou,by show f.bP.tail=[];rw[h.ft];rfl,λb hb=>?_,λs i=>?_,⟨R,λs x a=>?_⟩,?_⟩,rfl⟩
  ·rcases P4 hb with rfl|hb
   ·refine⟨r,rfl,hr,?_⟩;show f.clock+f.eo.delay=f.clock+1;rw[P]
   ·exact h.fl b hb
  ·show ∃x,(f.K.set f.aG (aa (f.aX k).next))[s]? =aa (aa x)/\x.Hot f.g W (fo _ f.fl).length;rw[T]
   by_cases e:s=f.aG
   ·subst e;refine⟨_,uC d,by show(f.aX k).ph=2;rw[hS.2.2.1];exact H.ph,(by obtain⟨l,z⟩:=H.jc;exact⟨l,z.to hS.2.2.2.2.2.2.1 λu V=>by rw[<-hS.2.2.2.2.2.2.2];exact V⟩),λx a=>H.q x (by rw[p];rw[D]at a;exact eJ _ a),?_,?_,?_⟩
    ·rw[D];have:=H.len;rw[p,eM]at this;omega
    ·show 16<=(f.aX k).tok-1+((f.fl.length+1:Nat):Int);have:=H.tok;rw[hS.2.1]
     push_cast
     omega
    ·show(f.aX k).out.size<=116;rw[hS.2.2.2.1];exact H.out
   ·obtain⟨x,a,X⟩:=h.cl s (by have e':(f.K.set f.aG (aa (f.aX k).next)).length=f.K.length:=kr;exact e'▸i);refine⟨x,by rw[tL (λe'=>e e'.symm)];exact a,X.ph,X.jc,X.q,?_,?_,X.out⟩
    ·have:=X.len;omega
    ·have:=X.tok;push_cast;omega
  ·rcases zX a with⟨e,e'⟩|⟨e,a⟩
   ·subst e;subst e';refine⟨by show(f.aX k).wt=_;rw[hS.2.2.2.2.1];exact O.qG,by show(f.aX k).no=_;rw[hS.2.2.2.2.2.1];exact O.no,?_,?_⟩
    ·show(f.aX k).sv+bY (f.aX k).fst.m+((f.aX k).de-bY (f.aX k).fst.m)=(R+(if f.aG<f.aG\/f.aG=f.aG/\aq=aq then 1 else 0)-c f.aG) *(wt f.aG*f.g.qn);rw[aW (aE ⟨rfl,rfl⟩),hS.1,A];split
     ·rename_i e;rw[aW (aE ⟨rfl,e⟩)]at I;omega
     ·rename_i e;rw[aK (by rintro(e'|e');omega;exact e e'.2)]at I
      have:(R+1-c f.aG) *(wt f.aG*f.g.qn)=(R+0-c f.aG) *(wt f.aG*f.g.qn)+wt f.aG*f.g.qn:=by rw[show R+1-c f.aG=(R+0-c f.aG)+1 by omega,AI,Int.one_mul]
      omega
    ·show(f.aX k).de-bY (f.aX k).fst.m<=f.g.mx+(if f.aG=f.aG/\aq=aq then wt f.aG*f.g.qn else 0);rw[aW ⟨rfl,rfl⟩,v,B,A];split
     ·rename_i e;rw[aW ⟨rfl,e⟩]at E;omega
     ·rename_i e;rw[aK λe'=>e e'.2]at E;omega
   ·have X:=hR s x a;refine⟨X.qG,X.no,?_,?_⟩
    ·have i:=X.sum;have C:(s<f.aG\/s=f.aG/\aq=aq)↔(s<f.aG\/s=f.aG/\f.opn=aq):=⟨λh=>h.imp id λh=>absurd h.1 e,λh=>h.imp id λh=>absurd h.1 e⟩;show x.sv+x.de=(R+(if s<f.aG\/s=f.aG/\aq=aq then 1 else 0)-c s) *(wt s*f.g.qn);rw[Se C];exact i
    ·have i:=X.de;rw[aK λh=>e h.1]at i;show x.de<=f.g.mx+(if s=f.aG/\aq=aq then wt s*f.g.qn else 0);rw[aK λh=>e h.1];exact i
  ·show 4*((f.bz+1:Nat):Int)<=jv (f.K.set f.aG (aa (f.aX k).next));rw[UE _ _ _ _ d]
   have:mu (aa (f.aX k).next)=k.sv+r.m.ln:=by show(f.aX k).sv+bY (f.aX k).fst.m=_;rw[hS.1,v,B]
   rw[this];have:=h.sum;show _<=jv f.K-k.sv+_
   push_cast
   omega
 ·rw[aK y]at n j⊢;refine⟨λe=>(by cases e),λ_=>?_⟩;have j:=j rfl
  have w:f.opn=aq:=by
   cases e:f.opn with
   |true=>rfl
   |false=>
    exfalso;rw[A,e]at y;simp only[eX,dQ]at y;omega
  have F:f.aX k=k:=by unfold Fx.aX;rw[aW w]
  have N:f.turned k=f:=by unfold Fx.turned;rw[F];have:f.K.set f.aG (aa k)=f.K:=wu d;simp only[Fx.at,this];rw[<-w]
  rw[N]at j⊢;refine⟨⟨j,h.wk,h.ou,h.ft,h.fl,h.cl,?_,h.sum⟩,rfl,w⟩;rw[F]at y;have aC:=o.aG
  by_cases U:f.aG+1<f.K.length
  ·refine⟨R,λs x (a:f.K[s]? =aa (aa x))=>?_⟩;have X:=hR s x a;have i:=X.sum;have t:=X.de
   have C:(s<(f.aG+1)%f.K.length\/s=(f.aG+1)%f.K.length/\av=aq)↔(s<f.aG\/s=f.aG/\f.opn=aq):=by rw[Nat.mod_eq_of_lt U,w];simp;omega
   refine⟨X.qG,X.no,?_,?_⟩
   ·show x.sv+x.de=(R+(if s<(f.aG+1)%f.K.length\/s=(f.aG+1)%f.K.length/\av=aq then 1 else 0)-c s) *(wt s*f.g.qn);rw[Se C];exact i
   ·show x.de<=f.g.mx+(if s=(f.aG+1)%f.K.length/\av=aq then wt s*f.g.qn else 0);rw[aK λh=>by cases h.2]
    by_cases e:s=f.aG
    ·subst e;rw[d]at a;cases a;omega
    ·rw[aK λh=>e h.1]at t;exact t
  ·have Y:(f.aG+1)%f.K.length=0:=by
    rw[show f.aG+1=f.K.length by omega,Nat.mod_self]
   refine⟨R+1,λs x (a:f.K[s]? =aa (aa x))=>?_⟩;have X:=hR s x a;have i:=X.sum;have t:=X.de;have aH:=(dS.1 a).1;rw[aW (by rw[w];simp;omega)]at i;refine⟨X.qG,X.no,?_,?_⟩
   ·show x.sv+x.de=(R+1+(if s<(f.aG+1)%f.K.length\/s=(f.aG+1)%f.K.length/\av=aq then 1 else 0)-c s) *(wt s*f.g.qn);rw[aK (by rw[Y];simp),Int.add_zero];exact i
   ·show x.de<=f.g.mx+(if s=(f.aG+1)%f.K.length/\av=aq then wt s*f.g.qn else 0);rw[aK λh=>by cases h.2]
    by_cases e:s=f.aG
    ·subst e;rw[d]at a;cases a;omega
    ·rw[aK λh=>e h.1]at t;exact t
def Fx.Sh.turns:∀(n p:Nat) (f:Fx),f.Sh c wt W->(p=0\/p=1/\f.opn=av)->2*(f.g.wk-f.fl.length)<=(n:Int)+p->(Fx.turns n p f).Sh c wt W/\(Fx.turns n p f).fl.length=(Fx.turns n p f).g.wk/\((Fx.turns n p f).bz:Int)=f.bz+(f.g.wk-f.fl.length)
 |n,p,f,h,hp,l=>by
  have x:=h.uF.core.jW;have w:=h.uF.core.g.cl
  by_cases d:(f.fl.length:Int)<f.g.wk
  ·cases n with
   |zero=>omega
   |succ n=>
    obtain⟨t,u⟩:=h.use d;obtain⟨b,y,z,o,q⟩:=CX f;unfold Fx.turns;rw[aW ⟨d,ak⟩];cases e:f.bR.2 with
    |true=>
     rw[aW rfl];obtain⟨i,j⟩:=t e;have a:=o e;obtain⟨t1,t2,t3⟩:=Fx.Sh.turns n 0 _ i (aF rfl) (by rw[b,a];push_cast;omega);refine⟨t1,t2,?_⟩;rw[t3,b,a,j]
     push_cast
     omega
    |false=>
     rw[aK aC];obtain⟨i,j,v⟩:=u e;have a:=q e
     have m:p=0:=by
      rcases hp with hp|hp
      ·exact hp
      ·rw[v]at hp;cases hp.2
     subst m;obtain⟨t1,t2,t3⟩:=Fx.Sh.turns n 1 _ i (aE ⟨rfl,rfl⟩) (by show 2*(f.bR.1.g.wk-(f.bR.1.fl.length:Int))<=_;rw[b,a];push_cast at l⊢;omega);refine⟨t1,t2,?_⟩;rw[t3,j];show _+(f.bR.1.g.wk-(f.bR.1.fl.length:Int))=_;rw[b,a]
  ·have e:Fx.turns n p f=f:=by
    cases n with
    |zero=>rfl
    |succ n=>unfold Fx.turns;rw[aK λh=>d h.1]
   rw[e];exact⟨h,ak,ak⟩
def Owe.two{i j:Nat}{R:Int}{a b:Ck}(A:Owe f c wt R i a)(B:Owe f c wt R j b)(G:i<j)(y:0<=a.de)(z:0<=b.de)(n:0<=wt i*f.g.qn)(o:0<=wt j*f.g.qn):
  -(f.g.mx*(wt j*f.g.qn))<=a.sv*(wt j*f.g.qn)-b.sv*(wt i*f.g.qn)+(c i-c j) *(wt i*f.g.qn*(wt j*f.g.qn))/\a.sv*(wt j*f.g.qn)-b.sv*(wt i*f.g.qn)+(c i-c j) *(wt i*f.g.qn*(wt j*f.g.qn))<=wt i*f.g.qn*(wt j*f.g.qn)+f.g.mx*(wt i*f.g.qn):=by
 have D:=A.sum;have E:=B.sum;have u:=A.de;have v:=B.de;generalize wt i*f.g.qn=p at*;generalize wt j*f.g.qn=q at*;generalize f.g.mx=M at*
 have w:a.sv*q=(R+(if i<f.aG\/i=f.aG/\f.opn=aq then 1 else 0)-c i) *(p*q)-a.de*q:=by rw[<-DD,<-D,AI];omega
 have x:b.sv*p=(R+(if j<f.aG\/j=f.aG/\f.opn=aq then 1 else 0)-c j) *(p*q)-b.de*p:=by rw[NF p q,<-DD,<-E,AI];omega
 rw[w,x];have H:=pU y o;have I:=pU z n;have d:=DF u o;have h:=DF v n;have F:=pU n o;rw[AI]at d h;simp only[NG,AI];generalize a.de*q=X at*;generalize b.de*p=Y at*;generalize t:p*q=P at*;have C:q*p=P:=by rw[NF];exact t
 by_cases m:j<f.aG\/j=f.aG/\f.opn=aq
 ·have l:i<f.aG\/i=f.aG/\f.opn=aq:=ak;rw[aW m,aW l];rw[aK ak,AK]at d;split at h
  ·rw[C]at h;omega
  ·omega
 ·rw[aK m];rw[aK (λe=>m (aE e)),AK]at h;split
  ·rw[Int.one_mul,AK];split at d
   ·rw[t]at d;omega
   ·omega
  ·rename_i l;rw[aK (λe=>l (aE e)),AK]at d;omega
end
section
variable {g:Cf} {W:Int} {l:aB (Nat×Nat)} {k:Ck} {x:Nat×Nat} {s:ByteArray} {t:aB UInt8}
def Yc(h:s.data.toList=t)(i:Nat):bt s i=((t[i]?.getD 0).toNat:Int):=by unfold bt;rw[<-h];simp[tD]
def Su(n:Nat)(h:n<=65535):(((tR ((n:Int)%256).toNat).toNat:Int))+256*((tR ((n:Int) / 256).toNat).toNat:Int)=n:=by have a:((n:Int)%256).toNat=n %256:=ak;have b:((n:Int) / 256).toNat=n / 256:=ak;rw[a,b,Eb,Eb];omega
abbrev mj(x:Nat×Nat):bg:=⟨3,⟨#[]⟩,0,0,x.1,0,x.2,⟨#[]⟩,0⟩
def j7(us:aB Int)(h:s.data.toList=kM x++t)(e:g.sz=32)(f:(x.1:Int)∉us)(d:x.1<=65535)(i:4<=x.2/\(x.2:Int)<=g.mx/\x.2%4=0)(hm:g.mx<=32):first g.sz g.mx 2 us s=(mj x,9):=by
 have b:=Yc h
 have j:9<=s.size:=by show 9<=s.data.size;rw[<-rO,h];simp[kM,eG]
 have a:bt s 0=81:=b 0;have b1:bt s 1=0:=b 1;have c:bt s 2=0:=b 2;have t3:two s 3=x.1:=by unfold two;rw[b 3,b 4];exact Su x.1 d
 have t5:two s 5=0:=by unfold two;rw[b 5,b 6];rfl
 have t7:two s 7=x.2:=by unfold two;rw[b 7,b 8];exact Su x.2 ak
 have hv:verdict 32 0 0 0 x.2=0:=by unfold verdict;rw[aK ak,aK ak,aK ak,aK ak,aK ak]
 show kU g.sz g.mx us s=_;unfold kU;rw[aK ak,a,t7,t3,aK (by rintro(h|h|h);exact h rfl;omega;exact f h),b1,aK bL,c,t5,e,hv]
structure zv(k k':Ck):Prop where
 no:k'.no=k.no
 wt:k'.wt=k.wt
 tok:k'.tok=k.tok
 de:k'.de=k.de
 sv:k'.sv=k.sv
 prom:k'.prom=k.prom
 out:k'.out=k.out
 ph:k'.ph=k.ph
def zv.trans{a b c:Ck}(h:zv a b)(d:zv b c):zv a c:=⟨d.no.trans h.no,d.wt.trans h.wt,d.tok.trans h.tok,d.de.trans h.de,d.sv.trans h.sv,d.prom.trans h.prom,d.out.trans h.out,d.ph.trans h.ph⟩
def jU.hear(h:jU g W (x::l) k)(o:W<=65535):jU g W l (k.hear g (mj x,9))/\zv k (k.hear g (mj x,9))/\(k.hear g (mj x,9)).q=k.q++[⟨mj x,-1⟩]:=by
 have n:=h.ok x dw;have e:=rV.1 h.pw;have d:accepted (mj x)=aq:=by simp[accepted]
 have m:(k.hear g (mj x,9)).aU.data.toList=l.flatMap kM:=by
  have c:k.aU.data.toList=kM x++l.flatMap kM:=h.aU
  have i:k.aU.size=(kM x++l.flatMap kM).length:=by show k.aU.data.size=_;rw[<-rO,c]
  show(k.aU.extract 9 k.aU.size).data.toList=_;rw[uM,Hq,c,i];have j:(kM x).length=9:=rfl;simp only[List.extract_eq_take_drop,gW,j];rw[show kM x++l.flatMap kM=kM x++l.flatMap kM from rfl,List.drop_append_of_le_length ak,List.drop_of_length_le ak,pV,uX ak]
 have f:(k.hear g (mj x,9)).us=k.us++[(x.1:Int)]:=by show(if accepted (mj x)=aq then k.us++[(x.1:Int)]else k.us)=_;rw[aW d]
 refine⟨⟨m,e.2,λy b=>h.ok y (eJ _ b),⟨λu a=>?_,λu a y b=>?_⟩,by have:=h.eW;rw[eM]at this;omega⟩,⟨rfl,rfl,rfl,rfl,rfl,rfl,?_,?_⟩,?_⟩
 ·rw[f]at a;rcases iT.1 a with h1|h1
  ·exact h.us.1 u h1
  ·rw[iA.1 h1];exact n.1
 ·rw[f]at a;rcases iT.1 a with h1|h1
  ·exact h.us.2 u h1 y (eJ _ b)
  ·rw[iA.1 h1];have:=e.1 y b;omega
 ·show k.out++iI g (mj x)=k.out;have:iI g (mj x)=⟨#[]⟩:=rfl;rw[this];exact ByteArray.append_empty
 ·show after k.ph (mj x)=k.ph;simp[after]
 ·show(if accepted (mj x)=aq then k.q++[⟨mj x,-1⟩]else k.q)=_;rw[aW d]
def jU.read(o:g.sz=32)(d:g.qu=8)(j:g.ou=256)(hm:g.mx<=32)(f:W<=65535):∀(n:Nat) (k:Ck) (l:aB (Nat×Nat)),jU g W l k->k.ph=2->(∀r∈k.q,r.Rd g)->k.q.length<=8->8<=k.q.length+l.length->(k.out.size:Int)+k.prom<=116->8<k.q.length+n->(∃F,jU g W F (Ck.read g n k))/\zv k (Ck.read g n k)/\(∀r∈(Ck.read g n k).q,r.Rd g)/\(Ck.read g n k).q.length=8
 |0,k,l,h,a,hr,u,c,i,w=>by omega
 |n+1,k,l,h,a,hr,u,c,i,w=>by
  unfold Ck.read
  by_cases H:k.q.length<8
  ·have I:needs k.q<=42:=by
    unfold needs;split
    ·omega
    ·rename_i r t e;have:=hr r (by rw[e];exact dw);have:=this.ln;unfold sizeOf';split<;>omega
   rw[aW ⟨by rw[a];decide,by rw[d];omega,by rw[j];omega⟩];cases l with
   |nil=>simp only[gX]at c;omega
   |cons x l=>
    have z:=h.ok x dw
    have e:first g.sz g.mx k.ph k.us k.aU=(mj x,9):=by rw[a];exact j7 k.us h.aU o (λy=>by have:=h.us.2 _ y x dw;omega) ak z.2 hm
    obtain⟨A,b,p⟩:=h.hear f;simp only[e];rw[aK bL,aK bL];have G:(k.hear g (mj x,9)).q.length=k.q.length+1:=by rw[p,gW];rfl
    have v:∀r∈(k.hear g (mj x,9)).q,r.Rd g:=λr m=>by
     rw[p]at m;rcases iT.1 m with h1|h1
     ·exact hr r h1
     ·rw[iA.1 h1];exact⟨rfl,rfl,by show 4<=(x.2:Int)/\(x.2:Int)<=g.mx;omega,rfl⟩
    obtain⟨B,C,D,E⟩:=jU.read o d j hm f n _ l A (b.ph.trans a) v ak (by rw[eM]at c;omega) (by rw[b.out,b.prom];exact i) ak;exact⟨B,b.trans C,D,E⟩
  ·rw[aK (by rintro⟨_,h,_⟩;rw[d]at h;omega)];exact⟨⟨l,h⟩,⟨rfl,rfl,rfl,rfl,rfl,rfl,rfl,rfl⟩,hr,ak⟩
end
end
section
attribute [local go_sem ↓] Go.wp_at_zero Go.wp_at_succ
attribute [local go_sem] bV bQ
open Go.Proofs.Tryz
open Go.RowKit
abbrev pM(n:Nat):aJ UInt8:=oF n 0
def ux(n:Nat):aJ aD:=(pM n).map sS
def U2(n):madeCells (Value.int .u8 0).cells n=ux n:=by apply Au;rw[show(Value.int .u8 0).cells=#[.int .u8 0] from rfl,toList_madeCells_one];simp[ux,pM]
def V6(n:Nat)(e:n<=65535)(W:az):(Instr.makeSlice 158 (an (n:Int)) (an (n:Int))).run prog W=.ok (.slice (aa (aj W.heap.size 0)) n n) (W.alloc (aA (ux n) 5)):=by obtain⟨d,a,b,c,f⟩:=qO infoByte;have h:=run_make W 158 5 d (.int .u8 0) underlying158 a b .i64 .i64 (n:Int) (n:Int) ak ak (by grind) ak;rw[c]at h;simp at h;rw[U2]at h;exact h
def zi(w w':az)(n d:Nat):Prop:=∃a b,jF w' d a b (.slice ay 0 0) n (pM n) (pM n) []/\w.heap.size<=d/\w.heap.size<=a/\w.heap.size<=b
def Qg{w n b0 b1}(a:n<=65535)(h:(b0=w.heap.size/\b1=w.heap.size+1)\/(b1=w.heap.size/\b0=w.heap.size+1)):
  zi w ((((w.alloc (aA (ux n) 5)).alloc (aA (ux n) 5)).alloc (aA #[.slice (aa (aj b0 0)) n n,.slice (aa (aj b1 0)) n n,.slice ay 0 0] 161)).drew) n (w.heap.size+2):=by
 refine⟨b0,b1,⟨new1 aC,?_,?_,qM _ _ _ _,by simp[pM],aC,ak,ak⟩,ak,ak,ak⟩
 ·rcases h with h|h
  ·exact gi (gi (new1 h.1))
  ·exact gi (new1 (by simp;exact h.2))
 ·rcases h with h|h
  ·exact gi (new1 (by simp;exact h.2))
  ·exact gi (gi (new1 h.1))
def Zi{w n}(a:n<=65535):zi w ((((w.alloc (aA (ux n) 5)).alloc (aA (ux n) 5)).alloc (aA #[.slice (aa (aj w.heap.size 0)) n n,.slice (aa (aj (w.heap.size+1) 0)) n n,.slice ay 0 0] 161)).drew) n (w.heap.size+2):=Qg a (aF ⟨rfl,rfl⟩)
def Zj{w n}(a:n<=65535):zi w ((((w.alloc (aA (ux n) 5)).alloc (aA (ux n) 5)).alloc (aA #[.slice (aa (aj (w.heap.size+1) 0)) n n,.slice (aa (aj w.heap.size 0)) n n,.slice ay 0 0] 161)).drew) n (w.heap.size+2):=Qg a (aE ⟨rfl,rfl⟩)
def Qe(n:Nat)(c:n<=65535)(w:az):
  Calls prog 111 #[an (n:Int)] w λe d=>∃b,e=aM (aR b)/\aN w d/\zi w d n b:=by
 have m:=V6 n c;go_enter func111,ntmps111
 go_upto_region 1 with fail
 refine fq (S:=λ_=>True) trivial λl=>?_;refine tk 0 ?_;refine tk 2 ?_;refine aH [1,3] (.cons rfl (λK a=>?_) ?_)
 ·go_simp;refine a.out _ _ (trivial) (λf=>?_);clear a K;refine rH 3 λK a=>?_;go_simp;refine a.out _ _ (trivial) (λg=>?_);clear a K;refine tk 4 ?_;refine rH 5 λK a=>?_;go_simp;refine a.out _ _ (trivial) (λh=>?_);clear a K;refine tk 6 ?_;refine dL ?_
  (go_wp2_with fail;go_ret;exact⟨_,rfl,((bp.alloc aC _).alloc cq _).drew,Zi c⟩)
 refine .cons rfl (λK a=>?_) .nil;go_simp;refine a.out _ _ (trivial) (λi=>?_);clear a K;refine rH 1 λK a=>?_;go_simp;refine a.out _ _ (trivial) (λj=>?_);clear a K;refine tk 4 ?_;refine rH 5 λK a=>?_;go_simp;refine a.out _ _ (trivial) (λk=>?_);clear a K;refine tk 6 ?_;refine dL ?_
 (go_wp2_with fail;go_ret;exact⟨_,rfl,((bp.alloc aC _).alloc cq _).drew,Zj c⟩)
def Jm(w:az)(a N:Nat)(qu h i rt bu wk ou:Int)(e:Ending)(w':az):Prop:=
 ∃c b d f g,e=aM (.tuple #[aR c,an 0])/\Xi w' c a N qu h i rt bu wk ou b N 0 0 av 0 (aa (aj d 0))/\xw w' b (mU N ay)/\jF w' d f g (.slice ay 0 0) a (pM a) (pM a) []/\aN w w'/\w.heap.size<=c/\w.heap.size<=b/\w.heap.size<=d/\w.heap.size<=f/\w.heap.size<=g
def jF.old{W W' d bb db n B D}(h:jF W d bb db (.slice ay 0 0) n B D [])(a:∀(b:Nat) (x:Obj),W.heap[b]? =aa x->W'.heap[b]? =aa x):jF W' d bb db (.slice ay 0 0) n B D []:=
 ⟨a _ _ h.box,a _ _ h.bytes,a _ _ h.zF,qM _ _ _ _,h.sizes,h.fits,h.apart,h.small⟩
def Y5{w w1 w2 S0 N b qu mx qn rt bu wk ou}(c:aN w w1)(d:Below (w1.alloc (aA (oA (mU N ay)) 119)).drew.heap.size (w1.alloc (aA (oA (mU N ay)) 119)).drew w2)(k:zi (w1.alloc (aA (oA (mU N ay)) 119)).drew w2 S0 b):
  Jm w S0 N qu mx qn rt bu wk ou (aM (.tuple #[aR w2.heap.size,an 0])) (w2.alloc (aA (feL S0 N qu mx qn rt bu wk ou w1.heap.size N 0 0 av 0 (aa (aj b 0))) 112)):=by
 have f:=c.size;have a:=((c.alloc f _).drew).trans (d.mono cq);obtain⟨g,i,j,l,m,n⟩:=k;have e:(w1.alloc (aA (oA (mU N ay)) 119)).drew.heap.size=w1.heap.size+1:=aC;exact⟨w2.heap.size,w1.heap.size,b,g,i,rfl,new1 rfl,gi (bW d (new1 rfl)),j.old λ_ _ h=>gi h,a.alloc a.size _,a.size,f,ak,ak,ak⟩
def Y6{w w1 w2 S0 N b qu mx qn rt bu wk ou}(a:aN w w1)(i:aN w1.drew w2)(k:zi w1.drew w2 S0 b):
  Jm w S0 N qu mx qn rt bu wk ou (aM (.tuple #[aR (w2.heap.size+1),an 0])) ((w2.alloc (aA (oA (mU N ay)) 119)).alloc (aA (feL S0 N qu mx qn rt bu wk ou w2.heap.size N 0 0 av 0 (aa (aj b 0))) 112)):=by
 have l:=a.size;have c:=(a.drew).trans (i.mono l);have d:=c.size;obtain⟨f,g,j,m,n,o⟩:=k;have e:w1.drew.heap.size=w1.heap.size:=rfl;exact⟨w2.heap.size+1,w2.heap.size,b,f,g,rfl,new1 aC,gi (new1 rfl),j.old λ_ _ h=>gi (gi h),(c.alloc d _).alloc cq _,ak,d,ak,ak,ak⟩
def Y7(c N:Nat)(qu f g rt bu wk ou:Int)(w:az)(n:c<=65535)(t:N<=65535)(hc:og c N qu f g rt bu wk ou=aq):
  Calls prog 66 #[.agg (fN c N qu f g rt bu wk ou)] w (Jm w c N qu f g rt bu wk ou):=by
 have y:=V8 N t;go_enter func66,ntmps66
 go_upto_region 4 with(go_at_call 81;refine(Yr c N qu f g rt bu wk ou _).mono ?_;rw[hc];rintro e o ⟨rfl,i⟩)
 have l:aN w o:=bp.trans (i.mono aC);have d:o.heap[w.heap.size]? =aa (aA (fN c N qu f g rt bu wk ou) 35 (0,0)):=(i.block _ aC).trans (cG w _);have k:=bf l;clear i l;refine fq (S:=iG w.heap.size c N qu f g rt bu wk ou) ⟨aI d rfl,aI d rfl,aI d rfl,aI d rfl,aI d rfl,aI d rfl,aI d rfl,aI d rfl,aI d rfl⟩ λm=>?_;refine tk 0 ?_;refine tk 1 ?_;refine tk 2 ?_;refine tk 4 ?_;refine tk 5 ?_;refine aH [3,6] (.cons rfl (λK a=>?_) ?_)
 ·go_simp;refine a.out _ _ (iG.a1 m) (λp=>?_);clear a K;refine rH 6 λK a=>?_;go_simp
  (refine(Qe c n _).mono ?_;rintro e u ⟨b,rfl,h,j⟩)
  go_wp2_with fail;refine a.out _ _ (iG.later p h) (λq=>?_);clear a K;refine tk 7 ?_;refine rH 8 λK a=>?_;go_simp;refine a.out _ _ (iG.a1 q) (λv=>?_);clear a K;refine tk 9 ?_;refine tk 10 ?_;refine dL ?_
  (go_wp2_with fail;go_ret2;exact Y5 k.out h j)
 refine .cons rfl (λK a=>?_) .nil;go_simp
 (refine(Qe c n _).mono ?_;rintro e u ⟨b,rfl,h,j⟩)
 go_wp2_with fail;refine a.out _ _ (iG.later m h) (λr=>?_);clear a K;refine rH 3 λK a=>?_;go_simp;refine a.out _ _ (iG.a1 r) (λs=>?_);clear a K;refine tk 7 ?_;refine rH 8 λK a=>?_;go_simp;refine a.out _ _ (iG.a1 s) (λx=>?_);clear a K;refine tk 9 ?_;refine tk 10 ?_;refine dL ?_
 (go_wp2_with fail;go_ret2;exact Y6 k.out h j)
end
section
open Go.Proofs.Tryz
open Go.RowKit
abbrev eE(g:Cf):aJ aD:=fN g.sz g.cl g.qu g.mx g.qn g.rt g.bu g.wk g.ou
def Fx.new(g:Cf):Fx:={g:=g,K:=mU g.cl.toNat ay,cM:=0,acc:=0,bz:=0,clock:=0,stop:=av,aG:=0,opn:=av,bP:=[],fl:=[],B:=pM g.sz.toNat,D:=pM g.sz.toNat,C:=[],log:=[]}
def Cf.Is.Ln{g:Cf}(h:og g.sz g.cl g.qu g.mx g.qn g.rt g.bu g.wk g.ou=aq):g.Is:=by unfold og sQ vL at h;simp[iR,rG]at h;refine⟨?_,?_,?_,?_,?_,?_,?_,?_,?_⟩<;>omega
def Gr{N s:Nat}{x:Ck}(h:(mU N (ay:aZ Ck))[s]? =aa (aa x)):False:=by rw[DM]at h;split at h<;>cases h
def Fx.Rest.new{g:Cf}(h:g.Is):(Fx.new g).Rest:=by have e:=h.cl;have f:=h.sz;have i:=h.wk;exact⟨⟨h,by simp[Fx.new];omega,by simp[Fx.new];omega,λs k a=>(Gr a).elim,λs k a=>(Gr a).elim,λs k a=>(Gr a).elim,λs t k j a=>(Gr a).elim,λb c=>(by cases c),Wl,Wl,λb c=>(by cases c),by simp[Fx.new];omega,jQ 0,by simp[Fx.new,pM];omega,⟨by simp[Fx.new],λt d=>(by cases d)⟩,jQ 0,jQ 0⟩,by simp[Fx.new],by simp[Fx.new],by simp[Fx.new],by simp[Fx.new]⟩
def rj{W:az}{a b t s:Nat}{x y:aJ aD}(c:W.heap[a]? =aa (aA x t (0,0)))(d:W.heap[b]? =aa (aA y s (0,0)))(f:t≠s):a≠b:=λe=>by grind
def E1(g)(h:og g.sz g.cl g.qu g.mx g.qn g.rt g.bu g.wk g.ou=aq)(w):
  Calls prog 66 #[.agg (eE g)] w λe u=>∃m L,e=aM (.tuple #[jp m,an 0])/\aL u (Fx.new g) m L/\(∀b,b<w.heap.size->L.own b=0)/\aN w u:=by
 have hI:=Cf.Is.Ln h;have R:=hI.cl;have S:=hI.sz;obtain⟨k,hS⟩:∃n:Nat,g.sz=n:=⟨g.sz.toNat,ak⟩;obtain⟨N,v⟩:∃n:Nat,g.cl=n:=⟨g.cl.toNat,ak⟩;have C:g.sz.toNat=k:=ak;have D:g.cl.toNat=N:=ak;have E:=h;rw[hS,v]at E;rw[show eE g=fN k N g.qu g.mx g.qn g.rt g.bu g.wk g.ou from by unfold eE;rw[hS,v]];refine(Y7 k N g.qu g.mx g.qn g.rt g.bu g.wk g.ou w ak ak E).mono ?_;rintro e u ⟨m,q,d,r,o,rfl,p,hR,f,c,T,U,V,W,X⟩;have J:=rj p f.box bL;have K:=rj p f.bytes bL;have M:=rj p f.zF bL;have O:=rj hR f.box bL;have P:=rj hR f.bytes bL;have Q:q≠o:=rj hR f.zF bL;refine⟨m,⟨q,mU N ay,[],.slice ay 0 0,λ_=>0,λ_=>(0,0),.slice ay 0 0,.slice ay 0 0,d,r,o,.slice ay 0 0,λx=>if x=m then 1 else if x=q then 2 else if x=d\/x=r\/x=o then 6 else 0⟩,rfl,⟨?_,aC,?_,by simp[(rj p hR bL).symm],⟨by simp[Fx.new,D],λs a b F c=>?_⟩,⟨rfl,λi b l c=>?_⟩,⟨qM _ _ _ _,λb c=>(by cases c),λx A=>absurd A (su _),λi l H=>?_,λx y A=>absurd A (su _),λi b l c=>?_,?_⟩,qM _ _ _ _,λb c=>(by cases c),qM _ _ _ _,λb c=>(by cases c),?_,⟨by simp[J.symm,O.symm],by simp[K.symm,P.symm],by simp[M.symm,Q.symm],λb c=>(by cases c)⟩⟩,λb c=>?_,c⟩
 ·rw[show lJ (Fx.new g) _=feL k N g.qu g.mx g.qn g.rt g.bu g.wk g.ou q N 0 0 av 0 (aa (aj d 0)) from by simp[lJ,feL,Fx.new,hS,v]];exact p
 ·rw[List.map_replicate];exact hR
 ·have t:(mU N (ay:aZ Ck))[s]? =aa a:=by rw[<-D];exact F
  rw[DM]at t;have z:(mU N (ay:aZ Lc))[s]? =aa b:=c;rw[DM]at z;split at t
  ·rename_i I;rw[aW I]at z;cases t;cases z;trivial
  ·cases t
 ·cases c
 ·cases H
 ·cases c
 ·exact λj h0 G=>absurd G (su _)
 ·have:(Fx.new g).B.size=k:=by simp[Fx.new,pM,C]
  rw[this];show jF u d r o _ k (pM g.sz.toNat) (pM g.sz.toNat) [];rw[C];exact f
 ·have:b≠m/\b≠q/\b≠d/\b≠r/\b≠o:=⟨ak,ak,ak,ak,ak⟩;simp[this]
end
section
attribute [local go_sem ↓] Go.wp_at_zero Go.wp_at_succ
attribute [local go_sem] bV bQ
open Go.Proofs.Tryz
open Go.RowKit
abbrev crL(g:Cf)(xb:Nat)(lv:aD):aJ aD:=#[an g.sz,an g.cl,an g.qu,an g.mx,an g.qn,an g.rt,an g.bu,an g.wk,an g.ou,jp xb,lv,.slice ay 0 0,an 0,an 1,an 0]
abbrev Xf(W:az)(a:Nat)(g:Cf)(xb:Nat)(lv:aD):Prop:=W.heap[a]? =aa (aA (crL g xb lv) 40 (0,0))
def Xn(g)(h:og g.sz g.cl g.qu g.mx g.qn g.rt g.bu g.wk g.ou=aq)(w):
  Calls prog 30 #[.agg (eE g)] w λe l=>∃i f L,e=aM (jp i)/\Xf l i g f (.slice ay 0 0)/\aL l (Fx.new g) f L/\(∀b,b<w.heap.size->L.own b=0)/\L.own i=0/\w.heap.size<=i/\(∀b,l.heap.size<=b->L.own b=0)/\aN w l:=by
 have o:=bf h;clear h;go_enter func30,ntmps30;go_wp2_with (go_at_call 66;refine(E1 g o.out _).mono ?_;rintro e a ⟨f,L,rfl,hF,j,d⟩;have c:a.heap[w.heap.size]? =aa (aA (eE g) 35 (0,0)):=bW d (cG w _);have q:=aS a w.heap.size 0 (an g.sz) c;have r:=aS a w.heap.size 1 (an g.cl) c;have s:=aS a w.heap.size 2 (an g.qu) c;have t:=aS a w.heap.size 3 (an g.mx) c;have u:=aS a w.heap.size 4 (an g.qn) c;have v:=aS a w.heap.size 5 (an g.rt) c;have x:=aS a w.heap.size 6 (an g.bu) c;have y:=aS a w.heap.size 7 (an g.wk) c;have z:=aS a w.heap.size 8 (an g.ou) c;have p:Hid (aL a (Fx.new g) f L/\(∀b,b<(w.alloc (aA (eE g) 35)).heap.size->L.own b=0)/\aN (w.alloc (aA (eE g) 35)) a):=⟨hF,j,d⟩;clear hF j d c);go_ret;obtain⟨hF,j,d⟩:=p.out;have m:aN w a:=bp.trans (d.mono aC);have n:=m.size;refine⟨a.heap.size,f,{L with own:=λb=>if b<a.heap.size then L.own b else 0},rfl,new1 rfl,(hF.owns _ λb k=>aW k).below ((Below.refl _ a).alloc (bD _) _),λb k=>?_,aK (sr _),n,λb k=>aK ?_,m.alloc n _⟩
 ·show(if b<a.heap.size then L.own b else 0)=0;rw[aW ak];exact j b cq
 ·simp at k;omega
end
section
attribute [local go_sem ↓] Go.wp_at_zero Go.wp_at_succ
attribute [local go_sem] bV bQ JM JN yA
open Go.Conc Go.RowKit
open Go.Proofs.Tryz
structure Eo[aP](l:aB bC):Prop where
 fit:Fit prog l
 kR:aP.known 29
 kP:aP.known 21
 kC:aP.known 28
def abS[aP](x):results f29 x=results f29 (mP (fT 29) x):=by have h:(mP (fT 29) x).getD 4 au=x.getD 4 au:=Am (L:=fT 29) (a:=⟨x,[]⟩) (i:=4) bL;simp only[results,results29,DN,uT,AS,h]
def abR[aP](x):results f21 x=results f21 (mP (fT 21) x):=by have h:(mP (fT 21) x).getD 4 au=x.getD 4 au:=Am (L:=fT 21) (a:=⟨x,[]⟩) (i:=4) bL;simp only[results,results21,DN,uT,AS,h]
def abP[aP](x):results f28 x=results f28 (mP (fT 28) x):=by have h:(mP (fT 28) x).getD 2 au=x.getD 2 au:=Am (L:=fT 28) (a:=⟨x,[]⟩) (i:=2) bL;simp only[results,results28,DN,uT,AS,h]
section
variable [aP] {u:az} {l:aB bC} {dn:Nat}
def abi(ad len cap j ρ i v)(h:(Frame.enter prog 29 #[.slice ad len cap,an j] .normal).tmps[i]? =aa v)(b:i∉fT 29):VR ρ v v:=
 EZ func29 (body:=sP f29) aT (λi v h b ρ=>by
  match i,b with
  |0,b=>exact absurd bL b
  |1,_=>simp at h;subst h;constructor
  |n+2,_=>simp at h) ρ i v h b
def aaQ(c n ρ i v)(h:(Frame.enter prog 21 #[an c,an n] .normal).tmps[i]? =aa v)(b:i∉fT 21):VR ρ v v:=
 EZ func21 (body:=sP f21) aT (λi v h b ρ=>by
  match i with
  |0=>simp at h;subst h;constructor
  |1=>simp at h;subst h;constructor
  |n+2=>simp at h) ρ i v h b
def YE(ad len cap ρ i v)(h:(Frame.enter prog 28 #[.slice ad len cap] .normal).tmps[i]? =aa v)(b:i∉fT 28):VR ρ v v:=
 EZ func28 (body:=sP f28) aT (λi v h b ρ=>by
  match i,b with
  |0,b=>exact absurd bL b
  |n+1,_=>simp at h) ρ i v h b
variable {Q:Exit->Act->az->Prop} {a:Act} {ops:aJ Oper} {i n d:Nat} {rest:aB Nat} {f0:bC} {L:aB (Nat×aD)} {ty:aQ} {ps:String} {af:aJ Edge} {gd:aZ (Nat×Bool)} {ats:aJ aQ} {x y:Operand} {ad:aZ bZ} {len cap:Nat} {j c:Int}
def FE.raw(G:Eo l)(g:len<=cC)(h:zq ad len)(E:Fa n a L)(k:∀z b,lA z->iq a b d (an z)->Fa n b ((d,an z)::L)->FO fT f0 dn prog ops Q rest b u)(m:ops[i]? =aa ⟨aa d,.call ⟨.value (.func 29),#[x,y],ats⟩,ty,ps,af,gd⟩:=by rfl) (hv:ug L [x,y]=aa [.slice ad len cap,an j]:=by rfl) (f:0<=j/\j<=9223372036854775807:=by omega) (o:(jg ops L gd&&jo ops n gd)=aq:=by rfl) (hc:qo [] n d []=aq:=by rfl):FO fT f0 dn prog ops Q (i::rest) a u:=by refine FE.cf (xs:=[x,y]) E func29 G.kR abS (abi ad len cap j) ((abk G.fit ad len cap j g f.1 f.2 h).mono ?_) m o (hc:=hc) (hv:=hv);rintro e q ⟨z,rfl,p,h0⟩;subst q;exact⟨_,rfl,λb N E=>k z b p N E⟩
def FE.qA{m}(G:Eo l)(h:lA c)(E:Fa n a L)(k:∀r b,(0<=r/\r<m)->iq a b d (an r)->Fa n b ((d,an r)::L)->FO fT f0 dn prog ops Q rest b u)(f:ops[i]? =aa ⟨aa d,.call ⟨.value (.func 21),#[x,y],ats⟩,ty,ps,af,gd⟩:=by rfl) (hv:ug L [x,y]=aa [an c,an m]:=by rfl) (hm:0<m/\m<=9223372036854775807:=by omega) (g:(jg ops L gd&&jo ops n gd)=aq:=by rfl) (hc:qo [] n d []=aq:=by rfl):FO fT f0 dn prog ops Q (i::rest) a u:=by refine FE.cf (xs:=[x,y]) E func21 G.kP abR (aaQ c m) ((aaR G.fit c m h hm.1 hm.2).mono ?_) f g (hc:=hc) (hv:=hv);rintro e o ⟨r,rfl,hr,h0⟩;subst o;exact⟨_,rfl,λb N E=>k r b hr N E⟩
def FE.lcf{g b k}(o:Fit prog l)(E:Fa n a L)(B:u.heap[b]? =aa (aA (eE g) 35 (0,0)))(c:∀m,iq a m d (.agg (eE g))->Fa n m ((d,.agg (eE g))::L)->FO fT f0 dn prog ops Q rest m u)(f:ops[i]? =aa ⟨aa d,.load 35 (.tmp k),ty,ps,af,gd⟩:=by rfl) (p:lk L k=aa (pt b):=by rfl) (q:(jg ops L gd&&jo ops n gd)=aq:=by rfl) (hc:lW (fT f0) n d L (.load 35 (.tmp k))=aq:=by rfl):FO fT f0 dn prog ops Q (i::rest) a u:=by
 refine FE.ow E c f q rfl hc (λh=>?_) o;have e:gH L (.tmp k)=pt b:=by show(lk L k).getD au=_;rw[p];rfl
 have f:(u.tp h).heap[b]? =_:=B;have r:=aS (u.tp h) b 0 (an g.sz) f;have s:=aS (u.tp h) b 1 (an g.cl) f;have t:=aS (u.tp h) b 2 (an g.qu) f;have v:=aS (u.tp h) b 3 (an g.mx) f;have w:=aS (u.tp h) b 4 (an g.qn) f;have z:=aS (u.tp h) b 5 (an g.rt) f;have A:=aS (u.tp h) b 6 (an g.bu) f;have C:=aS (u.tp h) b 7 (an g.wk) f;have D:=aS (u.tp h) b 8 (an g.ou) f;clear f B E c;unfold execOp;simp only[e];go_simp
def YF(G:Eo l)(ad len cap)(I:len<=cC)(h:zq ad len):
  iV fT prog dn 28 #[.slice ad len cap] u λe u'=>∃g:Cf,e=aM (.agg (eE g))/\og g.sz g.cl g.qu g.mx g.qn g.rt g.bu g.wk g.ou=aq:=by
 have hT:=G.fit;refine iV.Cz 60 func28 λa E=>?_;refine FX.sq (FX.reg [0] ?_);refine FE.nw (v:=pt u.heap.size) E (u.alloc (aA (fN 0 0 0 0 0 0 0 0 0) 35)) (hr:=λA=>by go_simp;rfl) λa _ E=>FO.nil ?_;obtain⟨f,V⟩:∃b,b=u.heap.size:=⟨_,rfl⟩;rw[<-V]at E;have o:(u.alloc (aA (fN 0 0 0 0 0 0 0 0 0) 35)).heap[f]? =aa (aA (fN 0 0 0 0 0 0 0 0 0) 35 (0,0)):=new1 V;generalize u.alloc (aA (fN 0 0 0 0 0 0 0 0 0) 35)=F at*;clear V;refine FX.sq (FX.reg [0,1,2,3,4,5,6,7,8,9,10,11,12,13,14,15,16,17,18,19,20] ?_);refine FE.bl E λa _ E=>?_;refine FE.raw G I h E λz0 a nC _ E=>?_;refine FE.qA G nC E λJ a Cg _ E=>?_;refine FE.ar E λa _ E=>?_;refine FE.ar E λa _ E=>?_;refine FE.bl E λa _ E=>?_;refine FE.raw G I h E λz1 a aR _ E=>?_;refine FE.qA G aR E λK a bw _ E=>?_;refine FE.ar E λa _ E=>?_;refine FE.bl E λa _ E=>?_;refine FE.raw G I h E λz2 a nD _ E=>?_;refine FE.qA G nD E λM a bz _ E=>?_;refine FE.ar E λa _ E=>?_;refine FE.bl E λa _ E=>?_;refine FE.raw G I h E λz3 a aU _ E=>?_;refine FE.qA G aU E λm a bA _ E=>?_;refine FE.ar E λa _ E=>?_;refine FE.ar E λa _ E=>?_;refine FE.ow (v:=.agg (fN (4*(1+J)) (1+K) (1+M) (4*(1+m)) 0 0 0 0 0)) E λa _ E=>?_;refine FE.nw (v:=pt F.heap.size) E (F.alloc (aA (fN 0 0 0 0 0 0 0 0 0) 35)) (hr:=λA=>by go_simp;rfl) λa _ E=>?_;obtain⟨B,S⟩:∃b,b=F.heap.size:=⟨_,rfl⟩;rw[<-S]at E;refine FE.vo E (F.alloc (aA (fN (4*(1+J)) (1+K) (1+M) (4*(1+m)) 0 0 0 0 0) 35)) (FO.nil ?_) (hr:=λA=>?_)
 rotate_left
 ·show _=Result.ok _ ((F.tp A).alloc (aA (fN (4*(1+J)) (1+K) (1+M) (4*(1+m)) 0 0 0 0 0) 35));have S:B=(F.tp A).heap.size:=S;show(execOp _ _).run _ ((F.tp A).alloc (aA (fN 0 0 0 0 0 0 0 0 0) 35))=_;generalize F.tp A=x at*;subst S;go_simp
 have w:(F.alloc (aA (fN (4*(1+J)) (1+K) (1+M) (4*(1+m)) 0 0 0 0 0) 35)).heap[B]? =aa (aA (fN (4*(1+J)) (1+K) (1+M) (4*(1+m)) 0 0 0 0 0) 35 (0,0)):=new1 S;have T:f≠B:=λe=>by have:=(bq.1 o).1;omega
 replace o:(F.alloc (aA (fN (4*(1+J)) (1+K) (1+M) (4*(1+m)) 0 0 0 0 0) 35)).heap[f]? =aa (aA (fN 0 0 0 0 0 0 0 0 0) 35 (0,0)):=gi o
 generalize F.alloc (aA (fN (4*(1+J)) (1+K) (1+M) (4*(1+m)) 0 0 0 0 0) 35)=u2 at*;clear S
 replace E:Fa 60 a [(0,.slice ad len cap),(2,pt f),(3,pt B)]:=E.to
 refine FX.sq (FX.dr 11 10 (λi v=>match i with|0=>v=.pointer (aa (aj B 3))|1=>v=an (4*(1+m))|2=>v=.slice ad len cap|3=>∃z,v=an z/\lA z|4=>v=.pointer (aa (aj B 3))|5=>v=an (4*(1+m))|6=>v=an (65-(4*(1+m)))|7=>∃r,v=an r/\(0<=r/\r<65-(4*(1+m)))|8=>∃r,v=an ((4*(1+m))+r)/\(0<=r/\r<65-(4*(1+m)))|9=>v=.pointer (aa (aj B 4))|_=>True) E (λY P i X a is E t p=>?_) λY P a E hv=>?_)
 ·subst P
  match i,X with
  |0,_=>exact FE.ow E λk N _=>p k _ rfl N
  |1,_=>exact FE.lc (E.add (d:=23) (t 0 rfl)) w λk N _=>p k _ rfl N
  |2,_=>exact FE.bl E λk N _=>p k _ rfl N
  |3,_=>exact FE.raw G I h (E.add (d:=25) (t 2 rfl)) λz k R N _=>p k _ ⟨z,rfl,R⟩ N
  |4,_=>exact FE.ow E λk N _=>p k _ rfl N
  |5,_=>exact FE.lc (E.add (d:=27) (t 4 rfl)) w λk N _=>p k _ rfl N
  |6,_=>exact FE.ar (E.add (d:=28) (t 5 rfl)) λk N _=>p k _ rfl N
  |7,_=>obtain⟨z,D,R⟩:∃z,a.eval (.tmp 26)=an z/\lA z:=t 3 rfl;exact FE.qA G R (((E.add (d:=29) (t 6 rfl))).add (d:=26) D) λr k hr N _=>p k _ ⟨r,rfl,hr⟩ N
  |8,_=>obtain⟨r,D,hr⟩:∃r,a.eval (.tmp 30)=an r/\(0<=r/\r<65-(4*(1+m))):=t 7 rfl;exact FE.ar (((E.add (d:=24) (t 1 rfl))).add (d:=30) D) λk N _=>p k _ ⟨r,rfl,hr⟩ N
  |9,_=>exact FE.ow E λk N _=>p k _ rfl N
  |q+10,hm=>omega
 obtain⟨r4,D,bB⟩:∃r,a.eval (.tmp 31)=an ((4*(1+m))+r)/\(0<=r/\r<65-(4*(1+m))):=hv 8 rfl
 replace E:=(E.add (d:=32) (hv 9 rfl)).add (d:=31) D
 clear hv;subst P;refine cQ.one (j:=10) aT λis U=>?_;refine FE.st E w λu4 w O=>U _ _ (cQ.none aT ?_)
 replace o:=(O f T).trans o
 replace E:Fa 60 a [(0,.slice ad len cap),(2,pt f),(3,pt B)]:=E.to
 refine FX.sq (FX.reg [0,1,2,3,4,5] ?_);refine FE.bl E λa _ E=>?_;refine FE.raw G I h E λz5 a aX _ E=>?_;refine FE.qA G aX E λr5 a bE _ E=>?_;refine FE.ar E λa _ E=>?_;refine FE.ow E λa _ E=>?_;refine FE.st E w λu5 w O=>FO.nil ?_
 replace o:=(O f T).trans o
 replace E:Fa 60 a [(0,.slice ad len cap),(2,pt f),(3,pt B)]:=E.to
 refine FX.sq (FX.reg [0,1,2,3,4,5] ?_);refine FE.bl E λa _ E=>?_;refine FE.raw G I h E λz6 a bf _ E=>?_;refine FE.qA G bf E λr6 a bG _ E=>?_;refine FE.ar E λa _ E=>?_;refine FE.ow E λa _ E=>?_;refine FE.st E w λu6 w O=>FO.nil ?_
 replace o:=(O f T).trans o
 replace E:Fa 60 a [(0,.slice ad len cap),(2,pt f),(3,pt B)]:=E.to
 refine FX.sq (FX.reg [0,1,2,3,4,5] ?_);refine FE.bl E λa _ E=>?_;refine FE.raw G I h E λz7 a bg _ E=>?_;refine FE.qA G bg E λr7 a bH _ E=>?_;refine FE.ar E λa _ E=>?_;refine FE.ow E λa _ E=>?_;refine FE.st E w λu7 w O=>FO.nil ?_
 replace o:=(O f T).trans o
 replace E:Fa 60 a [(0,.slice ad len cap),(2,pt f),(3,pt B)]:=E.to
 refine FX.sq (FX.dr 12 11 (λi v=>match i with|0=>v=.pointer (aa (aj B 3))|1=>v=an (4*(1+m))|2=>v=an ((4*(1+m))+4)|3=>v=.slice ad len cap|4=>∃z,v=an z/\lA z|5=>v=.pointer (aa (aj B 3))|6=>v=an (4*(1+m))|7=>v=an (253-(4*(1+m)))|8=>∃r,v=an r/\(0<=r/\r<253-(4*(1+m)))|9=>∃r,v=an ((4*(1+m))+4+r)/\(0<=r/\r<253-(4*(1+m)))|10=>v=.pointer (aa (aj B 8))|_=>True) E (λY P i X a is E t p=>?_) λY P a E hv=>?_)
 ·subst P
  match i,X with
  |0,_=>exact FE.ow E λk N _=>p k _ rfl N
  |1,_=>exact FE.lc (E.add (d:=48) (t 0 rfl)) w λk N _=>p k _ rfl N
  |2,_=>exact FE.ar (E.add (d:=49) (t 1 rfl)) λk N _=>p k _ rfl N
  |3,_=>exact FE.bl E λk N _=>p k _ rfl N
  |4,_=>exact FE.raw G I h (E.add (d:=51) (t 3 rfl)) λz k R N _=>p k _ ⟨z,rfl,R⟩ N
  |5,_=>exact FE.ow E λk N _=>p k _ rfl N
  |6,_=>exact FE.lc (E.add (d:=53) (t 5 rfl)) w λk N _=>p k _ rfl N
  |7,_=>exact FE.ar (E.add (d:=54) (t 6 rfl)) λk N _=>p k _ rfl N
  |8,_=>obtain⟨z,D,R⟩:∃z,a.eval (.tmp 52)=an z/\lA z:=t 4 rfl;exact FE.qA G R (((E.add (d:=55) (t 7 rfl))).add (d:=52) D) λr k hr N _=>p k _ ⟨r,rfl,hr⟩ N
  |9,_=>obtain⟨r,D,hr⟩:∃r,a.eval (.tmp 56)=an r/\(0<=r/\r<253-(4*(1+m))):=t 8 rfl;exact FE.ar (((E.add (d:=50) (t 2 rfl))).add (d:=56) D) λk N _=>p k _ ⟨r,rfl,hr⟩ N
  |10,_=>exact FE.ow E λk N _=>p k _ rfl N
  |q+11,hm=>omega
 obtain⟨r8,D,bI⟩:∃r,a.eval (.tmp 57)=an ((4*(1+m))+4+r)/\(0<=r/\r<253-(4*(1+m))):=hv 9 rfl
 replace E:=(E.add (d:=58) (hv 10 rfl)).add (d:=57) D
 clear hv;subst P;refine cQ.one (j:=11) aT λis U=>?_;refine FE.st E w λC w O=>U _ _ (cQ.none aT ?_)
 replace o:=(O f T).trans o
 replace E:Fa 60 a [(0,.slice ad len cap),(2,pt f),(3,pt B)]:=E.to
 obtain⟨g,W⟩:∃g:Cf,g=⟨(4*(1+J)),(1+K),(1+M),(4*(1+m)),((4*(1+m))+r4),(1+r5),(1+r6),(1+r7),((4*(1+m))+4+r8)⟩:=⟨_,rfl⟩
 replace w:C.heap[B]? =aa (aA (eE g) 35 (0,0)):=by rw[W];exact w
 have aP:og g.sz g.cl g.qu g.mx g.qn g.rt g.bu g.wk g.ou=aq:=by subst W;simp[og,sQ,vL,rG,iR];omega
 clear W;refine FX.sq (FX.reg [0,1] ?_);refine FE.lcf hT E w λa _ E=>?_;refine FE.vo E (((((((((C.setCell (aj f 0) (an g.sz)).setCell (aj f 1) (an g.cl)).setCell (aj f 2) (an g.qu)).setCell (aj f 3) (an g.mx)).setCell (aj f 4) (an g.qn)).setCell (aj f 5) (an g.rt)).setCell (aj f 6) (an g.bu)).setCell (aj f 7) (an g.wk)).setCell (aj f 8) (an g.ou)) (FO.nil ?_) (hr:=λA=>?_)
 rotate_left
 ·have s:(C.tp A).heap[f]? =_:=o;have Z:=aS (C.tp A) f 0 (an 0) s;have c1:=aS (C.tp A) f 1 (an 0) s;have c2:=aS (C.tp A) f 2 (an 0) s;have c3:=aS (C.tp A) f 3 (an 0) s;have c4:=aS (C.tp A) f 4 (an 0) s;have c5:=aS (C.tp A) f 5 (an 0) s;have c6:=aS (C.tp A) f 6 (an 0) s;have c7:=aS (C.tp A) f 7 (an 0) s;have c8:=aS (C.tp A) f 8 (an 0) s;have f0:=bF s 0;have f1:=bF s 1;have f2:=bF s 2;have f3:=bF s 3;have f4:=bF s 4;have f5:=bF s 5;have f6:=bF s 6;have f7:=bF s 7;have f8:=bF s 8;clear s;go_simp;simp only[Mc]
 replace o:=(dF (dF (dF (dF (dF (dF (dF (dF (dF o 0 (an g.sz)) 1 (an g.cl)) 2 (an g.qu)) 3 (an g.mx)) 4 (an g.qn)) 5 (an g.rt)) 6 (an g.bu)) 7 (an g.wk)) 8 (an g.ou))
 generalize (((((((((C.setCell (aj f 0) (an g.sz)).setCell (aj f 1) (an g.cl)).setCell (aj f 2) (an g.qu)).setCell (aj f 3) (an g.mx)).setCell (aj f 4) (an g.qn)).setCell (aj f 5) (an g.rt)).setCell (aj f 6) (an g.bu)).setCell (aj f 7) (an g.wk)).setCell (aj f 8) (an g.ou))=H at*
 replace o:H.heap[f]? =aa (aA (eE g) 35 (0,0)):=o
 refine FX.rt ⟨rfl,E.defers,.agg (eE g),?_,g,rfl,aP⟩;have h2:=ev (E.at_ 2 _ rfl);have Z:=aS H f 0 (an g.sz) o;have c1:=aS H f 1 (an g.cl) o;have c2:=aS H f 2 (an g.qu) o;have c3:=aS H f 3 (an g.mx) o;have c4:=aS H f 4 (an g.qn) o;have c5:=aS H f 5 (an g.rt) o;have c6:=aS H f 6 (an g.bu) o;have c7:=aS H f 7 (an g.wk) o;have c8:=aS H f 8 (an g.ou) o;clear o;simp[results,results28,h2];go_simp
end
end
section
attribute [local go_sem ↓] Go.wp_at_zero Go.wp_at_succ
attribute [local go_sem] bV bQ
open Go.Conc Go.RowKit
open Go.Proofs.Tryz
abbrev ptL(ps:aB Nat):aB aD:=ps.map jp
section
end
def kQ:ByteArray:=⟨#[70,69,82,82,89,97,103]⟩
section
end
def O9:(prog.info? 49).map (λi=>(i.zero,i.size,i.bytes))=aa (aa (.pointer ay),1,8):=aT
def afS(w:az)(x y){T U}:((w.alloc (aA x T)).alloc (aA y U)).heap[w.heap.size+1]? =aa (aA y U (0,0)):=by have:=cG (w.alloc (aA x T)) (aA y U);simpa using this
def X9{a b A B:Int}(h0:0<=a)(c:0<=b)(d:a<=A)(e:b<=B):0<=a*b/\a*b<=A*B:=⟨pU h0 c,Int.mul_le_mul d e c ak⟩
section
end
abbrev crE(g:Cf)(xb:Nat)(lv:aD)(ck:Int):aJ aD:=#[an g.sz,an g.cl,an g.qu,an g.mx,an g.qn,an g.rt,an g.bu,an g.wk,an g.ou,jp xb,lv,.slice ay 0 0,an 0,an 1,an ck]
abbrev slE(i:Nat)(w:Int):aJ aD:=#[an i,an w,.string ⟨#[]⟩,.bool av]
structure lu(u:az)(g:Cf)(cb xb:Nat)(f:Fx)(wt:Nat->Int)(ck:Int)(n:Nat)(lv:aD)(L:dy)(ps:aB Nat)(ks:aB (Nat×aJ aD×aQ)):Prop where
 fx:aL u f xb L
 cr:u.heap[cb]? =aa (aA (crE g xb lv ck) 40 (0,0))
 row:u.ownsRow 0 49 1 lv n (ptL ps)
 len:ps.length=n
 sl:∀(i p:Nat),ps[i]? =aa p->u.heap[p]? =aa (aA (slE i (wt i)) 66 (0,0))/\L.own p=0
 own:L.own cb=0/\∀b,lv.ownBlock=aa b->L.own b=0
 no:∀b,u.heap.size<=b->L.own b=0
 kp:∀p∈ks,u.heap[p.1]? =aa (aA p.2.1 p.2.2 (0,0))/\L.own p.1=0/\p.2.2≠40/\p.2.2≠49
def bS(u:az)(g:Cf)(cb xb:Nat)(f:Fx)(wt:Nat->Int)(ck:Int)(n:Nat)(lv:aD)(ps:aB Nat)(ks:aB (Nat×aJ aD×aQ)):Prop:=∃L,lu u g cb xb f wt ck n lv L ps ks
section
variable {u u':az} {g:Cf} {cb xb n:Nat} {f f':Fx} {wt:Nat->Int} {ck:Int} {lv:aD} {L L':dy} {ps:aB Nat} {ks:aB (Nat×aJ aD×aQ)}
def lu.go(T:lu u g cb xb f wt ck n lv L ps ks)(h:aL u' f' xb L')(t:bJ u L u' L'):∃L',lu u' g cb xb f' wt ck n lv L' ps ks:=by
 obtain⟨e,l,t2,r⟩:=h.norm t;have keep:∀{b:Nat} {o:Obj},u.heap[b]? =aa o->L.own b=0->u'.heap[b]? =aa o/\e.own b=0:=λh h0=>⟨yu t.cI h λx=>x h0,(t2.own _ (bq.1 h).1).trans h0⟩;have k:∀b,lv.ownBlock=aa b->u'.heap[b]? =u.heap[b]? /\e.own b=0:=λb a=>⟨t.cI.block b (nH T.row b a) λx=>x (T.own.2 b a),(t2.own _ (nH T.row b a)).trans (T.own.2 b a)⟩;refine⟨e,l,(keep T.cr T.own.1).1,eL T.row λb a=>(k b a).1,T.len,λi p j=>?_,⟨(keep T.cr T.own.1).2,λb a=>(k b a).2⟩,r,λp j=>?_⟩
 ·obtain⟨c,d⟩:=T.sl i p j;exact keep c d
 ·obtain⟨c,d,q⟩:=T.kp p j;exact⟨(keep c d).1,(keep c d).2,q⟩
def lu.BT(T:lu u g cb xb f wt ck n lv L ps ks)(h:aL u' f' xb L')(t:bJ u L u' L'):bS u' g cb xb f' wt ck n lv ps ks:=by obtain⟨a,b⟩:=T.go h t;exact⟨a,b⟩
def lu.tp(T:lu u g cb xb f wt ck n lv L ps ks)(a:Tape):lu (u.tp a) g cb xb f wt ck n lv L ps ks:=⟨T.fx.tp a,T.cr,T.row,T.len,T.sl,T.own,T.no,T.kp⟩
def bS.tp(T:bS u g cb xb f wt ck n lv ps ks)(a:Tape):bS (u.tp a) g cb xb f wt ck n lv ps ks:=by obtain⟨L,T⟩:=T;exact⟨L,T.tp a⟩
def bS.at (T:bS u g cb xb f wt ck n lv ps ks):u.heap[cb]? =aa (aA (crE g xb lv ck) 40 (0,0)):=by obtain⟨L,T⟩:=T;exact T.cr
end
def bS.form{u:az}{g:Cf}{cb xb n:Nat}{f:Fx}{wt:Nat->Int}{ck:Int}{lv:aD}{ps:aB Nat}{ks:aB (Nat×aJ aD×aQ)}(T:bS u g cb xb f wt ck n lv ps ks):∃a c,lv=.slice a n c:=by obtain⟨L,T⟩:=T;exact mO T.row
def S8(cb xb n:Nat)(g:Cf)(f:Fx)(wt:Nat->Int)(ck:Int)(lv:aD)(L:dy)(ps:aB Nat)(ks:aB (Nat×aJ aD×aQ))(w:az)(h:lu w g cb xb f wt ck n lv L ps ks)(B:n<=8):fK 67 #[jp cb] w (an n):=by
 obtain⟨a,j,rfl⟩:=mO h.row;have t:=aS w cb 10 (.slice a n j) h.cr;have b:Hid (lu w g cb xb f wt ck n (.slice a n j) L ps ks):=h;clear h;go_enter func67,ntmps67;go_wp2
 go_loopw [3,4] (λr d wr=>∃i:Nat,i<=n/\r=an i/\d=an i/\wr=w) (λ_ d _=>n-(eY d).toNat)
 case atStart=>exact⟨0,eZ _,rfl,rfl,rfl⟩
 case round=>
  obtain⟨i,A,rfl,rfl,rfl⟩:=hrel
  by_cases q:i<n
  ·have o:(i:Int)<(n:Int):=ak;have z:0<=(i:Int)/\(i:Int)<(n:Int):=ak;obtain⟨y,s,e,k⟩:=yc b.out.row ak;cases e;obtain⟨p,c⟩:∃p,ps[i]? =aa p:=⟨ps[i]'(by rw[b.out.len];exact q),eI _⟩;have v:=k i (jp p) (by rw[jA,c];rfl);obtain⟨l,_⟩:=b.out.sl i p c;have cs:=aI l (i:=3) rfl;clear l k c;go_wp2
   go_roundw
   case rel=>exact⟨i+1,ak,by go_num,by go_num,by first|rfl|trivial⟩
   case measure=>simp[eY];omega
  ·have o:¬(i:Int)<(n:Int):=ak;have e:i=n:=ak;subst e;go_wp2;go_ret;exact⟨rfl,rfl⟩
structure Fx.Host(f:Fx)(g:Cf)(wt:Nat->Int)(m:Nat):Prop where
 rest:f.Rest
 gg:f.g=g
 stop:f.stop=av
 clock:f.clock=0
 cM:f.cM=m
 vU:∀(s:Nat),s<m->f.K[s]? =aa (aa ((Ck.fresh s (wt s) g.bu).send kQ))
 out:∀s,m<=s->s<f.K.length->f.K[s]? =aa ay
 idle:f.bP=[]/\f.fl=[]/\f.bz=0/\f.aG=0/\f.opn=av
def Fx.Host.new{g:Cf}(hI:g.Is)(wt:Nat->Int):(Fx.new g).Host g wt 0:=⟨.new hI,rfl,rfl,rfl,rfl,λs a=>by omega,λs _ a=>by have b:s<(mU g.cl.toNat (ay:aZ Ck)).length:=a;show(mU g.cl.toNat (ay:aZ Ck))[s]? =_;rw[DM,aW (by simpa using b)],⟨rfl,rfl,rfl,rfl,rfl⟩⟩
abbrev rM(wt:Nat->Int)(m:Nat)(x:Int)(i:Nat):Int:=if i=m then x else wt i
section
variable {f:Fx} {g:Cf} {m:Nat} {wt:Nat->Int} {x:Int}
def Fx.Host.free(h:f.Host g wt m)(hm:(m:Int)<g.cl):f.K[m]? =aa ay:=h.out m (bD _) (by have:=h.rest.core.len;rw[h.gg]at this;omega)
def Fx.Host.at (h:f.Host g wt m)(hm:(m:Int)<g.cl):(f.nJ m x).K[m]? =aa (aa (Ck.fresh f.cM x f.g.bu)):=qJ (dS.1 (h.free hm)).1
def Fx.Host.send(h:f.Host g wt m)(hm:(m:Int)<g.cl)(i:1<=x/\x<=4):((f.nJ m x).send m (Ck.fresh f.cM x f.g.bu) kQ).2=0/\((f.nJ m x).send m (Ck.fresh f.cM x f.g.bu) kQ).1.Host g (rM wt m x) (m+1):=by
 have hr:=h.rest.nJ (h.free hm) i;have b:=hr.send (h.at hm) kQ
 have e:(f.nJ m x).send m (Ck.fresh f.cM x f.g.bu) kQ=((f.nJ m x).at m ((Ck.fresh f.cM x f.g.bu).send kQ),0):=by unfold Fx.send;rw[aK (by simp[Ck.fresh]),aK (show ¬1024<(Ck.fresh f.cM x f.g.bu).aU.size+kQ.size from(by decide:¬1024<(⟨#[]⟩:ByteArray).size+kQ.size))]
 rw[e]at b⊢;have k:m<f.K.length:=(dS.1 (h.free hm)).1;refine⟨rfl,b,h.gg,h.stop,h.clock,by show f.cM+1=_;rw[h.cM];rfl,λs l=>?_,λs j d=>?_,h.idle⟩
 ·show((f.K.set m _).set m _)[s]? =_;rw[DU,ko];split
  ·rename_i e;subst e;rw[h.cM,h.gg];show aa (aa ((Ck.fresh _ x g.bu).send kQ))=aa (aa ((Ck.fresh _ (if m=m then x else wt m) g.bu).send kQ));rw[aW rfl]
  ·rename_i e;rw[h.vU s ak];show aa (aa ((Ck.fresh _ (wt s) g.bu).send kQ))=aa (aa ((Ck.fresh _ (if s=m then x else wt s) g.bu).send kQ));rw[aK λc=>e c.symm]
 ·show((f.K.set m _).set m _)[s]? =_;have a:s<((f.K.set m _).set m _).length:=d;rw[DU,ko,aK ak];simp only[kr]at a;exact h.out s ak a
end
def ZA{a q:az}{cb xb n j cap:Nat}{g:Cf}{f:Fx}{wt:Nat->Int}{ck b:Int}{lv:aD}{L:dy}{ps:aB Nat}{ks:aB (Nat×aJ aD×aQ)}{y:aJ aD}{t2:Nat}(T:lu a g cb xb f wt ck n lv L ps ks)(Q:q.ownsRow 0 49 1 (.slice (aa (aj j 0)) (n+1) cap) (n+1) (ptL ps++[jp a.heap.size]))
  (v:((a.alloc (aA (slE n b) 66)).alloc (aA y t2)).grownBy q lv.ownBlock) (B:lv.ownBlock=aa j\/j=a.heap.size+2):
  q.heap[cb]? =aa (aA (crE g xb lv ck) 40 (0,0))/\bS (q.setCell (aj cb 10) (.slice (aa (aj j 0)) (n+1) cap)) g cb xb f (rM wt n b) ck (n+1) (.slice (aa (aj j 0)) (n+1) cap) (ps++[a.heap.size]) ks:=by
 have E:cb<a.heap.size:=(bq.1 T.cr).1;have J:aN a ((a.alloc (aA (slE n b) 66)).alloc (aA y t2)):=((Below.refl _ a).alloc (bD _) _).alloc aC _;have S:=v.size;simp at S;have r:∀x,x<a.heap.size->aa x≠lv.ownBlock->q.heap[x]? =a.heap[x]? :=λx d P=>(v.block x cq P).trans (J.block x d)
 have W:∀x,lv.ownBlock=aa x->∃c,a.heap[x]? =aa (aA c 49 (0,0)):=λx d=>by
  rcases T.row.2 with⟨e,_⟩|⟨g0,Y,H,e,_,N,_⟩
  ·rw[e]at d;cases d
  ·rw[e]at d;cases d;exact⟨H,N⟩
 have z:∀{x:Nat} {c:aJ aD} {U:Nat},a.heap[x]? =aa (aA c U (0,0))->U≠49->aa x≠lv.ownBlock:=λh I e=>by obtain⟨X,C⟩:=W _ e.symm;rw[h]at C;cases C;exact I rfl
 have G:=z T.cr bL;have A:=(r cb E G).trans T.cr
 have M:j≠cb:=λe=>by
  subst e;rcases B with h|h
  ·exact G h.symm
  ·omega
 refine⟨A,{L with own:=λx=>if x<a.heap.size then L.own x else 0},?_,dF A 10 _,eL (by simpa using Q) λx d=>cw ?_,by simp[T.len],λi p l=>?_,⟨?_,λx d=>?_⟩,λx d=>aK ?_,λp l=>?_⟩
 ·refine(T.fx.owns _ λb K=>aW K).uo λx d V=>?_;have F:L.own x≠0:=λe=>V (by show(if x<a.heap.size then L.own x else 0)=0;rw[aW d];exact e);exact(cw λe=>F (by rw[e];exact T.own.1)).trans (r x d λe=>F (T.own.2 x e.symm))
 ·have e:j=x:=by simpa[sE]using d
  exact e▸M
 ·rw[List.getElem?_append]at l;split at l
  ·rename_i w;obtain⟨k,s⟩:=T.sl i p l;have o:=(bq.1 k).1;refine⟨?_,?_⟩
   ·have e:rM wt n b i=wt i:=aK (by rw[T.len]at w;omega);rw[e];exact(cw (rj k T.cr bL)).trans ((r p o (z k bL)).trans k)
   ·show(if p<a.heap.size then L.own p else 0)=0;rw[aW o];exact s
  ·rename_i w
   have D:i-ps.length=0:=by have:=(dS.1 l).1;simp only[List.length_singleton]at this;omega
   rw[D]at l;have R:a.heap.size=p:=by simpa using l
   have O:i=n:=by rw[T.len]at w D;omega
   subst R;subst O;have e:rM wt i b i=b:=aW rfl;rw[e];refine⟨(cw ak).trans ((v.block _ cq λe=>?_).trans (gi (new1 rfl))),aK (sr _)⟩;have:=nH T.row _ e.symm;omega
 ·show(if cb<a.heap.size then L.own cb else 0)=0;rw[aW E];exact T.own.1
 ·have e:j=x:=by simpa[sE]using d
  subst e;show(if j<a.heap.size then L.own j else 0)=0;rcases B with h|h
  ·rw[aW (nH T.row _ h)];exact T.own.2 _ h
  ·rw[aK ak]
 ·simp at d;omega
 ·obtain⟨k,s,t⟩:=T.kp p l;have o:=(bq.1 k).1;exact⟨(cw (rj k T.cr t.1)).trans ((r p.1 o (z k t.2)).trans k),(aW o).trans s,t⟩
def Zz(cb xb n:Nat)(g:Cf)(f:Fx)(wt:Nat->Int)(x ck:Int)(lv:aD)(ps:aB Nat)(ks:aB (Nat×aJ aD×aQ))(w:az)(T:bS w g cb xb f wt ck n lv ps ks)(hF:f.Host g wt n)(o:(n:Int)<g.cl)(hw:lA x):
  Calls prog 31 #[jp cb,an x] w λe b=>e=aM (.bool aq)/\∃f' aP y aT,f'.Host g (rM wt n y) (n+1)/\bS b g cb xb f' (rM wt n y) ck (n+1) aP aT ks:=by
 obtain⟨iP,aG,nC,aN,nD⟩:=qO O9;obtain⟨L,T⟩:=T;have Fv:=hF.rest.core.g.cl;rw[hF.gg]at Fv;have aH:=hF.rest.core.len;rw[hF.gg]at aH;have z:=hF.cM;have bg:¬(n:Int)≥g.cl:=ak;have c9:=aS w cb 9 (jp xb) T.cr;have HC:Hid (lu w g cb xb f wt ck n lv L ps ks):=T;have V:Hid (Calls prog 21 #[an x,an 4] w λe b=>∃r,e=aM (an r)/\(0<=r/\r<4)/\b=w):=aaP x 4 w hw bL bL
 have U:Hid (∀k,1<=k/\k<=4->Calls prog 36 #[jp xb,an k] w λe b=>e=aM (.tuple #[an n,an 0])/\∃L',lu b g cb xb (f.nJ n k) wt ck n lv L' ps ks):=λk B=>by refine(C8 w f xb L T.fx ak hF.stop k (by simp[iR];omega) n (hF.free o) (λi A=>by rw[hF.vU i A];simp) ak).mono ?_;rintro e b ⟨rfl,L',l,v⟩;exact⟨by rw[z],T.go l v⟩
 have X:Hid (∀k c d,1<=k/\k<=4->lu c g cb xb (f.nJ n k) wt ck n lv d ps ks->Calls prog 37 #[jp xb,an n,.string kQ] c λe b=>e=aM (an 0)/\∃f' L',f'.Host g (rM wt n k) (n+1)/\lu b g cb xb f' wt ck n lv L' ps ks):=λk c d B l=>by obtain⟨Y,v⟩:=hF.send o B;have A:=(hF.rest.nJ (hF.free o) B).core.is (hF.at o);refine(Ra c _ xb d l.fx (by show(f.K.set n _).length<=_;rw[kr];omega) n kQ n _ (by rw[<-z];exact A) (show(⟨#[]⟩:ByteArray).size<=1024 from by decide)).mono ?_;rintro e b ⟨rfl,L',Z,h4⟩;obtain⟨p,h5⟩:=l.go Z h4;exact⟨by rw[Y],_,p,v,h5⟩
 have n8:n<=8:=ak;obtain⟨q,s,I⟩:=mO T.row;have j:Hid (lv=.slice q n s):=I;clear T hF z I;have Q:True:=trivial;go_enter func31,ntmps31
 go_wp2_with (first
  |(go_at_call 21;refine V.out.mono ?_;rintro e D ⟨r,rfl,hr,h0⟩;subst D;have N:Hid (1<=1+r/\1+r<=4):=(by show 1<=1+r/\1+r<=4;omega);have bp:dJ.wrap (1+r)=1+r:=gV ak ak;clear hr)
  |(go_at_call 36;go_loud (refine(U.out _ N.out).mono ?_;rintro e c ⟨rfl,d,C⟩;have d9:=aS c cb 9 (jp xb) C.cr;have F:Hid (lu c g cb xb (f.nJ n (1+r)) wt ck n lv d ps ks):=C;clear C))
  |(go_at_call 67;refine(S8 cb xb n g _ wt ck lv d ps ks _ F.out n8).mono ?_;rintro e D ⟨rfl,h0⟩;subst D)
  |(go_at_call 37;refine(X.out _ c d N.out F.out).mono ?_;rintro e a ⟨rfl,f2,p,P,h⟩;have f9:a.cell? (aj cb 10)=aa (.slice q n s):=(by have:=aI h.cr (i:=10) rfl;rw[j.out]at this;exact this);have f1:=aS a cb 1 (an g.cl) h.cr;have bn:cb<a.heap.size:=(bq.1 h.cr).1;have bk:¬cb=a.heap.size:=ak;have bl:¬cb=a.heap.size+1:=ak;have G:Hid (f2.Host g (rM wt n (1+r)) (n+1)/\lu a g cb xb f2 wt ck n lv p ps ks):=⟨P,h⟩;have W:Hid (((a.alloc (aA (slE n (1+r)) 66)).alloc (aA #[jp a.heap.size] 49)).ownsRow 0 49 1 (.slice q n s) n (ptL ps)):=(by show World.ownsRow _ _ _ _ _ _ _;rw[<-j.out];exact(h.row.alloc _).alloc _);clear P h)
  |(at_builtin;have _t:=Q;refine wpList_append_lies _ (by rfl) _ _ 37 (by rfl) 0 49 iP _ 1 8 underlying37 aG nC aN nD (by rfl) ak _ n (ptL ps) (by rfl) W.out ⟨a.heap.size+1,0,ay⟩ 1 1 [jp a.heap.size] (by rfl) (by rfl) (Bi (afS a _ _)) (by simp[za]) ak (by unfold cC;omega) ak aC (a.heap.size+2) aC ?_;intro g0 H R O M J bh;clear Q;obtain⟨t,E⟩:=ZA G.out.2 O (by rw[j.out];exact M) (by rw[j.out];exact J);have c3:=aS R cb 10 lv t;have f3:=bF t 10;have S:Hid (bS (R.setCell (aj cb 10) (.slice (aa (aj g0 0)) (n+1) H)) g cb xb f2 (rM wt n (1+r)) ck (n+1) (.slice (aa (aj g0 0)) (n+1) H) (ps++[a.heap.size]) ks):=E;clear t E O M J))
 go_ret;exact⟨rfl,_,_,_,_,G.out.1,S.out⟩
def BH(w:az)(b n:Nat)(S:Nat->Int):Prop:=∀i,i<n->w.cell? (aj b i)=aa (an (S i))
structure qT(w:az)(a b bb sb n:Nat)(g:Cf)(wt B S:Nat->Int)(cap:Nat):Prop where
 c3:w.cell? (aj a 3)=aa (an g.mx)
 c4:w.cell? (aj a 4)=aa (an g.qn)
 Py:w.cell? (aj a 10)=aa (.slice (aa (aj b 0)) n cap)
 sl:∀i,i<n->∃p:Nat,w.cell? (aj b i)=aa (jp p)/\w.cell? (aj p 1)=aa (an (wt i))
 base:BH w bb n B
 served:BH w sb n S
def qT.drew{w:az}{b c a d n cap:Nat}{g:Cf}{wt B S:Nat->Int}(h:qT w b c a d n g wt B S cap):qT w.drew b c a d n g wt B S cap:=⟨h.c3,h.c4,h.Py,h.sl,h.base,h.served⟩
def xD(g:Cf)(wt B S:Nat->Int)(i k:Nat):Prop:=(S i-B i) *(wt k*g.qn)-(S k-B k) *(wt i*g.qn)<=wt i*g.qn*(wt k*g.qn)+g.mx*(wt i*g.qn+wt k*g.qn)
def zP{a b:Int}{m n:Int}(d:-m<=a/\a<=m)(c:0<=b/\b<=n)(hm:0<=m):-(m*n)<=a*b/\a*b<=m*n:=by have f:a*b<=m*b:=DF d.2 c.1;have g:m*b<=m*n:=VZ c.2 hm;have e:-m*b<=a*b:=DF d.1 c.1;rw[Int.neg_mul]at e;omega
def ZI{g:Cf}{wt B S:Nat->Int}{i k:Nat}{P Q:Int}(h:xD g wt B S i k)(p:-1099511627776<=S i-B i/\S i-B i<=1099511627776)(q:-1099511627776<=S k-B k/\S k-B k<=1099511627776)(w1:0<=wt i/\wt i<=4)(l:0<=wt k/\wt k<=4)(c:0<=g.qn/\g.qn<=64)(hm:0<=g.mx/\g.mx<=32)(e:dJ.wrap (wt i*g.qn)=P)(f:dJ.wrap (wt k*g.qn)=Q):¬dJ.wrap (dJ.wrap (dJ.wrap (S i-B i) *Q)-dJ.wrap (dJ.wrap (S k-B k) *P))>dJ.wrap (dJ.wrap (P*Q)+dJ.wrap (g.mx*dJ.wrap (P+Q))):=by have b1:=zP (m:=4) (n:=64) (a:=wt i) (b:=g.qn) ⟨ak,w1.2⟩ c bL;have o:=zP (m:=4) (n:=64) (a:=wt k) (b:=g.qn) ⟨ak,l.2⟩ c bL;have j:=pU w1.1 c.1;have d:=pU l.1 c.1;rw[gV ak ak]at e f;unfold xD at h;rw[e]at b1 j h;rw[f]at o d h;have r:=zP (m:=1099511627776) (n:=256) p ⟨d,ak⟩ bL;have s:=zP (m:=1099511627776) (n:=256) q ⟨j,ak⟩ bL;have t:=zP (m:=256) (n:=256) (a:=P) ⟨ak,ak⟩ ⟨d,ak⟩ bL;have u:=zP (m:=32) (n:=512) (a:=g.mx) (b:=P+Q) ⟨ak,hm.2⟩ ⟨ak,ak⟩ bL;rw[gV (x:=S i-B i) ak ak,gV (x:=S k-B k) ak ak,gV (x:=P+Q) ak ak,gV (x:=P*Q) ak ak,gV (x:=(S i-B i) *Q) ak ak,gV (x:=(S k-B k) *P) ak ak,gV (x:=g.mx*(P+Q)) ak ak,gV ak ak,gV ak ak];omega
def ZJ(b c d e n cap F G:Nat)(g:Cf)(wt B S:Nat->Int)(w:az)(h:qT w b c d e n g wt B S cap)(hn:n<=8)(L:0<=g.qn/\g.qn<=64)(hm:0<=g.mx/\g.mx<=32)(z:∀i,i<n->0<=wt i/\wt i<=4)(x:∀i,i<n→-1099511627776<=S i-B i/\S i-B i<=1099511627776)(y:∀i k,i<n->k<n->xD g wt B S i k):
  bN 35 #[jp b,.slice (aa (aj d 0)) n F,.slice (aa (aj e 0)) n G] w (.bool aq):=by
 have E:Hid (qT w b c d e n g wt B S cap):=h;have t:Hid (∀i,i<n->0<=wt i/\wt i<=4):=z;have s:Hid (∀i,i<n→-1099511627776<=S i-B i/\S i-B i<=1099511627776):=x;have D:Hid (∀i k,i<n->k<n->xD g wt B S i k):=y;clear h z x y;go_enter func35,ntmps35;go_wp2
 go_loopw [7] (λq wr=>∃i:Nat,i<=n/\q=an i/\qT wr b c d e n g wt B S cap/\aN w wr) (λq _=>n-(eY q).toNat)
 case atStart=>exact⟨0,eZ _,rfl,E.out,.refl _ _⟩
 case round=>
  obtain⟨i,hi,rfl,a,j⟩:=hrel;have p:Hid (qT wr b c d e n g wt B S cap/\aN w wr):=⟨a,j⟩;clear a j
  by_cases m:i<n
  ·have N:(i:Int)<(n:Int):=ak;go_wp2
   go_loopw [8] (λr C=>∃k:Nat,k<=n/\r=an k/\qT C b c d e n g wt B S cap/\aN w C) (λr _=>n-(eY r).toNat)
   case atStart=>exact⟨0,eZ _,rfl,p.out.1,p.out.2⟩
   case round=>
    obtain⟨k,hk,rfl,a,j⟩:=hrel
    by_cases l:k<n
    ·have M:(k:Int)<(n:Int):=ak;have af:0<=(i:Int)/\(i:Int)<(n:Int):=ak;have ah:0<=(k:Int)/\(k:Int)<(n:Int):=ak;obtain⟨p1,O,R⟩:=a.sl i m;obtain⟨A,T,U⟩:=a.sl k l;have V:=a.base i m;have X:=a.base k l;have Y:=a.served i m;have Z:=a.served k l;have H:=a.c3;have v:=a.c4;have u:=a.Py;have o:Hid (qT wr b c d e n g wt B S cap/\aN w wr):=⟨a,j⟩;clear a j
     go_upto_region 7 with fail
     refine iD ?_;refine dY (S:=λW=>W.cell? (aj b 10)=aa (.slice (aa (aj c 0)) n cap)/\W.cell? (aj c i)=aa (jp p1)/\W.cell? (aj p1 1)=aa (an (wt i))/\W.cell? (aj b 4)=aa (an g.qn)) 16 aT ⟨u,O,R,v⟩ ?_;intro hS;refine gk 0 ?_;refine gk 1 ?_;refine gk 2 ?_;refine gs 3 ?_;refine gk 4 ?_;refine gk 5 ?_;refine gs 6 ?_;refine gk 7 ?_;refine gk 8 ?_;refine gs 9 ?_;refine gk 10 ?_;refine gk 11 ?_;refine gk 12 ?_;refine gk 13 ?_;refine gs 14 ?_;refine gk 15 ?_;refine gz λK f=>?_;go_simp;refine f.out _ _ ?_;clear f K hS;refine ef aT ?_ _;refine gE ?_;generalize I:dJ.wrap (wt i*g.qn)=P
     go_upto_region 8 with fail
     refine iD ?_;refine dY (S:=λW=>W.cell? (aj b 10)=aa (.slice (aa (aj c 0)) n cap)/\W.cell? (aj c k)=aa (jp A)/\W.cell? (aj A 1)=aa (an (wt k))/\W.cell? (aj b 4)=aa (an g.qn)) 16 aT ⟨u,T,U,v⟩ ?_;intro hS;refine gk 0 ?_;refine gk 1 ?_;refine gk 2 ?_;refine gs 3 ?_;refine gk 4 ?_;refine gk 5 ?_;refine gs 6 ?_;refine gk 7 ?_;refine gk 8 ?_;refine gs 9 ?_;refine gk 10 ?_;refine gk 11 ?_;refine gk 12 ?_;refine gk 13 ?_;refine gs 14 ?_;refine gk 15 ?_;refine gz λK f=>?_;go_simp;refine f.out _ _ ?_;clear f K hS;refine ef aT ?_ _;refine gE ?_;generalize J:dJ.wrap (wt k*g.qn)=Q
     go_upto_region 9 with fail
     refine iD ?_;refine dY (S:=λW=>W.cell? (aj e i)=aa (an (S i))/\W.cell? (aj e k)=aa (an (S k))/\W.cell? (aj d i)=aa (an (B i))/\W.cell? (aj d k)=aa (an (B k))/\W.cell? (aj b 3)=aa (an g.mx)) 36 aT ⟨Y,Z,V,X,H⟩ ?_;intro hS;refine gk 0 ?_;refine gk 1 ?_;refine gk 2 ?_;refine gs 3 ?_;refine gk 4 ?_;refine gk 5 ?_;refine gk 6 ?_;refine gs 7 ?_;refine gk 8 ?_;refine gk 9 ?_;refine gk 10 ?_;refine gk 11 ?_;refine gk 12 ?_;refine gk 13 ?_;refine gs 14 ?_;refine gk 15 ?_;refine gk 16 ?_;refine gk 17 ?_;refine gs 18 ?_;refine gk 19 ?_;refine gk 20 ?_;refine gk 21 ?_;refine gk 22 ?_;refine gk 23 ?_;refine gk 24 ?_;refine gk 25 ?_;refine gk 26 ?_;refine gk 27 ?_;refine gk 28 ?_;refine gk 29 ?_;refine gs 30 ?_;refine gk 31 ?_;refine gk 32 ?_;refine gk 33 ?_;refine gk 34 ?_;refine gk 35 ?_;refine gz λK f=>?_;go_simp;refine f.out _ _ ?_;clear f K hS;refine ef aT ?_ _;refine gE ?_;have hc:¬dJ.wrap (dJ.wrap (dJ.wrap (S i-B i) *Q)-dJ.wrap (dJ.wrap (S k-B k) *P))>dJ.wrap (dJ.wrap (P*Q)+dJ.wrap (g.mx*dJ.wrap (P+Q))):=ZI (D.out i k m l) (s.out i m) (s.out k l) (t.out i m) (t.out k l) L hm I J;go_wp2
     go_roundw
     case rel=>exact⟨k+1,ak,by go_num,o.out.1.drew.drew.drew,o.out.2.drew.drew.drew⟩
     case measure=>simp[eY];omega
    ·have M:¬(k:Int)<(n:Int):=ak;have o:Hid (qT wr b c d e n g wt B S cap/\aN w wr):=⟨a,j⟩;clear a j;go_wp2
     go_roundw
     case rel=>exact⟨i+1,ak,by go_num,o.out.1,o.out.2⟩
     case measure=>simp[eY];omega
  ·have N:¬(i:Int)<(n:Int):=ak;go_wp2;go_ret;exact⟨rfl,p.out.2⟩
end
section
attribute [local go_sem ↓] Go.wp_at_zero Go.wp_at_succ
open Go.Conc Go.RowKit
open Go.Proofs.Tryz
def KV(n:Int)(w:az)(h0:0<=n)(e:n<=65535):
  bN 95 #[an n] w (.string ⟨(eG n).toArray⟩):=by
 have a:=BR (n %256) ak ak;have b1:=BR (n / 256) ak ak;have d:=Bt (P:=prog) (w.alloc (aA #[.int .u8 (n %256),.int .u8 (n / 256)] 5)) 158 9 5 ⟨w.heap.size,0,ay⟩ 2 (eG n) underlying158 underlying5 underlying9
 have b:∀(j:Nat) (c:j<(eG n).length),(w.alloc (aA #[.int .u8 (n %256),.int .u8 (n / 256)] 5)).cell? ((⟨w.heap.size,0,ay⟩:bZ).add j)=aa (.int .u8 ((eG n)[j].toNat:Int)):=by
  intro j c
  match j,c with
  |0,_=>simp only[eG,nP,a];simp[Addr.add,go_sem]
  |1,_=>simp only[eG,qL,nP,b1];simp[Addr.add,go_sem]
 have f:(convert 158 9 (.slice (aa (aj w.heap.size 0)) 2 2)).run prog (w.alloc (aA #[.int .u8 (n %256),.int .u8 (n / 256)] 5))=.ok (.string ⟨(eG n).toArray⟩) (w.alloc (aA #[.int .u8 (n %256),.int .u8 (n / 256)] 5)):=d b;have m1:n.tmod 256=n %256:=by rw[DG h0]
 have m2:n.tdiv 256=n / 256:=by rw[Int.tdiv_eq_ediv_of_nonneg h0]
 clear d b a b1;go_enter func95,ntmps95;go_wp2;go_ret;exact⟨rfl,bp⟩
section
variable {P:aY} {md:Region.Mode} {ops:aJ Oper} {Q:Exit->Act->az->Prop} {S S':az->Prop} {s:Nat}
def De(h:∀w,S' w->S w):∀(fuel:Nat) (listed:aJ Bool) (a:Act) (w:az),gm P md ops Q S' s fuel listed a w->gm P md ops Q S s fuel listed a w
 |0,_,_,_,b=>b
 |fuel+1,_,_,_,b=>⟨b.1,λi f=>wpOp_mono (λd g c=>⟨λe=>h _ (c.1 e),De h fuel _ d g c.2⟩) (b.2 i f)⟩
def g2{o d:Oper}{fuel:Nat}{listed:aJ Bool}{a:Act}{w:az}(i j:Nat)(h:∀b:Act->az->Prop,Shut (∀a w,S w->(S w->gm P md ops Q S s fuel (listed.setIfInBounds i aq) a w)->b a w)->if dg o (yielded ops a.tmps)=aq then II P o a w b Q else b (a.put o.dst au) w)(l:∀b:Act->az->Prop,Shut (∀a w,S w->(S w->gm P md ops Q S s fuel (listed.setIfInBounds j aq) a w)->b a w)->if dg d (yielded ops a.tmps)=aq then II P d a w b Q else b (a.put d.dst au) w)(g:ops[i]? =aa o:=by rfl) (m:ops[j]? =aa d:=by rfl) (hr:Region.ready md ops listed=[i,j]:=by kernel_rfl):gm P md ops Q S s (fuel+1) listed a w:=by
 refine⟨λh0=>(by rw[hr]at h0;cases h0),?_⟩;rw[hr];intro x hx
 have key:∀(x:Nat) (o:Oper),ops[x]? =aa o->(∀b:Act->az->Prop,Shut (∀a w,S w->(S w->gm P md ops Q S s fuel (listed.setIfInBounds x aq) a w)->b a w)->if dg o (yielded ops a.tmps)=aq then II P o a w b Q else b (a.put o.dst au) w)->wpOp P ops Q x (λf c=>((listed.setIfInBounds x aq).getD s aq=av->S c)/\gm P md ops Q S s fuel (listed.setIfInBounds x aq) f c) a w:=λx o g h=>by
  unfold wpOp;simp only[g];have:=h (λf c=>((listed.setIfInBounds x aq).getD s aq=av->S c)/\gm P md ops Q S s fuel (listed.setIfInBounds x aq) f c) (λa w k h=>⟨λ_=>k,h k⟩);split
  ·rename_i e;rw[aW e]at this;exact aF this
  ·rename_i e;rw[aK e]at this;exact this
 rcases jR.1 hx with rfl|hx
 ·exact key _ _ g h
 ·obtain rfl:=iA.1 hx;exact key _ _ m l
end
abbrev wG(u a b fl of ln:Int)(dt:ByteArray)(at_ back er:Int)(c:ByteArray):aJ aD:=#[an u,an a,an b,an fl,an of,an ln,.string dt,an at_,an back,an er,.string c]
abbrev oY(w:az)(a:Nat)(b c fl of ln:Int)(dt:ByteArray)(W:az):Prop:=W.cell? (aj a 1)=aa (an b)/\W.cell? (aj a 2)=aa (an c)/\W.cell? (aj a 3)=aa (an fl)/\W.cell? (aj a 4)=aa (an of)/\W.cell? (aj a 5)=aa (an ln)/\W.cell? (aj a 6)=aa (.string dt)/\aN w W
def oY.old{w W b:az}{f:Nat}{d e fl of ln:Int}{dt:ByteArray}(h:oY w f d e fl of ln dt W)(a:aN W b):oY w f d e fl of ln dt b:=by obtain⟨a1,g,a3,i,j,k,c⟩:=h;exact⟨bO a a1,bO a g,bO a a3,bO a i,bO a j,bO a k,c.trans (a.mono c.size)⟩
def CU(a b:Int):ByteArray:=⟨#[tR a.toNat,tR b.toNat]⟩
def YH(a b:Int)(c:0<=a/\a<256)(d:0<=b/\b<256)(n:Nat)(w:az)(h:w.heap[n]? =aa (aA #[.int .u8 a,.int .u8 b] 5 (0,0))):(convert 158 9 (.slice (aa (aj n 0)) 2 2)).run prog w=.ok (.string (CU a b)) w:=by
 have e:=BR a c.1 c.2;have b1:=BR b d.1 d.2;refine Bt (P:=prog) w 158 9 5 ⟨n,0,ay⟩ 2 [tR a.toNat,tR b.toNat] underlying158 underlying5 underlying9 λj f=>?_
 match j,f with
 |0,_=>simp only[nP,e];exact aI h rfl
 |1,_=>simp only[qL,nP,b1];exact aI h rfl
def agJ(f:Nat)(u d b fl of ln:Int)(dt:ByteArray)(at_ back er:Int)(F:ByteArray)(w:az)(h:w.heap[f]? =aa (aA (wG u d b fl of ln dt at_ back er F) 53 (0,0)))(y:0<=d/\d<=65535)(D:0<=b/\b<256)(C:0<=fl/\fl<256)(A:0<=of/\of<=65535)(z:0<=ln/\ln<=65535)(L:dt.size<=65535):
  bN 58 #[jp f] w (.string (⟨#[81]⟩++CU b fl++⟨(eG d).toArray⟩++⟨(eG of).toArray⟩++⟨(eG ln).toArray⟩++dt)):=by
 have E:Hid (oY w f d b fl of ln dt w.drew):=⟨aI h rfl,aI h rfl,aI h rfl,aI h rfl,aI h rfl,aI h rfl,(Below.refl _ _).drew⟩;have B:Hid (∀W,bN 95 #[an d] W (.string ⟨(eG d).toArray⟩)):=λW=>KV d W y.1 y.2;have x:Hid (∀W,bN 95 #[an of] W (.string ⟨(eG of).toArray⟩)):=λW=>KV of W A.1 A.2;have p:Hid (∀W,bN 95 #[an ln] W (.string ⟨(eG ln).toArray⟩)):=λW=>KV ln W z.1 z.2;have q:Hid (∀(n:Nat) (w:az),w.heap[n]? =aa (aA #[.int .u8 b,.int .u8 fl] 5 (0,0))->(convert 158 9 (.slice (aa (aj n 0)) 2 2)).run prog w=.ok (.string (CU b fl)) w):=YH b fl D C;have M:Il.wrap b=b:=by have:Il.wrap b=b %256:=rfl;omega
 have N:Il.wrap fl=fl:=by have:Il.wrap fl=fl %256:=rfl;omega
 have O:(CU b fl).size=2:=rfl;have R:(⟨(eG d).toArray⟩:ByteArray).size=2:=rfl;have T:(⟨(eG of).toArray⟩:ByteArray).size=2:=rfl;have U:(⟨(eG ln).toArray⟩:ByteArray).size=2:=rfl;generalize CU b fl=r at*;generalize (⟨(eG d).toArray⟩:ByteArray)=G at*;generalize (⟨(eG of).toArray⟩:ByteArray)=H at*;generalize (⟨(eG ln).toArray⟩:ByteArray)=I at*;have J:¬9223372036854775807<9+dt.size:=ak;clear h y D C A z;go_enter func58,ntmps58
 go_upto_region 1 with fail
 refine iD ?_;refine dY (S:=oY w f d b fl of ln dt) 36 aT E.out ?_;intro hS;refine gk 0 ?_;refine gk 1 ?_;refine gk 2 ?_;refine gs 3 ?_;refine gk 4 ?_;refine gk 5 ?_;refine gk 6 ?_;refine gk 7 ?_;refine gs 8 ?_;refine gk 9 ?_;refine gk 13 ?_;refine gk 14 ?_;refine gk 15 ?_;refine gs 16 ?_;refine gk 19 ?_;refine gk 20 ?_;refine gk 21 ?_;refine gs 22 ?_;refine gk 25 ?_;refine gk 26 ?_;refine gk 27 ?_;refine gs 28 ?_;refine gk 31 ?_;refine gk 32 ?_;refine gk 33 ?_;refine gs 34 ?_;refine g2 10 17 (λK a=>?_) λK a=>?_
 ·go_simp;refine a.out _ _ (hS.old (bp)) λc=>?_;clear a K;refine De (S':=λW=>oY w f d b fl of ln dt W/\W.heap[w.heap.size]? =aa (aA #[.int .u8 b,.int .u8 fl] 5 (0,0))) (λ_ h=>h.1) _ _ _ _ ?_;have g:oY w f d b fl of ln dt (w.alloc (aA #[.int .u8 b,.int .u8 fl] 5)).drew/\(w.alloc (aA #[.int .u8 b,.int .u8 fl] 5)).drew.heap[w.heap.size]? =aa (aA #[.int .u8 b,.int .u8 fl] 5 (0,0)):=⟨c,cG w (aA #[.int .u8 b,.int .u8 fl] 5)⟩;clear hS c;have hS:=g;clear g;refine gs (v:=.string r) 11 ?_ (hy:=λW k=>by go_simp;rw[q.out _ _ k.2];rfl);refine gk 12 ?_;refine gr 17 λK a=>?_;go_simp;go_at_call 95;refine(B.out _).mono ?_;rintro e o ⟨rfl,t⟩;refine a.out _ _ ⟨hS.1.old t,bW t hS.2⟩ λc=>?_;clear a K hS;have hS:=c;clear c;refine gk 18 ?_;refine gr 23 λK a=>?_;go_simp;go_at_call 95;refine(x.out _).mono ?_;rintro e m ⟨rfl,l⟩;refine a.out _ _ ⟨hS.1.old l,bW l hS.2⟩ λc=>?_;clear a K hS;have hS:=c;clear c;refine gk 24 ?_;refine gr 29 λK a=>?_;go_simp;go_at_call 95;refine(p.out _).mono ?_;rintro e j ⟨rfl,i⟩;refine a.out _ _ ⟨hS.1.old i,bW i hS.2⟩ λc=>?_;clear a K hS;have hS:=c;clear c;refine gk 30 ?_;refine gk 35 ?_;refine gz λK a=>?_;go_simp;refine a.out _ _ ?_;clear a K;refine ef aT ?_ _;refine gE ?_;go_wp2_with fail;go_ret;exact⟨rfl,hS.1.2.2.2.2.2.2⟩
 ·go_simp;go_at_call 95;refine(B.out _).mono ?_;rintro e o ⟨rfl,t⟩;refine a.out _ _ (hS.old t) λc=>?_;clear a K hS;have hS:=c;clear c;refine g2 10 23 (λK a=>?_) λK a=>?_
  ·go_simp;refine a.out _ _ (hS.old (bp)) λc=>?_;clear a K;refine De (S':=λW=>oY w f d b fl of ln dt W/\W.heap[o.heap.size]? =aa (aA #[.int .u8 b,.int .u8 fl] 5 (0,0))) (λ_ h=>h.1) _ _ _ _ ?_;have g:oY w f d b fl of ln dt (o.alloc (aA #[.int .u8 b,.int .u8 fl] 5))/\(o.alloc (aA #[.int .u8 b,.int .u8 fl] 5)).heap[o.heap.size]? =aa (aA #[.int .u8 b,.int .u8 fl] 5 (0,0)):=⟨c,cG o (aA #[.int .u8 b,.int .u8 fl] 5)⟩;clear hS c;have hS:=g;clear g;refine gs (v:=.string r) 11 ?_ (hy:=λW k=>by go_simp;rw[q.out _ _ k.2];rfl);refine gk 12 ?_;refine gk 18 ?_;refine gr 23 λK a=>?_;go_simp;go_at_call 95;refine(x.out _).mono ?_;rintro e m ⟨rfl,l⟩;refine a.out _ _ ⟨hS.1.old l,bW l hS.2⟩ λc=>?_;clear a K hS;have hS:=c;clear c;refine gk 24 ?_;refine gr 29 λK a=>?_;go_simp;go_at_call 95;refine(p.out _).mono ?_;rintro e j ⟨rfl,i⟩;refine a.out _ _ ⟨hS.1.old i,bW i hS.2⟩ λc=>?_;clear a K hS;have hS:=c;clear c;refine gk 30 ?_;refine gk 35 ?_;refine gz λK a=>?_;go_simp;refine a.out _ _ ?_;clear a K;refine ef aT ?_ _;refine gE ?_;go_wp2_with fail;go_ret;exact⟨rfl,hS.1.2.2.2.2.2.2⟩
  ·go_simp;go_at_call 95;refine(x.out _).mono ?_;rintro e m ⟨rfl,l⟩;refine a.out _ _ (hS.old l) λc=>?_;clear a K hS;have hS:=c;clear c;refine g2 10 29 (λK a=>?_) λK a=>?_
   ·go_simp;refine a.out _ _ (hS.old (bp)) λc=>?_;clear a K;refine De (S':=λW=>oY w f d b fl of ln dt W/\W.heap[m.heap.size]? =aa (aA #[.int .u8 b,.int .u8 fl] 5 (0,0))) (λ_ h=>h.1) _ _ _ _ ?_;have g:oY w f d b fl of ln dt (m.alloc (aA #[.int .u8 b,.int .u8 fl] 5))/\(m.alloc (aA #[.int .u8 b,.int .u8 fl] 5)).heap[m.heap.size]? =aa (aA #[.int .u8 b,.int .u8 fl] 5 (0,0)):=⟨c,cG m (aA #[.int .u8 b,.int .u8 fl] 5)⟩;clear hS c;have hS:=g;clear g;refine gs (v:=.string r) 11 ?_ (hy:=λW k=>by go_simp;rw[q.out _ _ k.2];rfl);refine gk 12 ?_;refine gk 18 ?_;refine gk 24 ?_;refine gr 29 λK a=>?_;go_simp;go_at_call 95;refine(p.out _).mono ?_;rintro e j ⟨rfl,i⟩;refine a.out _ _ ⟨hS.1.old i,bW i hS.2⟩ λc=>?_;clear a K hS;have hS:=c;clear c;refine gk 30 ?_;refine gk 35 ?_;refine gz λK a=>?_;go_simp;refine a.out _ _ ?_;clear a K;refine ef aT ?_ _;refine gE ?_;go_wp2_with fail;go_ret;exact⟨rfl,hS.1.2.2.2.2.2.2⟩
   ·go_simp;go_at_call 95;refine(p.out _).mono ?_;rintro e j ⟨rfl,i⟩;refine a.out _ _ (hS.old i) λc=>?_;clear a K hS;have hS:=c;clear c;refine gr 10 λK a=>?_;go_simp;refine a.out _ _ (hS.old (bp)) λc=>?_;clear a K;refine De (S':=λW=>oY w f d b fl of ln dt W/\W.heap[j.heap.size]? =aa (aA #[.int .u8 b,.int .u8 fl] 5 (0,0))) (λ_ h=>h.1) _ _ _ _ ?_;have g:oY w f d b fl of ln dt (j.alloc (aA #[.int .u8 b,.int .u8 fl] 5))/\(j.alloc (aA #[.int .u8 b,.int .u8 fl] 5)).heap[j.heap.size]? =aa (aA #[.int .u8 b,.int .u8 fl] 5 (0,0)):=⟨c,cG j (aA #[.int .u8 b,.int .u8 fl] 5)⟩;clear hS c;have hS:=g;clear g;refine gs (v:=.string r) 11 ?_ (hy:=λW k=>by go_simp;rw[q.out _ _ k.2];rfl);refine gk 12 ?_;refine gk 18 ?_;refine gk 24 ?_;refine gk 30 ?_;refine gk 35 ?_;refine gz λK a=>?_;go_simp;refine a.out _ _ ?_;clear a K;refine ef aT ?_ _;refine gE ?_;go_wp2_with fail;go_ret;exact⟨rfl,hS.1.2.2.2.2.2.2⟩
end
section
open Go.Conc Go.RowKit
open Go.ConcR (Payload)
open Go.Proofs.Tryz
def Fx.fix(f:Fx):Cf×Int×Bool:=(f.g,f.cM,f.stop)
def Fj(st:Fx->Nat->Fx)(h:∀f s,(st f s).fix=f.fix):∀(l:aB Nat) (f:Fx),(l.foldl st f).fix=f.fix
 |[],f=>rfl
 |s::l,f=>(Fj st h l (st f s)).trans (h f s)
def Zs(f:Fx)(s):(f.gp s).fix=f.fix:=by unfold Fx.gp;split<;>rfl
def aag(f:Fx)(s):(f.fU s).fix=f.fix:=by unfold Fx.fU;split<;>rfl
def G2(f:Fx)(s):(f.gL s).fix=f.fix:=by
 unfold Fx.gL;split
 ·split<;>rfl
 ·rfl
def QE:∀(n:Nat) (f:Fx),(Fx.fin n f).fix=f.fix
 |0,f=>rfl
 |n+1,f=>by
  unfold Fx.fin;split
  ·rfl
  ·split
   ·refine(QE n _).trans ?_;unfold Fx.does;split<;>rfl
   ·rfl
def GY:∀(n p:Nat) (f:Fx),(Fx.turns n p f).fix=f.fix
 |0,_,f=>rfl
 |n+1,p,f=>by
  have a:f.bR.1.fix=f.fix:=by
   unfold Fx.bR;split
   ·split
    ·split<;>rfl
    ·rfl
   ·rfl
  unfold Fx.turns;split
  ·split
   ·exact(GY n _ _).trans a
   ·exact(GY n _ _).trans a
  ·rfl
def UJ(f:Fx):f.tick.fix=f.fix:=by
 have a:f.early.fix=f.fix:=Fj _ Zs _ _
 have d:f.early.goes.fix=f.early.fix:=by
  unfold Fx.goes;split
  ·rfl
  ·exact(Fj _ aag _ _).trans rfl
 exact(Fj _ G2 _ _).trans ((GY _ _ _).trans ((QE _ _).trans (d.trans a)))
structure Fx.xx(f:Fx)(g:Cf)(n:Nat)(b:Bool)(c:Int):Prop where
 rest:f.Rest
 fix:f.fix=(g,(n:Int),b)
 clock:f.clock=c
section
variable {f:Fx} {g:Cf} {n:Nat} {b:Bool} {c:Int}
def Fx.xx.cf(h:f.xx g n b c):f.g=g:=dZ (·.1) h.fix
def Fx.xx.stop(h:f.xx g n b c):f.stop=b:=dZ (·.2.2) h.fix
def Fx.xx.eW(h:f.xx g n b c):f.K.length<=65535:=by have:=h.rest.core.small;omega
end
section
variable [aP]
variable [pX]
end
end
section
open Go.Proofs.Tryz
structure Cf.Shr(g:Cf):Prop where
 sz:g.sz=32
 qu:g.qu=8
 rt:g.rt=16
 bu:g.bu=32
 wk:g.wk<=3
 ou:g.ou=256
structure Fx.Ow(g:Cf)(c wt:Nat->Int)(d:Int)(P:Ck->Prop)(f:Fx):Prop where
 gg:f.g=g
 cf:g.Shr
 ft:f.bP=[]
 fl:∀b∈f.fl,∃r,b.rs=[r]/\r.Rd g/\b.due=d
 cl:∀s,s<f.K.length->∃k,f.K[s]? =aa (aa k)/\P k
 mh:∃r,∀s k,f.K[s]? =aa (aa k)->Owe f c wt r s k
 sum:4*(f.bz:Int)<=jv f.K
def UD:∀(l l':aB (aZ Ck)),l'.length=l.length->(∀(s:Nat),s<l.length->∃k k',l[s]? =aa (aa k)/\l'[s]? =aa (aa k')/\k'.sv=k.sv)->jv l'=jv l
 |[],l',e,_=>by rw[yL.1 e]
 |x::l,[],e,_=>by cases e
 |x::l,y::l',e,h=>by obtain⟨k,k',a,b,j⟩:=h 0 (WG _);cases a;cases b;have:=UD l l' (Nat.succ.inj e) λs i=>h (s+1) (WE i);show k'.sv+jv l'=k.sv+jv l;omega
structure Ck.Calm(g:Cf)(W:Int)(n:Nat)(k:Ck):Prop where
 ph:k.ph=2
 q:∀r∈k.q,r.Rd g
 out:k.out.size<=n
 jc:∃l,jU g W l k
structure Ck.Full(g:Cf)(W:Int)(k:Ck):Prop where
 ph:k.ph=2
 q:∀r∈k.q,r.Rd g
 out:k.out.size<=8
 jc:∃l,jU g W l k/\l.length=10
structure Ck.BL(g:Cf)(W:Int)(k:Ck):Prop where
 ph:k.ph=2
 q:∀r∈k.q,r.Rd g
 out:(k.out.size:Int)+k.prom<=116
 jc:∃l,jU g W l k
 tok:16<=k.tok
 len:k.q.length=8
section
variable {f f':Fx} {g:Cf} {c wt:Nat->Int} {W d:Int} {s:Nat} {k k':Ck} {P P':Ck->Prop}
def Fx.Ow.map(h:f.Ow g c wt d P)(l:f'.g=f.g)(o:f'.aG=f.aG)(p:f'.opn=f.opn)(u:f'.bz=f.bz)(v:f'.bP=f.bP)(w:∀b∈f'.fl,b∈f.fl)(m:f'.K.length=f.K.length)(B:∀(s:Nat) (k:Ck),f.K[s]? =aa (aa k)->P k->∃k',f'.K[s]? =aa (aa k')/\P' k'/\k'.no=k.no/\k'.wt=k.wt/\k'.de=k.de/\k'.sv=k.sv):f'.Ow g c wt d P':=by
 have n:∀s,s<f.K.length->∃k k',f.K[s]? =aa (aa k)/\f'.K[s]? =aa (aa k')/\P' k'/\k'.no=k.no/\k'.wt=k.wt/\k'.de=k.de/\k'.sv=k.sv:=λs j=>by obtain⟨k,e,a⟩:=h.cl s j;obtain⟨k',i⟩:=B s k e a;exact⟨k,k',e,i⟩
 refine⟨l.trans h.gg,h.cf,v.trans h.ft,λb C=>h.fl b (w b C),λs j=>?_,?_,?_⟩
 ·obtain⟨k,k',_,a,i,_⟩:=n s (m▸j);exact⟨k',a,i⟩
 ·obtain⟨r,hr⟩:=h.mh;refine⟨r,λs x t=>?_⟩;obtain⟨k,k',e,a,_,y,z,q,A⟩:=n s (m▸(dS.1 t).1);rw[t]at a;cases a;have O:=hr s k e;exact⟨z.trans O.qG,y.trans O.no,by rw[q,A,l,o,p];exact O.sum,by rw[q,l,o,p];exact O.de⟩
 ·rw[u,UD f.K f'.K m λs j=>by obtain⟨k,k',e,a,_,_,_,_,i⟩:=n s j;exact⟨k,k',e,a,i⟩];exact h.sum
def Fx.Ow.early(h:f.Ow g c wt d (Ck.Full g W))(hr:f.Core):f.early.Ow g c wt d λk=>k.Full g W/\16<=k.tok:=by
 rw[ot];refine h.map rfl rfl rfl rfl rfl (λ_ h=>h) (nQ _) λs k b a=>⟨_,Aa b,⟨⟨a.ph,a.q,a.out,?_⟩,?_⟩,rfl,rfl,rfl,rfl⟩
 ·obtain⟨l,e,i⟩:=a.jc;exact⟨l,e.to rfl λ_ h=>h,i⟩
 ·have:=(hr.cl s k b).1.tok;show 16<=min (k.tok+f.g.rt) f.g.bu;rw[h.gg,h.cf.rt,h.cf.bu];omega
def CG{l:aB (Nat×Nat)}(h:jU g W l k):k.aU.size=9*l.length:=by show k.aU.data.size=_;rw[<-rO,h.aU,List.length_flatMap];have:(l.map λa=>(kM a).length)=l.map λ_=>9:=rfl;rw[this,List.map_const',List.sum_replicate_nat,Nat.mul_comm]
def Fx.Ow.readAll(h:f.Ow g c wt d λk=>k.Full g W/\16<=k.tok)(hr:f.Core)(p:W<=65535):f.readAll.Ow g c wt d (Ck.BL g W):=by
 refine h.map rfl rfl rfl rfl rfl (λ_ h=>h) (nQ _) λs k i e=>?_;obtain⟨v,E,F⟩:=hr.cl s k i;have hm:=hr.g.mx;have u:=hr.jW;have D:=h.cf.wk;have B:=LG (g:=g) (by rw[<-h.gg];exact hm.2.1) s f.fl λb t=>by obtain⟨r,n,o,_⟩:=h.fl b t;exact⟨r,n,o⟩
 have m:=v.len;rw[h.gg]at u m hm;rw[h.cf.qu]at m;obtain⟨l,j,z⟩:=e.1.jc;have C:=CG j;have A:=e.1.out;obtain⟨w,a,x,y⟩:=jU.read h.cf.sz h.cf.qu h.cf.ou hm.2.1 p (k.aU.size+1) k l j e.1.ph e.1.q ak ak ak ak;refine⟨Ck.uy f.g k,Aa i,?_⟩;rw[h.gg];exact⟨⟨a.ph.trans e.1.ph,x,by show((Ck.read g _ k).out.size:Int)+(Ck.read g _ k).prom<=116;rw[a.out,a.prom];omega,w,by show 16<=(Ck.read g _ k).tok;rw[a.tok];exact e.2,y⟩,a.no,a.wt,a.de,a.sv⟩
def Fx.Ow.jY(h:f.Ow g c wt d (Ck.BL g W))(hr:f.Core):f.jY.Ow g c wt d (Ck.BL g W):=by
 obtain⟨K,a,n,o,_,p⟩:=FZ f 8 (λs k m=>by have:=(hr.cl s k m).1.len;have:=hr.g.qu;omega) f.K.length (bD _);have e:f.jY={f with K:=K,acc:=a}:=n;rw[e];refine h.map rfl rfl rfl rfl rfl (λ_ h=>h) o λs k m b=>?_;obtain⟨_,i,h4|h4⟩:=(p s).2.2 k m
 ·refine⟨_,h4,⟨b.ph,λr hr=>?_,b.out,?_,b.tok,?_⟩,rfl,rfl,rfl,rfl⟩
  ·obtain⟨v,t,j⟩:=Ga _ _ r hr;have:=b.q v t;exact⟨by rw[j];exact this.kd,by rw[j];exact this.of,by rw[j];exact this.ln,by rw[j];exact this.fg⟩
  ·obtain⟨l,u⟩:=b.jc;exact⟨l,u.to rfl λ_ h=>h⟩
  ·exact(xV _ _).trans b.len
 ·exact⟨k,h4,b,rfl,rfl,rfl,rfl⟩
def K8(B:aJ UInt8)(a:Ft)(k:Ck)(r:Rq):∀u∈(k.hrd B a r).us,u∈k.us:=by
 unfold Ck.hrd Ck.uf;split
 ·exact λ_ h=>h
 ·exact λu h=>(AV.1 h).1
def Pm(B:aJ UInt8)(a:Ft):∀(b:aB Rq) (k:Ck),∀u∈(k.answers B a b).us,u∈k.us
 |[],k,u,h=>h
 |r::b,k,u,h=>K8 B a k r u (Pm B a b _ u h)
def Fx.Ow.fin:∀(n:Nat) (f:Fx),f.Ow g c wt d (Ck.BL g W)->f.sJ->(Fx.fin n f).Ow g c wt d (Ck.BL g W)
 |0,f,h,_=>h
 |n+1,f,h,o=>by
  unfold Fx.fin;split
  ·exact h
  ·rename_i b r e;split
   ·rename_i u;obtain⟨⟨k,j,_⟩,_,t⟩:=BV.does f b r o e u;refine Fx.Ow.fin n _ ?_ t;have w:=(o.core.jb b (by rw[e];exact dw)).1;rw[uj (f:={f with fl:=r}) j];refine h.map rfl rfl rfl rfl rfl (λx i=>by rw[e];exact eJ _ i) (kr ..) λs x i a=>?_;show ∃k',(f.K.set b.s (aa _))[s]? =aa (aa k')/\_
    by_cases m:s=b.s
    ·subst m;rw[i]at j;cases j;have T:=BO (({f with fl:=r}:Fx).dk.change b.rs b.ft).B b.ft (b.rs.take b.rs.length) k (by rw[wP];exact w.gd);refine⟨_,uC i,⟨T.ph.trans a.ph,by rw[T.q];exact a.q,by have:=T.out;have:=a.out;omega,?_,by rw[T.tok];exact a.tok,by rw[T.q];exact a.len⟩,T.no,T.wt,T.de,T.sv⟩;obtain⟨l,v⟩:=a.jc;exact⟨l,v.to T.aU (Pm _ _ _ _)⟩
    ·exact⟨x,by rw[tL (λp=>m p.symm)];exact i,a,rfl,rfl,rfl,rfl⟩
   ·exact h
def Fo(h:∀(s:Nat) (k:Ck),f.K[s]? =aa (aa k)->k.ph=2):∀n,f.dj n=f
 |0=>rfl
 |n+1=>by
  rw[zJ,Fo h n];unfold Fx.gL;split
  ·rename_i k a;have:k.gone=av:=by unfold Ck.gone;rw[h n k a];rfl
   rw[this];rfl
  ·rfl
def Fx.Ow.tick(h:f.Ow g c wt (f.clock+1) (Ck.Full g W))(hr:f.Rest)(o:f.stop=av)(hc:f.clock<1073741824)(z:W<=65535):
  f.tick.Ow g c wt (f.tick.clock+1) (Ck.Calm g W 116)/\(f.tick.bz:Int)=f.bz+g.wk:=by
 have r:=hr.core.early;have w:=h.early hr.core;have hR:=(w.readAll r z).jY r.readAll
 have B:f.early.goes=f.early.readAll.jY:=by unfold Fx.goes;rw[ot]at*;rw[aK (by rw[o];decide)]
 rw[<-B]at hR;have v:=hr.early hc;obtain⟨_,_,K,a,u⟩:=r.goes;have F:f.early.goes.clock=f.clock+1:=by rw[u,ot]
 have A:f.early.goes.bz=f.bz:=by rw[u,ot]
 have hF:=Fx.Ow.fin f.early.goes.fl.length _ hR v;obtain⟨_,d2,d3,d4⟩:=QC f.early.goes.fl.length _ v
 have p:(Fx.fin f.early.goes.fl.length f.early.goes).fl=[]:=by refine List.eq_nil_iff_forall_not_mem.2 λb i=>?_;have l:=d4 (bD _) b i;obtain⟨_,_,_,e⟩:=hF.fl b i;omega
 have D:∀(n:Nat) (f:Fx),(Fx.fin n f).bz=f.bz:=λn=>by
  induction n with
  |zero=>exact λ_=>rfl
  |succ n E=>
   intro f;unfold Fx.fin;split
   ·rfl
   ·split
    ·rw[E];unfold Fx.does;split<;>rfl
    ·rfl
 have y:(Fx.fin f.early.goes.fl.length f.early.goes).Sh c wt W:=by refine⟨d2.uF,by rw[hF.gg];exact hF.cf.wk,by rw[hF.gg];exact hF.cf.ou,hF.ft,λb i=>(by rw[p]at i;cases i),λs o=>?_,hF.mh,hF.sum⟩;obtain⟨k,m,j⟩:=hF.cl s o;have H:=d2.core.prom s;have I:=(d2.core.cl s k m).2.2;have G:=j.out;rw[p,hF.gg];exact⟨k,m,j.ph,j.jc,j.q,by rw[j.len];exact NN _ _,by have:=j.tok;simp only[gX];omega,ak⟩
 have J:=d2.core.g.wk
 obtain⟨t1,t2,t3⟩:=Fx.Sh.turns ((Fx.fin f.early.goes.fl.length f.early.goes).fuel 0) 0 _ y (aF rfl) (by unfold Fx.fuel;rw[p];simp only[gX,Nat.sub_zero];have:=Nat.mul_le_mul_left (Fx.fin f.early.goes.fl.length f.early.goes).g.wk.toNat (show 2<=(Fx.fin f.early.goes.fl.length f.early.goes).g.cl.toNat+2 by omega);omega)
 have C:f.tick=Fx.turns ((Fx.fin f.early.goes.fl.length f.early.goes).fuel 0) 0 (Fx.fin f.early.goes.fl.length f.early.goes):=Fo (λs k m=>by obtain⟨x,l,e⟩:=t1.cl s (dS.1 m).1;rw[show(Fx.turns ((Fx.fin f.early.goes.fl.length f.early.goes).fuel 0) 0 (Fx.fin f.early.goes.fl.length f.early.goes)).K[s]? =_ from m]at l;cases l;exact e.ph) _
 have t:(Fx.turns ((Fx.fin f.early.goes.fl.length f.early.goes).fuel 0) 0 (Fx.fin f.early.goes.fl.length f.early.goes)).g=g:=(dZ (·.1) (GY _ _ _)).trans hF.gg;rw[C];refine⟨⟨t,h.cf,t1.ft,λb i=>by rw[<-t];exact t1.fl b i,λs o=>?_,t1.mh,t1.sum⟩,?_⟩
 ·obtain⟨k,l,e⟩:=t1.cl s o;rw[t]at e;exact⟨k,l,e.ph,e.q,e.out,e.jc⟩
 ·rw[t3,D,A,p,hF.gg];simp
end
section
variable {f:Fx} {g:Cf} {c wt:Nat->Int} {W d:Int} {s:Nat} {k k':Ck}
structure Ck.New(k:Ck):Prop where
 ph:k.ph=0
 aU:k.aU=kQ
 q:k.q=[]
 out:k.out=⟨#[]⟩
 us:k.us=[]
 prom:k.prom=0
 de:k.de=0
 sv:k.sv=0
def abv(p:g.Shr)(h:k.New):Ck.read g 8 k={k with ph:=2,aU:=⟨#[]⟩,out:=⟨#[89,71]⟩}:=by
 obtain⟨no,wt,ph,aU,q,bE,prom,out,tok,x,sv,y⟩:=k;obtain⟨a,b,i,j,l,m,n,o⟩:=h;simp only at a b i j l m n o;subst a b i j l m n o;have t:=p.qu;have r:=p.ou;have f1:first g.sz g.mx 0 [] kQ=(⟨1,⟨#[97]⟩,0,0,0,0,0,⟨#[]⟩,0⟩,6):=rfl
 have f2:first g.sz g.mx 1 [] ⟨#[103]⟩=(⟨2,⟨#[103]⟩,0,0,0,0,0,⟨#[]⟩,0⟩,1):=rfl
 have f3:first g.sz g.mx 2 [] ⟨#[]⟩=(.zero,0):=rfl
 have e:∀(ph:Int) (out:ByteArray),ph≠4->out.size<=2->(ph≠4/\(([]:aB Rq).length:Int)<g.qu/\(out.size:Int)+0+needs []<=g.ou):=λph out a b=>⟨a,by rw[t];decide,by rw[r];show(out.size:Int)+0+6<=256;omega⟩;have u:((⟨#[97]⟩:ByteArray).toList==[97])=aq:=by decide+kernel
 have v:((⟨#[103]⟩:ByteArray).toList==[103])=aq:=by decide+kernel
 have w:((⟨#[103]⟩:ByteArray).toList==[105])=av:=by decide+kernel
 have a:Ck.hear g ⟨no,wt,0,kQ,[],bE,0,⟨#[]⟩,tok,0,0,[]⟩ (⟨1,⟨#[97]⟩,0,0,0,0,0,⟨#[]⟩,0⟩,6)=⟨no,wt,1,⟨#[103]⟩,[],bE,0,⟨#[89]⟩,tok,0,0,[]⟩:=by unfold Ck.hear;simp only[after,iI,answer,accepted,u];rfl
 have b:Ck.hear g ⟨no,wt,1,⟨#[103]⟩,[],bE,0,⟨#[89]⟩,tok,0,0,[]⟩ (⟨2,⟨#[103]⟩,0,0,0,0,0,⟨#[]⟩,0⟩,1)=⟨no,wt,2,⟨#[]⟩,[],bE,0,⟨#[89,71]⟩,tok,0,0,[]⟩:=by unfold Ck.hear;simp only[after,iI,answer,accepted,v,w];rfl
 unfold Ck.read;rw[aW (e 0 ⟨#[]⟩ bL bL)];simp only[f1];rw[aK bL,aK bL];rw[a];unfold Ck.read;rw[aW (e 1 ⟨#[89]⟩ bL bL)];simp only[f2];rw[aK bL,aK bL];rw[b];unfold Ck.read;rw[aW (e 2 ⟨#[89,71]⟩ bL bL)];simp only[f3];exact aW True.intro
structure Ck.Lazy(g:Cf)(k:Ck):Prop where
 calm:k.Calm g 0 8
 q:k.q=[]
 de:k.de=0
 sv:k.sv=0
def UW:∀(n p:Nat) (f:Fx),(∀(s:Nat) (k:Ck),f.K[s]? =aa (aa k)->k.q=[]/\k.de=0)->f.opn=av->∃t,Fx.turns n p f={f with aG:=t}
 |0,p,f,_,_=>⟨f.aG,rfl⟩
 |n+1,p,f,h,b=>by
  unfold Fx.turns;split
  ·have j:f.bR.2=av/\f.bR.1.pass={f with aG:=(f.aG+1)%f.K.length}:=by
    by_cases e:∃k,f.K[f.aG]? =aa (aa k)
    ·obtain⟨k,a⟩:=e;obtain⟨m,i⟩:=h _ k a
     have hr:(f.turned k).free (f.aX k)=av:=by
      have:(f.aX k).fB (f.turned k).g=av:=by
       unfold Ck.fB;have:(f.aX k).q=[]:=by unfold Fx.aX;split<;>exact m
       rw[this]
      unfold Fx.free;rw[this];rfl
     rw[GZ a,hr];refine⟨rfl,?_⟩
     have l:(f.aX k).lose=k:=by
      unfold Fx.aX;split
      ·show{k with de:=0}=k;rw[<-i]
      ·show{k with de:=0}=k;rw[<-i]
     show((f.turned k).at f.aG (f.aX k).lose).pass=_;rw[l];unfold Fx.turned Fx.pass;simp only[Fx.at,DU,wu a,kr];rw[<-b]
    ·rw[ML (λk a=>e ⟨k,a⟩)];refine⟨rfl,?_⟩;unfold Fx.pass;rw[<-b]
   rw[j.1,j.2];obtain⟨t,o⟩:=UW n (p+1) {f with aG:=(f.aG+1)%f.K.length} h b;exact⟨t,by simpa using o⟩
  ·exact⟨f.aG,rfl⟩
def Fx.Host.ow{m:Nat}(h:f.Host g wt m)(p:g.Shr)(hm:(m:Int)=g.cl):f.Ow g (λ_=>0) wt d Ck.New:=by
 have r:=h.rest.core.len;rw[h.gg]at r;have q:f.K.length=m:=ak
 have j:∀(s:Nat) k,f.K[s]? =aa (aa k)->k=(Ck.fresh s (wt s) g.bu).send kQ:=λs k a=>by have:=h.vU s (by rw[<-q];exact(dS.1 a).1);rw[a]at this;cases this;rfl
 refine⟨h.gg,p,h.idle.1,λb i=>(by rw[h.idle.2.1]at i;cases i),λs n=>⟨_,h.vU s ak,⟨rfl,rfl,rfl,rfl,rfl,rfl,rfl,rfl⟩⟩,⟨0,λs k a=>?_⟩,?_⟩
 ·have:=h.rest.core.g.mx;rw[j s k a];refine⟨rfl,rfl,?_,?_⟩
  ·rw[h.idle.2.2.2.1,h.idle.2.2.2.2];simp[Ck.send,Ck.fresh]
  ·rw[h.idle.2.2.2.2];simp[Ck.send,Ck.fresh];omega
 ·have:∀l:aB (aZ Ck),(∀o∈l,mu o=0)->jv l=0:=λl=>by
   induction l with
   |nil=>exact λ_=>rfl
   |cons x l t=>
    intro h;show mu x+jv l=0;rw[h x dw,t λo e=>h o (eJ _ e)];rfl
  rw[h.idle.2.2.1,this f.K λo e=>?_]
  ·exact jQ _
  ·cases o with
   |none=>rfl
   |some k=>
    obtain⟨s,n⟩:=tM.1 e;rw[j s k n];rfl
def Fx.Host.tick{m:Nat}(h:f.Host g wt m)(y:g.Shr)(hm:(m:Int)=g.cl):∃c,f.tick.Ow g c wt d (Ck.Calm g 0 8)/\f.tick.bz=0:=by
 have C:f.early.Ow g (λ_=>0) wt d Ck.New:=by rw[ot];exact(h.ow y hm).map rfl rfl rfl rfl rfl (λ_ h=>h) (nQ _) λs k j b=>⟨_,Aa j,⟨b.ph,b.aU,b.q,b.out,b.us,b.prom,b.de,b.sv⟩,rfl,rfl,rfl,rfl⟩
 have D:=h.rest.core.early
 have hR:f.early.readAll.Ow g (λ_=>0) wt d (Ck.Lazy g):=by refine C.map rfl rfl rfl rfl rfl (λ_ h=>h) (nQ _) λs k j b=>⟨Ck.uy f.early.g k,Aa j,?_⟩;rw[C.gg];unfold Ck.uy;rw[b.aU];have e:=abv y b;rw[show kQ.size+1=8 from rfl,e];exact⟨⟨⟨rfl,λr hr=>(by rw[show({k with ph:=2,aU:=⟨#[]⟩,out:=⟨#[89,71]⟩}:Ck).q=[] from b.q]at hr;cases hr),(by show(2:Nat)<=8;omega),⟨[],rfl,.nil,λx B=>(by cases B),⟨λu A=>(by rw[show({k with ph:=2,aU:=⟨#[]⟩,out:=⟨#[89,71]⟩}:Ck).us=[] from b.us]at A;cases A),λu A x B=>(by cases B)⟩,eZ _⟩⟩,b.q,b.de,b.sv⟩,rfl,rfl,rfl,rfl⟩
 have l:f.early.readAll.jY.Ow g (λ_=>0) wt d (Ck.Lazy g):=by
  have hr:=D.readAll;obtain⟨K,a,n,p,_,E⟩:=FZ f.early.readAll 8 (λs k j=>by have:=(hr.cl s k j).1.len;have:=hr.g.qu;omega) f.early.readAll.K.length (bD _);have e:f.early.readAll.jY={f.early.readAll with K:=K,acc:=a}:=n;rw[e];refine hR.map rfl rfl rfl rfl rfl (λ_ h=>h) p λs k j b=>?_;obtain⟨_,i,h4|h4⟩:=(E s).2.2 k j
  ·refine⟨k,?_,b,rfl,rfl,rfl,rfl⟩
   have:k.num i=k:=by unfold Ck.num;rw[b.q];show{k with q:=[]}=k;rw[<-b.q]
   rw[this]at h4;exact h4
  ·exact⟨k,h4,b,rfl,rfl,rfl,rfl⟩
 obtain⟨_,_,K,a,w⟩:=D.goes
 have H:f.early.goes=f.early.readAll.jY:=by unfold Fx.goes;rw[aK (by rw[ot,show({f with clock:=f.clock+1,K:=f.K.map λo=>o.map (Ck.lX f.g)}:Fx).stop=f.stop from rfl,h.stop];decide)]
 rw[<-H]at l;have G:f.early.goes.fl=[]:=by rw[w,ot];exact h.idle.2.1
 have z:f.early.goes.opn=av:=by rw[w,ot];exact h.idle.2.2.2.2
 have F:f.early.goes.bz=0:=by rw[w,ot];exact h.idle.2.2.1
 have v:∀(s:Nat) (k:Ck),f.early.goes.K[s]? =aa (aa k)->k.Lazy g:=λs k j=>by obtain⟨x,n,p⟩:=l.cl s (dS.1 j).1;rw[j]at n;cases n;exact p
 obtain⟨t,J⟩:=UW (f.early.goes.fuel 0) 0 f.early.goes (λs k j=>⟨(v s k j).q,(v s k j).de⟩) z
 have e:f.tick={f.early.goes with aG:=t}:=by show(Fx.turns ((Fx.fin f.early.goes.fl.length f.early.goes).fuel 0) 0 (Fx.fin f.early.goes.fl.length f.early.goes)).dj _=_;rw[QD G,J];exact Fo (f:={f.early.goes with aG:=t}) (λs k j=>(v s k j).calm.ph) _
 rw[e];have M:=(h.rest.core.early.goes).1.g.mx;refine⟨λs=>if s<t\/s=t/\av=aq then 1 else 0,⟨l.gg,y,l.ft,l.fl,λs I=>?_,⟨0,λs k j=>?_⟩,l.sum⟩,F⟩
 ·obtain⟨k,n,p⟩:=l.cl s I;exact⟨k,n,p.calm⟩
 ·obtain⟨r,hr⟩:=l.mh;have O:=hr s k j;have L:=v s k j;refine⟨O.qG,O.no,?_,?_⟩
  ·show k.sv+k.de=(0+(if s<t\/s=t/\f.early.goes.opn=aq then 1 else 0)-(if s<t\/s=t/\av=aq then 1 else 0)) *(wt s*f.early.goes.g.qn);rw[z,L.sv,L.de,Int.zero_add,Int.zero_add,Int.sub_self,AK]
  ·show k.de<=f.early.goes.g.mx+(if s=t/\f.early.goes.opn=aq then wt s*f.early.goes.g.qn else 0);rw[z,L.de,aK λh=>by cases h.2];omega
def Fx.Ow.take{i:Nat}(h:f.Ow g c wt d λk=>k.Calm g W (if k.no<i then 0 else 116))(m:f.K[s]? =aa (aa k))(B:k.no=i):(f.take s k 1099511627776).Ow g c wt d (λk=>k.Calm g W (if k.no<(i+1:Nat)then 0 else 116))/\(f.take s k 1099511627776).bz=f.bz/\f.take s k 1099511627776=f.at s (k.takes 1099511627776):=by
 have v:(k.takes 1099511627776).out.size=0:=by
  unfold Ck.takes;rw[aK bL];show(k.out.extract (k.much 1099511627776) k.out.size).size=0
  have A:(k.out.size:Int)<=116:=by obtain⟨x,j,n⟩:=h.cl s (dS.1 m).1;rw[m]at j;cases j;have:=n.out;split at this<;>omega
  rw[mQ];unfold Ck.much;omega
 have u:(f.at s (k.takes 1099511627776)).Ow g c wt d (λk=>k.Calm g W (if k.no<(i+1:Nat)then 0 else 116)):=by
  refine h.map rfl rfl rfl rfl rfl (λ_ h=>h) (kr ..) λt x b a=>?_;show ∃k',(f.K.set s (aa _))[t]? =aa (aa k')/\_
  by_cases p:t=s
  ·subst p;rw[b]at m;cases m;have e:k.takes 1099511627776=k.take (k.much 1099511627776):=aK bL;rw[e]at v⊢;refine⟨_,uC b,⟨a.ph,a.q,by rw[v];exact eZ _,?_⟩,rfl,rfl,rfl,rfl⟩;obtain⟨l,z⟩:=a.jc;exact⟨l,z.to rfl λ_ h=>h⟩
  ·refine⟨x,by rw[tL (λw=>p w.symm)];exact b,⟨a.ph,a.q,?_,a.jc⟩,rfl,rfl,rfl,rfl⟩;have o:=a.out;obtain⟨r,hr⟩:=h.mh;have j:=(hr t x b).no;have n:=(hr s k m).no;split
   ·rw[aW ak]at o;exact o
   ·split at o<;>omega
 have e:f.take s k 1099511627776=f.at s (k.takes 1099511627776):=Fo (λt x b=>by obtain⟨y,j,n⟩:=u.cl t (dS.1 b).1;rw[b]at j;cases j;exact n.ph) _
 rw[e];exact⟨u,rfl,rfl⟩
structure Ck.sK(g:Cf)(W:Int)(i m:Nat)(k:Ck):Prop where
 ph:k.ph=2
 q:∀r∈k.q,r.Rd g
 out:k.out.size<=8
 jc:∃l,jU g W l k/\(k.no<i->l.length=10)/\(k.no=i->l.length=m)
def jU.mono{a:Int}{l:aB (Nat×Nat)}(h:jU g W l k)(i:W<=a):jU g a l k:=⟨h.aU,h.pw,λx e=>by have:=h.ok x e;omega,⟨λu b=>by have:=h.us.1 u b;omega,h.us.2⟩,h.eW⟩
def Fx.Ow.send{i m n ln:Nat}{x:ByteArray}(h:f.Ow g c wt d (Ck.sK g n i m))(p:f.K[s]? =aa (aa k))(J:k.no=i)(hm:m<10)(E:x.data.toList=kM (n+1,ln))(N:4<=ln/\(ln:Int)<=g.mx/\ln %4=0):(f.send s k x).2=0/\(f.send s k x).1.Ow g c wt d (Ck.sK g (n+1:Nat) i (m+1))/\(f.send s k x).1=f.at s (k.send x):=by
 have o:k.sK g n i m:=by obtain⟨y,B,D⟩:=h.cl s (dS.1 p).1;rw[p]at B;cases B;exact D
 obtain⟨l,j,_,G⟩:=o.jc;have M:=G J;have R:=CG j
 have S:x.size=9:=by show x.data.size=9;rw[<-rO,E];rfl
 have e:f.send s k x=(f.at s (k.send x),0):=by unfold Fx.send;rw[aK (by rw[o.ph];decide),aK ak]
 rw[e];refine⟨rfl,h.map rfl rfl rfl rfl rfl (λ_ h=>h) (kr ..) λt y A v=>?_,rfl⟩;show ∃k',(f.K.set s (aa _))[t]? =aa (aa k')/\_
 by_cases C:t=s
 ·subst C;rw[A]at p;cases p;refine⟨_,uC A,⟨o.ph,o.q,o.out,l++[(n+1,ln)],⟨?_,?_,λz hz=>?_,⟨λu w=>?_,λu w z hz=>?_⟩,?_⟩,λh=>?_,λ_=>?_⟩,rfl,rfl,rfl,rfl⟩
  ·show(k.aU++x).data.toList=_;rw[VE,yD,j.aU,E,yK,List.flatMap_singleton]
  ·refine Iw.2 ⟨j.pw,Wt _ _,λa H b I=>?_⟩;rw[iA.1 I];have:=(j.ok a H).1;show a.1<n+1;omega
  ·rcases iT.1 hz with hz|hz
   ·have:=j.ok z hz
    push_cast
    omega
   ·rw[iA.1 hz];exact⟨jQ _,N⟩
  ·have:=j.us.1 u w
   push_cast
   omega
  ·rcases iT.1 hz with hz|hz
   ·exact j.us.2 u w z hz
   ·rw[iA.1 hz];have:=j.us.1 u w;show u<((n+1:Nat):Int)
    push_cast
    omega
  ·rw[gW];show l.length+1<=10;omega
  ·have Q:k.no<i:=h;omega
  ·rw[gW,M];rfl
 ·obtain⟨O,L,a1,P⟩:=v.jc;obtain⟨r,hr⟩:=h.mh;have B:=(hr t y A).no;have D:=(hr s k p).no;exact⟨y,by rw[tL (λF=>C F.symm)];exact A,⟨v.ph,v.q,v.out,O,L.mono (by push_cast;omega),a1,λe=>by omega⟩,rfl,rfl,rfl,rfl⟩
end
end
section
open Go.Conc Go.RowKit
open Go.ConcR (Payload)
open Go.Proofs.Tryz
def Fx.dR(f:Fx)(i:Nat):Int:=match f.K[i]? with
 |some (aa k)=>k.sv
 |_=>0
def Af{f:Fx}{i:Nat}{k:Ck}(h:f.K[i]? =aa (aa k)):f.dR i=k.sv:=by unfold Fx.dR;rw[h]
def afv{f:Fx}{s:Nat}{k k':Ck}(h:f.K[s]? =aa (aa k))(e:k'.sv=k.sv)(j:Nat):(f.at s k').dR j=f.dR j:=by
 by_cases a:j=s
 ·subst a;rw[Af h,Af (show(f.K.set j (aa k'))[j]? =_ from qJ (dS.1 h).1),e]
 ·unfold Fx.dR;rw[show(f.at s k').K[j]? =f.K[j]? from tL (dc a)]
structure Fx.Sx(g:Cf)(c wt:Nat->Int)(n gh:Nat)(t:Int)(P:Ck->Prop)(f:Fx):Prop where
 run:f.xx g n av t
 ow:f.Ow g c wt (t+1) P
 full:(n:Int)=g.cl
 bz:f.bz=gh
section
variable {f:Fx} {g:Cf} {c wt:Nat->Int} {n gh:Nat} {t:Int} {P P':Ck->Prop} {i:Nat}
def Fx.Sx.is(h:f.Sx g c wt n gh t P)(e:i<n):∃k,f.Is i i k/\P k:=by have d:=h.run.rest.core.len;rw[h.run.cf]at d;have:=h.full;obtain⟨k,a,b⟩:=h.ow.cl i ak;obtain⟨r,hr⟩:=h.ow.mh;exact⟨k,(hr i k a).no▸h.run.rest.core.is a,b⟩
def Fx.Sx.to(h:f.Sx g c wt n gh t P)(b:∀(s:Nat) k,f.K[s]? =aa (aa k)->P k->P' k):f.Sx g c wt n gh t P':=
 ⟨h.run,h.ow.map rfl rfl rfl rfl rfl (λ_ h=>h) rfl λs k a d=>⟨k,a,b s k a d,rfl,rfl,rfl,rfl⟩,h.full,h.bz⟩
end
section
variable [aP] {l:aB bC} {u:az} {g:Cf} {cb xb n:Nat} {f:Fx} {c wt:Nat->Int} {ck:Int} {lv:aD} {ps:aB Nat} {ks:aB (Nat×aJ aD×aQ)} {gh:Nat} {t:Int} {P:Ck->Prop} {i m:Nat}
abbrev je(a b d e h j k o:Int):aJ aD:=#[an a,an b,an d,an e,an h,an j,an k,an o]
def bS.kept{p:Nat×aJ aD×aQ}(B:bS u g cb xb f wt ck n lv ps ks)(h:p∈ks):u.heap[p.1]? =aa (aA p.2.1 p.2.2 (0,0)):=by obtain⟨L,T⟩:=B;exact(T.kp _ h).1
def bS.eW{a:aB (Nat×aJ aD×aQ)}(B:bS u g cb xb f wt ck n lv ps ks)(h:∀p∈a,p∈ks):bS u g cb xb f wt ck n lv ps a:=by obtain⟨L,T⟩:=B;exact⟨L,T.fx,T.cr,T.row,T.len,T.sl,T.own,T.no,λp b=>T.kp p (h p b)⟩
def bS.put{u1:az}{A:aB (Nat×aJ aD×aQ)}{b:Nat}{x:aJ aD}{U:aQ}(X:Nat->Prop)(B:bS u g cb xb f wt ck n lv ps ks)(s:∀y,X y->(∃z,(y,z,U)∈ks)\/u.heap.size<=y)(E:X b)(h0:u1.heap[b]? =aa (aA x U (0,0)))(j:∀y,y<u.heap.size->¬X y->u1.heap[y]? =u.heap[y]?)(d:U≠40/\U≠49/\U≠66)(J:u.heap.size<=u1.heap.size)(F:∀p∈A,p∈ks/\¬X p.1):bS u1 g cb xb f wt ck n lv ps ((b,x,U)::A):=by
 obtain⟨L,T⟩:=B;have w:∀y,X y->L.own y=0:=λy h=>(s y h).elim (λ⟨z,h⟩=>(T.kp _ h).2.1) (T.no y);have lt:∀{b:Nat} {o:Obj},u.heap[b]? =aa o->b<u.heap.size:=λh=>(bq.1 h).1
 have k:∀{r:Nat} {y:aJ aD} {V:aQ},u.heap[r]? =aa (aA y V (0,0))->V≠U->u1.heap[r]? =aa (aA y V (0,0)):=λh D=>(j _ (lt h) λe=>by
  rcases s _ e with⟨z,hz⟩|hz
  ·have:=(T.kp _ hz).1;rw[h]at this;cases this;exact D rfl
  ·exact absurd (lt h) ak).trans h
 refine⟨L,T.fx.uo λy a G=>j y a λe=>G (w y e),k T.cr (dc d.1),eL T.row λy a=>?_,T.len,λi p hp=>⟨k (T.sl i p hp).1 (dc d.2.2),(T.sl i p hp).2⟩,T.own,λy a=>T.no y ak,λp hp=>?_⟩
 ·rcases T.row.2 with⟨e,_⟩|⟨g0,H,I,e,_,v,_⟩
  ·rw[e]at a;cases a
  ·rw[e]at a;cases a;exact(k v (dc d.2.1)).trans v.symm
 ·rcases jR.1 hp with rfl|hp
  ·exact⟨h0,w _ E,d.1,d.2.1⟩
  ·obtain⟨q,C⟩:=F p hp;exact⟨(j _ (lt (T.kp p q).1) C).trans (T.kp p q).1,(T.kp p q).2⟩
def bS.apart(B:bS u g cb xb f wt ck n lv ps ks):∀p∈ks,p.1≠u.heap.size:=λp a e=>by have:=(bq.1 (B.kept a)).1;omega
def bS.new{x:aJ aD}{U:aQ}{b:Nat}(B:bS u g cb xb f wt ck n lv ps ks)(a:b=u.heap.size)(h:U≠40/\U≠49/\U≠66):bS (u.alloc (aA x U)) g cb xb f wt ck n lv ps ((b,x,U)::ks):=
 B.put (·=b) (λy e=>aE ak) rfl (new1 a) (λy j _=>(Below.refl u.heap.size u).alloc (bD _) (aA x U) |>.block y j) h aC λp d=>⟨d,a▸B.apart p d⟩
def bS.call{F:bC}{args:aJ aD}{R:aD->Fx->Prop}(q:Fit prog l)(r:aP.ok F)(B:bS u g cb xb f wt ck n lv ps ks)(h:∀w L,aL w f xb L->Calls prog F args w λe o=>∃v a,e=aM v/\R v a/\∃b,aL o a xb b/\bJ w L o b):
  fc prog F args u λe s=>∃v a,e=aM v/\R v a/\bS s g cb xb a wt ck n lv ps ks:=by
 refine fc.lift q r (λe u p ⟨v,a,d,j,k⟩=>⟨v,a,d,j,k.tp p⟩) (λe u ⟨v,a,h,_⟩=>⟨_,h⟩) λp=>?_;obtain⟨L,T⟩:=B.tp p;refine(h _ L T.fx).mono ?_;rintro e o ⟨v,a,rfl,d,b,j,k⟩;exact⟨v,a,rfl,d,T.BT j k⟩
def bS.stay{e:az}(B:bS u g cb xb f wt ck n lv ps ks)(d:∀b,b<u.heap.size->e.heap[b]? =u.heap[b]?):bS e g cb xb f wt ck n lv ps ks:=by obtain⟨L,T⟩:=B;have k:∀{b:Nat} {o:Obj},u.heap[b]? =aa o->e.heap[b]? =aa o:=λh=>(d _ (bq.1 h).1).trans h;refine⟨L,T.fx.old d,k T.cr,eL T.row λb hr=>d b (nH T.row b hr),T.len,λi p a=>⟨k (T.sl i p a).1,(T.sl i p a).2⟩,T.own,λb h=>T.no b (ej λj=>?_),λp a=>⟨k (T.kp p a).1,(T.kp p a).2⟩⟩;have:=k (cX j);rw[lN h]at this;cases this
def bS.old(B:bS u g cb xb f wt ck n lv ps ks){a:az}(d:aN u a):bS a g cb xb f wt ck n lv ps ks:=B.stay λb h=>d.block b h
def bS.drew(B:bS u g cb xb f wt ck n lv ps ks)(a:Tape)(m:Nat):bS {u with tape:=a,drawn:=m} g cb xb f wt ck n lv ps ks:=by obtain⟨L,T⟩:=B;exact⟨L,T.fx.old λ_ _=>rfl,T.cr,T.row,T.len,T.sl,T.own,T.no,T.kp⟩
def bS.TI(B:bS u g cb xb f wt ck n lv ps ks)(a:i<n):∃p:Nat,ps[i]? =aa p:=by obtain⟨L,T⟩:=B;exact⟨ps[i]'(by rw[T.len];exact a),eI _⟩
def bS.slot{b cap p:Nat}(B:bS u g cb xb f wt ck n (.slice (aa (aj b 0)) n cap) ps ks)(a:ps[i]? =aa p):u.cell? (aj b i)=aa (jp p)/\u.heap[p]? =aa (aA (slE i (wt i)) 66 (0,0)):=by obtain⟨L,T⟩:=B;obtain⟨j,h,e,d⟩:=yc T.row (by have:=(dS.1 a).1;have:=T.len;omega);cases e;exact⟨d i (jp p) (by rw[jA,a];rfl),(T.sl i p a).1⟩
def YR(p:Fit prog l)(s:aP.ok 31)(B:bS u g cb xb f wt ck n lv ps ks)(h:f.Host g wt n)(r:(n:Int)<g.cl)(x:Int)(v:lA x):fc prog 31 #[pt cb,an x] u λe A=>e=aM (.bool aq)/\∃a w y z,a.Host g (rM wt n y) (n+1)/\bS A g cb xb a (rM wt n y) ck (n+1) w z ks:=by refine fc.lift p s (λe u b ⟨j,a,d,y,q,k,o⟩=>⟨j,a,d,y,q,k,o.tp b⟩) (λe u h=>⟨_,h.1⟩) λb=>?_;exact Zz cb xb n g f wt x ck lv ps ks (u.tp b) (B.tp b) h r v
def YU(z:Fit prog l)(D:aP.ok 30)(B:og g.sz g.cl g.qu g.mx g.qn g.rt g.bu g.wk g.ou=aq)(C:∀p∈ks,u.heap[p.1]? =aa (aA p.2.1 p.2.2 (0,0))/\p.2.2≠40/\p.2.2≠49):
  fc prog 30 #[.agg (eE g)] u λe E=>∃cb xb,e=aM (pt cb)/\bS E g cb xb (Fx.new g) wt 0 0 (.slice ay 0 0) [] ks:=by
 refine fc.lift z D (λe u r ⟨a,d,j,k⟩=>⟨a,d,j,k.tp r⟩) (λe u ⟨a,d,h,_⟩=>⟨_,h⟩) λr=>?_;refine(Xn g B (u.tp r)).mono ?_;rintro e G ⟨a,d,L,rfl,j,k,v,w,F,x,y⟩;exact⟨a,d,rfl,L,k,j,qM _ _ _ _,rfl,λi p q=>(by cases q),⟨w,λb A=>(by cases A)⟩,x,λp q=>have o:=C p q;have s:=(bq.1 o.1).1;⟨(y.block _ s).trans o.1,v _ s,o.2⟩⟩
def Qc{k:Ck}(q:Fit prog l)(v:aP.ok 34)(B:bS u g cb xb f wt ck n lv ps ks)(h:f.Sx g c wt n gh t P)(s:f.Is i i k):fc prog 34 #[pt xb,an i] u λe j=>(∃w x y z A C:Int,e=aM (.tuple #[.agg (je w k.aU.size x y z A C k.sv),an 0]))/\(∀b,b<u.heap.size->j.heap[b]? =u.heap[b]?)/\bS j g cb xb f wt ck n lv ps ks:=by refine fc.lift q v (λe u d ⟨o,p,a⟩=>⟨o,p,a.tp d⟩) (λe u ⟨⟨_,_,_,_,_,_,h⟩,_⟩=>⟨_,h⟩) λd=>?_;obtain⟨L,T⟩:=B.tp d;refine(C7 _ f xb L T.fx h.run.eW i i k s).mono ?_;rintro e D ⟨rfl,a⟩;exact⟨⟨_,_,_,_,_,_,rfl⟩,λb r=>a.block b r,T.BT (T.fx.below a) ⟨λ_ _=>rfl,.below a⟩⟩
def YW{W:Int}(s:Fit prog l)(z:aP.ok 33)(B:bS u g cb xb f wt ck n lv ps ks)(h:f.Sx g c wt n gh t λk=>k.Calm g W (if k.no<i then 0 else 116))(y:i<n):fc prog 33 #[pt xb,an i,an 1099511627776] u λe F=>∃v b,e=aM v/\((∃x,v=.tuple #[.string x,an 0])/\(∀j,b.dR j=f.dR j)/\b.Sx g c wt n gh t λk=>k.Calm g W (if k.no<(i+1:Nat)then 0 else 116))/\bS F g cb xb b wt ck n lv ps ks:=
 B.call s z λw L r=>by obtain⟨k,a,G⟩:=h.is y;obtain⟨D,E⟩:=h.run.rest.take a.at_ 1099511627776;obtain⟨A,C,d⟩:=h.ow.take a.at_ a.no;have I:=(h.run.rest.core.cl _ k a.at_).1.out;have J:=h.run.rest.core.prom i;have K:=(h.run.rest.core.cl _ k a.at_).2.2;have H:=h.run.rest.core.g.ou;refine(E6 w f xb L r h.run.eW i _ i k a ak D.core.stay).mono ?_;rintro e M ⟨rfl,o,p,q⟩;exact⟨_,_,rfl,⟨⟨_,rfl⟩,λj=>by rw[d];exact afv (k':=k.takes 1099511627776) a.at_ rfl j,⟨⟨E,by rw[d];exact h.run.fix,by rw[d];exact h.run.clock⟩,A,h.full,C.trans h.bz⟩⟩,o,p,q⟩
def YV{ln:Nat}{x:ByteArray}{b:Nat}(s:Fit prog l)(A:aP.ok 37)(B:bS u g cb xb f wt ck n lv ps ks)(h:f.Sx g c wt n gh t (Ck.sK g b i m))(y:i<n)(hm:m<10)(C:x.data.toList=kM (b+1,ln))(z:4<=ln/\(ln:Int)<=g.mx/\ln %4=0):fc prog 37 #[pt xb,an i,.string x] u λe F=>∃v j,e=aM v/\(v=an 0/\j.Sx g c wt n gh t (Ck.sK g (b+1:Nat) i (m+1)))/\bS F g cb xb j wt ck n lv ps ks:=
 B.call s A λw L r=>by obtain⟨k,a,G⟩:=h.is y;obtain⟨D,E,d⟩:=h.ow.send a.at_ a.no hm C z;have hr:=h.run.rest.send a.at_ x;refine(Ra w f xb L r h.run.eW i x i k a (h.run.rest.core.cl i k a.at_).1.aU).mono ?_;rintro e H ⟨rfl,o,p,q⟩;exact⟨_,_,rfl,⟨by rw[D],⟨⟨hr,by rw[d];exact h.run.fix,by rw[d];exact h.run.clock⟩,E,h.full,by rw[d];exact h.bz⟩⟩,o,p,q⟩
def bS.YJ{u1:az}{s:Int}(B:bS u g cb xb f wt ck n lv ps ks)(o:u1.heap[cb]? =aa (aA (crE g xb lv s) 40 (0,0)))(d:∀b,b≠cb->u1.heap[b]? =u.heap[b]?):bS u1 g cb xb f wt s n lv ps ks:=by
 obtain⟨L,T⟩:=B
 have A:∀b,lv.ownBlock=aa b->b≠cb:=λb a e=>by
  rcases T.row.2 with⟨k,_⟩|⟨g0,D,E,k,_,w,_⟩
  ·rw[k]at a;cases a
  ·rw[k]at a;cases a;have y:g0=cb:=e;rw[y,T.cr]at w;cases w
 refine⟨L,T.fx.uo λx F C=>d x λe=>C (by rw[e];exact T.own.1),o,eL T.row λb a=>d b (A b a),T.len,λj p r=>?_,T.own,λb a=>T.no b ?_,λp r=>?_⟩
 ·obtain⟨h,q⟩:=T.sl j p r;exact⟨(d p (rj h T.cr bL)).trans h,q⟩
 ·have z:b≠cb:=λe=>by
   rw[e]at a;rw[lN a]at o;cases o
  have:=d b z;rw[lN a]at this;exact wH.1 this.symm
 ·obtain⟨h,q,v⟩:=T.kp p r;exact⟨(d _ (rj h T.cr v.1)).trans h,q,v⟩
def YQ{d:Nat}{no ln:Int}{k0:Nat}(q:Fit prog l)(s:aP.ok 58)(B:bS u g cb xb f wt ck n lv ps ks)(v:u.heap[d]? =aa (aA (wG no k0 0 0 0 ln ⟨#[]⟩ 0 (-1) 0 ⟨#[]⟩) 53 (0,0)))(w:k0<=65535)(r:0<=ln/\ln<=65535):fc prog 58 #[pt d] u λe k=>(∃x,e=aM (.string x)/\x.data.toList=kM (k0,ln.toNat))/\(∀b,b<u.heap.size->k.heap[b]? =u.heap[b]?)/\bS k g cb xb f wt ck n lv ps ks:=by refine fc.lift q s (λe u a ⟨o,h0,p⟩=>⟨o,h0,p.tp a⟩) (λe u ⟨⟨x,h,_⟩,_⟩=>⟨_,h⟩) λa=>?_;refine(agJ d no k0 0 0 0 ln ⟨#[]⟩ 0 (-1) 0 ⟨#[]⟩ (u.tp a) v ak bL bL bL r bL).mono ?_;rintro e y ⟨rfl,j⟩;refine⟨⟨_,rfl,?_⟩,λb h=>j.block b h,(B.tp a).old j⟩;simp only[VE,yD];unfold kM;rw[show((ln.toNat:Nat):Int)=ln by omega];rfl
def YS{o q r s:Nat}{b d:Nat->Int}(E:Fit prog l)(K:aP.ok 35)(B:bS u g cb xb f wt ck n lv ps ks)(h0:0<n)(J:n<=8)(hI:g.Is)(N:∀i,i<n->0<=wt i/\wt i<=4)(F:BH u o n b)(M:BH u q n d)(C:∀i,i<n→-1099511627776<=d i-b i/\d i-b i<=1099511627776)(D:∀i k,i<n->k<n->xD g wt b d i k):
  fc prog 35 #[pt cb,.slice (aa (aj o 0)) n r,.slice (aa (aj q 0)) n s] u λe O=>e=aM (.bool aq)/\bS O g cb xb f wt ck n lv ps ks:=by
 refine fc.lift E K (λe u j ⟨z,A⟩=>⟨z,A.tp j⟩) (λe u ⟨h,_⟩=>⟨_,h⟩) λj=>?_;obtain⟨L,T⟩:=B.tp j;obtain⟨a,v,rfl⟩:=mO T.row;have S:=hI.qn;have R:=hI.mx;obtain⟨w,Q,e,G⟩:=yc T.row h0;cases e
 have H:qT (u.tp j) cb w o q n g wt b d v:=by refine⟨aI T.cr rfl,aI T.cr rfl,aI T.cr rfl,λi I=>?_,F,M⟩;obtain⟨p,y⟩:∃p,ps[i]? =aa p:=⟨ps[i]'(by rw[T.len];exact I),eI _⟩;exact⟨p,G i (jp p) (by rw[jA,y];rfl),aI (T.sl i p y).1 rfl⟩
 refine(ZJ cb w o q n v r s g wt b d (u.tp j) H J ak ak N C D).mono ?_;rintro e U ⟨rfl,x⟩;exact⟨rfl,T.BT (T.fx.below x) ⟨λ_ _=>rfl,.below x⟩⟩
variable [pX]
def YT(G:zn l)(B:bS u g cb xb f wt ck n lv ps ks)(h:f.Host g wt n)(w:g.Shr)(o:(n:Int)=g.cl):fc prog 26 #[pt xb] u λe p=>e=aM (.tuple #[])/\∃c a,a.Sx g c wt n 0 1 (Ck.Calm g 0 8)/\bS p g cb xb a wt ck n lv ps ks:=by obtain⟨L,T⟩:=B;refine(T.fx.UK bld G h.rest (by rw[h.clock];decide) λb k=>(by rw[h.idle.2.1]at k;cases k)).mono ?_;rintro e p ⟨rfl,j,x,q,r⟩;obtain⟨c,s,v⟩:=h.tick (d:=1+1) w o;exact⟨rfl,c,_,⟨⟨j.1,(UJ f).trans (by show(f.g,f.cM,f.stop)=_;rw[h.gg,h.cM,h.stop]),by rw[j.2,h.clock];rfl⟩,s,o,v⟩,T.BT q r⟩
def YX{W:Int}(G:zn l)(B:bS u g cb xb f wt ck n lv ps ks)(h:f.Sx g c wt n gh t (Ck.Full g W))(y:t<1073741824)(w:W<=65535):fc prog 26 #[pt xb] u λe q=>e=aM (.tuple #[])/\∃d,d.Sx g c wt n (gh+g.wk.toNat) (t+1) (Ck.Calm g W 116)/\bS q g cb xb d wt ck n lv ps ks:=by
 obtain⟨L,T⟩:=B
 refine(T.fx.UK bld G h.run.rest (by rw[h.run.clock];exact y) λb x r hr=>by obtain⟨D,e,h0,_⟩:=h.ow.fl b x;rw[e]at hr;rw[iA.1 hr];exact⟨h0.kd,h0.fg⟩).mono ?_
 rintro e q ⟨rfl,j,A,s,v⟩;have k:=h.run.clock;have o:=h.ow;rw[<-k]at o;obtain⟨p,C⟩:=o.tick h.run.rest h.run.stop ak w;have a:f.tick.clock=t+1:=by rw[j.2,k]
 rw[a]at p;have z:=h.run.rest.core.g.wk;rw[h.run.cf]at z;exact⟨rfl,_,⟨⟨j.1,(UJ f).trans h.run.fix,a⟩,p,h.full,by have:=h.bz;omega⟩,T.BT s v⟩
end
end
section
open Go.Proofs.Tryz
section
variable {f f0 f1:Fx} {g:Cf} {c wt:Nat->Int} {n d0 d1:Nat} {t t0 t1:Int} {P P0 P1:Ck->Prop} {i j:Nat}
def Fx.Sx.gap(h:f.Sx g c wt n d0 t P)(l:i<j)(m:j<n):
  -(g.mx*(wt j*g.qn))<=f.dR i*(wt j*g.qn)-f.dR j*(wt i*g.qn)+(c i-c j) *(wt i*g.qn*(wt j*g.qn))/\f.dR i*(wt j*g.qn)-f.dR j*(wt i*g.qn)+(c i-c j) *(wt i*g.qn*(wt j*g.qn))<=wt i*g.qn*(wt j*g.qn)+g.mx*(wt i*g.qn):=by
 obtain⟨a,a1,_⟩:=h.is (i:=i) ak;obtain⟨b,b1,_⟩:=h.is m;obtain⟨r,hr⟩:=h.ow.mh;have A:=hr i a a1.at_;have B:=hr j b b1.at_;have e:=(h.run.rest.core.cl i a a1.at_).1;have k:=(h.run.rest.core.cl j b b1.at_).1;have d:=h.run.rest.core.g;have q:=d.qn;have s:=d.mx;have o:=e.wt;have p:=k.wt;rw[A.qG]at o;rw[B.qG]at p;have:=A.two B l e.de k.de (pU ak ak) (pU ak ak);rw[h.ow.gg]at this;rw[Af a1.at_,Af b1.at_];exact this
def Fx.Sx.even(h0:f0.Sx g c wt n d0 t0 P0)(e:f1.Sx g c wt n d1 t1 P1)(m:i<n)(p:j<n):xD g wt f0.dR f1.dR i j:=by
 unfold xD
 have key:∀i j,i<j->j<n->(f1.dR i-f0.dR i) *(wt j*g.qn)-(f1.dR j-f0.dR j) *(wt i*g.qn)<=wt i*g.qn*(wt j*g.qn)+g.mx*(wt i*g.qn+wt j*g.qn)∧-(wt i*g.qn*(wt j*g.qn)+g.mx*(wt i*g.qn+wt j*g.qn))<=(f1.dR i-f0.dR i) *(wt j*g.qn)-(f1.dR j-f0.dR j) *(wt i*g.qn):=λi j k l=>by have a:=h0.gap k l;have b:=e.gap k l;rw[Ii g.mx,NG,NG];omega
 rcases ID i j with h|h|h
 ·exact(key i j h p).1
 ·subst h;have d:=h0.run.rest.core.g;rw[h0.run.cf]at d;have e:=d.qn;have s:=d.mx;obtain⟨a,a1,_⟩:=h0.is m;obtain⟨r,hr⟩:=h0.ow.mh;have q:=(h0.run.rest.core.cl i a a1.at_).1.wt;rw[(hr i a a1.at_).qG]at q;have o:0<=wt i*g.qn:=pU ak ak;have:=pU o o;have:=pU (show 0<=g.mx by omega) (show 0<=wt i*g.qn+wt i*g.qn by omega);omega
 ·have:=(key j i h m).2;rw[NF (wt i*g.qn) (wt j*g.qn),Int.add_comm (wt i*g.qn) (wt j*g.qn)];omega
def Fx.Sx.sv(h:f.Sx g c wt n d0 t P)(e:i<n):0<=f.dR i/\f.dR i<=1024*(t+1):=by obtain⟨a,a1,_⟩:=h.is e;have b:=(h.run.rest.core.cl i a a1.at_).1;have d:=b.sv;have k:=b.tok;rw[h.run.clock]at d;rw[Af a1.at_];omega
def Fx.jZ(f:Fx):Nat->Int
 |0=>0
 |i+1=>f.jZ i+f.dR i
def afx(f:Fx):f.jZ f.K.length=jv f.K:=by
 have key:∀(l:aB (aZ Ck)) (m:Nat),(∀i,i<l.length->f.dR (m+i)=mu ((l[i]?).getD ay))->f.jZ (m+l.length)=f.jZ m+jv l:=λl=>by
  induction l with
  |nil=>intro m _;show f.jZ m=f.jZ m+0;omega
  |cons x l b=>
   intro m h;have h0:=h 0 (WG _)
   have:=b (m+1) λi a=>by have:=h (i+1) (WE a);rw[show m+(i+1)=m+1+i by omega]at this;exact this
   rw[show m+(x::l).length=m+1+l.length by rw[eM];omega,this];show f.jZ m+f.dR m+jv l=f.jZ m+(mu x+jv l);have:f.dR m=mu x:=h0;omega
 have:=key f.K 0 λi a=>by rw[fX];unfold Fx.dR;rw[eI a];cases f.K[i]<;>rfl
 rw[fX]at this;rw[this];show 0+jv f.K=_;omega
def Fx.Sx.UC(h:f.Sx g c wt n d0 t P):∀i,i<=n->0<=f.jZ i/\f.jZ i<=1024*(t+1) *(i:Int)
 |0,_=>⟨jQ _,by show(0:Int)<=_;simp⟩
 |i+1,d=>by have a:=h.UC i ak;have b:=h.sv (i:=i) ak;show 0<=f.jZ i+f.dR i/\f.jZ i+f.dR i<=_;rw[show 1024*(t+1) *((i+1:Nat):Int)=1024*(t+1) *(i:Int)+1024*(t+1) by rw[Wa,Ii];simp];omega
def Fx.Sx.busy(h:f.Sx g c wt n d0 t P):4*(d0:Int)<=f.jZ n:=by have b:=h.run.rest.core.len;rw[h.run.cf]at b;have:=h.full;have e:f.K.length=n:=ak;have a:=h.ow.sum;rw[h.bz,<-afx,e]at a;exact a
end
end
section
attribute [local go_sem ↓] Go.wp_at_zero Go.wp_at_succ
open Go.Conc Go.RowKit
open Go.Proofs.Tryz
section
variable [aP] {P:aY} {l:aB bC} {Q:Exit->Act->az->Prop} {a:Act} {u:az} {ops:aJ Oper} {i n:Nat} {rest:aB Nat} {Lf:bC->aB Nat} {f0:bC} {dn:Nat} {L:aB (Nat×aD)} {ty:aQ} {ps:String} {af:aJ Edge} {gd:aZ (Nat×Bool)}
def FX.sj{c:Code}(J:Act->az->Prop)(b:FX Lf f0 dn P (nZ c) (Exit.then J Q) a u)(d:∀a u,J a u->FX Lf f0 dn P (eT c) Q a u)(hc:TP c=aq:=by kernel_rfl):FX Lf f0 dn P c Q a u:=
 FX.sq (b.mono λe a u h=>by cases e<;>first|exact d a u h|exact h) hc
def FE.sa{t j o b:Nat}{x d:aJ aD}{T:aQ}(E:Fa n a L)(B:u.heap[b]? =aa (aA x T (0,0)))(c:∀p:az,p.heap[b]? =aa (aA d T (0,0))->(∀e,e≠b->p.heap[e]? =u.heap[e]?)->p.heap.size=u.heap.size->FO Lf f0 dn P ops Q rest a p)(y:ops[i]? =aa ⟨ay,.store t (.tmp j) (.tmp o),ty,ps,af,gd⟩:=by rfl) (z:lk L j=aa (aR b):=by rfl) (hv:lk L o=aa (.agg d):=by rfl) (C:x.size=d.size:=by rfl) (w:(P.info? t).map (·.size)=aa d.size:=by kernel_rfl) (s:d.all (·.oneCell')=aq:=by simp[za]) (A:(jg ops L gd&&jo ops n gd)=aq:=by rfl) (hc:lW (Lf f0) 1 0 L (.store t (.tmp j) (.tmp o))=aq:=by rfl) (v:Fit P l:=by assumption):FO Lf f0 dn P ops Q (i::rest) a u:=by
 have q:gH L (.tmp j)=aR b:=by show(lk L j).getD au=_;rw[z];rfl
 have r:gH L (.tmp o)=.agg d:=by show(lk L o).getD au=_;rw[hv];rfl
 refine FE.vo E (u.setRow b d) (c _ (setRow_heap u b x d T _ B) (λe h=>setRow_other u b e d h) (setRow_size ..)) y A rfl hc (λD=>?_) v;have:=run_storeVar_row (P:=P) (u.tp D) b T t x d B w C s;unfold execOp;simp only[q,r,Instr.storeAt,Instr.sureAddr,Sem.run_bind,Sem.run_pure,Result.andThen,this];rfl
def FE.l1{t k d:Nat}{v:aD}{ad:bZ}(E:Fa n a L)(B:u.cell? ad=aa v)(c:∀b,iq a b d v->Fa n b ((d,v)::L)->FO Lf f0 dn P ops Q rest b u)(h:ops[i]? =aa ⟨aa d,.load t (.tmp k),ty,ps,af,gd⟩:=by rfl) (q:lk L k=aa (.pointer (aa ad)):=by rfl) (j:(jg ops L gd&&jo ops n gd)=aq:=by rfl) (hc:lW (Lf f0) n d L (.load t (.tmp k))=aq:=by rfl)
  (hr:∀w:az,w.cell? ad=aa v->(execOp (gH L) ⟨aa d,.load t (.tmp k),ty,ps,af,gd⟩).run P w=.ok (.value v) w:=by(intro w p;go_simp)) (e:Fit P l:=by assumption):FO Lf f0 dn P ops Q (i::rest) a u:=
 FE.ow E c h j rfl hc (λo=>hr _ (show(u.tp o).cell? ad=_ from B)) e
def dm{d:Nat}{v:aD}{S:az->Prop}{X:Act->az->Prop}(o:S u)(h:∀e w j,w=v->S j->(∀b,b<u.heap.size->j.heap[b]? =u.heap[b]?)->iq a e d w->X e j):∀e,iq a e d v->Fa n e ((d,v)::L)->X e u:=λe N _=>h e v u rfl o (λ_ _=>rfl) N
end
def qj(ks:aB (Nat×aJ aD×aQ))(v:aD)(xs:aB aD):Prop:=(∀w:az,(∀p∈ks,w.heap[p.1]? =aa (aA p.2.1 p.2.2 (0,0)))->w.ownsRow 0 3 1 v xs.length xs)/\∀b,v.ownBlock=aa b->∃x,(b,x,3)∈ks
def qj.nil{ks:aB (Nat×aJ aD×aQ)}:qj ks (.slice ay 0 0) []:=⟨λw _=>qM _ _ _ _,λb d=>by cases d⟩
def qj.of{w:az}{v:aD}{m:Nat}{xs:aB aD}(h:w.ownsRow 0 3 1 v m xs)(h0:0<m):∃b x d,v=.slice (aa (aj b 0)) m d/\w.heap[b]? =aa (aA x 3 (0,0))/\∀o,qj ((b,x,3)::o) v xs:=by
 have z:xs.length=m:=by simpa using h.1
 rcases h.2 with⟨e,p⟩|⟨g,d,j,rfl,q,r,s⟩
 ·rw[p]at h0;omega
 ·refine⟨g,j,d,rfl,r,λo=>⟨λB A=>z.symm▸⟨h.1,aE ⟨g,d,j,rfl,q,A _ (dw ..),s⟩⟩,λb y=>?_⟩⟩;cases y;exact⟨j,dw ..⟩
section
variable {f:Fx} {g:Cf} {c wt:Nat->Int} {n gh:Nat} {t:Int} {i m ck:Nat} {k:Ck}
abbrev BF(g:Cf)(ck i:Nat)(k:Ck):Prop:=∃m,k.sK g (ck:Int) i m
def Ck.Calm.fed{b:Nat}(h:k.Calm g (ck:Int) b)(j:b<=8)(e:¬k.no<(0:Nat)):BF g ck 0 k:=by obtain⟨l,d⟩:=h.jc;exact⟨l.length,h.ph,h.q,by have:=h.out;omega,l,d,λh=>absurd h e,λ_=>rfl⟩
def Fx.Sx.fed(h:f.Sx g c wt n gh t (BF g ck i))(j:f.Is i i k):∃m,m<=10/\k.aU.size=9*m/\f.Sx g c wt n gh t (Ck.sK g ck i m):=by
 have A:i<n:=by have b:=h.run.rest.core.len;rw[h.run.cf]at b;have:=(dS.1 j.at_).1;have:=h.full;omega
 obtain⟨D,w,m,x⟩:=h.is A
 have e:D=k:=by have:=w.at_;rw[j.at_]at this;cases this;rfl
 subst e;obtain⟨l,b,H,y⟩:=x.jc;have v:=y j.no;refine⟨m,by have:=b.eW;omega,by rw[CG b,v],h.to λs E o B=>?_⟩;obtain⟨m2,d⟩:=B;obtain⟨F,p,z,I⟩:=d.jc;obtain⟨r,hr⟩:=h.ow.mh;refine⟨d.ph,d.q,d.out,F,p,z,λJ=>?_⟩;have C:s=i:=by have:=(hr s E o).no;omega
 subst C;rw[j.at_]at o;cases o;have a1:=CG b;have G:=CG p;omega
def Ck.sK.next(h:k.sK g (ck:Int) i 10):BF g ck (i+1) k:=by
 obtain⟨l,e,b,d⟩:=h.jc
 exact⟨l.length,h.ph,h.q,h.out,l,e,λo=>by
  by_cases j:k.no<i
  ·exact b j
  ·exact d ak,λ_=>rfl⟩
def Fx.Sx.C5(h:f.Sx g c wt n gh t (BF g ck n)):f.Sx g c wt n gh t (Ck.Full g ck):=h.to λs k e b=>by obtain⟨m,b⟩:=b;obtain⟨l,d,j,_⟩:=b.jc;obtain⟨r,hr⟩:=h.ow.mh;refine⟨b.ph,b.q,b.out,l,d,j ?_⟩;have o:=(hr s k e).no;have d:=h.run.rest.core.len;rw[h.run.cf]at d;have:=(dS.1 e).1;have:=h.full;omega
end
end
end Go.Proofs.YtpobhljcainmdaaGreat
