/- Parts of the proof. -/
import Derived.ArgAppend
import Derived.Conc.AppendEvents3
import Derived.Conc.SmallLaws
import Derived.Lib.SliceRun
import Derived.Stop.RegionWithIn
import Derived.Test.YtpobhljcainmdaaGreatJ08
set_option maxRecDepth 100000
set_option maxHeartbeats 8000000
set_option linter.all false
namespace Go.Proofs.YtpobhljcainmdaaGreat
open Go renaming World->an,Value->au,heap_alloc_new->bW,run_append_room_cells->GF,maxLen->bT,FuncId->bh,callsIn_wide->fT,Oper->dW,run_takeDeferred->Ct,grownBy_putObj'->Cp,Operand->mh,Addr->eV,Program->aN
open Go.Region renaming ready->dO,wanted->cL,schedule->UY,binds->sE
open _root_.List renaming range->dM,replicate->lZ
open Go.World renaming cell?_of_block->fC,putObj_heap_other->eX,size_alloc->yg,drewN_drewN->Vj
open Go.Builtin renaming clear_->tT,append_->nx
open _root_.Array renaming getD->vG,replicate->pR,getElem_range->TU,getElem_map->TT,mem_filter->TV
open Go.Sem renaming run_bind->ug
open Go.Value renaming ownBlock->uk
open Go.Result renaming andThen_ok->Mo
open Go.Instr renaming indexAt->xJ,loadAt->zN
open _root_.Prod renaming fst->xY
open Go.RowKit renaming intOf->gu
open Go.Conc renaming enter_at->sH,events_call_body->Mz,mem_seen->pX
open _root_.Nat renaming beq->sA,reduceAdd->oJ
open Go.Addr renaming add_lit->Lp
open Go.CallsIn renaming inRound->lV
open Go.Frame renaming finish_at->xG
open Go.Fence renaming wide->jQ
section
attribute [local go_sem] Oper.semAt_some
attribute [local go_sem] bq bg
open Go.Proofs.Tryz
open Go.RowKit Go.Shelf
structure Vr(W:an)(c rb mb ch:Nat)(sz cl qu mx qn rt bu wk ou de:Int)(k:Cl):Prop where
 box:∃v,GL W c k.no k.wt sz cl qu mx qn rt bu wk ou rb k.aO v k.tok de ch/\sQ W v k.out
 rd:∃a,dz W rb mb sz mx a []/\(k.ph≠4->a=k.ph)
 chan:W.heap[ch]? =some (.chan 0 #[] (decide (k.ph=4)) 0 0 false)
abbrev Aside(rb mb b:Nat)(x:Nat):Prop:=x=rb\/x=mb\/x=b\/x=b+1\/x=b+2\/x=b+3
section
theorem mz{W a:an}{row:Option Nat}{i:Nat}{o:Obj}(h:W.heap[i]? =some o)(b:W.grownBy a row)(hr:row≠some i):a.heap[i]? =some o:=
 (b.block i (aP.1 h).1 (fun e=>hr e.symm)).trans h
end
abbrev ReS(c rb a:Nat)(s:ByteArray)(W:an):Prop:=W.cell? (aa c 11)=some (aF rb)/\W.cell? (aa c 12)=some (.string s)/\W.cell? (aa a 0)=some (aF c)
theorem ReS.A7{c rb B0 s W x y}(h:ReS c rb B0 s W):ReS c rb B0 s ((W.alloc x).alloc y):=by have a:aB W ((W.alloc x).alloc y):=((Below.refl _ W).alloc (aV _) _).alloc aq _;exact⟨bp a h.1,bp a h.2.1,bp a h.2.2⟩
def ReA(c rb b a:Nat)(s:ByteArray)(x:aQ×Int)(d:Nat):Act:=
 {tmps:=#[aF c,aF a,aF d,aj x.2,aF c,.bool true,.bool false,aF c,aF c,.pointer (some (aa c 11)),aF rb,
   aF c,aF c,.pointer (some (aa c 12)),.string s,.func (.func 189) #[] #[aF b,aF (b+1)],
   .agg (ji x.1.wh x.1.nm x.1.kd x.1.fl x.1.ck x.1.of x.1.ln x.1.dt x.1.er),aj x.2,undef,undef,undef,undef,undef,undef,undef,undef,undef,undef,undef,undef,undef,undef,undef],defers:=[]}
def ReB(c rb b a:Nat)(s t:ByteArray)(m:aQ)(K:Nat)(d:Nat):Act:=
 {tmps:=#[aF c,aF a,aF d,aj K,aF c,.bool true,.bool false,aF c,aF c,.pointer (some (aa c 11)),aF rb,
   aF c,aF c,.pointer (some (aa c 12)),.string s,.func (.func 189) #[] #[aF b,aF (b+1)],
   .agg (eU m),aj K,aF c,aF c,aF c,.pointer (some (aa c 12)),.string t,aj K,.string (t.extract K t.size),aF c,.pointer (some (aa c 12)),undef,undef,undef,undef,undef,undef],defers:=[]}
def ReM(c rb b e:Nat)(s:ByteArray)(x:aQ×Int)(a:Act)(W:an):Prop:=∃d,b+4<=d/\W.heap[d]? =some (.cells (ji x.1.wh x.1.nm x.1.kd x.1.fl x.1.ck x.1.of x.1.ln x.1.dt x.1.er) 132 (0,0))/\a=ReA c rb b e s x d
theorem ReM.bears{c rb mb b d:Nat}{s:ByteArray}(m:rb<b)(n:mb<b)(x:aQ×Int):Bears (fun r=>ItR rb mb (b+1) r\/r=b+2+1) (ReM c rb b d s x):=by rintro a W l row ⟨f,g,i,j⟩ k hr;refine⟨f,g,mz i k (fun e=>?_),j⟩;rcases hr _ e with(h|h|h)|h<;>omega
abbrev vm(w1:an)(rb:Nat)(s:ByteArray):an:=((w1.alloc (.cells #[aF rb] 164)).alloc (.cells #[.string s] 9)).drew
theorem X3(w1 rb s):(vm w1 rb s).heap.size=w1.heap.size+2/\(vm w1 rb s).heap[w1.heap.size]? =some (.cells #[aF rb] 164 (0,0))/\(vm w1 rb s).heap[w1.heap.size+1]? =some (.cells #[.string s] 9 (0,0))/\aB w1 (vm w1 rb s):=by
 refine⟨aq,?_,?_,(((Below.refl _ w1).alloc (aV _) _).alloc aq _).drew⟩
 ·exact(Below.heap_alloc _ _ _ aq).trans (bW w1 _)
 ·have:=bW (w1.alloc (.cells #[aF rb] 164)) (.cells #[.string s] 9);rw[yg]at this;exact this
theorem y8{rb mb b X W W'}(d:aG X W W')(e:∀i,X i->¬Aside rb mb b i)(a:rb<W.heap.size)(c:mb<W.heap.size)(j:b+4<=W.heap.size):Two (b+2) W W'/\wo rb mb b (b+1) W W':=by have key:∀i,i<W.heap.size->Aside rb mb b i->W'.heap[i]? =W.heap[i]? :=fun i g f=>d.block i g fun h=>e i h f;exact⟨⟨key _ ak (by simp[Aside]),key _ ak (by simp[Aside])⟩,key _ a (by simp[Aside]),key _ c (by simp[Aside]),key _ ak (by simp[Aside]),key _ ak (by simp[Aside])⟩
theorem eL{W:an}{i j:Nat}{o a:Obj}(h:W.heap[i]? =some o)(c:W.heap[j]? =some a)(b:o≠a):i≠j:=fun e=>b (by grind)
theorem VT{sz mx m}(h:m.nm.size<=65535):(answer sz mx m).size<=65540:=by
 unfold answer;split
 ·split<;>exact(by decide:(1:Nat)<=65540)
 ·split
  ·split
   ·rw[ot,ot];exact(by decide:1+2+2<=65540)
   ·split
    ·exact(by decide:(1:Nat)<=65540)
    ·rw[ot];show 1+m.nm.size<=65540;omega
  ·exact(by decide:(0:Nat)<=65540)
theorem Q3{W v o i x}(h:sQ W v o)(c:W.heap[i]? =some x)(d:∀a,x≠.cells a 5 (0,0)):some i≠v.ownBlock:=fun e=>by
 rcases h.2 with⟨rfl,_⟩|⟨g,f,a,rfl,_,b,_⟩
 ·cases e
 ·cases e;exact d a (dm (c.symm.trans b))
theorem tM{X W W' i x}(h:aG X W W')(a:W.heap[i]? =some x)(b:¬X i):W'.heap[i]? =some x:=(h.block i (aP.1 a).1 b).trans a
def cu(cl:List (Option Nat)):List Nat:=cl.filterMap id
def jM(v:Option Nat):au:=.pointer (v.map fun c=>⟨c,0,none⟩)
theorem abw{cl:List (Option Nat)}{i c:Nat}(h:cl[i]? =some (some c)):cu (cl.take (i+1))=cu (cl.take i)++[c]:=by rw[sr,h];simp[cu]
theorem abv{cl:List (Option Nat)}{i:Nat}(h:cl[i]? =some none):cu (cl.take (i+1))=cu (cl.take i):=by rw[sr,h];simp[cu]
theorem abx(cl i):∃r,cu cl=cu (cl.take i)++r:=⟨cu (cl.drop i),by unfold cu;rw[<-List.filterMap_append,oH]⟩
abbrev wZ(c:Nat):Array au:=#[aF c]
theorem EP(xb w):
  Calls prog 59 #[aF xb] w fun e c=>e=.returned (.func (.func 96) #[] #[aF w.heap.size])/\c=w.alloc (.cells #[aF xb] 36):=by
 have d:∀(b:Fn) (first a:Array au) (w:an),(Instr.makeFunc b first a).run prog w=.ok (.func b first a) w:=fun _ _ _ _=>rfl;go_enter func59,ntmps59;go_wp2;go_ret;exact⟨rfl,rfl⟩
theorem ES(n)(M:1<=n)(cb xb sb N cl W)(G:W.cell? (aa cb 0)=some (aF xb))(O:W.cell? (aa xb 9)=some (.slice (some (aa sb 0)) N N))(K:cl.length=N)(F:N<=65535)(x:∀(j:Nat) v,cl[j]? =some v->W.cell? (aa sb j)=some (jM v)):
  Iter jQ n prog 96 #[aF cb] wZ (fun _=>False) (fun A B=>B.heap[sb]? =A.heap[sb]?) (fun d=>∃r,cu cl=d++r)
   (fun d _=>d=cu cl) (fun pre _=>∃r,cu cl=pre++r) W:=by
 intro l J z D E w q;refine callsIn_of_wp func96 rfl trivial ?_ rfl;simp only[ntmps96,iH,eD,iF,oJ,Nat.reduceSub,tR,tS,ud,tX,pW,jR]
 gi_wp2
 gi_loopw [10] (fun i wr=>∃j:Nat,j<=N/\i=aj j/\Hid (J (cu (cl.take j)) wr/\wr.heap[sb]? =W.heap[sb]?)) (fun i _=>N-(gu i).toNat)
 case atStart=>exact⟨0,eE _,rfl,q,rfl⟩
 case round=>
  obtain⟨j,H,rfl,a⟩:=hrel
  by_cases L:j<N
  ·have y:decide ((j:Int)<(N:Int))=true:=bK;obtain⟨v,hv⟩:∃v,cl[j]? =some v:=⟨cl[j],by rw[dN]⟩
   have m:wr.cell? (aa sb j)=some (jM v):=by rw[fC a.out.2];exact x j v hv
   cases v with
   |none=>
    simp only[jM,Cg]at m
    gi_wp2
    refine⟨fun _ h=>(by cases h),?_⟩
    gi_wp2
    go_roundw
    case rel=>exact⟨j+1,ak,by go_num,by rw[(aL (abv hv)).out];exact a.out.1,a.out.2⟩
    case measure=>simp[gu];omega
   |some c=>
    have f:=aL (abw hv)
    have g:Hid (∃r,cu cl=(cu (cl.take j)++[c])++r):=by have:=abx cl (j+1);rw[f.out]at this;exact this
    simp only[jM,qV]at m;obtain⟨C,Q,assign,body,P,u⟩:=w (cu (cl.take j)) c wr a.out.1 g.out
    gi_wp2
    refine u.mono ?_;rintro e k (⟨rfl,s,o⟩|⟨rfl,t,o⟩)
    ·have b:Hid (J (cu (cl.take (j+1))) k/\k.heap[sb]? =W.heap[sb]?):=⟨by rw[f.out];exact s,o.trans (aL a.out.2).out⟩
     gi_wp2
     go_roundw
     case rel=>exact⟨j+1,ak,by go_num,b.out⟩
     case measure=>simp[gu];omega
    ·have b:=aL t
     gi_wp2
     refine bodyPost_ret (results_none rfl _ _ _) rfl ?_;exact⟨⟨_,rfl⟩,.inr ⟨_,g.out,b.out⟩⟩
  ·have y:decide ((j:Int)<(N:Int))=false:=bK;have I:j=N:=ak
   have p:Hid (J (cu cl) wr):=by have:=a.out.1;rw[su ak]at this;exact this
   gi_wp2
   exact dZ rfl rfl ⟨⟨_,rfl⟩,.inl ⟨_,rfl,p.out⟩⟩
theorem Er(c n w)(h:w.cell? (aa c 0)=some (aj n)):
  fE 112 #[aF c] w (aj n):=by
 go_enter func112,ntmps112;go_wp2;go_ret;exact⟨rfl,rfl⟩
structure sS(W:an)(xb sb N:Nat)(cl:List (Option Nat)):Prop where
 sl:W.cell? (aa xb 9)=some (.slice (some (aa sb 0)) N N)
 len:cl.length=N
 small:N<=65535
 at_:∀(j:Nat) v,cl[j]? =some v->W.cell? (aa sb j)=some (jM v)
 row:∃o,W.heap[sb]? =some o
theorem sS.old{W W' xb sb N cl}(h:sS W xb sb N cl)(a:aB W W'):sS W' xb sb N cl:=
 ⟨bp a h.sl,h.len,h.small,fun j v b=>bp a (h.at_ j v b),by obtain⟨o,c⟩:=h.row;exact⟨o,bD a c⟩⟩
abbrev fiA(xb:Nat)(u:Int)(B:Nat)(c:Nat):Act:=
 {tmps:=#[aF xb,aj u,undef,aF B,aF (B+1),aF c,aF xb,.func (.func 96) #[] #[aF (B+1+1)],aF c,undef,undef,undef,undef,undef],defers:=[]}
abbrev fiB(xb:Nat)(u:Int)(B:Nat)(c:Nat)(k:Int)(y:Bool):Act:=
 {tmps:=#[aF xb,aj u,undef,aF B,aF (B+1),aF c,aF xb,.func (.func 96) #[] #[aF (B+1+1)],aF c,aF c,aj k,aj u,.bool y,undef],defers:=[]}
theorem bH{w:an}{b k i:Nat}{v:au}(a:k≠b):(w.setCell (aa b i) v).heap[k]? =w.heap[k]? :=Below.heap_setCell w ⟨b,i,none⟩ v k a
def FiI(w:an)(u:Int)(no:Nat->Int)(pre:List Nat)(W:an):Prop:=
 aB w W/\W.heap[w.heap.size]? =some (.cells #[aj u] 3 (0,0))/\W.heap[w.heap.size+1]? =some (.cells #[.pointer none] 119 (0,0))/\∀c∈pre,no c≠u
def FiX(w:an)(u:Int)(no:Nat->Int)(pre:List Nat)(W:an):Prop:=
 aB w W/\∃a c,pre=a++[c]/\(∀c∈a,no c≠u)/\no c=u/\W.heap[w.heap.size+1]? =some (.cells #[aF c] 119 (0,0))
abbrev wH(w:an)(xb:Nat)(u:Int):an:=((w.alloc (.cells #[aj u] 3)).alloc (.cells #[.pointer none] 119)).alloc (.cells #[aF xb] 36)
theorem Ym(xb C N:Nat)(cl:List (Option Nat))(u:Int)(no:Nat->Int)(w:an)(hS:sS w xb C N cl)(bg:∀c∈cu cl,w.cell? (aa c 0)=some (aj (no c))):
  CallsIn jQ 3 prog 68 #[aF xb,aj u] w fun e w'=>e=.returned (jM ((cu cl).find? fun c=>decide (no c=u)))/\aB w w':=by
 refine callsIn_of_wp_marks func68 rfl trivial ?_ rfl;simp only[ntmps68,iH,eD,iF,oJ,Nat.reduceSub,tR,tS,ud,tX,pW,jR]
 gi_wp2_with (first|(refine⟨trivial,?_⟩;gi_at_call 59;refine(fT.2 (EP xb _)).mono ?_;rintro e w1 ⟨rfl,rfl⟩))
 have U:aB w (wH w xb u):=(aR.alloc aq _).alloc bK _;have bl:(wH w xb u).heap.size=w.heap.size+3:=aq;have e1:(wH w xb u).heap[w.heap.size]? =some (.cells #[aj u] 3 (0,0)):=(Below.heap_alloc _ _ _ bK).trans ((Below.heap_alloc _ _ _ aq).trans (bW w _));have e2:(wH w xb u).heap[w.heap.size+1]? =some (.cells #[.pointer none] 119 (0,0)):=(Below.heap_alloc _ _ _ aq).trans (by have:=bW (w.alloc (.cells #[aj u] 3)) (.cells #[.pointer none] 119);rwa [yg]at this);have e3:(wH w xb u).heap[w.heap.size+1+1]? =some (.cells #[aF xb] 36 (0,0)):=by have:=bW ((w.alloc (.cells #[aj u] 3)).alloc (.cells #[.pointer none] 119)) (.cells #[aF xb] 36);rwa [yg,yg]at this
 have bz:C<w.heap.size:=by obtain⟨o,ho⟩:=hS.row;exact(aP.1 ho).1
 show Code.wpIn jQ 3 prog _ _ _ (wH w xb u);generalize wH w xb u=g at*;have aZ:FiI w u no [] g:=⟨U,e1,e2,fun c h=>by cases h⟩
 have bI:Bears (fun r=>False\/r=g.heap.size+1) (FiI w u no):=by
  rintro pre W E row ⟨y,L,M,O⟩ q hr;have s:∀r,row=some r->r=w.heap.size+4:=fun r e=>by rcases hr r e with h|h;cases h;omega
  exact⟨y.grown q y.size (fun k e=>by have:=s k e;omega),mz L q (fun e=>by have:=s _ e;omega),mz M q (fun e=>by have:=s _ e;omega),O⟩
 have bX:Bears (fun r=>False\/r=g.heap.size+1) (FiX w u no):=by
  rintro pre W E row ⟨y,az,c,L,M,O,h5⟩ q hr;have s:∀r,row=some r->r=w.heap.size+4:=fun r e=>by rcases hr r e with h|h;cases h;omega
  exact⟨y.grown q y.size (fun k e=>by have:=s k e;omega),az,c,L,M,O,mz h5 q (fun e=>by have:=s _ e;omega)⟩
 refine yW (w:=g) rfl cq (gf:=96) (lb:=#[aF (w.heap.size+1+1)]) rfl trivial (enters_of func96 aI rfl) (encs:=wZ) (fun _=>rfl)
  (R:=fun _=>False) (Kp:=fun A B=>B.heap[C]? =A.heap[C]?) (V:=fun x=>∃r,cu cl=x++r) (S:=fun x _=>x=cu cl) (Sp:=fun pre _=>∃r,cu cl=pre++r)
  (fun W hW=>?seq) (fun r h=>h.elim) (fun h k=>k.trans h) (fun W o=>eX ak) (fun x W E row h _ _=>h) (fun x W E row h _ _=>h)
  (FiI w u no) (FiX w u no) bI bX aZ (fun c a _=>a=fiA xb u w.heap.size c) (fun c a W E row h _ _=>h) ?assign ?body ?done ?stop
 case seq=>
  have bf:aB w W:=U.grown hW U.size (fun k e=>by cases e);have wE:=mz e3 hW aq;have F:=hS.old bf;exact ES 2 cq (w.heap.size+1+1) xb C N cl W (av wE rfl) F.sl F.len F.small F.at_
 case assign=>
  rintro l pre c W K b hv fN d
  gi_wp2
  exact d _ W ⟨rfl,rfl⟩ rfl b rfl
 case body=>
  rintro l pre c a' W b rfl ⟨r,hv⟩ fN;have X:c∈cu cl:=by rw[hv];simp
  have Z:W.cell? (aa c 0)=some (aj (no c)):=bp b.1 (bg c X);have cU:=aE W w.heap.size 0 (aj u) b.2.1;have cR:=aE W (w.heap.size+1) 0 (.pointer none) b.2.2.1;have fR:=aS b.2.2.1 0;have D:=aL b;clear b
  by_cases t:no c=u
  ·have bn:(no c==u)=true:=by simpa using t
   have G:=aL t;clear t
   gi_wp2
   rename_i H z;have T:=z
   have I:H (fiB xb u w.heap.size c (no c) true) W.drew:=by
    refine T _ _ ?_;unfold fiB;clear z
    gi_wp2
    obtain⟨f,Y,m,n⟩:=D.out;rw[bl];refine⟨⟨?_,?_⟩,?_,?_,pre,c,rfl,n,G.out,?_⟩
    ·exact bH ak
    ·exact bH ak
    ·exact bH ak
    ·exact f.drew.setCell (p:=aa (w.heap.size+1) 0) (ju _) _
    ·exact bV (w:=W.drew) m 0 _
   refine Lm (S:=fun W=>W.cell? (aa w.heap.size 0)=some (aj u)) 3 aI cU fun Q=>?_;refine jk 0 ?_;refine js 2 ?_;refine jr 1 fun K d=>?_;go_simp;refine⟨trivial,?_⟩;refine(lV l (fT.2 (Er c (no c) W.drew Z))).mono ?_;rintro e w1 ⟨rfl,rfl⟩;refine d.out _ _ Q fun _=>?_;refine jz fun K d=>?_;go_simp;refine d.out _ _ ?_;refine Ll aI ?_ _;exact I
  ·have bn:(no c==u)=false:=by simpa using t
   have G:=aL t;clear t
   gi_wp2
   rename_i H z;have T:=z
   have I:H (fiB xb u w.heap.size c (no c) false) W.drew:=by
    refine T _ _ ?_;unfold fiB;clear z
    gi_wp2
    obtain⟨f,Y,m,n⟩:=D.out;refine⟨⟨rfl,rfl⟩,rfl,f.drew,Y,m,fun J j=>?_⟩;rcases kU.1 j with h|h
    ·exact n J h
    ·rw[mM.1 h];exact G.out
   refine Lm (S:=fun W=>W.cell? (aa w.heap.size 0)=some (aj u)) 3 aI cU fun Q=>?_;refine jk 0 ?_;refine js 2 ?_;refine jr 1 fun K d=>?_;go_simp;refine⟨trivial,?_⟩;refine(lV l (fT.2 (Er c (no c) W.drew Z))).mono ?_;rintro e w1 ⟨rfl,rfl⟩;refine d.out _ _ Q fun _=>?_;refine jz fun K d=>?_;go_simp;refine d.out _ _ ?_;refine Ll aI ?_ _;exact I
 case done=>
  rintro x W rfl b P;have cR:=aE W (w.heap.size+1) 0 (.pointer none) b.2.2.1;have fR:=aS b.2.2.1 0;have D:=aL b;clear b
  gi_wp2
  obtain⟨f,Y,m,n⟩:=D.out;have aY:(W.setCell (aa (w.heap.size+1) 0) (.pointer none)).heap[g.heap.size]? =some (.deferred (some [])):=mU P ak _ _;have IB:(W.setCell (aa (w.heap.size+1) 0) (.pointer none)).heap[w.heap.size+1]? =some (.cells #[.pointer none] 119 (0,0)):=bV m 0 _;have j:=av (w:=(W.setCell (aa (w.heap.size+1) 0) (.pointer none)).putObj g.heap.size (.deferred none)) ((eX ak).trans IB) (i:=0) (v:=.pointer none) rfl;refine⟨aq,.inl ⟨_,_,rfl,Ct aY,.pointer none,by simp[results,results68,go_sem,j],?_,?_⟩⟩
  ·rw[Gf.2 (fun c X=>by simpa using n c X)];rfl
  ·exact(f.setCell (p:=aa (w.heap.size+1) 0) (ju _) _).grown (Cp _ _ _) (by have:=f.size;simpa using this) (fun k e=>by cases e;omega)
 case stop=>
  rintro pre W ⟨r,hv⟩ hx P;have HX:=aL hx;clear hx
  gi_wp2
  obtain⟨f,az,c,rfl,m,n,i5⟩:=HX.out;have j:=av (w:=W.putObj g.heap.size (.deferred none)) ((eX ak).trans i5) (i:=0) (v:=aF c) rfl;refine⟨aq,.inl ⟨_,_,rfl,Ct P,aF c,by simp[results,results68,go_sem,j],?_,?_⟩⟩
  ·have e:(cu cl).find? (fun c=>decide (no c=u))=some c:=by
    rw[hv,BQ,List.find?_append,Gf.2 (fun J j=>by simpa using m J j)];simp[n]
   rw[e];rfl
  ·exact f.grown (Cp _ _ _) f.size (fun k e=>by cases e;omega)
theorem OA(xb a N:Nat)(cl:List (Option Nat))(u:Int)(no:Nat->Int)(w:an)(hS:sS w xb a N cl)(b:∀c∈cu cl,w.cell? (aa c 0)=some (aj (no c))):
  bz 68 #[aF xb,aj u] w (jM ((cu cl).find? fun c=>decide (no c=u))):=fT.1 (Ym xb a N cl u no w hS b)
end
section
attribute [local go_sem ↓] Go.wp_at_zero Go.wp_at_succ
attribute [local go_sem] bq bg
open Go.Proofs.Tryz
open Go.RowKit
section
end
theorem aau(rb p w)(h:w.cell? (aa rb 2)=some (aj p)):
  fE 170 #[aF rb] w (aj p):=by
 go_enter func170,ntmps170;go_wp2;go_ret;exact⟨rfl,rfl⟩
theorem pP{x}(a:-9223372036854775808<=x)(b:x<=9223372036854775807):IntKind.i64.wrap x=x:=by rw[IntKind.wrap_i64];omega
theorem aG.drew'{X a w}(h:aG X a w):aG X a w.drew:=⟨h.os,h.size,h.block⟩
abbrev feL(sz cl f c e rt a h d:Int)(g N:Nat)(dw clock:Int)(stop:Bool)(az:Int)(b:Option eV):Array au:=
 #[aj sz,aj cl,aj f,aj c,aj e,aj rt,aj a,aj h,aj d,.slice (some (aa g 0)) N N,aj dw,aj 0,aj 0,aj clock,.bool stop,aj az,.bool false,.slice none 0 0,.slice none 0 0,.pointer b,.slice none 0 0]
abbrev Vu(W:an)(xb:Nat)(sz cl f c e rt a h d:Int)(g N:Nat)(dw clock:Int)(stop:Bool)(az:Int)(b:Option eV):Prop:=
 W.heap[xb]? =some (.cells (feL sz cl f c e rt a h d g N dw clock stop az b) 112 (0,0))
def ni(cs:List (Option Nat)):Array au:=(cs.map jM).toArray
abbrev wu(W:an)(a:Nat)(cs:List (Option Nat)):Prop:=W.heap[a]? =some (.cells (ni cs) 119 (0,0))
theorem tH{cs}{j:Nat}{v:Option Nat}(h:cs[j]? =some v):(ni cs)[j]? =some (jM v):=by simp[ni,h]
theorem RP{cs}(j)(v:Option Nat):(ni cs).setIfInBounds j (jM v)=ni (cs.set j v):=by simp[ni,List.map_set]
theorem ze{α:Type}{l:List α}{j:Nat}{a:α}(h:l[j]? =some a):l.set j a=l:=by obtain⟨b,c⟩:=ed.1 h;rw[<-c];exact List.set_getElem_self b
theorem XW(a w):(binOp .eql 119 (.pointer none) (.pointer (some a))).run prog w=.ok (.bool false) w:=by
 have b:(Op.equal 119 (.pointer none) (.pointer (some a))).run prog w=.ok false w:=by unfold Op.equal;rw[show Op.maxDepth=9999+1 from rfl];unfold Op.equalIn;rw[ug,run_underlying underlying119];rfl
 unfold binOp;rw[ug,b];rfl
def YG(cs:List (Option Nat))(j:Nat):Prop:=cs[j]? =some none/\∀i,i<j->cs[i]? ≠some none
theorem j8(sb N cs w)(hR:wu w sb cs)(o:cs.length=N)(l:N<=65535):
  Calls prog 72 #[.slice (some (aa sb 0)) N N,.pointer none] w fun e k=>k=w/\((∃j:Nat,e=.returned (aj j)/\YG cs j)\/(e=.returned (aj (-1))/\∀i:Nat,cs[i]? ≠some none)):=by
 go_enter func72,ntmps72;go_wp2
 go_loop [8] (fun i=>∃j:Nat,j<=N/\i=aj j/\Hid (∀i,i<j->cs[i]? ≠some none)) (fun i=>N-(gu i).toNat)
 case atStart=>exact⟨0,eE _,rfl,fun i h=>by omega⟩
 case round=>
  obtain⟨j,n,rfl,b⟩:=hrel
  by_cases p:j<N
  ·have g:decide ((j:Int)<(N:Int))=true:=bK;obtain⟨v,hv⟩:∃v,cs[j]? =some v:=⟨cs[j],by rw[dN]⟩;have f:=av hR (tH hv);have d:=aL hv;cases v with
   |none=>
    simp only[jM,Cg]at f;go_wp2;go_ret;exact⟨rfl,.inl ⟨j,rfl,d.out,b.out⟩⟩
   |some c=>
    simp only[jM,qV]at f;have m:=XW ⟨c,0,none⟩ w;go_wp2
    go_round
    case rel=>
     refine⟨j+1,ak,by go_num,fun i a=>?_⟩
     by_cases e:i=j
     ·subst e;rw[d.out];simp
     ·exact b.out i ak
    case measure=>simp[gu];omega
  ·have g:decide ((j:Int)<(N:Int))=false:=bK;go_wp2;go_ret;refine⟨rfl,.inr ⟨rfl,fun i a=>?_⟩⟩;have:=(ed.1 a).1;exact b.out i ak a
end
section
attribute [local go_sem ↓] Go.wp_at_zero Go.wp_at_succ
attribute [local go_sem] bq bg
open Go.Conc Go.RowKit
open Go.Proofs.Tryz
def Cl.fresh(no wt bu:Int):Cl:=⟨no,wt,0,⟨#[]⟩,⟨#[]⟩,bu⟩
abbrev gJ(b:Nat)(sz cl qu mx qn rt bu wk ou:Int)(W:an):Prop:=W.cell? (aa b 0)=some (aj sz)/\W.cell? (aa b 1)=some (aj cl)/\W.cell? (aa b 2)=some (aj qu)/\W.cell? (aa b 3)=some (aj mx)/\W.cell? (aa b 4)=some (aj qn)/\W.cell? (aa b 5)=some (aj rt)/\W.cell? (aa b 6)=some (aj bu)/\W.cell? (aa b 7)=some (aj wk)/\W.cell? (aa b 8)=some (aj ou)
section
variable {b:Nat} {sz cl qu mx qn rt bu wk ou:Int} {W W':an}
theorem gJ.later(h:gJ b sz cl qu mx qn rt bu wk ou W)(a:aB W W'):gJ b sz cl qu mx qn rt bu wk ou W':=
 ⟨bp a h.1,bp a h.2.1,bp a h.2.2.1,bp a h.2.2.2.1,bp a h.2.2.2.2.1,bp a h.2.2.2.2.2.1,bp a h.2.2.2.2.2.2.1,bp a h.2.2.2.2.2.2.2.1,bp a h.2.2.2.2.2.2.2.2⟩
theorem gJ.a1{x}(h:gJ b sz cl qu mx qn rt bu wk ou W):gJ b sz cl qu mx qn rt bu wk ou (W.alloc x):=h.later ((Below.refl _ W).alloc (aV _) _)
theorem gJ.a3{x y z}(h:gJ b sz cl qu mx qn rt bu wk ou W):gJ b sz cl qu mx qn rt bu wk ou (((W.alloc x).alloc y).alloc z):=h.a1.a1.a1
end
theorem F9(w):(Instr.makeChan 166 (aj 0)).run prog w=.ok (.chan (some w.heap.size)) (w.alloc (.chan 0 #[] false 0 0 false)):=by have h:(prog.info? 169).map (·.bytes)=some 0:=aI;obtain⟨i,a,c⟩:=ep.1 h;simpa using run_makeChan underlying166 a .i64 0 ak ak
def CI(w:an)(sz cl qu mx qn rt bu wk ou no wt:Int)(e:Ending)(w':an):Prop:=
 ∃c d f a,e=.returned (aF c)/\Vr w' c d f a sz cl qu mx qn rt bu wk ou 0 (Cl.fresh no wt bu)/\GL w' c no wt sz cl qu mx qn rt bu wk ou d ⟨#[]⟩ (.slice none 0 0) bu 0 a/\aB w w'/\w.heap.size<=c/\w.heap.size<=d/\w.heap.size<=f/\w.heap.size<=a
theorem fI{W:an}{o x:Obj}{k:Nat}(h:W.heap[k]? =some x):(W.alloc o).heap[k]? =some x:=(Below.heap_alloc W o k (aP.1 h).1).trans h
theorem new1{W:an}{o:Obj}{k:Nat}(h:k=W.heap.size):(W.alloc o).heap[k]? =some o:=by subst h;exact bW W o
theorem QO{w V rb mb ch c}(sz cl qu mx qn rt bu wk ou no wt)(m:aB w V)(j:V.heap[rb]? =some (.cells #[aj sz,aj mx,aj 0,.map (some mb)] 228 (0,0)))(k:V.heap[mb]? =some (.map #[] 0))(l:V.heap[ch]? =some (.chan 0 #[] false 0 0 false))(d:GL V c no wt sz cl qu mx qn rt bu wk ou rb ⟨#[]⟩ (.slice none 0 0) bu 0 ch)(f:w.heap.size<=c)(g:w.heap.size<=rb)(h:w.heap.size<=mb)(i:w.heap.size<=ch):CI w sz cl qu mx qn rt bu wk ou no wt (.returned (aF c)) V:=by obtain⟨o,n,a,e⟩:=World.ownsMap_made w prog 3 unitElem;rw[bW]at a;cases a;exact⟨c,rb,mb,ch,rfl,⟨⟨_,d,World.ownsRow_nil _ _ _ _⟩,⟨0,⟨j,#[],0,k,e⟩,fun _=>rfl⟩,l⟩,d,m,f,g,h,i⟩
theorem I7(w sz cl qu mx qn rt bu wk ou no wt):CI w sz cl qu mx qn rt bu wk ou no wt (.returned (aF (w.heap.size+1+1+1+1+1)))
  ((((((w.alloc (.cells (fc sz cl qu mx qn rt bu wk ou) 35)).alloc (.cells (fc sz cl qu mx qn rt bu wk ou) 35)).alloc (.map #[] 0)).alloc (.cells #[aj sz,aj mx,aj 0,.map (some (w.heap.size+1+1))] 228)).alloc (.chan 0 #[] false 0 0 false)).alloc (.cells (clL no wt sz cl qu mx qn rt bu wk ou (w.heap.size+1+2) ⟨#[]⟩ (.slice none 0 0) bu 0 (w.heap.size+1+1+1+1)) 168)).drew:=by
 refine QO (rb:=w.heap.size+1+2) (mb:=w.heap.size+1+1) (ch:=w.heap.size+1+1+1+1) sz cl qu mx qn rt bu wk ou no wt ?_ ?_ ?_ ?_ ?_ ak ak ak ak
 ·exact((((aR.alloc aq _).alloc bK _).alloc bK _).alloc bK _).alloc bK _ |>.drew
 ·exact fI (fI (new1 aq))
 ·exact fI (fI (fI (new1 aq)))
 ·exact fI (new1 aq)
 ·exact new1 aq
theorem I8(w sz cl qu mx qn rt bu wk ou no wt):CI w sz cl qu mx qn rt bu wk ou no wt (.returned (aF (w.heap.size+1+1+1+1+1)))
  ((((((w.alloc (.cells (fc sz cl qu mx qn rt bu wk ou) 35)).alloc (.chan 0 #[] false 0 0 false)).alloc (.cells (fc sz cl qu mx qn rt bu wk ou) 35)).alloc (.map #[] 0)).alloc (.cells #[aj sz,aj mx,aj 0,.map (some (w.heap.size+1+1+1))] 228)).alloc (.cells (clL no wt sz cl qu mx qn rt bu wk ou (w.heap.size+1+1+2) ⟨#[]⟩ (.slice none 0 0) bu 0 (w.heap.size+1)) 168)).drew:=by
 refine QO (rb:=w.heap.size+1+1+2) (mb:=w.heap.size+1+1+1) (ch:=w.heap.size+1) sz cl qu mx qn rt bu wk ou no wt ?_ ?_ ?_ ?_ ?_ ak ak ak ak
 ·exact((((aR.alloc aq _).alloc bK _).alloc bK _).alloc bK _).alloc bK _ |>.drew
 ·exact fI (new1 aq)
 ·exact fI (fI (new1 aq))
 ·exact fI (fI (fI (fI (new1 aq))))
 ·exact new1 aq
theorem WT(sz cl qu mx qn rt bu wk ou no wt w):
  Calls prog 73 #[.agg (fc sz cl qu mx qn rt bu wk ou),aj no,aj wt] w (CI w sz cl qu mx qn rt bu wk ou no wt):=by
 have l:=F9;go_enter func73,ntmps73
 go_upto_region 1 with fail
 refine dR (S:=gJ w.heap.size sz cl qu mx qn rt bu wk ou) ⟨by simp[go_sem],by simp[go_sem],by simp[go_sem],by simp[go_sem],by simp[go_sem],by simp[go_sem],by simp[go_sem],by simp[go_sem],by simp[go_sem]⟩ fun c=>?_;refine tk 0 ?_;refine tk 1 ?_;refine tk 2 ?_;refine tk 3 ?_;refine tk 5 ?_;refine tk 6 ?_;refine aH [4,7] (.cons rfl (fun K a=>?_) ?_)
 ·go_simp
  (refine(QR sz cl qu mx qn rt bu wk ou 0 _).mono ?_;rintro e i ⟨rfl,rfl⟩)
  go_wp2_with fail;refine a.out _ _ (gJ.a3 c) (fun d=>?_);clear a K;refine rH 7 fun K a=>?_;go_simp;refine a.out _ _ (gJ.a1 d) (fun f=>?_);clear a K;refine tk 8 ?_;refine rH 9 fun K a=>?_;go_simp;refine a.out _ _ (gJ.a1 f) (fun j=>?_);clear a K;refine tk 10 ?_;refine cK ?_
  (go_wp2_with fail;go_ret;exact I7 w sz cl qu mx qn rt bu wk ou no wt)
 refine .cons rfl (fun K a=>?_) .nil;go_simp;refine a.out _ _ (gJ.a1 c) (fun g=>?_);clear a K;refine rH 4 fun K a=>?_;go_simp
 (refine(QR sz cl qu mx qn rt bu wk ou 0 _).mono ?_;rintro e i ⟨rfl,rfl⟩)
 go_wp2_with fail;refine a.out _ _ (gJ.a3 g) (fun h=>?_);clear a K;refine tk 8 ?_;refine rH 9 fun K a=>?_;go_simp;refine a.out _ _ (gJ.a1 h) (fun k=>?_);clear a K;refine tk 10 ?_;refine cK ?_
 (go_wp2_with fail;go_ret;exact I8 w sz cl qu mx qn rt bu wk ou no wt)
end
section
attribute [local go_sem ↓] Go.wp_at_zero Go.wp_at_succ
open Go.Conc Go.RowKit
open Go.ConcN (sumTo)
open Go.Proofs.Tryz
section
variable [aA] {a:Act} {ops:Array dW} {o:dW}
def yB(ops:Array dW)(a:Act)(o:dW):Prop:=cL o (yielded ops a.tmps)=true
theorem aej{j p oj b}(f:o.guard=some (j,b))(g:ops[j]? =some oj)(e:oj.dst=some p)(h:p<a.tmps.size)(hv:a.eval (.tmp p)=.bool (!b)):cL o (yielded ops a.tmps)=false:=by
 have d:a.tmps[p]? =some (.bool (!b)):=by have:a.tmps[p]? =some a.tmps[p]:=cw h;rw[this];have c:=ev hv;rw[this]at c;exact dG some c
 cases b<;>simp[cL,f,yielded,g,e,d]
end
structure jV(a a':Act)(d:Nat)(v:au):Prop where
 size:a'.tmps.size=a.tmps.size
 defers:a'.defers=a.defers
 same:∀k,k≠d->a'.eval (.tmp k)=a.eval (.tmp k)
 new:d<a.tmps.size->a'.eval (.tmp d)=v
theorem yS(a d v):jV a (a.put (some d) v) d v:=⟨Ru _ _ _,put_defers _ _ _,fun _ h=>Oi v h,fun h=>Oj v h⟩
section
variable [aA] {P:aN} {Q:Exit->Act->an->Prop} {a:Act} {u u1:an} {ops:Array dW} {i k:Nat} {o:dW} {Lf:bh->List Nat} {f0:bh} {dn:Nat} {v:au} {x:Int}
def gA(Lf:bh->List Nat)(f0:bh)(dn:Nat)(P:aN)(b:Region.Mode)(ops:Array dW)(Q:Exit->Act->an->Prop):Nat->Array Bool->Act->an->Prop
 |0,listed,a,u=>dO b ops listed=[]/\FO Lf f0 dn P ops Q [] a u
 |n+1,listed,a,u=>(dO b ops listed=[]->FO Lf f0 dn P ops Q [] a u)/\
  ∀i∈dO b ops listed,∀is,(∀c d,gA Lf f0 dn P b ops Q n (listed.setIfInBounds i true) c d->FO Lf f0 dn P ops Q is c d)->FO Lf f0 dn P ops Q (i::is) a u
theorem gA.sound{md}:∀(fuel t:Nat) (listed:Array Bool) (a:Act) (u:an),gA Lf f0 dn P md ops Q fuel listed a u->FO Lf f0 dn P ops Q (Region.linearise.go md ops fuel t listed []) a u:=by
 intro fuel;induction fuel with
 |zero=>intro t listed a u h;simpa[Region.linearise.go]using h.2
 |succ fuel m=>
  intro t listed a u h;obtain⟨j,l⟩:=h;simp only[Region.linearise.go]
  change FO Lf f0 dn P ops Q (match(dO md ops listed)[t %(dO md ops listed).length]? with
   |some i=>Region.linearise.go md ops fuel (t / (dO md ops listed).length) (listed.setIfInBounds i true) [i]
   |none=>[].reverse) a u
  cases b:(dO md ops listed)[t %(dO md ops listed).length]? with
  |none=>
   have g:dO md ops listed=[]:=by
    cases hr:dO md ops listed with
    |nil=>rfl
    |cons x c=>
     rw[hr]at b;have f:t %(x::c).length<(x::c).length:=xT _ aq;simp at b;simp at f;omega
   simpa using j g
  |some i=>
   simp only[];rw[linearise_go_acc,List.reverse_singleton,List.singleton_append];exact l i (iG b) _ fun d n e=>m _ _ d n e
theorem FX.Y9{id}(h:∀x,FO Lf f0 dn P ops Q (UY (P.follows .mixedOrders) ops x) a {u with drawn:=u.drawn+1}):FX Lf f0 dn P (.region id ops true) Q a u:=fun b k cs d e f g=>by
 haveI:aW:=bE []
 exact .one fun l S j gs w t q c _=>⟨_,cs,{u with drawn:=u.drawn+1},j,{w with drawn:=w.drawn+1},#[],stepG_region_draw,⟨⟨Ren.le_refl _,aV _,fun _ _ _=>rfl,fun _ _ h=>.inl h,rfl,rfl,rfl⟩,⟨c.world.one,c.world.lt,c.world.obj,c.world.low,c.world.base,c.world.calm,c.world.os⟩,c.whole,c.same,c.size,aq,⟨c.top.tmps,c.top.kind,c.top.known⟩,c.low,c.full⟩,h _ b k cs d e f g⟩
theorem FX.Y8{id}(hm:P.follows .mixedOrders=true)(h:gA Lf f0 dn P .any ops Q ops.size (pR ops.size false) a {u with drawn:=u.drawn+1}):FX Lf f0 dn P (.region id ops true) Q a u:=
 FX.Y9 fun t=>by simp only[UY,hm,Bool.true_or,cD];exact gA.sound ops.size t _ a _ h
def lO(ops:Array dW)(i:Nat):List Nat:=match ops[i]? with
 |none=>[]
 |some o=>(o.after.filter fun e=>sE .any e).toList.map (·.on)
def NK(ops:Array dW)(k:Nat):Bool:=(dM k).all fun i=>(dM (k+1)).any fun j=>decide (i<j)&&(lO ops j).contains i
def fY(ops:Array dW)(i:Nat):Nat:=((ops[i]?).bind (·.dst)).getD 0
def sW(n k:Nat):Array Bool:=(Array.range n).map fun i=>decide (i<k)
theorem Y3{listed}(h:i∈dO .any ops listed):i<ops.size/\listed.getD i true=false/\∀j∈lO ops i,listed.getD j false=true:=by unfold dO at h;obtain⟨n,b⟩:=vR.1 h;have g:=lY.1 n;simp only[cm,xD]at b;refine⟨g,b.1,fun j d=>?_⟩;have l:=cw g;have c:=b.2;rw[l]at c;simp at c;unfold lO at d;rw[l]at d;obtain⟨e,p,rfl⟩:=iV.1 d;have f:=TV.1 (tQ.1 p);obtain⟨m,hm,q⟩:=vI.1 f.1;have:=c m hm;rw[q,f.2]at this;simpa using this
theorem Y4{listed}(c:i<ops.size)(e:listed.getD i true=false)(f:∀j∈lO ops i,listed.getD j false=true):i∈dO .any ops listed:=by
 unfold dO;refine vR.2 ⟨lY.2 c,?_⟩;have d:=cw c;simp only[cm,xD];refine⟨e,?_⟩;rw[d];simp only[qV,mj,Array.all_eq_true];intro m hm
 by_cases b:sE .any ops[i].after[m]=true
 ·have:=f ops[i].after[m].on (by
   unfold lO;rw[d];exact iV.2 ⟨_,tQ.2 (TV.2 ⟨Array.getElem_mem hm,b⟩),rfl⟩)
  simp[this]
 ·simp[Bool.not_eq_true _▸b]
theorem gA.U9{n b}(hn:ops.size=n)(IN:b<n)(aa:NK ops b=true)(aC:((dM n).all fun i=>(lO ops i).all fun j=>decide (j<i))=true)(af:∀i j,i<b->j<b->fY ops i=fY ops j->i=j)(Base:Act->Prop)(D:Nat->au->Prop)
  (X:∀a p i v,i<b->jV a p (fY ops i) v->Base a->Base p) (aA:∀i,b<i->i<n->∃j,b<=j/\j<i/\j∈lO ops i)
  (aF:∀a i,i<b->Base a->fY ops i<a.tmps.size)
  (step:∀i,i<b->∀a is,Base a->(∀j∈lO ops i,j<b->D j (a.eval (.tmp (fY ops j))))->(∀p v,D i v->jV a p (fY ops i) v->FO Lf f0 dn P ops Q is p u)->FO Lf f0 dn P ops Q (i::is) a u)
  (aI:∀a,Base a->(∀i,i<b->D i (a.eval (.tmp (fY ops i))))->gA Lf f0 dn P .any ops Q (n-b) (sW n b) a u) (z:Base a):gA Lf f0 dn P .any ops Q n (pR n false) a u:=by
 suffices H:∀(c:Nat) (listed:Array Bool) (a:Act),listed.size=n->listed.toList.count false=c->(∀i,b<=i->i<n->listed[i]? =some false)->(∀i,i<b->listed[i]? =some true->(∀j∈lO ops i,listed.getD j false=true)/\D i (a.eval (.tmp (fY ops i))))->Base a->gA Lf f0 dn P .any ops Q c listed a u by refine H n _ a aq aq (fun i _ d=>by simp[d]) (fun i d h=>?_) z;rw[Bz]at h;split at h<;>cases h
 intro c;induction c with
 |zero=>
  intro listed a T O E _ _
  have r:false∈listed.toList:=by have:=E b (aV _) IN;exact tQ.2 (lC this)
  have:=List.count_pos_iff.2 r;omega
 |succ c ih=>
  intro listed a T O E M z
  by_cases J:∀i,i<b->listed[i]? =some true
  ·have e:listed=sW n b:=by
    refine xy (by simp[sW,T]) fun i r w=>?_;have A:i<n:=ak;have t:listed[i]? =some listed[i]:=cw r
    by_cases d:i<b
    ·have:=J i d;rw[t]at this;simp only[sW,TT,TU,d,decide_true];exact dm this
    ·have:=E i ak A;rw[t]at this;simp only[sW,TT,TU,d,decide_false];exact dm this
   have Z:n-b=c+1:=by
    rw[<-O,e]
    have hp:∀m,b<=m->((dM m).map fun i=>decide (i<b)).count false=m-b:=by
     intro m;induction m with
     |zero=>intro _;simp
     |succ m U=>
      intro hm;rw[xP,BV,List.count_append]
      by_cases h:b<=m
      ·rw[U h];have:¬m<b:=ak;simp[this];omega
      ·have aO:m+1=b:=ak
       have:((dM m).map fun i=>decide (i<b)).count false=0:=by refine List.count_eq_zero.2 fun t=>?_;obtain⟨j,l,f⟩:=iV.1 t;have:=lY.1 l;simp at f;omega
       rw[this];have:m<b:=ak;simp[this];omega
    have:=hp n ak;simp only[sW,BD,Array.toList_range];omega
   rw[e,<-Z];exact aI a z fun i d=>(M i d (J i d)).2
  ·have aB:∃i,i<b/\listed[i]? ≠some true:=by
    refine oy fun h=>J fun i d=>oy fun w=>h ⟨i,d,w⟩
   have Y:(∀j∈lO ops b,listed.getD j false=true)->False:=by
    intro hk;refine J fun i d=>?_
    have aj:∀m i,i<b->b-i<=m->listed[i]? =some true:=by
     intro m;induction m with
     |zero=>intro i d h;omega
     |succ m U=>
      intro i d h;have r:=nE.1 aa i (lY.2 d);obtain⟨j,l,f⟩:=qM.1 r;simp only[cm,uo,xM]at f;have V:=lY.1 l
      have y:listed.getD i false=true:=by
       rcases lE j b with C|hge
       ·exact(M j C (U j C ak)).1 i f.2
       ·have:j=b:=ak;subst this;exact hk i f.2
      have F:i<listed.size:=ak;rw[cw F];simpa[vG,F]using y
    exact aj (b-i) i d (aV _)
   refine⟨fun h=>?_,fun i d is W=>?_⟩
   ·
    exfalso
    have ZL:∃i,i<b/\listed[i]? ≠some true/\∀j,j<i->listed[j]? =some true:=by
     obtain⟨i,r,w⟩:=aB;induction i using Nat.strongRecOn with
     |_ i aH=>
      by_cases y:∀j,j<i->listed[j]? =some true
      ·exact⟨i,r,w,y⟩
      ·have:∃j,j<i/\listed[j]? ≠some true:=oy fun g=>y fun j l=>oy fun q=>g ⟨j,l,q⟩;obtain⟨j,l,f⟩:=this;exact aH j l ak f
    obtain⟨i,r,w,y⟩:=ZL;have F:i<listed.size:=ak
    have R:listed[i]=false:=by
     rw[cw F]at w;cases t:listed[i]with
     |false=>rfl
     |true=>exact absurd (by rw[t]) w
    have A:i∈dO .any ops listed:=Y4 ak (by simp[vG,F,R]) fun j l=>by
     have C:j<i:=by have g:=nE.1 aC i (lY.2 ak);exact mO (nE.1 g j l)
     have q:=y j C;have s:j<listed.size:=ak;rw[cw s]at q;simp[vG,s,dm q]
    rw[h]at A;cases A
   ·obtain⟨aL,av,K⟩:=Y3 d;have A:i<n:=ak
    have L:i<b:=by
     refine oy fun hge=>?_;rcases lE b i with C|hle
     ·obtain⟨j,B,f,ay⟩:=aA i C A;have g:=K j ay;have q:=E j B ak;have s:j<listed.size:=ak;rw[cw s]at q;simp[vG,s,dm q]at g
     ·have:i=b:=ak;subst this;exact Y K
    have ah:∀j∈lO ops i,j<b->D j (a.eval (.tmp (fY ops j))):=fun j l V=>by have g:=K j l;have s:j<listed.size:=ak;refine(M j V ?_).2;rw[cw s];simpa[vG,s]using g
    have G:i<listed.size:=ak;have R:listed[i]=false:=by simpa[vG,G]using av
    refine step i L a is z ah fun p v hv N=>W p u (ih _ p (by simp[T]) ?_ (fun j B f=>?_) (fun j B f=>?_) (X a p i v L N z))
    ·have ZZ:(listed.setIfInBounds i true).toList=listed.toList.set i true:=aq;have t:listed.toList[i]'(by simpa using G)=false:=by simpa using R
     rw[ZZ,List.count_set (by simpa using G),t,O];simp
    ·rw[dx ak];exact E j B f
    ·by_cases S:i=j
     ·subst S;refine⟨fun m hm=>?_,?_⟩
      ·have g:=K m hm
       by_cases I:m=i
       ·subst I;simp[vG,G]
       ·rw[tO,dx (cW I),<-tO];exact g
      ·rw[N.new (aF a i L z)];exact hv
     ·rw[dx S]at f;obtain⟨g,q⟩:=M j B f;refine⟨fun m hm=>?_,?_⟩
      ·by_cases I:m=i
       ·subst I;simp[vG,G]
       ·rw[tO,dx (cW I),<-tO];exact g m hm
      ·rw[N.same _ fun e=>S (af i j L B e.symm)];exact q
def EB(ops:Array dW)(n b c:Nat)(ks:List Nat):Bool:=
 decide (ops.size=n)&&(decide (b<n)&&(NK ops b&&(((dM n).all fun i=>(lO ops i).all fun j=>decide (j<i))&&(((dM b).all fun i=>decide (fY ops i<c)&&(!ks.contains (fY ops i)&&(dM b).all fun j=>decide (i=j)||!decide (fY ops i=fY ops j)))&&(dM n).all fun i=>decide (i<=b)||(dM i).any fun j=>decide (b<=j)&&(lO ops i).contains j))))
theorem FX.Z0{id d}{ks:List Nat}{vs:Nat->au}(n c)(hm:P.follows .mixedOrders=true)(s:EB ops n c d ks=true)(l:Nat->au->Prop)
  (E:a.tmps.size=d) (C:a.defers=[]) (m:∀k,k∈ks->a.eval (.tmp k)=vs k)
  (step:∀u1:an,u1={u with drawn:=u.drawn+1}->∀i,i<c->∀a is,a.tmps.size=d->a.defers=[]->(∀k,k∈ks->a.eval (.tmp k)=vs k)->(∀j,(lO ops i).contains j=true->j<c->l j (a.eval (.tmp (fY ops j))))->(∀p v,l i v->jV a p (fY ops i) v->FO Lf f0 dn P ops Q is p u1)->FO Lf f0 dn P ops Q (i::is) a u1)
  (F:∀u1:an,u1={u with drawn:=u.drawn+1}->∀a,a.tmps.size=d->a.defers=[]->(∀k,k∈ks->a.eval (.tmp k)=vs k)->(∀i,i<c->l i (a.eval (.tmp (fY ops i))))->gA Lf f0 dn P .any ops Q (n-c) (sW n c) a u1):FX Lf f0 dn P (.region id ops true) Q a u:=by
 simp only[EB,cm,uo]at s;obtain⟨b1,t,w,y,G,z⟩:=s;refine FX.Y8 hm ?_;rw[b1];have q:∀i,i<c->fY ops i<d/\fY ops i∉ks/\∀j,j<c->i=j\/¬fY ops i=fY ops j:=fun i b=>by grind
 refine gA.U9 b1 t w y (fun i j b f e=>((q i b).2.2 j f).resolve_right fun h=>h e) (fun a=>a.tmps.size=d/\a.defers=[]/\∀k,k∈ks->a.eval (.tmp k)=vs k) l (fun a p i v b N h=>⟨N.size.trans h.1,N.defers.trans h.2.1,fun k m=>(N.same k fun e=>(q i b).2.1 (e▸m)).trans (h.2.2 k m)⟩) (fun i H A=>?_) (fun a i b h=>by rw[h.1];exact(q i b).1) (fun i b a is h f B=>step _ rfl i b a is h.1 h.2.1 h.2.2 (fun j D g=>f j (xM.1 D) g) B) (fun a h hv=>F _ rfl a h.1 h.2.1 h.2.2 hv) ⟨E,C,m⟩;have r:=nE.1 z i (lY.2 A);simp only[pS,uo]at r;obtain⟨j,f,g⟩:=qM.1 (r.resolve_left ak);simp only[cm,uo]at g;exact⟨j,g.1,lY.1 f,xM.1 g.2⟩
theorem gA.one{fuel j listed}(h:dO .any ops listed=[j])(c:∀is,(∀b f,gA Lf f0 dn P .any ops Q fuel (listed.setIfInBounds j true) b f->FO Lf f0 dn P ops Q is b f)->FO Lf f0 dn P ops Q (j::is) a u):gA Lf f0 dn P .any ops Q (fuel+1) listed a u:=
 ⟨fun d=>(by rw[h]at d;cases d),fun i e is g=>by rw[h]at e;obtain rfl:=mM.1 e;exact c is g⟩
theorem gA.none{listed}(h:dO .any ops listed=[])(c:Q .normal a u):gA Lf f0 dn P .any ops Q 0 listed a u:=⟨h,FO.nil c⟩
end
section
variable [aA] {Q:Exit->Act->an->Prop} {a:Act} {u:an} {ops:Array dW} {i d k k1 k2:Nat} {rest:List Nat} {o:dW} {Lf:bh->List Nat} {f0:bh} {dn:Nat} {v vy:au}
theorem FO.C4{t ad n c0}(m:∃e,prog.underlying t=some (.slice e))(l:ops[i]? =some o)(j:yB ops a o)(h:o.dst=some d)(g:o.op=.call {callee:=.builtin .len,args:=#[.tmp k],argTypes:=#[t]}) (hv:a.eval (.tmp k)=.slice ad n c0) (c:FO Lf f0 dn prog ops Q rest (a.put (some d) (aj n)) u):FO Lf f0 dn prog ops Q (i::rest) a u:=by
 obtain⟨q,r⟩:=m
 exact FO.blind l j h (fun w=>by
  have p:=ev hv;unfold execOp;rw[g];go_simp) (fun w=>by
  have p:=ev hv;unfold execOp;rw[g];go_simp) (.inr fun s=>.int _ _) c
theorem FO.DY{ad n c0 t}(j:∀w,(xJ t (.slice (some ad) n c0) vy).run prog w=.ok v w)(r:∀w,(xJ t (.slice (some ad) n c0) vy).events prog w #[]=#[])(q:ops[i]? =some o)(m:yB ops a o)(l:o.dst=some d)(e:o.op=.indexAddr t (.tmp k1) (.tmp k2))(p:d∈Lf f0)(g:a.eval (.tmp k1)=.slice (some ad) n c0)(h:a.eval (.tmp k2)=vy)(c:FO Lf f0 dn prog ops Q rest (a.put (some d) v) u):FO Lf f0 dn prog ops Q (i::rest) a u:=
 FO.blind q m l (fun w=>by unfold execOp;rw[e];dsimp only;rw[g,h,ug,j];rfl) (fun w=>by unfold execOp;rw[e];dsimp only;rw[g,h];simp[r,j]) (.inl p) c
theorem FO.EU{ad t wb ob}(s:aA.wat wb=some ob)(q:ops[i]? =some o)(p:yB ops a o)(m:o.dst=some d)(j:o.op=.load t (.tmp k))(hv:a.eval (.tmp k)=.pointer (some ad))(l:ad.block=wb)(hr:∀w:an,w.heap[wb]? =some ob->(zN t (.pointer (some ad))).run prog w=.ok v w)(n:∀w:an,w.heap[wb]? =some ob->(zN t (.pointer (some ad))).events prog w #[]=#[⟨.cell ad,false,false⟩])(r:∀x,VR x v v)(c:FO Lf f0 dn prog ops Q rest (a.put (some d) v) u):FO Lf f0 dn prog ops Q (i::rest) a u:=by
 refine FO.R4 s q p m (fun w h=>?_) (fun w h e g=>?_) r c
 ·unfold execOp;rw[j];dsimp only;rw[hv,ug,hr w h];rfl
 ·unfold execOp at g;rw[j]at g;dsimp only at g;rw[hv]at g;simp[n w h,hr w h]at g;exact⟨ad,by rw[g],l⟩
end
section
variable [aA] {P:aN} {Q:Exit->Act->an->Prop} {a:Act} {u u1:an} {b fr:Frame} {cs:List Frame} {ops:Array dW} {i:Nat} {rest:List Nat} {o:dW} {Lf:bh->List Nat} {f0:bh} {dn:Nat}
theorem qd.results{Shun S ρ gs w t q}(e:qd Lf P Shun S fr cs u ρ gs w t q){fn v x}(n:bf ρ x x)(h:(results fn x).run P u=.ok v u)(g:Nat->Question->Nat):(results fn x).run P (u.tp g)=.ok v (u.tp g):=by
 haveI:aW:=bE []
 have m:WR P ρ u (w.tp fun j q=>u.tape (u.drawn+(j-w.drawn)) q):=⟨e.world.one,e.world.lt,e.world.obj,fun i q=>by show u.tape (u.drawn+(w.drawn+i-w.drawn)) q=_;rw[ue],e.world.low,e.world.base,e.world.calm,e.world.os⟩
 obtain⟨_,l⟩:=(rG (xh fn n) (iz u) m e.whole h).1;rw[<-Sem.runT_fst P _ (u.tp g) #[],l g (fun i q a b=>by omega)]
theorem FO.Wz{d}(H:ops[i]? =some o)(hw:cL o (yielded ops a.tmps)=true){f fn body args ats}(I:o.op=.call {callee:=.value (.func f),args,argTypes:=ats}) (hd:o.dst=some d) (r:P.funcs[f]? =some fn) (G:(fn.name== "runtime.NumGoroutine")=false) (af:fn.body=some body) (av:aA.known f) (J:∀x:Array au,results fn x=results fn (oo (Lf f) x)) (hx:∀l (j:Nat) v,(Frame.enter P f (args.map a.eval) .normal).tmps[j]? =some v->j∉Lf f->VR l v v) (c:jB Lf P (dn+1) f (args.map a.eval) u fun e n=>∃v,e=.returned v/\FO Lf f0 dn P ops Q rest (a.put (some d) v) n):FO Lf f0 dn P ops Q (i::rest) a u:=fun b k cs hb C hf IU=>by
 haveI:aW:=bE []
 have B:fn.body.isNone=false:=by rw[af];rfl
 have E:∀v,(b.at a (.inRegion ops (i::rest)::k)).finish v=b.at (a.put (some d) v) (.inRegion ops rest::k):=by intro v;rw[xG,H];show b.at (a.put o.dst v) _=_;rw[hd]
 refine .one fun T S l gs w t q h _=>?_
 have hk:b.kind≠.early:=by have:b.kind=.normal:=h.top.kind;rw[this];simp
 refine⟨Frame.enter P f (args.map a.eval) .normal,b.at a (.inRegion ops (i::rest)::k)::cs,u,l,w,_,stepG_enter H hw hk (run_call_body I r G B),⟨.refl l w,h.world,h.whole,h.same,h.size,fun e p=>?_,⟨hx l,rfl,av⟩,fun g hg=>?_,h.full⟩,(c (b.at a (.inRegion ops (i::rest)::k)::cs) (by simp[C])).bind ?_⟩
 ·have D:=pX p;rw[Mz I r G B]at D;simp at D
 ·rcases mL.1 hg with rfl|hg
  ·exact⟨h.top,rfl⟩
  ·exact h.low g hg
 ·rintro fr aI n ⟨rfl,F,e,_,⟨v,rfl,ay⟩,l1,l2,l3,aL,M,O⟩;have N:=M;rw[F,r]at N;cases N;refine .one fun T S l gs w t q h _=>?_;have L:bf l (oo (Lf f) fr.tmps) (oo (Lf f) fr.tmps):=FB (a:=⟨fr.tmps,[]⟩) fun i v hv hi=>h.top.tmps i v hv (by rw[F];exact hi);rw[J]at O;obtain⟨σ,v',w1,x,U,s,m,z,V,A,X,Y,Z⟩:=h.ok (u1:=n) (xh (P:=P) (K:=fun _=>False) fn L) (h.results L O);obtain rfl:=VR.eq A s;refine⟨_,cs,n,σ,w1,_,KL l1 l2 l3 M (by rw[J];exact U),⟨m,z,V,A,X,fun e p=>?_,?_,fun g hg=>⟨(h.low g (jS _ hg)).1.mono m.le,(h.low g (jS _ hg)).2⟩,Z⟩,?_⟩
  ·exact DD (h.clear.went m) (fun y b tB=>(z.lt y b tB).2) (Y e (pX p))
  ·rw[E];exact zC ((h.low (b.at a (.inRegion ops (i::rest)::k)) (iU ..)).1.mono m.le) (fun _=>s)
  ·rw[E];exact ay b k cs hb C hf IU
theorem FO.WA{l d}(hT:Fit P l)(aj:aA.depth=dn+1)(ho:ops[i]? =some o)(hw:cL o (yielded ops a.tmps)=true){f fn body args ats}(aC:o.op=.call {callee:=.value (.func f),args,argTypes:=ats}) (hd:o.dst=some d) (T:P.funcs[f]? =some fn) (az:(fn.name== "runtime.NumGoroutine")=false) (ah:fn.body=some body) (bz:aA.known f) (bp:args.all (cE l)=true) (ZF:args.map a.eval=args.map (rR (Lf f0) a).eval) (c:eI P f (args.map a.eval) u fun e u'=>∃v,e=.returned v/\FO Lf f0 dn P ops Q rest (a.put (some d) v) u'):FO Lf f0 dn P ops Q (i::rest) a u:=fun b k cs O IF hf IU Shun S B gs w sl t q m hV=>by
 haveI:aW:=bE []
 have PI:fn.body.isNone=false:=by rw[ah];rfl
 have IG:∀v,(b.at a (.inRegion ops (i::rest)::k)).finish v=b.at (a.put (some d) v) (.inRegion ops rest::k):=by intro v;rw[xG,ho];show b.at (a.put o.dst v) _=_;rw[hd]
 have hk:b.kind≠.early:=by have:b.kind=.normal:=m.top.kind;rw[this];simp
 have Qa:lM B (Lf f0) (b.at a (.inRegion ops (i::rest)::k)):=O▸m.top
 obtain⟨N1,dP,Z,H,jI,Fb,t1,q1,⟨rfl,rfl,d1,rfl⟩,r1,r2,r3,r4,r5⟩:=step0 (K:=fun dP Z H=>dP=Frame.enter P f (args.map a.eval) .normal/\Z=b.at a (.inRegion ops (i::rest)::k)::cs/\∃d,H=w.at d) (Shun:=Shun) (sumTo gs.size q+1) gs w sl t q ak m.oY m.gh m.past m.fM fun s=>⟨_,_,w.at s,_,stepG_enter ho hw hk (run_call_body aC T az PI),aV _,fun e F=>by have aq:=pX F;rw[Mz aC T az PI]at aq;simp at aq,rfl,rfl,s,rfl⟩
 have hN:eY P Shun S (Frame.enter P f (args.map a.eval) .normal) (b.at a (.inRegion ops (i::rest)::k)::cs) u B jI (w.at d1) t1 q1:=by
  refine⟨r2,Ln T ah bz (by rw[ZF];exact Tz hT (FB (a:=a) (L:=Lf f0) Qa.tmps) bp),⟨by rw[aj,<-IF];simp,fun g hg=>?_,fun j g hg hl=>?_⟩,m.world.at d1,m.whole,r3,r4,m.clear,m.same,m.size,r5,m.full⟩
  ·rcases mL.1 hg with rfl|hg
   ·rfl
   ·exact(m.low g hg).2
  ·rw[aj]at hl;simp at hl;omega
 obtain⟨N2,I,X,V,OV,NL,z,Pp,U,b8,t2,q2,k1,⟨rfl,cu,e,F,⟨v,rfl,bA⟩,l1,l2,l3,aX,l4,l5⟩,r,G,k5⟩:=c (b.at a (.inRegion ops (i::rest)::k)::cs) Shun S B jI (w.at d1) Fb t1 q1 hN (hV.at d1);have ay:B.le V:=G.le
 obtain⟨N3,aa,cs,A,aZ,b9,t3,q3,⟨rfl,rfl,d3,n,p,D,J,E,M,N,C⟩,m1,m2,m3,m4,m5⟩:=step0 (K:=fun aa aT A=>aa=b.at (a.put (some d) v) (.inRegion ops rest::k)/\aT=cs/\∃d n,eT V n (U.at d) A/\eK P n z A/\Whole X n z/\(∀a b,n a b->a=b)/\z.heap.size=A.heap.size/\Full n z/\VR n v v) (Shun:=I) (sumTo Pp.size q2+1) Pp U b8 t2 q2 ak r.oY r.gh r.past r.fM fun s=>by have kd:=r.at s;obtain⟨n,v',H,x,h1,C,p,D,J,E,M,h8,N⟩:=kd.ok (u1:=z) (xh (P:=P) (K:=fun _=>False) aX r.top.tmps) (r.results l5);obtain rfl:=VR.eq E C;exact⟨_,_,H,_,KL l1 l2 l3 l4 h1,p.size,fun e F=>DD (kd.clear.went p) (fun y b tB=>(D.lt y b tB).2) (h8 e (pX F)),IG v,rfl,s,n,p,D,J,E,M,N,C⟩
 obtain⟨N4,aS,S4,cr,aY,aU,u4,bf,w4,cg,t4,q4,n1,n2,n3,n4,n5⟩:=bA b k cs O IF hf IU I X n aZ A b9 t3 q3
  ⟨m2,by show lM n (Lf b.fn) _;rw[O];exact zC ((Qa.mono ay).mono p.le) (fun _=>C),fun g hg=>⟨((m.low g hg).1.mono ay).mono p.le,(m.low g hg).2⟩,D,J,m3,m4,(r.at d3).clear.went p,E,M,m5,N⟩ (((((hV.at d1).went G k5)).at d3).went p (.refl I _))
 refine⟨N1+(N2+(N3+N4)),aS,S4,cr,aY,aU,u4,bf,w4,cg,t4,q4,?_,n2,n3,(((eT.refl B w).at d1).trans G).trans ((((eT.refl V U).at d3).trans p).trans n4),fun Y h=>?_⟩
 ·rw[vr r1,vr k1,vr m1];exact n1
 ·rcases n5 Y h with h|h
  ·exact k5 Y h
  ·exact .inr (cS G.size (cS p.size h))
theorem Dx{f fn}{body:Code}{args:Array au}{L:List Nat}(g:P.funcs[f]? =some fn)(e:fn.body=some body)(h:∀(j:Nat) v,args[j]? =some v->j∉L->∀ρ,VR ρ v v)(ρ j v)(hv:(Frame.enter P f args .normal).tmps[j]? =some v)(l:j∉L):VR ρ v v:=by
 haveI:aW:=bE []
 rw[sH args g e]at hv;change(args++pR (fn.ntmps-args.size) undef)[j]? =some v at hv;rw[FH]at hv;split at hv
 ·exact h j v hv l ρ
 ·rw[Bz]at hv;split at hv
  ·cases hv;exact rQ ρ
  ·cases hv
end
section
variable [aA] {P:aN} {f:bh} {fn:Func} {c:Code} {args:Array au} {W:an} {Lf:bh->List Nat} {R:Ending->an->Prop} {Post:au->an->Prop}
theorem H9(s:P=aA.prog)(t:∀x (j:Nat) v,(Frame.enter P f args .normal).tmps[j]? =some v->j∉Lf f->VR x v v)(hf:P.funcs[f]? =some fn)(m:fn.body=some c)(q:aA.known f)(n:P.globals.size<=W.heap.size):
  qd Lf P (fun _=>False) (fun _=>False) (Frame.enter P f args .normal) [] (mask (fun _=>False) W) (dL fun b=>False\/False) #[G (Frame.enter P f args .normal) []] W #[] (fun _=>0):=by
 haveI:aW:=bE []
 have w:XF (dL fun b=>False\/False) (Frame.enter P f #[] .normal):=Ln hf m q ⟨rfl,fun i v y h=>by simp at h⟩
 have N:eY P (fun _=>False) (fun _=>False) (Frame.enter P f #[] .normal) (lZ aA.depth (Frame.enter P f #[] .normal)) (mask (fun _=>False) W) (dL fun b=>False\/False) #[G (Frame.enter P f #[] .normal) (lZ aA.depth (Frame.enter P f #[] .normal))] W #[] (fun _=>0):=
  QK s rfl (leavers_one P _) (past_nil.mono (eE _)) (fun i j h=>by simp[Trace.g?]at h) (fun b m=>m.elim) (fun b h=>h.elim) n w ⟨aq,fun g n=>by obtain⟨_,rfl⟩:=List.mem_replicate.1 n;rw[sH _ hf m];rfl,fun i g p r=>by(simp at r;omega)⟩ fun l h=>h.elim
 refine⟨rfl,⟨?_,?_,?_⟩,fun g n=>by(cases n),N.world,N.whole,leavers_one P _,N.past,N.clear,N.same,N.size,fun i j h=>by simp[Trace.g?]at h,N.full⟩
 ·intro i v hv p;have e:(Frame.enter P f args .normal).fn=f:=by rw[sH _ hf m];rfl
  rw[e]at p;exact t _ i v hv p
 ·rw[sH _ hf m];rfl
 ·rw[sH _ hf m];exact q
theorem aaB(aa:P=aA.prog)(w:∀ρ (j:Nat) v,(Frame.enter P f args .normal).tmps[j]? =some v->j∉Lf f->VR ρ v v)(hf:P.funcs[f]? =some fn)(q:fn.body=some c){t0}(t:fn.results=#[.tmp t0])(V:P.inits.idxOf? f=none)(X:aA.known f)(U:P.globals.size<=W.heap.size)(ah:∀b o,aA.wat b=some o->W.heap[b]? =some o)
  (h:jB Lf P 0 f args (mask (fun _=>False) W) R) (ZX:∀e u,R e u->∃v,e=.returned v) (af:∀v m g,R (.returned v) m->(∀b,b<W.heap.size->g.heap[b]? =W.heap[b]?)->W.heap.size<=g.heap.size->g.os=W.os->g.output=W.output->g.tape=W.tape->Post v g):
  ∃M last o g y,runNT P (M+1) (solo (G (Frame.enter P f args .normal) []) W) #[]=(.ended o g,y)/\runN P M (solo (G (Frame.enter P f args .normal) []) W)=.next last/\step P last=.ended o g/\Conc.Good P Post last o g y:=by
 rw[solo_eq_crowd];obtain⟨N,E,S',aQ,l,aF,m,aH,g,ay,y,q',C,⟨rfl,s,e,he,hR,Y⟩,r,p,_⟩:=h [] rfl _ _ _ _ _ none _ _ (H9 aa w hf q X U) (fun b o q=>⟨fun x w=>w.2.elim id id,ah b o q,fun _ _ h=>h⟩);obtain⟨v,rfl⟩:=ZX e m hR;obtain⟨l1,l2,l3,aG,z,A⟩:=Y;rw[s,hf]at z;cases z
 have hv:v=l.tmps.getD t0 undef:=by
  have:(results fn l.tmps).run P m=.ok (l.tmps.getD t0 undef) m:=by simp[results,t]
  rw[this]at A;cases A;rfl
 have Z:∀d,Post v (g.at d):=fun d=>af v m (g.at d) hR (fun b q=>p.bU b q fun a T=>T.2.elim id id) p.size p.os p.output p.tape
 obtain⟨M,last,o,aB,az,K,L,O,S⟩:=beside_ends (P:=P) (Shun:=E) (B:=g.heap.size) (D:=fun _ _ _=>False) (Post:=Post) (fun _ _ _ h=>h.elim) (sl:=ay) (n:=0) r.oY r.gh r.past (by
  rintro aO ⟨d,rfl⟩;refine⟨rfl,v,#[],?_,aq,Z d⟩;have F:(results fn l.tmps).run P (g.at d)=.ok v (g.at d):=by simp[results,t,hv]
  have H:(results fn l.tmps).events P (g.at d) #[]=#[]:=events_results_tmp t _ _;have I:P.funcs[l.fn]? =some fn:=by rw[s];exact hf
  have J:P.inits.idxOf? l.fn=none:=by rw[s];exact V
  simp[G,stepG,unwind,doReturn,l1,l2,l3,I,F,H,J,seen,GStep.after])
 refine⟨N+M,last,o,aB,az,?_,?_,O,S⟩
 ·rw[show N+M+1=N+(M+1) by omega,vr C];exact K
 ·rw[runN_add,<-runNT_fst P _ _ #[],C];exact L
end
end
section
attribute [local go_sem ↓] Go.wp_at_zero Go.wp_at_succ
open Go.Conc Go.RowKit
open Go.Proofs.Tryz
def lk:List (Nat×au)->Nat->Option au
 |[],_=>none
 |p::l,k=>bif sA p.1 k then some p.2 else lk l k
structure Fa(n:Nat)(a:Act)(L:List (Nat×au)):Prop where
 size:a.tmps.size=n
 defers:a.defers=[]
 at_:∀k v,lk L k=some v->a.eval (.tmp k)=v
def CP(L:List (Nat×au)):List (Nat×au)->Prop
 |[]=>True
 |p::r=>lk L p.1=some p.2/\CP L r
theorem Qy{L}:∀{M:List (Nat×au)},CP L M->∀k v,lk M k=some v->lk L k=some v
 |[],_,k,v,h=>by cases h
 |p::r,c,k,v,h=>by
  unfold lk at h;cases b:sA p.1 k with
  |true=>
   rw[b]at h;have e:p.1=k:=xR b;simp at h;rw[<-e,<-h];exact c.1
  |false=>
   rw[b]at h;exact Qy c.2 k v h
theorem Fa.sub{n a L M}(h:Fa n a L)(b:CP L M):Fa n a M:=⟨h.size,h.defers,fun k v e=>h.at_ k v (Qy b k v e)⟩
theorem Fa.put{n d a L}(h:Fa n a L)(v)(f:d<n):Fa n (a.put (some d) v) ((d,v)::L):=
 ⟨(Ru _ _ _).trans h.size,(put_defers _ _ _).trans h.defers,fun k x e=>by
  unfold lk at e;cases b:sA d k with
  |true=>
   rw[b]at e;have c:=xR b;simp at e;rw[<-c,<-e];exact Oj v (by rw[h.size];exact f)
  |false=>
   rw[b]at e;have c:k≠d:=fun x=>by rw[x,Nat.beq_refl]at b;cases b
   exact(Oi v c).trans (h.at_ k x e)⟩
def kH(ops:Array dW)(L:List (Nat×au)):Option (Nat×Bool)->Bool
 |none=>true
 |some (j,b)=>match(ops[j]?).bind (·.dst)with
  |none=>false
  |some p=>match lk L p with
   |some (.bool x)=>x==b
   |_=>false
def opF(L:List (Nat×au)):mh->Option au
 |.tmp k=>lk L k
 |.const v=>some v
 |_=>none
def ru(B:List Nat)(n d:Nat)(xs:List mh):Bool:=decide (d<n)&&xs.all fun x=>match x with
 |.tmp k=>!B.contains k
 |.const _=>true
 |_=>false
section
variable [aA] {l:List bh} {Q:Exit->Act->an->Prop} {a:Act} {u u1:an} {ops:Array dW} {i n d k k1 k2:Nat} {rest:List Nat} {o:dW} {Lf:bh->List Nat} {f0:bh} {dn:Nat} {v vx vy:au} {x:mh} {L:List (Nat×au)}
theorem Fa.wants(E:Fa n a L)(c:kH ops L o.guard=true)(y:∀j b p,o.guard=some (j,b)->(ops[j]?).bind (·.dst)=some p->p<n):yB ops a o:=by
 unfold yB cL;cases r:o.guard with
 |none=>rfl
 |some q=>
  obtain⟨j,b⟩:=q;rw[r]at c;unfold kH at c;simp only at c;cases f:ops[j]? with
  |none=>rw[f]at c;cases c
  |some z=>
   rw[f]at c;simp at c;cases e:z.dst with
   |none=>rw[e]at c;cases c
   |some p=>
    rw[e]at c;simp only at c;cases g:lk L p with
    |none=>rw[g]at c;cases c
    |some A=>
     rw[g]at c;cases A<;>simp at c;rename_i x;have t:x=b:=by simpa using c
     have w:p<a.tmps.size:=by rw[E.size];exact y j b p r (by rw[f];exact e)
     have s:a.tmps[p]? =some (.bool b):=by have h:=cw w;rw[h];have m:=ev (E.at_ p _ g);rw[h]at m;rw[<-t];exact dG some m
     simp[yielded,f,e,s]
theorem XZ(E:Fa n a L)(h:opF L x=some vx):a.eval x=vx:=by
 cases x with
 |tmp k=>exact E.at_ k vx h
 |const v=>cases h;rfl
 |_=>cases h
theorem Dm{B xs}(h:ru B n d xs=true):d<n:=by unfold ru at h;exact mO ((cm _ _).mp h).1
theorem WQ{B xs}(h:ru B n d xs=true)(e:x∈xs):(rR B a).eval x=a.eval x:=by
 unfold ru at h;have b:=nE.1 ((cm _ _).mp h).2 x e;cases x with
 |tmp k=>
  refine Bs fun c=>?_;simp only[xD]at b;rw[xM.2 c]at b;cases b
 |const v=>rfl
 |_=>cases b
def lf(ops:Array dW)(n:Nat):Option (Nat×Bool)->Bool
 |none=>true
 |some (j,_)=>match(ops[j]?).bind (·.dst)with
  |none=>true
  |some p=>decide (p<n)
theorem Fa.wt(E:Fa n a L)(g:(kH ops L o.guard&&lf ops n o.guard)=true):yB ops a o:=by have h:=(cm _ _).mp g;refine E.wants h.1 fun j b p e f=>?_;have c:=h.2;rw[e]at c;unfold lf at c;simp only at c;rw[f]at c;exact mO c
theorem FE.DY{ad m c0 t}(q:∀w,(xJ t (.slice (some ad) m c0) vy).run prog w=.ok v w)(r:∀w,(xJ t (.slice (some ad) m c0) vy).events prog w #[]=#[])(E:Fa n a L)(s:Fit prog l)(j:ops[i]? =some o)(p:(kH ops L o.guard&&lf ops n o.guard)=true)(f:(o.dst,o.op)=(some d,.indexAddr t (.tmp k1) (.tmp k2)))(e:(decide (d<n)&&(Lf f0).contains d)=true)(g:lk L k1=some (.slice (some ad) m c0))(h:lk L k2=some vy)(c:∀b,Fa n b ((d,v)::L)->FO Lf f0 dn prog ops Q rest b u):FO Lf f0 dn prog ops Q (i::rest) a u:=
 FO.DY q r j (E.wt p) (dG xY f) (dG Prod.snd f) (xM.1 ((cm _ _).mp e).2) (E.at_ k1 _ g) (E.at_ k2 _ h) (c _ (E.put v (mO ((cm _ _).mp e).1)))
theorem FE.EU{ad t wb ob}(p:aA.wat wb=some ob)(E:Fa n a L)(r:Fit prog l)(h:ops[i]? =some o)(m:(kH ops L o.guard&&lf ops n o.guard)=true)(e:(o.dst,o.op)=(some d,.load t (.tmp k)))(hc:ru [] n d []=true)(hv:lk L k=some (.pointer (some ad)))(f:ad.block=wb)(hr:∀w:an,w.heap[wb]? =some ob->(zN t (.pointer (some ad))).run prog w=.ok v w)(g:∀w:an,w.heap[wb]? =some ob->(zN t (.pointer (some ad))).events prog w #[]=#[⟨.cell ad,false,false⟩])(j:∀q,VR q v v)(c:∀b,Fa n b ((d,v)::L)->FO Lf f0 dn prog ops Q rest b u):FO Lf f0 dn prog ops Q (i::rest) a u:=
 FO.EU p h (E.wt m) (dG xY e) (dG Prod.snd e) (E.at_ k _ hv) f hr g j (c _ (E.put v (Dm hc)))
def uL(L:List (Nat×au)):List mh->Option (List au)
 |[]=>some []
 |x::r=>match opF L x,uL L r with
  |some v,some b=>some (v::b)
  |_,_=>none
theorem Hf(E:Fa n a L):∀{xs:List mh} {vs:List au},uL L xs=some vs->xs.map a.eval=vs
 |[],vs,h=>by cases h;rfl
 |x::r,vs,h=>by
  unfold uL at h;cases b:opF L x with
  |none=>rw[b]at h;cases h
  |some v=>
   cases c:uL L r with
   |none=>rw[b,c]at h;cases h
   |some e=>
    rw[b,c]at h;cases h;rw[rZ,XZ E b,Hf E c]
theorem Fa.add(h:Fa n a L)(e:a.eval (.tmp d)=v):Fa n a ((d,v)::L):=⟨h.size,h.defers,fun k x b=>by
  unfold lk at b;cases c:sA d k with
  |true=>
   rw[c]at b;simp at b;rw[<-xR c,<-b];exact e
  |false=>
   rw[c]at b;exact h.at_ k x b⟩
theorem Qx:∀{L:List (Nat×au)} {k:Nat},k∈L.map xY->∃v,lk L k=some v
 |[],_,h=>by cases h
 |p::l,k,h=>by
  unfold lk;cases b:sA p.1 k with
  |true=>exact⟨_,rfl⟩
  |false=>
   refine Qx ((mL.1 h).resolve_left fun e=>?_);have c:k=p.1:=e;rw[c,Nat.beq_refl]at b;cases b
theorem QF:∀{L:List (Nat×au)} {k:Nat} {v:au},lk L k=some v->k∈L.map xY
 |[],_,_,h=>by cases h
 |p::l,k,v,h=>by
  unfold lk at h;cases b:sA p.1 k with
  |true=>rw[<-xR b];exact iU ..
  |false=>
   rw[b]at h;exact jS _ (QF h)
theorem FX.Z1{P id c}(m b)(hm:P.follows .mixedOrders=true)(s:EB ops m b c (L.map xY)=true)(h:Nat->au->Prop)(E:Fa c a L)(step:∀u1:an,u1={u with drawn:=u.drawn+1}->∀i,i<b->∀a is,Fa c a L->(∀j,(lO ops i).contains j=true->j<b->h j (a.eval (.tmp (fY ops j))))->(∀q v,h i v->jV a q (fY ops i) v->FO Lf f0 dn P ops Q is q u1)->FO Lf f0 dn P ops Q (i::is) a u1) (y:∀u1:an,u1={u with drawn:=u.drawn+1}->∀a,Fa c a L->(∀i,i<b->h i (a.eval (.tmp (fY ops i))))->gA Lf f0 dn P .any ops Q (m-b) (sW m b) a u1):FX Lf f0 dn P (.region id ops true) Q a u:=by have r:∀{a:Act},a.tmps.size=c->a.defers=[]->(∀k,k∈L.map xY->a.eval (.tmp k)=(lk L k).getD undef)->Fa c a L:=fun e f g=>⟨e,f,fun k v hv=>by rw[g k (QF hv),hv];rfl⟩;refine FX.Z0 (ks:=L.map xY) (vs:=fun k=>(lk L k).getD undef) m b hm s h E.size E.defers (fun k w=>?_) (fun u1 p i t a is e f g=>step u1 p i t a is (r e f g)) fun u1 p a e f g=>y u1 p a (r e f g);obtain⟨v,hv⟩:=Qx w;rw[E.at_ k v hv,hv];rfl
end
end
section
attribute [local go_sem ↓] Go.wp_at_zero Go.wp_at_succ
attribute [local go_sem] bq bg
open Go.RowKit
abbrev FeS(xb sb N:Nat)(sz cl qu mx qn rt bu wk ou:Int)(W:an):Prop:=gJ xb sz cl qu mx qn rt bu wk ou W/\W.cell? (aa xb 9)=some (.slice (some (aa sb 0)) N N)
section
variable {xb sb N:Nat} {sz cl qu mx qn rt bu wk ou:Int} {W W':an}
theorem FeS.later(h:FeS xb sb N sz cl qu mx qn rt bu wk ou W)(a:aB W W'):FeS xb sb N sz cl qu mx qn rt bu wk ou W':=⟨h.1.later a,bp a h.2⟩
end
end
section
attribute [local go_sem ↓] Go.wp_at_zero Go.wp_at_succ
attribute [local go_sem] bq bg
open Go.Proofs.Tryz
open Go.RowKit
theorem abg{W:an}{b T i:Nat}{x:Array au}{v:au}(h:W.heap[b]? =some (.cells x T (0,0)))(hv:x[i]? =some v):W.setCell (aa b i) v=W:=by
 have f:(W.setCell (aa b i) v).heap=W.heap:=by
  apply xy
  ·simp
  ·intro j c d
   have e:(W.setCell (aa b i) v).heap[j]? =W.heap[j]? :=by
    by_cases a:j=b
    ·subst a;rw[bV h i v,h]
     congr 2
     apply xz;rw[BE];exact ze (by rw[kK];exact hv)
    ·exact bH a
   rw[cw c,cw d]at e;exact dm e
 show{W with heap:=(W.setCell (aa b i) v).heap}=W;rw[f]
theorem wY{P o a w w' K Q y sl x}{t u:TypeId}{v v' z}(d:cL o y=true)(b:o.op=.call {callee:=.builtin .append,args:=#[sl,x],argTypes:=#[t,u]}) (c:a.eval sl=v) (e:a.eval x=z) (hr:(nx #[t,u] o.type #[v,z]).run P w=.ok v' w') (h:K (a.put o.dst v') w'):
  if cL o y=true then Oper.wp P o a w K Q else K (a.put o.dst undef) w:=by
 rw[aM d];unfold Oper.wp execOp;simp only[b,resolve,invoke,builtin,ug,Sem.run_pure,Mo,qQ,rZ,vQ,c,e,hr];exact h
theorem qG{T g}:∀(xs:List au) (o:Nat) (W:an) (a:Array au),W.heap[g]? =some (.cells a T (0,0))->
  ∃b,(W.setCells g o xs).heap[g]? =some (.cells b T (0,0))/\b.size=a.size/\(∀i,i<o\/o+xs.length<=i->b[i]? =a[i]?)/\(∀i u,xs[i]? =some u->o+i<a.size->b[o+i]? =some u)/\(∀k,k≠g->(W.setCells g o xs).heap[k]? =W.heap[k]?)/\(W.setCells g o xs).heap.size=W.heap.size/\(W.setCells g o xs).os=W.os:=by
 intro xs;induction xs with
 |nil=>exact fun o W a h=>⟨a,h,rfl,fun _ _=>rfl,fun i u c=>by simp at c,fun _ _=>rfl,rfl,rfl⟩
 |cons x xs s=>
  intro o W a h;obtain⟨j,l,m,d,n,p,q,r⟩:=s (o+1) (W.setCell (aa g o) x) _ (bV h o x);refine⟨j,l,by rw[m];simp,fun i t=>?_,fun i u c f=>?_,fun k e=>(p k e).trans (bH e),q.trans aq,r.trans rfl⟩
  ·rw[d i (by grind)];exact dx (by grind)
  ·cases i with
   |zero=>
    simp at c;subst c;rw[d (o+0) (.inl ak)];rw[Nat.add_zero]at f⊢;simp[zD,f]
   |succ i=>
    have:=n i u (by grind) bK;rw[show o+(i+1)=o+1+i by omega];exact this
theorem Xv(s a L cap)(b:s=.slice a L cap)(hc:L<=cap)(hm:cap<=bT)(w):
  fE 113 #[s,aj 0,aj 0] w s:=by
 subst b;unfold bT at hm;go_enter func113,ntmps113;go_wp2
 all_goals (go_ret;exact⟨rfl,rfl⟩)
abbrev NO(w:an)(g L n:Nat)(news:List au):an:=(w.drew.setCells g 0 news).setCells g (L-n) (lZ n (.int .u8 0))
theorem Xw(g L cap n news cur w)(h0:0<n)(H:n<=L)(hc:L<=cap)(hm:cap<=bT)(y:news.length=L-n)(k:∀u∈news,u.oneCell'=true)(a:w.heap[g]? =some (.cells cur 5 (0,0)))(I:cur.size=cap)(c:∀j u,news[j]? =some u->cur[n+j]? =some u):
  Calls prog 113 #[.slice (some (aa g 0)) L cap,aj 0,aj n] w fun e B=>e=.returned (.slice (some (aa g 0)) (L-n) cap)/\B=NO w g L n news:=by
 have c:∀j u,news[j]? =some u->w.cell? (aa g (n+j))=some u:=fun j u b=>av a (c j u b);have o:∀j,j<L->(w.cell? (aa g j)).isSome=true:=fun j d=>by rw[av a (cw ak)];rfl
 have m:∀j,w.frozen? (aa g j)=false:=fun j=>aS a j;obtain⟨q,x,J,z,M⟩:=info_parts infoByte
 obtain⟨A,C,p⟩:∃A:eV,(if cap=n then some (⟨g,0,none⟩:eV)else some ⟨g,n,none⟩)=some A/\(∀t u,news[t]? =some u->w.drew.cell? (A.add t)=some u):=by
  by_cases h:cap=n
  ·refine⟨⟨g,0,none⟩,by simp[h],fun t u b=>?_⟩;have e:news.length=0:=ak;rw[BT.1 e]at b;simp at b
  ·exact⟨⟨g,n,none⟩,by simp[h],fun t u b=>by rw[Lp];exact c t u b⟩
 have r:Hid ((nx #[158,158] 158 #[.slice (some (aa g 0)) 0 cap,.slice (some A) (L-n) (cap-n)]).run prog w.drew=.ok (.slice (some (aa g 0)) (0+(L-n)) cap) (w.drew.setCells g (0+0*q.size) news)):=
  GF (P:=prog) w.drew 158 158 5 q underlying158 x g 0 0 cap A (L-n) (cap-n) news (by rw[z,y];omega) p k ak (fun j d=>by rw[sC,fo];exact(o j ak)) (fun j d=>by rw[sC,fo];exact m j)
 have hv:∀w,(zeroValue 5).run prog w=.ok (.int .u8 0) w:=zeroValue5
 have G:∀i,(tT #[158] i #[.slice (some (aa g (L-n))) (L-(L-n)) (cap-(L-n))]).run prog (w.drew.setCells g 0 news)=.ok (.tuple #[]) (NO w g L n news):=fun i=>by
  have:=Lib.run_clear_slice (P:=prog) (w.drew.setCells g 0 news) 158 5 i (.int .u8 0) underlying158 hv rfl rfl g (L-n) (L-(L-n)) (cap-(L-n)) ak ?_ ?_
  ·rw[this,show L-(L-n)=n by omega]
  ·intro j d;obtain⟨s,f,v,_⟩:=qG news 0 w.drew cur a;rw[av f (cw ak)];rfl
  ·intro j d;obtain⟨s,f,v,_⟩:=qG news 0 w.drew cur a;exact aS f _
 unfold bT at hm;have F:((0:Int)==(n:Int))=false:=bK;clear p c o m k hv a;go_enter func113,ntmps113
 go_upto_region 5 with fail
 refine dR (S:=fun _=>True) trivial fun E=>?_;refine tk 0 ?_;refine tk 1 ?_;refine tk 2 ?_;refine tk 3 ?_;refine tk 4 ?_;refine tk 5 ?_;refine rH 6 fun K l=>?_
 (refine wY rfl rfl rfl rfl r.out ?_;simp)
 refine l.out _ _ (trivial) (fun D=>?_);clear l K;refine tk 7 ?_;refine cK ?_
 (go_wp2;go_ret;exact⟨rfl,rfl⟩)
theorem adM(c n w)(h:decide (n<0)=true):
  fE 69 #[aF c,aj n] w (.tuple #[.string ⟨#[]⟩,aj 5]):=by
 go_enter func69,ntmps69;go_wp2
 go_ret2
 exact⟨rfl,rfl⟩
theorem Xe(b cap w):(convert 158 9 (.slice b 0 cap)).run prog w=.ok (.string ⟨#[]⟩) w:=by
 cases b with
 |some a=>exact run_convert_bytes_back w 158 9 5 a cap [] underlying158 underlying5 underlying9 (fun j c=>by cases c)
 |none=>
  rw[run_convert_bytes_string w 158 9 5 none 0 cap underlying158 underlying5 underlying9];rfl
abbrev jp(b:Nat):au:=aF b
abbrev iQ(n:Nat)(f:Nat->Nat):List au:=(dM n).map fun x=>jp (f x)
structure fq(w:an)(a b:Nat)(v:au)(n:Nat)(f:Nat->Nat):Prop where
 head:w.cell? (aa a b)=some v
 row:w.ownsRow 0 130 1 v n (iQ n f)
 bU:some a≠v.ownBlock
theorem fq.form{w hb ho n v f}(h:fq w hb ho v n f):∃a b,v=.slice a n b/\n<=b/\b<=bT:=by
 rcases h.row.2 with⟨c,d⟩|⟨g,b,j,c,_,_,e,i,_⟩
 ·exact⟨none,0,by rw[c,d],ak,by unfold bT;omega⟩
 ·exact⟨_,b,c,e,i⟩
theorem EA{n f x}(h:x<n):(iQ n f)[x]? =some (jp (f x)):=by simp[iQ,h]
theorem fq.full{w hb ho n v f}(h:fq w hb ho v n f)(h0:0<n):∃g a b,v=.slice (some (aa g 0)) n a/\w.heap[g]? =some (.cells b 130 (0,0))/\n<=a/\a<=bT/\b.size=a/\hb≠g/\∀x,x<n->b[x]? =some (jp (f x)):=by
 rcases h.row.2 with⟨c,d⟩|⟨g,a,b,c,_,d,i,j,m,k⟩
 ·omega
 ·refine⟨g,a,b,c,d,i,j,ak,fun e=>h.bU (by rw[c,e];rfl),fun x l=>?_⟩;have:=EA (f:=f) l;rw[<-k,lX,aM ak,kK]at this;exact this
theorem ZM(hb ho n v f w)(h:fq w hb ho v n f):
  fE 77 #[.pointer (some (aa hb ho))] w (aj n):=by
 obtain⟨a,c,rfl,_⟩:=h.form;have b:=h.head;go_enter func77,ntmps77;go_wp2;go_ret;exact⟨rfl,rfl⟩
theorem Qb(hb ho n v f w)(h:fq w hb ho v n f)(h0:0<n):
  fE 103 #[.pointer (some (aa hb ho))] w (.tuple #[jp (f 0),.bool true]):=by
 obtain⟨g,e,i,rfl,a,_,_,_,_,b⟩:=h.full h0;have c:=h.head;have d:=av a (b 0 h0);have j:((n:Int)==0)=false:=bK;have k:(0:Int)<(n:Int):=ak;go_enter func103,ntmps103;go_wp2
 go_ret2
 exact⟨rfl,rfl⟩
theorem Rl(i:Nat)(h0:0<i)(a:i<=1048576)(w:an):
  fE 270 #[aj i] w (aj (par i:Nat)):=by
 go_enter func270,ntmps270;go_wp2;go_ret;refine⟨?_,rfl⟩;have e:((i:Int)-1) / 2=((par i:Nat):Int):=by grind
 rw[<-e];rfl
structure kY(w:an)(j:Nat)(k:Key):Prop where
 due:w.cell? (aa j 5)=some (aj k.1)
 order:w.cell? (aa j 6)=some (aj k.2)
theorem Wd(i j)(a b:Key)(w)(h:kY w i a)(k:kY w j b):
  Calls prog 304 #[jp i,jp j] w fun e q=>e=.returned (.bool (dF a b))/\∃d,q=w.drewN d:=by
 obtain⟨n,o⟩:=h;obtain⟨d5,d6⟩:=k;obtain⟨a1,c⟩:=a;obtain⟨b1,f⟩:=b;dsimp only at n o d5 d6
 by_cases l:a1<b1
 ·have e:dF (a1,c) (b1,f)=true:=by simp[dF,l]
  rw[e];go_enter func304,ntmps304
  go_upto_region 1 with fail
  go_quiet (fail)
  go_wp2;go_ret;exact⟨rfl,_,rfl⟩
 ·by_cases g:a1=b1
  ·subst g;have p:¬a1<a1:=Int.lt_irrefl _
   by_cases m:c<f
   ·have e:dF (a1,c) (a1,f)=true:=by simp[dF,m]
    rw[e];go_enter func304,ntmps304
    go_upto_region 1 with fail
    go_quiet (fail)
    go_wp2;go_ret;exact⟨rfl,_,rfl⟩
   ·have e:dF (a1,c) (a1,f)=false:=by simp[dF,m]
    rw[e];go_enter func304,ntmps304
    go_upto_region 1 with fail
    go_quiet (fail)
    go_wp2;go_ret;exact⟨rfl,_,rfl⟩
  ·have e:dF (a1,c) (b1,f)=false:=by simp[dF,l,g]
   have p:(a1==b1)=false:=by simp[g]
   rw[e];go_enter func304,ntmps304
   go_upto_region 1 with fail
   go_quiet (fail)
   go_wp2;go_ret;exact⟨rfl,_,rfl⟩
theorem F7{d}(a w)(b:d=prog.types.size+Made.depth):(method d 130 (.pointer (some a)) "Before").run prog w=.ok (304,.pointer (some a)) w:=by
 subst b
 kernel_rfl
theorem WB(x y w):(callFunc 304 #[x,y]).run prog w=.ok (.enter 304 #[x,y]) w:=by have a:(f304.name== "runtime.NumGoroutine")=false:=aI;have b:f304.body.isNone=false:=aI;unfold callFunc;simp only[ug,run_program,Mo,func304,a,b,eA,dy,Sem.run_pure]
theorem Qm(p r n i k:Nat)(v:au)(f:Nat->Nat)(a:Nat->Key)(w:an)(h:fq w p r v n f)(j:i<n)(l:k<n)(B:n<=1048576)(b:∀x,x<n->kY w (f x) (a (f x))):
  Calls prog 195 #[.pointer (some (aa p r)),aj i,aj k] w fun e c=>e=.returned (.bool (dF (a (f i)) (a (f k))))/\∃d,c=w.drewN d:=by
 obtain⟨g,z,A,rfl,q,_,_,_,_,s⟩:=h.full ak;have t:=h.head;have u:=av q (s i j);have y:=av q (s k l)
 have o:Hid (∀c,(∃d,c=w.drewN d)->kY c (f i) (a (f i))/\kY c (f k) (a (f k))):=by rintro c ⟨d,rfl⟩;exact⟨⟨(b i j).due,(b i j).order⟩,⟨(b k l).due,(b k l).order⟩⟩
 go_enter func195,ntmps195
 go_upto_region 1 with fail
 refine wp_region_quiet_lit aI aI ?_
 iterate 15 (quiet_step (fail))
 refine wpQuiet_step (fun K b=>?_);go_simp;refine⟨.bool (dF (a (f i)) (a (f k))),fun m=>?_,b _ ?_⟩
 ·rw[F7 _ _ aI,Mo,WB];refine⟨rfl,Calls.quiet_of (Wd (f i) (f k) (a (f i)) (a (f k)) (w.drewN m) (o.out _ ⟨m,rfl⟩).1 (o.out _ ⟨m,rfl⟩).2)⟩
 quiet_step (fail)
 refine wpQuiet_nil ?_;rintro _ ⟨m,rfl⟩;go_wp2;go_ret;exact⟨rfl,_,rfl⟩
theorem eZ{W:an}{a b o x:Nat}{u v:au}(h:W.cell? (aa a o)=some v)(c:a≠b):(W.setCell (aa b x) u).cell? (aa a o)=some v:=by rw[fC (bH c)];exact h
theorem U8{n i k f}{b:Array au}{cap:Nat}(g:i<n)(j:k<n)(l:n<=cap)(hc:b.size=cap)(e:∀x,x<n->b[x]? =some (jp (f x))):
  ((b.setIfInBounds i (jp (f k))).setIfInBounds k (jp (f i))).toList.take (n*1)=iQ n (fQ f i k):=by
 refine tY fun x=>?_;rw[lX];split
 ·rename_i h;have d:x<n:=ak;rw[EA d,kK];unfold fQ
  by_cases c:x=k
  ·subst c;rw[FJ,aM bK]
   by_cases a:x=i
   ·subst a;rw[aM rfl]
   ·rw[aD a,aM rfl]
  ·rw[dx ak,aD c]
   by_cases a:x=i
   ·subst a;rw[FJ,aM ak,aM rfl]
   ·rw[dx ak,aD a];exact e x d
 ·exact(xO bK).symm
theorem fq.swap{w:an}{a m n i k g cap:Nat}{f:Nat->Nat}{e:Array au}(h:fq w a m (.slice (some (aa g 0)) n cap) n f)(q:i<n)(r:k<n)(p:w.heap[g]? =some (.cells e 130 (0,0)))(j:n<=cap)(hm:cap<=bT)(hc:e.size=cap)(l:a≠g)(c:∀x,x<n->e[x]? =some (jp (f x)))(d):
  fq (((w.drewN d).setCell (aa g i) (jp (f k))).setCell (aa g k) (jp (f i))) a m (.slice (some (aa g 0)) n cap) n (fQ f i k)/\aG (·=g) w (((w.drewN d).setCell (aa g i) (jp (f k))).setCell (aa g k) (jp (f i))):=by
 have o:=bV p i (jp (f k));refine⟨⟨eZ (eZ h.head l) l,⟨by simp[iQ],.inr ⟨g,cap,_,rfl,eE _,(bV o k (jp (f i))),j,hm,bK,U8 q r j hc c⟩⟩,h.bU⟩,rfl,aq,fun b a c=>?_⟩;exact(bH c).trans (bH c)
theorem SX(j ho n i k v f w)(h:fq w j ho v n f)(s:i<n)(t:k<n)(O:i≠k):
  Calls prog 196 #[.pointer (some (aa j ho)),aj i,aj k] w fun e p=>e=.returned (.tuple #[])/\fq p j ho v n (fQ f i k)/\aG (fun b=>some b=v.ownBlock) w p:=by
 obtain⟨g,u,y,rfl,o,z,A,B,m,l⟩:=h.full ak;have c:=h.head;have G:=av o (l i s);have H:=av o (l k t);have I:∀x,w.frozen? (aa g x)=false:=fun x=>aS o x;have r:=bV (show(w.drewN 1).heap[g]? =some (.cells y 130 (0,0)) from o) i (jp (f k));have J:∀x,((w.drewN 1).setCell (aa g i) (jp (f k))).frozen? (aa g x)=false:=fun x=>aS r x;have q:=h.swap s t o z A B m l 1;have d:=aL q;have M:(i:Int)<(n:Int):=ak;have N:(k:Int)<(n:Int):=ak;clear h l o q r;go_enter func196,ntmps196
 go_upto_region 0 with fail
 refine dR (S:=fun p=>p.cell? (aa j ho)=some (.slice (some (aa g 0)) n u)) c fun L=>?_;refine tk 0 ?_;refine tk 1 ?_;refine tk 2 ?_;refine tk 3 ?_;refine tk 4 ?_;refine tk 5 ?_;refine tk 6 ?_;refine tk 7 ?_;refine tk 8 ?_;refine tk 9 ?_;refine tk 10 ?_;refine tk 11 ?_;refine tk 12 ?_;refine tk 13 ?_;refine tk 14 ?_;refine tk 15 ?_;refine tk 17 ?_;refine tk 18 ?_;refine tk 19 ?_;refine tk 20 ?_;refine tk 21 ?_;refine tk 22 ?_;refine aH [16,23] (.cons rfl (fun K a=>?_) ?_)
 ·go_simp;refine a.out _ _ c (fun C=>?_);clear a K;refine rH 23 fun K a=>?_;go_simp;refine a.out _ _ c (fun D=>?_);clear a K;refine tk 24 ?_;refine rH 25 fun K a=>?_;go_simp;refine a.out _ _ (eZ c m) (fun E=>?_);clear a K;refine tk 26 ?_;refine rH 27 fun K a=>?_;go_simp;refine a.out _ _ (eZ (eZ c m) m) (fun F=>?_);clear a K;refine cK ?_
  (go_wp2;refine dZ rfl rfl ⟨rfl,d.out.1,d.out.2.os,d.out.2.size,fun b j l=>d.out.2.block b j fun e=>l (by rw[e];rfl)⟩)
 refine .cons rfl (fun K a=>?_) .nil;go_simp;refine a.out _ _ c (fun C=>?_);clear a K;refine rH 16 fun K a=>?_;go_simp;refine a.out _ _ c (fun D=>?_);clear a K;refine tk 24 ?_;refine rH 25 fun K a=>?_;go_simp;refine a.out _ _ (eZ c m) (fun E=>?_);clear a K;refine tk 26 ?_;refine rH 27 fun K a=>?_;go_simp;refine a.out _ _ (eZ (eZ c m) m) (fun F=>?_);clear a K;refine cK ?_
 (go_wp2;refine dZ rfl rfl ⟨rfl,d.out.1,d.out.2.os,d.out.2.size,fun b j l=>d.out.2.block b j fun e=>l (by rw[e];rfl)⟩)
structure kZ(n:Nat)(f f':Nat->Nat):Prop where
 aO:∀x,x<n->∃y,y<n/\f' x=f y
 all:∀y,y<n->∃x,x<n/\f' x=f y
 one:(∀x y,x<n->y<n->f x=f y->x=y)->∀x y,x<n->y<n->f' x=f' y->x=y
theorem kZ.refl(n f):kZ n f f:=⟨fun x h=>⟨x,h,rfl⟩,fun x h=>⟨x,h,rfl⟩,fun h=>h⟩
theorem kZ.trans{n f g h}(a:kZ n f g)(b:kZ n g h):kZ n f h:=
 ⟨fun x d=>by obtain⟨y,i,e⟩:=b.aO x d;obtain⟨z,j,c⟩:=a.aO y i;exact⟨z,j,e.trans c⟩,
  fun z j=>by obtain⟨y,i,e⟩:=a.all z j;obtain⟨x,d,c⟩:=b.all y i;exact⟨x,d,c.trans e⟩,fun o=>b.one (a.one o)⟩
theorem kZ.fQ{n i k}(f)(d:i<n)(g:k<n):kZ n f (fQ f i k):=by
 refine⟨fun x h=>?_,fun y j=>?_,fun o x y h j e=>?_⟩
 ·by_cases a:x=i
  ·exact⟨k,g,by simp[Proofs.YtpobhljcainmdaaGreat.fQ,a]⟩
  ·by_cases b:x=k
   ·exact⟨i,d,by subst b;simp[Proofs.YtpobhljcainmdaaGreat.fQ,a]⟩
   ·exact⟨x,h,by simp[Proofs.YtpobhljcainmdaaGreat.fQ,a,b]⟩
 ·by_cases a:y=k
  ·exact⟨i,d,by simp[Proofs.YtpobhljcainmdaaGreat.fQ,a]⟩
  ·by_cases b:y=i
   ·refine⟨k,g,?_⟩;subst b;unfold Proofs.YtpobhljcainmdaaGreat.fQ;rw[aD (fun e=>a e.symm),aM rfl]
   ·exact⟨y,j,by simp[Proofs.YtpobhljcainmdaaGreat.fQ,a,b]⟩
 ·simp only[Proofs.YtpobhljcainmdaaGreat.fQ]at e
  by_cases a:x=i
  ·by_cases b:y=i
   ·omega
   ·rw[aM a,aD b]at e
    by_cases c:y=k
    ·rw[aM c]at e;have:=o _ _ g d e;omega
    ·rw[aD c]at e;have:=o _ _ g j e;omega
  ·rw[aD a]at e
   by_cases l:x=k
   ·rw[aM l]at e
    by_cases b:y=i
    ·rw[aM b]at e;have:=o _ _ d g e;omega
    ·rw[aD b]at e
     by_cases c:y=k
     ·omega
     ·rw[aD c]at e;have:=o _ _ d j e;omega
   ·rw[aD l]at e
    by_cases b:y=i
    ·rw[aM b]at e;have:=o _ _ h g e;omega
    ·rw[aD b]at e
     by_cases c:y=k
     ·rw[aM c]at e;have:=o _ _ h d e;omega
     ·rw[aD c]at e;exact o _ _ h j e
theorem Qn(K:Nat->Key)(f:Nat->Nat)(i k:Nat):(fun x=>K (fQ f i k x))=fQ (fun x=>K (f x)) i k:=by
 funext x
 simp only[fQ];split
 ·rfl
 ·split<;>rfl
theorem kY.bS{w w' j k X}(h:kY w j k)(c:aG X w w')(b:¬X j):kY w' j k:=by have a:=c.block j (gM h.due) b;exact⟨(fC a).trans h.due,(fC a).trans h.order⟩
def Keyed(w:an)(v:au)(n:Nat)(f:Nat->Nat)(K:Nat->Key):Prop:=∀x,x<n->kY w (f x) (K (f x))/\some (f x)≠v.ownBlock
theorem Keyed.mix{w w' v n f f' K}(h:Keyed w v n f K)(m:kZ n f f')(c:aG (fun b=>some b=v.ownBlock) w w'):Keyed w' v n f' K:=fun x d=>by obtain⟨y,a,e⟩:=m.aO x d;rw[e];exact⟨(h y a).1.bS c (h y a).2,(h y a).2⟩
theorem Keyed.drewN{w v n f K}(h:Keyed w v n f K)(d):Keyed (w.drewN d) v n f K:=fun x a=>⟨⟨(h x a).1.due,(h x a).1.order⟩,(h x a).2⟩
theorem fq.drewN{w hb ho n v f}(h:fq w hb ho v n f)(d):fq (w.drewN d) hb ho v n f:=⟨h.head,h.row,h.bU⟩
structure yy(w W:an)(a c:Nat)(v:au)(n:Nat)(f:Nat->Nat)(K:Nat->Key)(q:Nat)(f':Nat->Nat):Prop where
 heap:fq W a c v n f'
 keys:Keyed W v n f' K
 mix:kZ n f f'
 up:uA n (fun x=>K (f' x)) q
 bS:aG (fun b=>some b=v.ownBlock) w W
theorem yy.drewN{w W hb ho n q v f f' K}(h:yy w W hb ho v n f K q f')(d):yy w (W.drewN d) hb ho v n f K q f':=
 ⟨h.heap.drewN d,h.keys.drewN d,h.mix,h.up,⟨h.bS.os,h.bS.size,h.bS.block⟩⟩
theorem aap(j k n i:Nat)(v:au)(f:Nat->Nat)(g:Nat->Key)(w:an)(h:fq w j k v n f)(F:i<n)(G:n<=1048576)(E:Keyed w v n f g)(D:uA n (fun x=>g (f x)) i):
  Calls prog 245 #[.pointer (some (aa j k)),aj i] w fun e l=>e=.returned (.tuple #[])/\∃c,fq l j k v n c/\kZ n f c/\Hp n (fun x=>g (c x))/\aG (fun b=>some b=v.ownBlock) w l:=by
 have y:Hid (yy w w j k v n f g i f):=⟨h,E,kZ.refl _ _,D,aG.refl _ _⟩;go_enter func245,ntmps245;go_wp2
 go_loopw [1] (fun u wr=>∃q c,u=aj (q:Nat)/\q<n/\Hid (yy w wr j k v n f g q c)) (fun u _=>(gu u).toNat)
 case atStart=>exact⟨i,f,rfl,F,y⟩
 case round=>
  obtain⟨q,c,rfl,p,hR⟩:=hrel
  by_cases h0:q=0
  ·subst h0;go_wp2;have R:=hR.out;exact dZ rfl rfl ⟨rfl,c,R.heap,R.mix,R.up.done (.inl rfl),R.bS⟩
  ·have I:(0:Int)<(q:Int):=ak;have o:par q<n:=by simp only[par];omega
   have r:Hid (∀d,Calls prog 195 #[.pointer (some (aa j k)),aj q,aj (par q:Nat)] (wr.drewN d) fun e l=>e=.returned (.bool (dF (g (c q)) (g (c (par q)))))/\∃C,l=wr.drewN (d+C)):=fun d=>by refine(Qm j k n q (par q) v c g (wr.drewN d) (hR.out.heap.drewN d) p o G (fun x H=>((hR.out.keys.drewN d) x H).1)).mono ?_;rintro e l ⟨rfl,m,rfl⟩;exact⟨rfl,m,Vj ..⟩
   cases s:dF (g (c q)) (g (c (par q)))with
   |false=>
    rw[s]at r
    go_wp2_with (first
     |(go_at_call 270;refine(Rl q ak ak _).mono ?_;rintro e t ⟨rfl,rfl⟩)
     |(go_at_call 195;refine(r.out 0).mono ?_;rintro e t ⟨rfl,d,rfl⟩))
    have R:=hR.out.drewN d;exact dZ rfl rfl ⟨rfl,c,R.heap,R.mix,R.up.done (.inr s),R.bS⟩
   |true=>
    rw[s]at r
    have B:Hid (∀d,Calls prog 196 #[.pointer (some (aa j k)),aj q,aj (par q:Nat)] (wr.drewN d) fun e l=>e=.returned (.tuple #[])/\yy w l j k v n f g (par q) (fQ c q (par q))):=fun d=>by have R:=hR.out.drewN d;refine(SX j k n q (par q) v c (wr.drewN d) R.heap p o (by simp only[par];omega)).mono ?_;rintro e l ⟨rfl,a,b⟩;refine⟨rfl,a,R.keys.mix (.fQ c p o) b,R.mix.trans (.fQ c p o),?_,R.bS.trans b⟩;rw[Qn];exact R.up.step ak p s
    go_wp2_with (first
     |(go_at_call 270;refine(Rl q ak ak _).mono ?_;rintro e t ⟨rfl,rfl⟩)
     |(go_at_call 195;refine(r.out 0).mono ?_;rintro e t ⟨rfl,d,rfl⟩)
     |(go_at_call 196;refine(B.out _).mono ?_;rintro e t ⟨rfl,A⟩;have z:=aL A))
    refine⟨⟨par q,_,?_,o,z⟩,?_⟩
    ·have e:(((q-1:Nat):Int) / 2)=((par q:Nat):Int):=by simp only[par];omega
     rw[e]
    ·simp[gu];omega
theorem U7(n f j):iQ n f++[jp j]=iQ (n+1) (fun x=>if x=n then j else f x):=by
 unfold iQ;rw[xP,BV]
 congr 1
 ·refine List.map_congr_left fun x a=>?_;have b:=lY.1 a;show jp (f x)=jp (if x=n then j else f x);rw[aD ak]
 ·simp
theorem j9:(prog.info? 130).map (fun i=>(i.zero,i.size,i.bytes))=some (some (.pointer none),1,8):=aI
abbrev more(f:Nat->Nat)(n j:Nat):Nat->Nat:=fun x=>if x=n then j else f x
theorem ZS{n}{f:Nat->Nat}{K:Nat->Key}(j)(h:Hp n fun x=>K (f x)):uA (n+1) (fun x=>K (more f n j x)) n:=by
 refine⟨fun x h0 i a=>?_,fun h0 c e g b=>?_⟩
 ·have d:par x<n:=by simp only[par];omega
  have:=h x h0 ak;simp only[more];rw[aD ak,aD a];exact this
 ·simp only[par]at b;omega
theorem V1{w W hb ho n j g cap v f K iy x}{m:TypeId}(q:w.heap[hb]? =some (.cells iy m (0,0)))(u:iy[ho]? =some v)(M:m≠130)(S:w.ownsRow 0 130 1 v n (iQ n f))(L:Keyed w v n f K)(O:∀x,x<n->f x≠hb)(y:kY w j (K j))(z:some j≠v.ownBlock)(Q:j≠hb)(N:W.ownsRow 0 130 1 (.slice (some (aa g 0)) (n+1) cap) (n+1) (iQ n f++[jp j]))(r:(w.alloc (.cells x 130)).grownBy W v.ownBlock)(t:v.ownBlock=some g\/g=w.heap.size+1):
  W.cell? (aa hb ho)=some v/\W.frozen? (aa hb ho)=false/\(W.setCell (aa hb ho) (.slice (some (aa g 0)) (n+1) cap)).heap[hb]? =some (.cells (iy.setIfInBounds ho (.slice (some (aa g 0)) (n+1) cap)) m (0,0))/\
  fq (W.setCell (aa hb ho) (.slice (some (aa g 0)) (n+1) cap)) hb ho (.slice (some (aa g 0)) (n+1) cap) (n+1) (more f n j)/\Keyed (W.setCell (aa hb ho) (.slice (some (aa g 0)) (n+1) cap)) (.slice (some (aa g 0)) (n+1) cap) (n+1) (more f n j) K/\
  aG (fun b=>b=hb\/some b=v.ownBlock) w (W.setCell (aa hb ho) (.slice (some (aa g 0)) (n+1) cap)):=by
 have R:hb<w.heap.size:=(aP.1 q).1
 have A:some hb≠v.ownBlock:=fun e=>by
  rcases S.2 with⟨c,_⟩|⟨E,C,s,c,_,d,_⟩
  ·rw[c]at e;cases e
  ·rw[c]at e;cases e;rw[q]at d;cases d;exact M rfl
 have B:hb≠g:=fun e=>by
  rcases t with h|h
  ·exact A (by rw[h,e])
  ·omega
 have old:∀b,b<w.heap.size->some b≠v.ownBlock->W.heap[b]? =w.heap[b]? :=fun b p l=>(r.block b bK l).trans (Below.heap_alloc w _ b p);have o:W.heap[hb]? =some (.cells iy m (0,0)):=(old hb R A).trans q;have d:=bV o ho (.slice (some (aa g 0)) (n+1) cap);have T:=r.size;simp at T
 have bS:aG (fun b=>b=hb\/some b=v.ownBlock) w (W.setCell (aa hb ho) (.slice (some (aa g 0)) (n+1) cap)):=
  ⟨by show W.os=w.os;rw[r.os];rfl,bK,fun b p l=>(bH (fun e=>l (.inl e))).trans (old b p fun e=>l (.inr e))⟩
 have P:ho<iy.size:=(aP.1 u).1;have key:∀i k,kY w i k->some i≠v.ownBlock->i≠hb->kY (W.setCell (aa hb ho) (.slice (some (aa g 0)) (n+1) cap)) i k:=fun i k h c d=>h.bS bS (fun e=>e.elim d c)
 have bU:∀i k,kY w i k->some i≠v.ownBlock->some i≠(Value.slice (some (aa g 0)) (n+1) cap).ownBlock:=fun i k h c e=>by
  have D:i=g:=by simpa[uk]using e
  rcases t with h'|h'
  ·exact c (by rw[h',D])
  ·have:=gM h.due;simp only at this;omega
 refine⟨av o u,aS o _,d,⟨av d (by simp[P]),⟨by simp[iQ],?_⟩,fun e=>B (by simpa[uk]using e)⟩,fun x l=>?_,bS⟩
 ·rcases N.2 with⟨h,_⟩|⟨E,C,s,c,d,F,G,H,I,J⟩
  ·cases h
  ·cases c;exact .inr ⟨g,cap,s,rfl,d,(bH (fun e=>B e.symm)).trans F,G,H,I,by rw[J,U7]⟩
 ·simp only[more]
  by_cases e:x=n
  ·rw[aM e];exact⟨key j _ y z Q,bU j _ y z⟩
  ·rw[aD e];obtain⟨a,b⟩:=L x ak;exact⟨key _ _ a b (O x ak),bU _ _ a b⟩
theorem V0(a ho n j v f K0 iy Th w)(p:w.heap[a]? =some (.cells iy Th (0,0)))(u:iy[ho]? =some v)(G:Th≠130)(y:w.ownsRow 0 130 1 v n (iQ n f))(hn:n<1048576)(F:Keyed w v n f K0)(H:∀x,x<n->f x≠a)(K:kY w j (K0 j))(M:some j≠v.ownBlock)(L:j≠a)(E:Hp n fun x=>K0 (f x)):
  Calls prog 212 #[.pointer (some (aa a ho)),jp j] w fun e q=>e=.returned (.tuple #[])/\∃l d,q.heap[a]? =some (.cells (iy.setIfInBounds ho l) Th (0,0))/\q.ownsRow 0 130 1 l (n+1) (iQ (n+1) d)/\kZ (n+1) (more f n j) d/\Hp (n+1) (fun x=>K0 (d x))/\aG (fun b=>b=a\/some b=v.ownBlock) w q/\(l.ownBlock=v.ownBlock\/∀g,l.ownBlock=some g->w.heap.size<=g):=by
 obtain⟨R,J,O,P,Q⟩:=info_parts j9;have ah:=(aP.1 p).1;have Z:=av p u;have C:Hid ((w.alloc (.cells #[jp j] 130)).ownsRow 0 130 1 v n (iQ n f)):=y.alloc _;have HM:Hid (w.heap[a]? =some (.cells iy Th (0,0))/\w.ownsRow 0 130 1 v n (iQ n f)/\Keyed w v n f K0/\kY w j (K0 j)):=⟨p,y,F,K⟩;have az:a≠w.heap.size:=ak;have X:True:=trivial;go_enter func212,ntmps212
 go_wp2_with (first
  |(at_builtin;have _t:=X;refine wpList_append_lies _ (by rfl) _ _ 107 (by rfl) 0 130 R _ 1 8 underlying107 J O P Q (by rfl) ak v n (iQ n f) (by rfl) C.out ⟨w.heap.size,0,none⟩ 1 1 [jp j] (by rfl) (by rfl) (World.news_of_block (bW w _)) (by simp[Value.oneCell']) ak (by unfold bT;omega) ak aq (w.heap.size+1) aq ?_;intro g c m N I t aj;obtain⟨m1,m2,S,A,T,U⟩:=V1 HM.out.1 u G HM.out.2.1 HM.out.2.2.1 H HM.out.2.2.2 M L N I t;have o:Hid ((m.setCell (aa a ho) (.slice (some (aa g 0)) (n+1) c)).heap[a]? =some (.cells (iy.setIfInBounds ho (.slice (some (aa g 0)) (n+1) c)) Th (0,0))/\
  fq (m.setCell (aa a ho) (.slice (some (aa g 0)) (n+1) c)) a ho (.slice (some (aa g 0)) (n+1) c) (n+1) (more f n j)/\Keyed (m.setCell (aa a ho) (.slice (some (aa g 0)) (n+1) c)) (.slice (some (aa g 0)) (n+1) c) (n+1) (more f n j) K0/\
  aG (fun b=>b=a\/some b=v.ownBlock) w (m.setCell (aa a ho) (.slice (some (aa g 0)) (n+1) c))/\(v.ownBlock=some g\/g=w.heap.size+1)):=⟨S,A,T,U,t⟩;have c4:=A.head)
  |(go_at_call 245;refine(aap a ho (n+1) n _ (more f n j) K0 _ o.out.2.1 ak ak o.out.2.2.1 (ZS j E)).mono ?_;rintro e w5 ⟨rfl,d,B,V,W,k⟩))
 obtain⟨a1,Y,a3,i,r⟩:=o.out;refine dZ rfl rfl ⟨rfl,_,d,(k.block a (aP.1 a1).1 B.bU).trans a1,B.row,V,W,⟨k.os.trans i.os,cS i.size k.size,fun b a z=>(k.block b (cV a i.size) (fun e=>?_)).trans (i.block b a z)⟩,?_⟩
 ·have s:b=g:=by simpa[uk]using e
  rcases r with h|h
  ·exact z (.inr (by rw[h,s]))
  ·omega
 ·rcases r with h|h
  ·exact .inl (by rw[h];rfl)
  ·refine .inr fun D e=>?_;have s:g=D:=by simpa[uk]using e
   omega
structure yz(w W:an)(a c:Nat)(v:au)(n:Nat)(f:Nat->Nat)(K:Nat->Key)(q:Nat)(f':Nat->Nat):Prop where
 heap:fq W a c v n f'
 keys:Keyed W v n f' K
 mix:kZ n f f'
 dn:uz n (fun x=>K (f' x)) q
 bS:aG (fun b=>some b=v.ownBlock) w W
theorem yz.drewN{w W hb ho n q v f f' K}(h:yz w W hb ho v n f K q f')(d):yz w (W.drewN d) hb ho v n f K q f':=
 ⟨h.heap.drewN d,h.keys.drewN d,h.mix,h.dn,⟨h.bS.os,h.bS.size,h.bS.block⟩⟩
def pE(n:Nat)(f:Nat->Key)(q:Nat):Nat->Nat
 |0=>q
 |k+1=>iM n f q (2*q+1+k) (pE n f q k)
theorem OP(n f q):∀k,pE n f q k<=2*q+k
 |0=>by simp only[pE];omega
 |k+1=>by have:=OP n f q k;simp only[pE,iM];split<;>omega
theorem Tx{P fn R a w}(hr:fn.results=#[])(b:a.defers=[])(h:R (.returned (.tuple #[])) w):bodyPost P fn R Exit.ret a w:=
 ⟨b,.tuple #[],by simp[results,hr],h⟩
theorem abt(hb ho n i v f j w)(h:fq w hb ho v n f)(Q:i<=n)(U:n<=1048576)(N:Keyed w v n f j)(M:uz n (fun x=>j (f x)) i):
  Calls prog 160 #[.pointer (some (aa hb ho)),aj i] w fun e l=>e=.returned (.tuple #[])/\∃g,fq l hb ho v n g/\kZ n f g/\Hp n (fun x=>j (g x))/\aG (fun b=>some b=v.ownBlock) w l:=by
 have G:Hid (yz w w hb ho v n f j i f):=⟨h,N,kZ.refl _ _,M,aG.refl _ _⟩;go_enter func160,ntmps160;go_wp2
 go_loopw [1,4,5] (fun C _ _ wr=>∃q g,C=aj (q:Nat)/\q<=n/\Hid (yz w wr hb ho v n f j q g)) (fun C _ _ _=>n-(gu C).toNat)
 case atStart=>exact⟨i,f,rfl,Q,G⟩
 case round=>
  obtain⟨q,g,rfl,hq,hR⟩:=hrel;obtain⟨W,L,hv,O,T⟩:=hR.out.heap.form;have K:∀d,(wr.drewN d).cell? (aa hb ho)=some (.slice W n L):=fun d=>hv▸hR.out.heap.head;clear hv O T
  have I:Hid (∀d x y,x<n->y<n->Calls prog 195 #[.pointer (some (aa hb ho)),aj (x:Nat),aj (y:Nat)] (wr.drewN d) fun e l=>e=.returned (.bool (dF (j (g x)) (j (g y))))/\∃t,l=wr.drewN (d+t)):=fun d x y B V=>by refine(Qm hb ho n x y v g j (wr.drewN d) (hR.out.heap.drewN d) B V U (fun x B=>((hR.out.keys.drewN d) x B).1)).mono ?_;rintro e l ⟨rfl,m,rfl⟩;exact⟨rfl,m,Vj ..⟩
  go_wp2
  go_loopw [4,5] (fun m c X=>∃k:Nat,k<=2/\c=aj ((2*q+1+k:Nat):Int)/\m=aj (pE n (fun x=>j (g x)) q k:Nat)/\∃d,X=wr.drewN d) (fun _ c _=>2*q+3-(gu c).toNat)
  case atStart=>exact⟨0,ak,by go_num,rfl,0,rfl⟩
  case round=>
   obtain⟨k,hk,rfl,rfl,d,rfl⟩:=hrel;have Z:=OP n (fun x=>j (g x)) q k;generalize hm:pE n (fun x=>j (g x)) q k=m at*;have Y:=K d
   by_cases ah:k<2
   ·have S:((2*q+1+k:Nat):Int)<=2*(q:Int)+2:=ak;generalize u:2*q+1+k=c at*
    by_cases z:c<n
    ·have P:(c:Int)<(n:Int):=ak;have p:=I.out d c m z ak;cases r:dF (j (g c)) (j (g m))with
     |true=>
      have o:pE n (fun x=>j (g x)) q (k+1)=c:=by simp only[pE,iM,hm,u];exact aM ⟨z,r⟩
      rw[r]at p;go_wp2_with (go_at_call 195;refine p.mono ?_;rintro e F ⟨rfl,t,rfl⟩);refine⟨⟨k+1,ak,by go_num,by rw[o],_,rfl⟩,?_⟩;simp[gu];omega
     |false=>
      have o:pE n (fun x=>j (g x)) q (k+1)=m:=by simp only[pE,iM,hm,u];exact aD (fun h=>by rw[r]at h;cases h.2)
      rw[r]at p;go_wp2_with (go_at_call 195;refine p.mono ?_;rintro e F ⟨rfl,t,rfl⟩);refine⟨⟨k+1,ak,by go_num,by rw[o],_,rfl⟩,?_⟩;simp[gu];omega
    ·have P:¬(c:Int)<(n:Int):=ak;have o:pE n (fun x=>j (g x)) q (k+1)=m:=by simp only[pE,iM,hm,u];exact aD (fun h=>z h.1)
     go_wp2;refine⟨⟨k+1,ak,by go_num,by rw[o],_,rfl⟩,?_⟩;simp[gu];omega
   ·obtain rfl:k=2:=ak;have S:¬((2*q+1+2:Nat):Int)<=2*(q:Int)+2:=ak;have A:iM n (fun x=>j (g x)) q (2*q+2) (iM n (fun x=>j (g x)) q (2*q+1) q)=m:=hm
    by_cases s:m=q
    ·subst s;go_wp2;have R:=hR.out.drewN d;exact Tx rfl rfl ⟨rfl,g,R.heap,R.mix,R.dn.done A,R.bS⟩
    ·have aq:((m:Int)==(q:Int))=false:=bK;obtain⟨l1,D,l3,l4⟩:=OU A s
     have J:Hid (Calls prog 196 #[.pointer (some (aa hb ho)),aj q,aj m] (wr.drewN d) fun e l=>e=.returned (.tuple #[])/\yz w l hb ho v n f j m (fQ g q m)):=by have R:=hR.out.drewN d;refine(SX hb ho n q m v g (wr.drewN d) R.heap ak D (fun e=>s e.symm)).mono ?_;rintro e l ⟨rfl,a,b⟩;refine⟨rfl,a,R.keys.mix (.fQ g ak D) b,R.mix.trans (.fQ g ak D),?_,R.bS.trans b⟩;rw[Qn];exact R.dn.step A s
     go_wp2_with (go_at_call 196;refine J.out.mono ?_;rintro e F ⟨rfl,E⟩;have H:=aL E;clear E);refine⟨⟨m,_,rfl,ak,H⟩,?_⟩;simp[gu];omega
theorem EN{P}(w t e ty z)(f:P.underlying t=some (.slice e))(hv:∀w,(zeroValue e).run P w=.ok z w)(b o n c)(h:0<n)(zs)(g:(Builtin.zeroCells z.cells n).toList=zs)(d:∀u∈zs,u.oneCell'=true)(hc:∀j,j<zs.length->(w.cell? (aa b (o+j))).isSome=true)(hf:∀j,j<zs.length->w.frozen? (aa b (o+j))=false):
  (tT #[t] ty #[.slice (some (aa b o)) n c]).run P w=.ok (.tuple #[]) (w.setCells b o zs):=by
 have a:=run_storeCells_cells (P:=P) b o zs 0 w ak ak d;simp at a;obtain⟨m,rfl⟩:∃m,n=m+1:=⟨n-1,ak⟩;simp[tT,run_underlying f,hv,g,a]
theorem NP{w T k g cap n cur news zs}(r:w.heap[g]? =some (.cells cur T (0,0)))(x:cur.size=cap*k)(q:n+1<=cap)(hm:cap<=bT)(p:news.length=n*k)(y:zs.length=k):
  ((w.drew.setCells g 0 news).setCells g (n*k) zs).ownsRow 0 T k (.slice (some (aa g 0)) n cap) n news/\aG (·=g) w ((w.drew.setCells g 0 news).setCells g (n*k) zs):=by
 obtain⟨d,f,s,t,h,j,l,m⟩:=qG news 0 w.drew cur r;obtain⟨e,f1,f2,f3,f4,f5,f6,f7⟩:=qG zs (n*k) _ d f;have v:n*k+k<=cap*k:=by rw[<-Nat.succ_mul];exact xU k q
 refine⟨⟨p,.inr ⟨g,cap,e,rfl,eE _,f1,ak,hm,ak,?_⟩⟩,f7.trans m,Nat.le_of_eq (f6.trans l).symm,fun b u c=>(f5 b c).trans (j b c)⟩;refine tY fun i=>?_;rw[lX];split
 ·rename_i o;rw[kK,f3 i (.inl o)];have a:i<news.length:=ak;have:=h i news[i] (dN a) ak;rw[fo]at this;rw[this,dN a]
 ·exact(xO ak).symm
theorem take_at{b:Array au}{x rest:List au}{m k:Nat}(h:b.toList.take m=x++rest)(d:x.length=k):∀j u,rest[j]? =some u->b[k+j]? =some u:=fun j u c=>by
 have a:(x++rest)[k+j]? =some u:=by rw[qN ak,d,ue];exact c
 rw[<-h,lX]at a;split at a
 ·rw[kK]at a;exact a
 ·cases a
theorem Eu{zs:List au}(h:zs.all (·.oneCell')=true):∀u∈zs,u.oneCell'=true:=fun u a=>nE.1 h u a
abbrev zsQ:List au:=[aj 0,.string ⟨#[]⟩,aj 0,aj 0,aj 0,aj 0,aj 0,.string ⟨#[]⟩,aj 0,aj 0]
abbrev NN(w:an)(g L:Nat)(news:List au):an:=(w.drew.setCells g 0 news).setCells g ((L-1) *10) zsQ
theorem Xt(g L cap news cur w)(F:0<L)(hc:L<=cap)(hm:cap<=bT)(r:news.length=(L-1) *10)(n:∀u∈news,u.oneCell'=true)(c:w.heap[g]? =some (.cells cur 134 (0,0)))(J:cur.size=cap*10)(d:∀j u,news[j]? =some u->cur[10+j]? =some u):
  Calls prog 269 #[.slice (some (aa g 0)) L cap,aj 0,aj 1] w fun e y=>e=.returned (.slice (some (aa g 0)) (L-1) cap)/\y=NN w g L news:=by
 have d:∀j u,news[j]? =some u->w.cell? (aa g (10+j))=some u:=fun j u a=>av c (d j u a);have s:∀j,j<cap*10->(w.cell? (aa g j)).isSome=true:=fun j b=>by rw[av c (cw ak)];rfl
 have o:∀j,w.frozen? (aa g j)=false:=fun j=>aS c j;have q:(prog.info? 134).map (·.size)=some 10:=aI;obtain⟨l,p,x⟩:=ep.1 q
 obtain⟨A,C,v⟩:∃A:eV,(if cap=1 then some (⟨g,0,none⟩:eV)else some ⟨g,10,none⟩)=some A/\(∀t u,news[t]? =some u->w.drew.cell? (A.add t)=some u):=by
  by_cases h:cap=1
  ·refine⟨⟨g,0,none⟩,by simp[h],fun t u a=>?_⟩;have e:news.length=0:=ak;rw[BT.1 e]at a;simp at a
  ·exact⟨⟨g,10,none⟩,by simp[h],fun t u a=>by rw[Lp];exact d t u a⟩
 have m:Hid ((nx #[165,165] 165 #[.slice (some (aa g 0)) 0 cap,.slice (some A) (L-1) (cap-1)]).run prog w.drew=.ok (.slice (some (aa g 0)) (0+(L-1)) cap) (w.drew.setCells g (0+0*l.size) news)):=
  GF w.drew 165 165 134 l underlying165 p g 0 0 cap A (L-1) (cap-1) news (by rw[x,r]) v n ak (fun j b=>by rw[sC,fo];exact(s _ ak)) (fun j b=>by rw[sC,fo];exact o _)
 have I:∀f,(tT #[165] f #[.slice (some (aa g ((L-1) *10))) (L-(L-1)) (cap-(L-1))]).run prog (w.drew.setCells g 0 news)=.ok (.tuple #[]) (NN w g L news):=fun f=>by
  obtain⟨z,i,B,_⟩:=qG news 0 w.drew cur c;refine EN (w.drew.setCells g 0 news) 165 134 f _ underlying165 zeroValue134 g ((L-1) *10) (L-(L-1)) (cap-(L-1)) ak _ (by rw[show L-(L-1)=1 by omega];kernel_rfl) (Eu (by rfl)) ?_ ?_
  ·intro j b;have:j<10:=b;rw[av i (cw ak)];rfl
  ·exact fun j _=>aS i _
 unfold bT at hm;have G:(1:Int)<=(L:Int):=ak;have H:((cap:Int)==1)=decide (cap=1):=by by_cases h:cap=1<;>simp[h];omega
 go_enter func269,ntmps269
 go_upto_region 5 with fail
 refine dR (S:=fun _=>True) trivial fun E=>?_;refine tk 0 ?_;refine tk 1 ?_;refine tk 2 ?_;refine tk 3 ?_;refine tk 4 ?_;refine tk 5 ?_;refine rH 6 fun K k=>?_
 (refine wY rfl rfl rfl rfl m.out ?_;simp)
 refine k.out _ _ (trivial) (fun D=>?_);clear k K;refine tk 7 ?_;refine cK ?_
 (go_wp2;go_ret;exact⟨rfl,rfl⟩)
abbrev zsF:List au:=[aj 0,.bool false,aj 0]
abbrev NM(w:an)(g L:Nat)(news:List au):an:=(w.drew.setCells g 0 news).setCells g ((L-1) *3) zsF
theorem Xp(g L cap news cur w)(F:0<L)(hc:L<=cap)(hm:cap<=bT)(r:news.length=(L-1) *3)(n:∀u∈news,u.oneCell'=true)(c:w.heap[g]? =some (.cells cur 188 (0,0)))(J:cur.size=cap*3)(d:∀j u,news[j]? =some u->cur[3+j]? =some u):
  Calls prog 244 #[.slice (some (aa g 0)) L cap,aj 0,aj 1] w fun e y=>e=.returned (.slice (some (aa g 0)) (L-1) cap)/\y=NM w g L news:=by
 have d:∀j u,news[j]? =some u->w.cell? (aa g (3+j))=some u:=fun j u a=>av c (d j u a);have s:∀j,j<cap*3->(w.cell? (aa g j)).isSome=true:=fun j b=>by rw[av c (cw ak)];rfl
 have o:∀j,w.frozen? (aa g j)=false:=fun j=>aS c j;have q:(prog.info? 188).map (·.size)=some 3:=aI;obtain⟨l,p,x⟩:=ep.1 q
 obtain⟨A,C,v⟩:∃A:eV,(if cap=1 then some (⟨g,0,none⟩:eV)else some ⟨g,3,none⟩)=some A/\(∀t u,news[t]? =some u->w.drew.cell? (A.add t)=some u):=by
  by_cases h:cap=1
  ·refine⟨⟨g,0,none⟩,by simp[h],fun t u a=>?_⟩;have e:news.length=0:=ak;rw[BT.1 e]at a;simp at a
  ·exact⟨⟨g,3,none⟩,by simp[h],fun t u a=>by rw[Lp];exact d t u a⟩
 have m:Hid ((nx #[106,106] 106 #[.slice (some (aa g 0)) 0 cap,.slice (some A) (L-1) (cap-1)]).run prog w.drew=.ok (.slice (some (aa g 0)) (0+(L-1)) cap) (w.drew.setCells g (0+0*l.size) news)):=
  GF w.drew 106 106 188 l underlying106 p g 0 0 cap A (L-1) (cap-1) news (by rw[x,r]) v n ak (fun j b=>by rw[sC,fo];exact(s _ ak)) (fun j b=>by rw[sC,fo];exact o _)
 have I:∀f,(tT #[106] f #[.slice (some (aa g ((L-1) *3))) (L-(L-1)) (cap-(L-1))]).run prog (w.drew.setCells g 0 news)=.ok (.tuple #[]) (NM w g L news):=fun f=>by
  obtain⟨z,i,B,_⟩:=qG news 0 w.drew cur c;refine EN (w.drew.setCells g 0 news) 106 188 f _ underlying106 zeroValue188 g ((L-1) *3) (L-(L-1)) (cap-(L-1)) ak _ (by rw[show L-(L-1)=1 by omega];kernel_rfl) (Eu (by rfl)) ?_ ?_
  ·intro j b;have:j<3:=b;rw[av i (cw ak)];rfl
  ·exact fun j _=>aS i _
 unfold bT at hm;have G:(1:Int)<=(L:Int):=ak;have H:((cap:Int)==1)=decide (cap=1):=by by_cases h:cap=1<;>simp[h];omega
 go_enter func244,ntmps244
 go_upto_region 5 with fail
 refine dR (S:=fun _=>True) trivial fun E=>?_;refine tk 0 ?_;refine tk 1 ?_;refine tk 2 ?_;refine tk 3 ?_;refine tk 4 ?_;refine tk 5 ?_;refine rH 6 fun K k=>?_
 (refine wY rfl rfl rfl rfl m.out ?_;simp)
 refine k.out _ _ (trivial) (fun D=>?_);clear k K;refine tk 7 ?_;refine cK ?_
 (go_wp2;go_ret;exact⟨rfl,rfl⟩)
theorem Xq{v:au}{n:Nat}{x rest:List au}(w)(h:w.ownsRow 0 188 3 v (n+1) (x++rest))(c:x.length=3)(r:∀u∈rest,u.oneCell'=true):
  Calls prog 244 #[v,aj 0,aj 1] w fun e f=>∃d,e=.returned d/\f.ownsRow 0 188 3 d n rest/\aG (fun b=>some b=v.ownBlock) w f/\d.ownBlock=v.ownBlock:=by
 have m:rest.length=n*3:=by have:=h.1;simp[c]at this;omega
 rcases h.2 with⟨_,h0⟩|⟨g,p,q,rfl,y,l,o,i,j,t⟩
 ·omega
 ·refine(Xp g (n+1) p rest q w ak o i m r l j (take_at t c)).mono ?_;rintro e f ⟨rfl,rfl⟩;obtain⟨a,b⟩:=NP (zs:=zsF) l j o i m rfl;exact⟨_,rfl,a,⟨b.os,b.size,fun k s c=>b.block k s fun e=>c (by rw[e];rfl)⟩,rfl⟩
theorem Xr(g n cap cur w)(h0:0<n)(hc:n<=cap)(hm:cap<=bT)(f:w.heap[g]? =some (.cells cur 130 (0,0)))(C:cur.size=cap):
  Calls prog 159 #[.slice (some (aa g 0)) n cap,aj ((n-1:Nat):Int),aj n] w fun e q=>e=.returned (.slice (some (aa g 0)) (n-1) cap)/\q=w.drew.setCells g (n-1) [.pointer none]:=by
 have o:∀j,j<cap->(w.cell? (aa g j)).isSome=true:=fun j a=>by rw[av f (cw ak)];rfl
 have k:∀j,w.frozen? (aa g j)=false:=fun j=>aS f j;have m:(prog.info? 130).map (·.size)=some 1:=aI;obtain⟨p,l,D⟩:=ep.1 m
 obtain⟨A,x⟩:∃A:eV,(if cap=n then some (⟨g,0,none⟩:eV)else some ⟨g,n,none⟩)=some A:=by
  by_cases h:cap=n
  ·exact⟨_,aM h⟩
  ·exact⟨_,aD h⟩
 have i:Hid ((nx #[107,107] 107 #[.slice (some (aa g 0)) (n-1) cap,.slice (some A) 0 (cap-n)]).run prog w.drew=.ok (.slice (some (aa g 0)) (n-1) cap) w.drew):=
  GF w.drew 107 107 130 p underlying107 l g 0 (n-1) cap A 0 (cap-n) [] aq (fun j u b=>by simp at b) (fun u b=>by cases b) ak (fun j a=>by simp at a) (fun j a=>by simp at a)
 have B:∀c,(tT #[107] c #[.slice (some (aa g (n-1))) (n-(n-1)) (cap-(n-1))]).run prog w.drew=.ok (.tuple #[]) (w.drew.setCells g (n-1) [.pointer none]):=fun c=>by
  refine EN w.drew 107 130 c _ underlying107 zeroValue130 g (n-1) (n-(n-1)) (cap-(n-1)) ak _ (by rw[show n-(n-1)=1 by omega];kernel_rfl) (Eu (by rfl)) ?_ ?_
  ·intro j a;have:j<1:=a;exact o _ ak
  ·exact fun j _=>k _
 unfold bT at hm;have r:(((n-1:Nat):Int)==(n:Int))=false:=bK;have s:((n-1:Nat):Int)<=(n:Int):=ak;have t:n-1<=cap:=ak;have v:n-1<=n:=ak;go_enter func159,ntmps159
 go_upto_region 5 with fail
 refine dR (S:=fun _=>True) trivial fun z=>?_;refine tk 0 ?_;refine tk 1 ?_;refine tk 2 ?_;refine tk 3 ?_;refine tk 4 ?_;refine tk 5 ?_;refine rH 6 fun K d=>?_
 (refine wY rfl rfl rfl rfl i.out ?_;simp)
 refine d.out _ _ (trivial) (fun y=>?_);clear d K;refine tk 7 ?_;refine cK ?_
 (go_wp2;go_ret;exact⟨rfl,rfl⟩)
end
end Go.Proofs.YtpobhljcainmdaaGreat
