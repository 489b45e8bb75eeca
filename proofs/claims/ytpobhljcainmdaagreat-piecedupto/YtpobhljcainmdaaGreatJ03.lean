/- Parts of the proof. -/
import Derived.Conc.Holds
import Derived.Conc.Listed
import Derived.Conc.LoneSelect
import Derived.Deep.RegionHeld
import Derived.Deep.RegionHeld3
import Derived.JoinedCond
import Derived.OrdersHeld
import Derived.OrdersIn
import Derived.OwnWalkIn
import Derived.Test.YtpobhljcainmdaaGreatJ02
set_option maxRecDepth 100000
set_option maxHeartbeats 8000000
set_option linter.all false
namespace Go.Proofs.YtpobhljcainmdaaGreat
open Go.Region renaming ready->dO,wanted->cL,noSelect_spec->Ci,free_spec->zW,binds->sE,noSelect->zX,free->ya,Mode->xZ
open Go renaming World->an,Program->aN,TypeInfo->iX,getD_set_ne->yh,ready_mono->Ah,Value->au,TypeId->aK,FuncId->bh,Frame->aJ,Oper->dW,TypeDesc->jy,mem_ready->Cs,doReturn->Cn,goexitEntry->Ad,PanicEntry->sw,about_put->td,FrameMode->tw,GStep->vn
open Go.Sem renaming run_bind'->gH,runT_fst->iW,bind->cA
open Go.Act renaming put_comm->xx
open Go.Conv renaming unsafePointer->zJ,seenAt->rT
open Go.GStep renaming after->jo
open _root_.List renaming range->dM,dropWhile_cons->UC
open Go.Oper renaming semAt_plain->Mm,wpIn->Gq,uponIn->Mn,wp->HL
open _root_.Array renaming replicate->pR,getD->vG
open Go.Made renaming reckonStruct->UN,reckon->so,infoAt->BX
open Go.Code renaming region->LA
open Go.OpenClaim renaming world->UT
open Go.Result renaming andThen->UZ
open _root_.Bool renaming false_or->TY
open _root_.UInt8 renaming ofNat->zo
open Go.Frame renaming round->HK
section
def jg(n:Int):List UInt8:=[zo (n %256).toNat,zo (n / 256).toNat]
def answer(sz a:Int)(m:aQ):ByteArray:=
 if m.wh=1 then(if(m.nm.toList==[97])=true then⟨#[89]⟩else⟨#[78]⟩)
 else if m.wh=2 then(if(m.nm.toList==[105])=true then⟨#[73]⟩++⟨(jg sz).toArray⟩++⟨(jg a).toArray⟩else if(m.nm.toList==[103])=true then⟨#[71]⟩else⟨#[85]⟩++m.nm)
 else⟨#[]⟩
structure Cl where
 no:Int
 wt:Int
 ph:Int
 aO:ByteArray
 out:ByteArray
 tok:Int
theorem Zv(s f i):(cP s f i).1.wh=0/\(cP s f i).2=0\/(cP s f i).1.wh=1\/(cP s f i).1=.closing:=by
 induction f generalizing i with
 |zero=>unfold cP;split<;>simp[aQ.zero]
 |succ f a=>
  unfold cP;split
  ·simp[aQ.zero]
  ·split
   ·exact a (i+1)
   ·simp
theorem Xh(s:ByteArray)(p n:Nat)(_h:p+n<=s.size):(s.extract p s.size).extract n (s.extract p s.size).size=s.extract (p+n) s.size:=by
 apply vK;simp[kL]
 congr 1
 omega
theorem Zt(s f i):(cP s f i).1.nm.size<=1:=by
 induction f generalizing i with
 |zero=>unfold cP;split
        ·exact(by decide:(0:Nat)<=1)
        ·show(s.extract 5 6).size<=1;simp[kL];omega
 |succ f a=>
  unfold cP;split
  ·exact(by decide:(0:Nat)<=1)
  ·split
   ·exact a (i+1)
   ·exact(by decide:(0:Nat)<=1)
theorem OI(sz mx ph us s):(first sz mx ph us s).1.nm.size<=1:=by
 unfold first
 split
 ·exact Zt s 5 0
 ·split
  ·unfold opt;split
   ·exact(by decide:(0:Nat)<=1)
   ·split
    ·exact(by decide:(0:Nat)<=1)
    ·show(s.extract 0 1).size<=1;simp[kL];omega
  ·split
   ·unfold lA
    repeat' split
    all_goals exact(by decide:(0:Nat)<=1)
   ·exact(by decide:(0:Nat)<=1)
theorem tk{P ops Q md S oi v fuel listed a a' w}(i)(h:wpAnyH P md ops Q S fuel (listed.setIfInBounds i true) a' w)(hS:S w:=by assumption) (f:ops[i]? =some oi:=by rfl) (g:zX ops=true:=by kernel_rfl) (hf:ya md ops listed i=true:=by kernel_rfl) (hr:(dO md ops listed).contains i=true:=by kernel_rfl) (b:∀c a w,Q (.panic c) (a.put oi.dst v) w->Q (.panic c) a w:=by exact fun _ _ _ h=>h) (j:cL oi (yielded ops a.tmps)=true:=by rfl) (k:∀w,S w->(execOp a.eval oi).run P w=.ok (.value v) w:=by(intro l d;(try dsimp only at d);go_simp;try with_reducible rfl)) (e:a.put oi.dst v=a':=by(first|(simp only[Act.put,tZ,qO,rY,qR,qT,qS];rfl)|rfl)):wpAnyH P md ops Q S (fuel+1) listed a w:=
 wpAnyH_take f g hf hr b (.inl ⟨j,k⟩) hS (e▸h)
section
variable {P:aN} {ops:Array dW} {Q:Exit->Act->an->Prop} {md:xZ} {S:an->Prop} {fuel:Nat} {listed:Array Bool} {a:Act} {w:an} {o:dW}
theorem rH(i)(h:∀b:Act->an->Prop,Shut (∀a w,S w->(S w->wpAnyH P md ops Q S fuel (listed.setIfInBounds i true) a w)->b a w)->if cL o (yielded ops a.tmps)=true then HL P o a w b Q else b (a.put o.dst undef) w)(c:ops[i]? =some o:=by rfl) (hr:dO md ops listed=[i]:=by kernel_rfl):wpAnyH P md ops Q S (fuel+1) listed a w:=wpAnyH_ready hr aq (.cons c h .nil)
theorem aH(rs)(h:AllReadyH P md ops Q S fuel listed a w rs)(hr:dO md ops listed=rs:=by kernel_rfl) (b:rs≠[]:=by simp):wpAnyH P md ops Q S (fuel+1) listed a w:=wpAnyH_ready hr b h
end
theorem dR{P:aN}{ops:Array dW}{Q:Exit->Act->an->Prop}{S:an->Prop}{id:Nat}{a:Act}{w:an}(hS:S w.drew)(h:S w.drew->wpAnyH P .any ops (NoPanic Q) S ops.size (pR ops.size false) a w.drew)(hm:P.follows .mixedOrders=true:=by kernel_rfl):(LA id ops true).wp P Q a w:=wp_region_noPanic (wp_region_held_drew hm hS h)
theorem cK{P:aN}{ops:Array dW}{Q:Exit->Act->an->Prop}{S:an->Prop}{md:xZ}{listed:Array Bool}{a:Act}{w:an}{fuel:Nat}(h:Q .normal a w)(hr:dO md ops listed=[]:=by kernel_rfl):wpAnyH P md ops (NoPanic Q) S fuel listed a w:=wpAnyH_done hr (NoPanic.normal h) _
def heldBy(md:xZ)(ops:Array dW)(i:Nat):Nat->Nat->Bool
 |0,j=>j==i
 |n+1,j=>heldBy md ops i n j||(match ops[j]? with|some o=>o.after.any fun e=>sE md e&&heldBy md ops i n e.on|none=>false)
section
variable {P:aN} {ops:Array dW} {Q:Exit->Act->an->Prop} {md:xZ} {S:an->Prop} {s:Nat}
theorem DQ{i j}:∀{n:Nat},heldBy md ops i n j=true->j=i\/∃o e,ops[j]? =some o/\e∈o.after/\sE md e=true/\heldBy md ops i n e.on=true
 |0,h=>.inl (by simpa[heldBy]using h)
 |n+1,h=>by
  simp only[heldBy,pS]at h;rcases h with h|h
  ·rcases DQ h with e|⟨o,e,b,c,d,f⟩
   ·exact .inl e
   ·exact .inr ⟨o,e,b,c,d,by simp[heldBy,f]⟩
  ·cases a:ops[j]? with
   |none=>rw[a]at h;cases h
   |some o=>
    rw[a]at h;simp only[Array.any_eq_true']at h;obtain⟨e,g,h⟩:=h;rw[cm]at h;exact .inr ⟨o,e,rfl,g,h.1,by simp[heldBy,h.2]⟩
theorem stays{i j n listed}(h:∀k,heldBy md ops i n k=true->listed.getD k true=false)(p:j∈dO md ops listed)(q:j≠i):
  ∀k,heldBy md ops i n k=true->(listed.setIfInBounds j true).getD k true=false:=fun k b=>by
 by_cases e:j=k
 ·subst e;rcases DQ b with e|⟨o,e,d,f,g,l⟩
  ·exact absurd e q
  ·obtain⟨_,r,c,m⟩:=Cs.1 p;rw[d]at c;cases c;have a1:=m e f g;have a:=h _ l;rcases lE e.on listed.size with h'|h'
   ·simp[h']at a1 a;rw[a1]at a;cases a
   ·simp[qJ h']at a
 ·rw[yh true e];exact h k b
def jl(P:aN)(md:xZ)(ops:Array dW)(Q:Exit->Act->an->Prop)(S:an->Prop)(s:Nat):Nat->Array Bool->Act->an->Prop
 |0,listed,a,w=>dO md ops listed=[]/\Q .normal a w
 |fuel+1,listed,a,w=>
  (dO md ops listed=[]->Q .normal a w)/\
  ∀i∈dO md ops listed,wpOp P ops Q i (fun c b=>((listed.setIfInBounds i true).getD s true=false->S b)/\jl P md ops Q S s fuel (listed.setIfInBounds i true) c b) a w
theorem TL:∀(fuel:Nat) (listed:Array Bool) (a:Act) (w:an),jl P md ops Q S s fuel listed a w->wpAny P md ops Q fuel listed a w
 |0,_,_,_,h=>h
 |fuel+1,_,_,_,h=>⟨h.1,fun i d=>wpOp_mono (fun b e c=>TL fuel _ b e c.2) (h.2 i d)⟩
theorem FF{T i n oi v}(t:ops[i]? =some oi)(C:∀(j:Nat) (o:dW) cs b,ops[j]? =some o->o.op≠.select cs b)(K:∀c a w,Q (.panic c) (a.put oi.dst v) w->Q (.panic c) a w)(D:i≠s)(r:(∀w,T w)\/((∀w,S w->T w)/\heldBy md ops i n s=true)):
  ∀(fuel:Nat) (listed:Array Bool) (a:Act) (w:an),
   (∀j g,ops[j]? =some g->j≠i->listed.getD j true=false->(∀e∈g.after,sE md e=true->e.on≠i)->oi.apart ops g=true)->
   i∈dO md ops listed->((∀k,heldBy md ops i n k=true->listed.getD k true=false)\/∀w,T w)->YieldsIf P ops T oi v a->(listed.getD s true=false->S w)->
   jl P md ops Q S s fuel (listed.setIfInBounds i true) (a.put oi.dst v) w->jl P md ops Q S s (fuel+1) listed a w:=by
 have F:∀{listed:Array Bool} {w:an},((∀k,heldBy md ops i n k=true->listed.getD k true=false)\/(∀w,T w))->(listed.getD s true=false->S w)->T w:=fun h hS=>by
  rcases h with h|h
  ·rcases r with r|⟨f,J⟩
   ·exact r _
   ·exact f _ (hS (h s J))
  ·exact h _
 have B:∀{listed:Array Bool} {w:an},(listed.getD s true=false->S w)->(listed.setIfInBounds i true).getD s true=false->S w:=fun h e=>h (by rw[yh true D]at e;exact e);intro fuel;induction fuel with
 |zero=>
  intro listed a w _ hr m p hS H;refine⟨fun h=>(by rw[h]at hr;cases hr),fun j l=>?_⟩
  by_cases d:j=i
  ·subst d;exact p.wpOp t (F m hS) ⟨B hS,H⟩
  ·have:=Ah l d;rw[H.1]at this;cases this
 |succ fuel Y=>
  intro listed a w y hr m p hS H;refine⟨fun h=>(by rw[h]at hr;cases hr),fun j l=>?_⟩
  by_cases d:j=i
  ·subst d;exact p.wpOp t (F m hS) ⟨B hS,H⟩
  ·have f:=H.2 j (Ah l d);obtain⟨A,g,u,L⟩:=Cs.1 l
   have X:∀e∈g.after,sE md e=true->e.on≠i:=fun e N M O=>by
    have f:=L e N M;have h0:=(Cs.1 hr).1;rw[O]at f;rcases lE i listed.size with h'|h'
    ·simp[h']at h0 f;rw[h0]at f;cases f
    ·simp[qJ h']at f
   have R:∀k ok,ops[k]? =some ok->k≠i->(listed.setIfInBounds j true).getD k true=false->
     (∀e∈ok.after,sE md e=true->e.on≠i)->oi.apart ops ok=true:=fun k ok U V E W=>by
    refine y k ok U V ?_ W
    by_cases z:j=k
    ·subst z;exact A
    ·rw[yh true z]at E;exact E
   refine wpOp_mono (fun I G q=>?_) (wpOp_putIf u (y j g u d A X) (fun cs b=>C i oi cs b t) (fun cs b=>C j g cs b u) K p f)
   have x:(listed.setIfInBounds j true).getD s true=false->S G:=fun e=>q.2.1 (by rw[BB _ _ (cW d),yh true D];exact e)
   refine⟨x,Y (listed.setIfInBounds j true) I G R (Ah hr (cW d)) (m.imp (fun h=>stays h l d) id) q.1 x ?_⟩;rw[BB _ _ d];exact q.2.2
theorem gk{oi v fuel listed a a' w}(i)(h:jl P md ops Q S s fuel (listed.setIfInBounds i true) a' w)(hS:S w:=by assumption) (b:ops[i]? =some oi:=by rfl) (f:zX ops=true:=by kernel_rfl) (hf:ya md ops listed i=true:=by kernel_rfl) (hr:(dO md ops listed).contains i=true:=by kernel_rfl) (g:i≠s:=by decide) (d:∀c a w,Q (.panic c) (a.put oi.dst v) w->Q (.panic c) a w:=by exact fun _ _ _ h=>h) (j:cL oi (yielded ops a.tmps)=true:=by rfl) (k:∀w:an,(execOp a.eval oi).run P w=.ok (.value v) w:=by(intro l;go_simp;try with_reducible rfl)) (e:a.put oi.dst v=a':=by(first|(simp only[Act.put,tZ,qO,rY,qR,qT,qS];rfl)|rfl)):jl P md ops Q S s (fuel+1) listed a w:=
 FF (T:=fun _=>True) (n:=0) b (Ci f) d g (.inl fun _=>trivial) fuel listed a w (zW b hf) (by grind) (.inr fun _=>trivial) (.inl ⟨j,fun w _=>k w⟩) (fun _=>hS) (e▸h)
theorem gs{oi v fuel listed a a' w}(i)(h:jl P md ops Q S s fuel (listed.setIfInBounds i true) a' w)(hS:S w:=by assumption) (d:ops[i]? =some oi:=by rfl) (q:zX ops=true:=by kernel_rfl) (hf:ya md ops listed i=true:=by kernel_rfl) (hr:(dO md ops listed).contains i=true:=by kernel_rfl) (r:i≠s:=by decide) (b:(heldBy md ops i 6 s&&((dM ops.size).all fun k=>!(heldBy md ops i 6 k)||!(listed.getD k true)))=true:=by kernel_rfl) (j:∀c a w,Q (.panic c) (a.put oi.dst v) w->Q (.panic c) a w:=by exact fun _ _ _ h=>h) (t:cL oi (yielded ops a.tmps)=true:=by rfl) (u:∀w,S w->(execOp a.eval oi).run P w=.ok (.value v) w:=by(intro x l;(try dsimp only at l);go_simp;try with_reducible rfl)) (m:a.put oi.dst v=a':=by(first|(simp only[Act.put,tZ,qO,rY,qR,qT,qS];rfl)|rfl)):jl P md ops Q S s (fuel+1) listed a w:=by
 rw[cm,nE]at b;refine FF (T:=S) (n:=6) d (Ci q) j r (.inr ⟨fun _ h=>h,b.1⟩) fuel listed a w (zW d hf) (by simpa using hr) (.inl fun k f=>?_) (.inl ⟨t,u⟩) (fun _=>hS) (m▸h)
 have p:k<ops.size:=by
  rcases DQ f with e|⟨o,e,g,_⟩
  ·subst e;exact(aP.1 d).1
  ·exact(aP.1 g).1
 have:=b.2 k (lY.2 p);rw[f]at this;simpa using this
theorem g0{oi fuel listed a a' w}(i)(h:jl P md ops Q S s fuel (listed.setIfInBounds i true) a' w)(hS:S w:=by assumption) (b:ops[i]? =some oi:=by rfl) (f:zX ops=true:=by kernel_rfl) (hf:ya md ops listed i=true:=by kernel_rfl) (hr:(dO md ops listed).contains i=true:=by kernel_rfl) (g:i≠s:=by decide) (d:∀c a w,Q (.panic c) (a.put oi.dst undef) w->Q (.panic c) a w:=by exact fun _ _ _ h=>h) (j:cL oi (yielded ops a.tmps)=false:=by rfl) (e:a.put oi.dst undef=a':=by(first|(simp only[Act.put,tZ,qO,rY,qR,qT,qS];rfl)|rfl)):jl P md ops Q S s (fuel+1) listed a w:=
 FF (T:=fun _=>True) (n:=0) b (Ci f) d g (.inl fun _=>trivial) fuel listed a w (zW b hf) (by grind) (.inr fun _=>trivial) (.inr ⟨j,rfl⟩) (fun _=>hS) (e▸h)
theorem ga{oi v fuel listed a a' w}(i)(h:jl P md ops Q S s fuel (listed.setIfInBounds i true) a' w)(m:listed.getD s true=true:=by kernel_rfl) (b:ops[i]? =some oi:=by rfl) (g:zX ops=true:=by kernel_rfl) (hf:ya md ops listed i=true:=by kernel_rfl) (hr:(dO md ops listed).contains i=true:=by kernel_rfl) (j:i≠s:=by decide) (d:∀c a w,Q (.panic c) (a.put oi.dst v) w->Q (.panic c) a w:=by exact fun _ _ _ h=>h) (k:cL oi (yielded ops a.tmps)=true:=by rfl) (l:∀w:an,(execOp a.eval oi).run P w=.ok (.value v) w:=by(intro o;go_simp;try with_reducible rfl)) (f:a.put oi.dst v=a':=by(first|(simp only[Act.put,tZ,qO,rY,qR,qT,qS];rfl)|rfl)):jl P md ops Q S s (fuel+1) listed a w:=
 FF (T:=fun _=>True) (n:=0) b (Ci g) d j (.inl fun _=>trivial) fuel listed a w (zW b hf) (by grind) (.inr fun _=>trivial) (.inl ⟨k,fun w _=>l w⟩) (fun e=>by rw[m]at e;cases e) (f▸h)
theorem gr{o fuel listed a w}(i)(h:∀b:Act->an->Prop,Shut (∀a w,S w->(S w->jl P md ops Q S s fuel (listed.setIfInBounds i true) a w)->b a w)->if cL o (yielded ops a.tmps)=true then HL P o a w b Q else b (a.put o.dst undef) w)(k:ops[i]? =some o:=by rfl) (hr:dO md ops listed=[i]:=by kernel_rfl):jl P md ops Q S s (fuel+1) listed a w:=by
 refine⟨fun h0=>(by grind),?_⟩;rw[hr];intro j g;obtain rfl:=mM.1 g;unfold wpOp;simp only[k];have:=h (fun f d=>((listed.setIfInBounds j true).getD s true=false->S d)/\jl P md ops Q S s fuel (listed.setIfInBounds j true) f d) (fun a w c h=>⟨fun _=>c,h c⟩);split
 ·rename_i e;rw[aM e]at this;exact .inl this
 ·rename_i e;rw[aD e]at this;exact this
theorem gz{o fuel listed a w}(h:∀b:Act->an->Prop,Shut (∀a w,jl P md ops Q S s fuel (listed.setIfInBounds s true) a w->b a w)->if cL o (yielded ops a.tmps)=true then HL P o a w b Q else b (a.put o.dst undef) w)(k:ops[s]? =some o:=by rfl) (hr:dO md ops listed=[s]:=by kernel_rfl) (i:s<listed.size:=by decide):jl P md ops Q S s (fuel+1) listed a w:=by
 refine⟨fun h0=>(by grind),?_⟩;rw[hr];intro j g;obtain rfl:=mM.1 g;unfold wpOp;simp only[k];have f:(listed.setIfInBounds j true).getD j true≠false:=by simp[i]
 have:=h (fun d c=>((listed.setIfInBounds j true).getD j true=false->S c)/\jl P md ops Q S j fuel (listed.setIfInBounds j true) d c) (fun a w h=>⟨fun e=>absurd e f,h⟩);split
 ·rename_i e;rw[aM e]at this;exact .inl this
 ·rename_i e;rw[aD e]at this;exact this
theorem dJ{listed a w}(hr:dO md ops listed=[])(h:Q .normal a w):
  ∀fuel,jl P md ops Q S s fuel listed a w
 |0=>⟨hr,h⟩
 |_+1=>⟨fun _=>h,by rw[hr];simp⟩
theorem dh{id a w}(s)(hm:P.follows .mixedOrders=true)(hS:S w.drew)(h:S w.drew->jl P .any ops Q S s ops.size (pR ops.size false) a w.drew):(LA id ops true).wp P Q a w:=
 wp_region_any hm (TL _ _ _ _ (h hS))
end
section
variable {F:Fence} {n:Nat} {P:aN} {ops:Array dW} {Q:Exit->Act->an->Prop} {md:xZ} {S T:an->Prop} {s i:Nat} {o oi:dW} {v:au} {fuel:Nat} {listed:Array Bool} {a a':Act} {w:an}
def uI(P:aN)(ops:Array dW)(T:an->Prop)(o:dW)(v:au)(a:Act):Prop:=YieldsIf P ops T o v a/\∀w,o.about P w a.eval=none
theorem uI.wpOpIn(l:∀c,o.op≠.defer c)(k:ops[i]? =some o)(g:uI P ops T o v a){K}(j:T w)(h:K (a.put o.dst v) w):wpOpIn F n P ops Q i K a w:=by
 unfold Go.wpOpIn;simp only[k];have d:∀f,o.about P w a.eval=some f->F.fn f:=fun f e=>by rw[g.2 w]at e;cases e
 rcases g.1 with⟨b,hv⟩|⟨b,rfl⟩
 ·simp only[b,cD,Gq,Mm F _ _ l,hv w j,Mn];exact⟨d,h⟩
 ·simp only[b,eA,dy];exact⟨d,h⟩
theorem afa{j g}(B:∀c,g.op≠.defer c)(E:ops[j]? =some g)(D:oi.apart ops g=true)(G:∀cs b,oi.op≠.select cs b)(H:∀cs b,g.op≠.select cs b)(y:∀c a w,Q (.panic c) (a.put oi.dst v) w->Q (.panic c) a w){K}(k:uI P ops T oi v a)(h:wpOpIn F n P ops Q j K (a.put oi.dst v) w):
  wpOpIn F n P ops Q j (fun a' A=>uI P ops T oi v a'/\K (a'.put oi.dst v) A) a w:=by
 obtain⟨q,p,t⟩:=Oper.apart_spec D
 have keep:∀(a:Act),uI P ops T oi v a->∀u,uI P ops T oi v (a.put g.dst u):=fun a k u=>
  ⟨k.1.of_same (execOp_put oi G a g.dst u t) (wanted_put oi a g.dst u t),fun w=>by rw[td oi w a g.dst u t];exact k.2 w⟩
 have I:∀d,uI P ops T oi v {a with defers:=d::a.defers}:=fun d=>k;unfold wpOpIn at*;simp only[E]at*;rw[wanted_put g a oi.dst v q,td g w a oi.dst v q]at h;split
 ·rename_i z;simp only[z,cD]at h;unfold Gq at*;rw[td g w a oi.dst v q]at h;refine⟨h.1,?_⟩;have h:=h.2;rw[Mm F _ _ B,execOp_put g H a oi.dst v q]at h;rw[Mm F _ _ B];generalize (execOp a.eval g).run P w=r at*;cases r with
  |ok x A=>
   cases x<;>simp only[Mn]at h⊢
   case value u=>exact⟨keep a k u,by rw[<-xx a v u p];exact h⟩
   case skip=>exact⟨keep a k _,by rw[<-xx a v undef p];exact h⟩
   case defer d=>
    refine⟨keep _ (I d) _,?_⟩;rw[<-xx _ v undef p,<-Act.put_defers];exact h
   case enter f args=>
    refine⟨h.1,CallsIn.mono h.2 fun e C m=>?_⟩;cases e with
    |returned u=>exact⟨keep a k u,by rw[<-xx a v u p];exact m⟩
    |panicked c=>exact y _ _ _ m
    |outgrown=>exact m
   case row row args=>exact⟨h.1,RowsIn.mono h.2 fun u C m=>⟨keep a k u,by rw[<-xx a v u p];exact m⟩⟩
   case round l f tmps assign body=>
    refine⟨h.1,RoundIn.mono h.2 fun e C m=>?_⟩;cases e with
    |returned u=>exact⟨keep a k u,by rw[<-xx a v u p];exact m⟩
    |panicked c=>exact y _ _ _ m
    |outgrown=>exact m
  |halt x A=>
   cases x<;>simp only[Mn]at h⊢
   case panic u=>exact y _ _ _ h
 ·rename_i z;simp only[z]at h;exact⟨h.1,keep a k _,by rw[<-xx a v undef p];exact h.2⟩
def nk(F:Fence)(n:Nat)(P:aN)(md:xZ)(ops:Array dW)(Q:Exit->Act->an->Prop)(S:an->Prop)(s:Nat):Nat->Array Bool->Act->an->Prop
 |0,listed,a,w=>dO md ops listed=[]/\Q .normal a w
 |fuel+1,listed,a,w=>
  (dO md ops listed=[]->Q .normal a w)/\
  ∀i∈dO md ops listed,wpOpIn F n P ops Q i (fun a' b=>((listed.setIfInBounds i true).getD s true=false->S b)/\nk F n P md ops Q S s fuel (listed.setIfInBounds i true) a' b) a w
theorem TJ:∀(fuel:Nat) (listed:Array Bool) (a:Act) (w:an),nk F n P md ops Q S s fuel listed a w->wpAnyIn F n P md ops Q fuel listed a w
 |0,_,_,_,h=>h
 |fuel+1,_,_,_,h=>⟨h.1,fun i c=>wpOpIn_mono (fun a' d b=>TJ fuel _ a' d b.2) (h.2 i c)⟩
def ndB(ops:Array dW):Bool:=zX ops&&ops.all fun o=>match o.op with|.defer _=>false|_=>true
theorem Jw(h:ndB ops=true){j:Nat}{o:dW}(b:ops[j]? =some o):∀c,o.op≠.defer c:=fun c e=>by unfold ndB at h;rw[cm,pQ]at h;have:=h.2 o (lC b);rw[e]at this;cases this
theorem TK{m:Nat}(l:ops[i]? =some oi)(r:ndB ops=true)
  (M:∀c a w,Q (.panic c) (a.put oi.dst v) w->Q (.panic c) a w) (G:i≠s) (y:(∀w,T w)\/((∀w,S w->T w)/\heldBy md ops i m s=true)):
  ∀(fuel:Nat) (listed:Array Bool) (a:Act) (w:an),
   (∀j g,ops[j]? =some g->j≠i->listed.getD j true=false->(∀e∈g.after,sE md e=true->e.on≠i)->oi.apart ops g=true)->
   i∈dO md ops listed->((∀k,heldBy md ops i m k=true->listed.getD k true=false)\/∀w,T w)->uI P ops T oi v a->(listed.getD s true=false->S w)->
   nk F n P md ops Q S s fuel (listed.setIfInBounds i true) (a.put oi.dst v) w->nk F n P md ops Q S s (fuel+1) listed a w:=by
 have E:=Ci ((cm _ _).mp r).1
 have J:∀{listed:Array Bool} {w:an},((∀k,heldBy md ops i m k=true->listed.getD k true=false)\/(∀w,T w))->(listed.getD s true=false->S w)->T w:=fun h hS=>by
  rcases h with h|h
  ·rcases y with y|⟨f,L⟩
   ·exact y _
   ·exact f _ (hS (h s L))
  ·exact h _
 have D:∀{listed:Array Bool} {w:an},(listed.getD s true=false->S w)->(listed.setIfInBounds i true).getD s true=false->S w:=fun h e=>h (by rw[yh true G]at e;exact e);intro fuel;induction fuel with
 |zero=>
  intro listed a w _ hr q u hS H;refine⟨fun h=>(by rw[h]at hr;cases hr),fun j p=>?_⟩
  by_cases d:j=i
  ·subst d;exact u.wpOpIn (Jw r l) l (J q hS) ⟨D hS,H⟩
  ·have:=Ah p d;rw[H.1]at this;cases this
 |succ fuel ih=>
  intro listed a w A hr q u hS H;refine⟨fun h=>(by rw[h]at hr;cases hr),fun j p=>?_⟩
  by_cases d:j=i
  ·subst d;exact u.wpOpIn (Jw r l) l (J q hS) ⟨D hS,H⟩
  ·have f:=H.2 j (Ah p d);obtain⟨C,g,t,N⟩:=Cs.1 p
   have Z:∀e∈g.after,sE md e=true->e.on≠i:=fun e R O U=>by
    have f:=N e R O;have h0:=(Cs.1 hr).1;rw[U]at f;rcases lE i listed.size with h'|h'
    ·simp[h']at h0 f;rw[h0]at f;cases f
    ·simp[qJ h']at f
   have V:∀k ok,ops[k]? =some ok->k≠i->(listed.setIfInBounds j true).getD k true=false->
     (∀e∈ok.after,sE md e=true->e.on≠i)->oi.apart ops ok=true:=fun k ok W X I Y=>by
    refine A k ok W X ?_ Y
    by_cases B:j=k
    ·subst B;exact C
    ·rw[yh true B]at I;exact I
   refine wpOpIn_mono (fun a' K x=>?_) (afa (Jw r t) t (A j g t d C Z) (fun cs b=>E i oi cs b l) (fun cs b=>E j g cs b t) M u f)
   have z:(listed.setIfInBounds j true).getD s true=false->S K:=fun e=>x.2.1 (by rw[BB _ _ (cW d),yh true G];exact e)
   refine⟨z,ih (listed.setIfInBounds j true) a' K V (Ah hr (cW d)) (q.imp (fun h=>stays h p d) id) x.1 z ?_⟩;rw[BB _ _ d];exact x.2.2
theorem jk(i)(h:nk F n P md ops Q S s fuel (listed.setIfInBounds i true) a' w)(hS:S w:=by assumption) (b:ops[i]? =some oi:=by rfl)
  (g:ndB ops=true:=by kernel_rfl) (hf:ya md ops listed i=true:=by kernel_rfl) (hr:(dO md ops listed).contains i=true:=by kernel_rfl) (j:i≠s:=by decide)
  (d:∀c a w,Q (.panic c) (a.put oi.dst v) w->Q (.panic c) a w:=by exact fun _ _ _ h=>h) (k:cL oi (yielded ops a.tmps)=true:=by rfl) (f:∀w,oi.about P w a.eval=none:=by intro _;rfl)
  (l:∀w:an,(execOp a.eval oi).run P w=.ok (.value v) w:=by(intro p;go_simp;try with_reducible rfl))
  (e:a.put oi.dst v=a':=by(first|(simp only[Act.put,tZ,qO,rY,qR,qT,qS];rfl)|rfl)):nk F n P md ops Q S s (fuel+1) listed a w:=
 TK (T:=fun _=>True) (m:=0) b g d j (.inl fun _=>trivial) fuel listed a w (zW b hf) (by grind) (.inr fun _=>trivial) ⟨.inl ⟨k,fun w _=>l w⟩,f⟩ (fun _=>hS) (e▸h)
theorem js(i)(h:nk F n P md ops Q S s fuel (listed.setIfInBounds i true) a' w)(hS:S w:=by assumption) (d:ops[i]? =some oi:=by rfl)
  (t:ndB ops=true:=by kernel_rfl) (hf:ya md ops listed i=true:=by kernel_rfl) (hr:(dO md ops listed).contains i=true:=by kernel_rfl) (u:i≠s:=by decide)
  (b:(heldBy md ops i 6 s&&((dM ops.size).all fun k=>!(heldBy md ops i 6 k)||!(listed.getD k true)))=true:=by kernel_rfl)
  (j:∀c a w,Q (.panic c) (a.put oi.dst v) w->Q (.panic c) a w:=by exact fun _ _ _ h=>h) (x:cL oi (yielded ops a.tmps)=true:=by rfl) (q:∀w,oi.about P w a.eval=none:=by intro _;rfl)
  (y:∀w,S w->(execOp a.eval oi).run P w=.ok (.value v) w:=by(intro z l;(try dsimp only at l);go_simp;try with_reducible rfl))
  (p:a.put oi.dst v=a':=by(first|(simp only[Act.put,tZ,qO,rY,qR,qT,qS];rfl)|rfl)):nk F n P md ops Q S s (fuel+1) listed a w:=by
 rw[cm,nE]at b;refine TK (T:=S) (m:=6) d t j u (.inr ⟨fun _ h=>h,b.1⟩) fuel listed a w (zW d hf) (by simpa using hr) (.inl fun k f=>?_) ⟨.inl ⟨x,y⟩,q⟩ (fun _=>hS) (p▸h)
 have r:k<ops.size:=by
  rcases DQ f with e|⟨o,e,g,_⟩
  ·subst e;exact(aP.1 d).1
  ·exact(aP.1 g).1
 have:=b.2 k (lY.2 r);rw[f]at this;simpa using this
theorem jr(i)(h:∀b:Act->an->Prop,Shut (∀a w,S w->(S w->nk F n P md ops Q S s fuel (listed.setIfInBounds i true) a w)->b a w)->if cL o (yielded ops a.tmps)=true then Gq F n P o a w b Q else(∀f,o.about P w a.eval=some f->F.fn f)/\b (a.put o.dst undef) w)(e:ops[i]? =some o:=by rfl) (hr:dO md ops listed=[i]:=by kernel_rfl):nk F n P md ops Q S s (fuel+1) listed a w:=by refine⟨fun h0=>(by grind),?_⟩;rw[hr];intro j d;obtain rfl:=mM.1 d;unfold wpOpIn;simp only[e];exact h _ (fun a w c h=>⟨fun _=>c,h c⟩)
theorem jz(h:∀b:Act->an->Prop,Shut (∀a w,nk F n P md ops Q S s fuel (listed.setIfInBounds s true) a w->b a w)->if cL o (yielded ops a.tmps)=true then Gq F n P o a w b Q else(∀f,o.about P w a.eval=some f->F.fn f)/\b (a.put o.dst undef) w)(k:ops[s]? =some o:=by rfl) (hr:dO md ops listed=[s]:=by kernel_rfl) (g:s<listed.size:=by decide):nk F n P md ops Q S s (fuel+1) listed a w:=by
 refine⟨fun h0=>(by grind),?_⟩;rw[hr];intro j d;obtain rfl:=mM.1 d;unfold wpOpIn;simp only[k];have c:(listed.setIfInBounds j true).getD j true≠false:=by simp[g]
 exact h _ (fun a w h=>⟨fun e=>absurd e c,h⟩)
theorem Ll(hr:dO md ops listed=[])(h:Q .normal a w):∀fuel,nk F n P md ops Q S s fuel listed a w
 |0=>⟨hr,h⟩
 |_+1=>⟨fun _=>h,by rw[hr];simp⟩
theorem Lm{id}(s)(hm:P.follows .mixedOrders=true)(hS:S w.drew)
  (h:S w.drew->nk F n P .any ops Q S s ops.size (pR ops.size false) a w.drew):(LA id ops true).wpIn F n P Q a w:=
 wpIn_region_any hm (TJ _ _ _ _ (h hS))
end
abbrev Key:=Int×Int
def dF(a b:Key):Bool:=decide (a.1<b.1)||(decide (a.1=b.1)&&decide (a.2<b.2))
def gD(a b:Key):Prop:=a.1<b.1\/(a.1=b.1/\a.2<=b.2)
theorem CY(a b:Key):dF a b=true↔¬gD b a:=by unfold dF gD;simp;omega
theorem AQ{a b}(h:dF a b=true):gD a b:=by rw[CY]at h;unfold gD at*;omega
theorem AS{a b}(h:dF a b=false):gD b a:=by
 have:¬dF a b=true:=by rw[h];simp
 rw[CY]at this;exact Classical.not_not.1 this
theorem gD.trans{a b c}(h:gD a b)(k:gD b c):gD a c:=by unfold gD at*;omega
theorem gD.refl(a:Key):gD a a:=by unfold gD;omega
def fQ{α:Type}(f:Nat->α)(i k:Nat):Nat->α:=fun x=>if x=i then f k else if x=k then f i else f x
abbrev par(i:Nat):Nat:=(i-1) / 2
def Hp(n:Nat)(f:Nat->Key):Prop:=∀j,0<j->j<n->gD (f (par j)) (f j)
structure uA(n:Nat)(f:Nat->Key)(i:Nat):Prop where
 rest:∀j,0<j->j<n->j≠i->gD (f (par j)) (f j)
 over:0<i->∀c,0<c->c<n->par c=i->gD (f (par i)) (f c)
structure uz(n:Nat)(f:Nat->Key)(i:Nat):Prop where
 rest:∀j,0<j->j<n->par j≠i->gD (f (par j)) (f j)
 over:0<i->∀c,0<c->c<n->par c=i->gD (f (par i)) (f c)
theorem uA.done{n f i}(h:uA n f i)(hi:i=0\/dF (f i) (f (par i))=false):Hp n f:=fun j h0 a=>by
 by_cases e:j=i
 ·subst e;rcases hi with hi|hi
  ·omega
  ·exact AS hi
 ·exact h.rest j h0 a e
theorem uA.step{n f i}(h:uA n f i)(h0:0<i)(t:i<n)(o:dF (f i) (f (par i))=true):uA n (fQ f i (par i)) (par i):=by
 have u:par i<i:=by grind
 have l:=AQ o;refine⟨fun j d g s=>?_,fun m c p q r=>?_⟩
 ·unfold fQ
  by_cases e:j=i
  ·subst e;rw[aD ak,aM rfl,aM rfl];exact l
  ·rw[aD e,aD s]
   by_cases a:par j=i
   ·rw[aM a];exact h.over h0 j d g a
   ·rw[aD a]
    by_cases b:par j=par i
    ·rw[aM b];exact l.trans (b▸h.rest j d g e)
    ·rw[aD b];exact h.rest j d g e
 ·have v:par (par i)<par i:=by simp only[par]at m⊢;omega
  have k:=h.rest (par i) m ak ak;unfold fQ;rw[aD ak,aD ak]
  by_cases e:c=i
  ·rw[aM e];exact k
  ·rw[aD e,aD (by grind)];have:=h.rest c p q e;rw[r]at this;exact k.trans this
def iM(n:Nat)(f:Nat->Key)(i c:Nat)(m:Nat):Nat:=if c<n/\dF (f c) (f m)=true then c else m
theorem uz.done{n f i}(h:uz n f i)(hm:iM n f i (2*i+2) (iM n f i (2*i+1) i)=i):Hp n f:=fun j h0 g=>by
 by_cases e:par j=i
 ·have l:j=2*i+1\/j=2*i+2:=by simp only[par]at e;omega
  have b:iM n f i (2*i+1) i=i:=by
   by_cases c:iM n f i (2*i+1) i=i
   ·exact c
   ·exfalso
    have k:iM n f i (2*i+1) i=2*i+1:=by
     unfold iM at c⊢;split at c
     ·rw[aM (by assumption)]
     ·exact absurd rfl c
    rw[k]at hm;unfold iM at hm;split at hm<;>omega
  rw[b]at hm;rw[e];rcases l with rfl|rfl
  ·unfold iM at b;split at b
   ·omega
   ·rename_i d;cases a:dF (f (2*i+1)) (f i)with
    |true=>exact absurd ⟨g,a⟩ d
    |false=>exact AS a
  ·unfold iM at hm;split at hm
   ·omega
   ·rename_i d;cases a:dF (f (2*i+2)) (f i)with
    |true=>exact absurd ⟨g,a⟩ d
    |false=>exact AS a
 ·exact h.rest j h0 g e
theorem OU{n f i m}(hm:iM n f i (2*i+2) (iM n f i (2*i+1) i)=m)(k:m≠i):(m=2*i+1\/m=2*i+2)/\m<n/\dF (f m) (f i)=true/\∀c,c<n->(c=2*i+1\/c=2*i+2)->gD (f m) (f c):=by
 unfold iM at hm
 by_cases e:2*i+1<n/\dF (f (2*i+1)) (f i)=true
 ·rw[aM e]at hm
  by_cases d:2*i+2<n/\dF (f (2*i+2)) (f (2*i+1))=true
  ·rw[aM d]at hm;subst hm;have a:=AQ e.2;have b:=AQ d.2;refine⟨.inr rfl,d.1,?_,fun c j h=>?_⟩
   ·have:=e.2;have:=d.2;rw[CY]at*;unfold gD at*;omega
   ·rcases h with rfl|rfl
    ·exact b
    ·exact gD.refl _
  ·rw[aD d]at hm;subst hm;refine⟨.inl rfl,e.1,e.2,fun c j h=>?_⟩;rcases h with rfl|rfl
   ·exact gD.refl _
   ·cases g:dF (f (2*i+2)) (f (2*i+1))with
    |true=>exact absurd ⟨j,g⟩ d
    |false=>exact AS g
 ·rw[aD e]at hm
  by_cases d:2*i+2<n/\dF (f (2*i+2)) (f i)=true
  ·rw[aM d]at hm;subst hm;refine⟨.inr rfl,d.1,d.2,fun c j h=>?_⟩;rcases h with rfl|rfl
   ·cases g:dF (f (2*i+1)) (f i)with
    |true=>exact absurd ⟨j,g⟩ e
    |false=>exact(AQ d.2).trans (AS g)
   ·exact gD.refl _
  ·rw[aD d]at hm;exact absurd hm.symm k
theorem uz.step{n f i m}(h:uz n f i)(hm:iM n f i (2*i+2) (iM n f i (2*i+1) i)=m)(w:m≠i):uz n (fQ f i m) m:=by
 obtain⟨y,o,p,q⟩:=OU hm w;have d:par m=i:=by grind
 refine⟨fun j k l x=>?_,fun z c r u g=>?_⟩
 ·unfold fQ
  by_cases e:par j=i
  ·rw[aM e];have v:j≠i:=by grind
   rw[aD v]
   by_cases a:j=m
   ·rw[aM a];exact(AQ p)
   ·rw[aD a];exact q j l (by grind)
  ·rw[aD e,aD x]
   by_cases a:j=i
   ·subst a;rw[aM rfl];exact h.over k m ak o d
   ·rw[aD a];have b:j≠m:=fun b=>e (b▸d);rw[aD b];exact h.rest j k l e
 ·have t:c≠m:=by simp only[par]at g;omega
  have s:c≠i:=by grind
  unfold fQ;rw[d,aM rfl,aD s,aD t];exact g▸h.rest c r u ak
theorem Hp.top{n f}(h:Hp n f):∀j,j<n->gD (f 0) (f j):=by
 intro j;induction j using Nat.strongRecOn with
 |ind j b=>
  intro a
  by_cases e:j=0
  ·subst e;exact gD.refl _
  ·exact(b (par j) (by grind) (by grind)).trans (h j ak a)
section
variable [aA]
def pZ(v:au):Prop:=∀a:Ren,VR a v v
def yV:Nat->au->Bool
 |_,.bool _|_,.int _ _|_,.string _|_,.pointer none|_,.slice none _ _|_,.map none|_,.chan none|_,.nilFunc|_,.nilIface=>true
 |n+1,.agg a=>a.all (yV n)
 |n+1,.tuple a=>a.all (yV n)
 |_,_=>false
theorem CX{xs}(h:∀v∈xs,pZ v):pZ (.agg xs):=fun c=>.agg rfl fun i v d a b=>by rw[a]at b;cases b;exact h v (lC a) c
theorem Wb{xs}(h:∀v∈xs,pZ v):pZ (.tuple xs):=fun c=>.tuple rfl fun i v d a b=>by rw[a]at b;cases b;exact h v (lC a) c
theorem U0:∀(n:Nat) (v:au),yV n v=true->pZ v:=by
 intro n;induction n with
 |zero=>
  intro v h a;unfold yV at h;split at h<;>first|exact .bool _|exact .int _ _|exact .string _|exact .gi|exact .fJ _ _|exact .lS|exact .mW|exact .nilFunc|exact .nilIface|cases h|contradiction
 |succ n b=>
  intro v h;unfold yV at h;split at h
  all_goals first
   |exact fun a=>.bool _
   |exact fun a=>.int _ _
   |exact fun a=>.string _
   |exact fun a=>.gi
   |exact fun a=>.fJ _ _
   |exact fun a=>.lS
   |exact fun a=>.mW
   |exact fun a=>.nilFunc
   |exact fun a=>.nilIface
   |(rename_i e;cases e;exact CX fun v hv=>b v (pQ.1 h v hv))
   |(rename_i e;cases e;exact Wb fun v hv=>b v (pQ.1 h v hv))
   |cases h
theorem Nt{v}(h:pZ v):∀x∈v.cells,pZ x:=fun x b c=>by obtain⟨i,a⟩:=Array.mem_iff_getElem?.1 b;exact(h c).cells.2 i x x a a
def wA(i:iX):Prop:=∀z,i.zero=some z->pZ z
theorem zA(d:jy)(s:String)(c n){z}(h:pZ z):wA (Made.word d s z c n):=fun a e=>by cases e;exact h
theorem OT{α c:Type}{Inv:c->Prop}{f:α->c->Option (ForInStep c)}(hf:∀a s r,Inv s->f a s=some r->Inv r.value):∀(xs:List α) (s r:c),Inv s->forIn xs s f=some r->Inv r
 |[],s,r,d,h=>by simp only[List.forIn_nil]at h;cases h;exact d
 |a::xs,s,r,d,h=>by
  rw[List.forIn_cons]at h;obtain⟨x,g,e⟩:=eo.1 h;have:=hf a s x d g;cases x with
  |done b=>cases e;exact this
  |yield b=>exact OT hf xs b r this e
theorem adJ{k:aK->Option iX}{f:Array Field}{i:iX}(m:∀t j,k t=some j->wA j)(h:UN k f=some i):wA i:=by
 unfold UN at h;obtain⟨s,g,h⟩:=eo.1 h;rw[<-Array.forIn_toList]at g;have o:=OT (Inv:=fun s=>∀d:Array au,s.2.2.2.2.2.2.2.1=some d->∀v∈d,pZ v) (fun a s r hI b=>?_) f.toList _ s (fun d e v hv=>by cases e;simp at hv) g
 ·dsimp only at h;split at h
  all_goals
   cases h;intro z e;obtain⟨d,b,rfl⟩:=ep.1 e;exact CX (o d b)
 ·obtain⟨j,n,b⟩:=eo.1 b
  have fin:∀{c:Nat} {d:Array au},(if c>Made.mostCells then none else do pure ((<-s.2.2.2.2.2.2.2.1)++(<-j.zero).cells))=some d->∀v∈d,pZ v:=fun{c d} e v hv=>by
   split at e
   ·cases e
   ·obtain⟨q,h0,e⟩:=eo.1 e;obtain⟨u,l,e⟩:=eo.1 e;cases e;rcases tP.1 hv with hv|hv
    ·exact hI q h0 v hv
    ·exact Nt (m _ _ n u l) v hv
  dsimp only at b;split at b
  ·cases b
  ·split at b
   ·cases b
   ·split at b
    ·obtain⟨p,_,b⟩:=eo.1 b;split at b<;>(cases b;exact fun d e=>fin e)
    ·obtain⟨p,_,b⟩:=eo.1 b;split at b<;>(cases b;exact fun d e=>fin e)
theorem Y6{c:aK->Option iX}(b:∀t j,c t=some j->wA j){d:jy}{i:iX}(h:so c d=some i):wA i:=by
 unfold so at h;cases d with
 |pointer e=>
  obtain⟨j,_,h⟩:=eo.1 h;split at h
  ·cases h
  ·split at h
   ·cases h
   ·obtain⟨s,_,h⟩:=eo.1 h;cases h;exact zA _ _ _ _ fun _=>.gi
  ·obtain⟨s,_,h⟩:=eo.1 h;cases h;exact zA _ _ _ _ fun _=>.gi
 |slice e=>
  obtain⟨j,_,h⟩:=eo.1 h;obtain⟨s,_,h⟩:=eo.1 h;cases h;exact zA _ _ _ _ fun _=>.fJ _ _
 |map k e=>
  obtain⟨j,_,h⟩:=eo.1 h;obtain⟨s,_,h⟩:=eo.1 h;obtain⟨j,_,h⟩:=eo.1 h;obtain⟨s,_,h⟩:=eo.1 h;cases h;exact zA _ _ _ _ fun _=>.lS
 |chan m e=>
  obtain⟨j,_,h⟩:=eo.1 h;obtain⟨s,_,h⟩:=eo.1 h;cases h;exact zA _ _ _ _ fun _=>.mW
 |func p q v=>
  obtain⟨s,_,h⟩:=eo.1 h;cases h;exact zA _ _ _ _ fun _=>.nilFunc
 |array n e=>
  obtain⟨j,f,h⟩:=eo.1 h;obtain⟨s,_,h⟩:=eo.1 h;cases h;intro z a;dsimp only at a;split at a
  ·cases a
  ·split at a
   ·cases a;exact CX fun v hv=>by simp at hv
   ·obtain⟨l,h0,rfl⟩:=ep.1 a;refine CX fun v hv=>?_;obtain⟨x,g,hv⟩:=Array.mem_flatten.1 hv;obtain rfl:=Array.eq_of_mem_replicate g;exact Nt (b _ _ f l h0) v hv
 |struct o=>exact adJ b h
 |_=>cases h
def Lo(P:aN):Bool:=P.types.all fun i=>match i.zero with|some z=>yV 16 z|none=>true
theorem afx{P}(h:Lo P=true):mw P:=by
 have c:∀{t:aK} {i:iX},P.types[t]? =some i->wA i:=fun{t i} k z b=>by have:=pQ.1 h i (lC k);rw[b]at this;exact U0 16 z this
 have m:∀(n:Nat) (t:aK) (i:iX),BX P.toTables n t=some i->wA i:=by
  intro n;induction n with
  |zero=>intro t i h;cases h
  |succ n l=>
   intro t i h;unfold BX at h;split at h
   ·exact c h
   ·obtain⟨d,_,f⟩:=eo.1 h;exact Y6 (fun t j g=>l t j g) f
 intro t i z a b e;unfold Tables.info? at a;split at a
 ·exact c a z b e
 ·exact m _ _ _ a z b e
end
theorem ZP{p s c}(f fn)(hn:c.program=p.name)(hs:c.sum=p.sum)(aA:c.spec=s.name)(d:c.start=.entering)(e:c.outside=[])(af:c.inits=[])(aC:c.under=none)(aa:c.initsInPlace=[]/\c.initsUnfollowed=false/\c.initsRecurse=false/\c.initsNamed=[]/\c.initsPassed=[])(r:c.noBlocks=false)(aj:c.leaving=true)(i:c.followed=none)(av:c.narrowed=s.cond.isSome)(aB:c.still=false)(Z:p.checked.prog.funcNamed c.func=some f)(hf:p.checked.prog.funcs[f]? =some fn)(closed:joinedFacts p.checked.prog f fn s.bare c=true)(ah:fn.isInstance p.checked.prog c.origin c.targs)(aE:fn.isWrapper p.checked.prog c.wrapper c.mainSum)(h:∀os:Os,os.Started->∀(H:Type) (enc:aK×au->H),(∀a b,enc a=enc b->a=b)->∀F:Stop.Interp,
   ReturnsInLeavingWide c.assume p.checked os f .any (c.pre enc p.checked.prog fn s) ((s.at F).post enc p.checked.prog fn c.apart c.fresh c.handsOn c.again)):c.holds p s:=by
 simp only[joinedFacts,cm,vV,pQ,nE,uo]at closed;obtain⟨⟨⟨⟨⟨⟨⟨⟨⟨⟨⟨⟨⟨⟨⟨⟨⟨⟨⟨⟨⟨⟨⟨⟨⟨⟨⟨⟨⟨⟨⟨v,J⟩,U⟩,V⟩,W⟩,m⟩,X⟩,Y⟩,g⟩,w⟩,x⟩,y⟩,z⟩,A⟩,B⟩,C⟩,D⟩,E⟩,G⟩,I⟩,K⟩,L⟩,M⟩,j⟩,N⟩,l⟩,O⟩,P⟩,Q⟩,R⟩,S⟩,T⟩:=closed;have told:c.startTold p.checked.prog:=by unfold OpenClaim.startTold;rw[d];exact⟨af,aC,aa⟩
 have fits:c.startFits p.checked.prog:=by unfold OpenClaim.startFits;rw[d];exact l
 have calm:∀os:Os,Stop.quiet p.checked.prog os:=fun os k q=>by rw[g]at q;cases q
 refine⟨v,hn,hs,aA,J,U,fits,told,f,fn,Z,hf,⟨V,I⟩,fun o=>by(rw[r]at o;cases o),by(unfold OpenClaim.namedList;rw[i];exact W),ah,aE,
  m.trans X.symm,⟨Y.trans g.symm,by(unfold Program.envWorded;rw[g];rfl),N⟩,w,x,y,z,A,⟨B,S,T⟩,⟨C,K⟩,⟨D,L,Q,R⟩,⟨M,O,P,E⟩,
  ?_,fun n aq=>varReadable_some (G n aq),⟨_,by(unfold UT;rw[e,d];exact WideRow.started_initial),calm _⟩,[],by(unfold OpenClaim.lists;rw[i]),fun os st _ H enc aF=>?_⟩
 ·rw[e,av];cases az:c.shortTexts with
  |none=>simp
  |some _=>rw[az]at j;cases j
 ·have aG:os.Started:=by unfold UT at st;rw[e,d]at st;exact st
  have key:=fun F=>h os aG H enc aF F l;rw[OpenClaim.post_not_still aB];unfold OpenClaim.form;rw[d,m];intro F;have a1:c.okInput=Input.okWide:=by unfold OpenClaim.okInput;rw[r]
  have t:c.atReturn p.checked.prog=leavingAtReturn p.checked.prog:=by unfold OpenClaim.atReturn;rw[aj]
  have a3:c.always p.checked.prog []=nothingAlways:=by unfold OpenClaim.always;rw[i]
  have u:s.post enc p.checked.prog fn F c.outside c.apart c.fresh c.handsOn c.again=(s.at F).post enc p.checked.prog fn c.apart c.fresh c.handsOn c.again:=by rw[e];rfl
  rw[a1,t,a3];show ReturnsInOpen _ _ _ _ _ _ _ _ (s.post enc p.checked.prog fn F c.outside c.apart c.fresh c.handsOn c.again) _ _;rw[u];exact key F
end
section
open Go.Conc
def yP:Op->Bool
 |.defer _=>false
 |_=>true
def qD(P:aN)(l:List bh)(r:Bool)(o:Op):Bool:=okB P l o&&(!r||yP o)
def zv(P:aN)(l:List bh)(o:dW):Bool:=match o.op with
 |.call c=>(match c.callee,c.args.toList with
  |.builtin .unsafeSliceData,[x]=>cE l x&&(match P.underlying o.type with|some (.pointer e)=>EV P e|_=>false)
  |.value (.func f),[x]=>cE l x&&yI P f
  |_,_=>false)
 |_=>false
def rI(P:aN)(l:List bh)(r:Bool)(o:dW):Bool:=qD P l r o.op||zv P l o
def Ti(P:aN)(l:List bh)(h j k:dW):Bool:=match h.op,j.op,k.op with
 |.convert s d x,.call c,.convert m o y=>(match c.callee,c.args.toList,h.dst,j.dst,y with
   |.value (.func f),[.tmp a],some b,some e,.tmp g=>a==b&&e==g&&yI P f&&(match P.funcs[f]? with|some n=>n.name== "internal/abi.NoEscape" |none=>false)
   |_,_,_,_,_=>false)
  &&d==m&&s==o&&cE l x&&(match P.underlying s,P.underlying d with|some (.pointer t),some .unsafePointer=>EV P t&&(match P.info? t with|some i=>i.size !=0|none=>false)|_,_=>false)
  &&h.guard.isNone&&j.guard.isNone&&k.guard.isNone
 |_,_,_=>false
def spB(P:aN)(l:List bh)(ops:Array dW):Bool:=match ops.toList with
 |[a,b,c,d,e,f,g,h]=>qD P l true a.op&&qD P l true b.op&&qD P l true f.op&&qD P l true g.op&&qD P l true h.op&&Ti P l c d e
 |_=>false
def Jq(s:String):Bool:=match s.toList with
 |[]=>true
 |c::_=>c.toNat==120
def dY(P:aN)(l:List bh):Bool->Code->Bool
 |_,.skip|_,.exit _|_,.ret=>true
 |r,.region _ d dr=>(d.all (rI P l r))||(!dr&&spB P l d)
 |r,.seq a b=>dY P l r a&&dY P l r b
 |r,.cond c a b=>cE l c&&dY P l r a&&dY P l r b
 |r,.block _ b=>dY P l r b
 |r,.loop b=>dY P l r b
 |_,.rangeFunc f _ a b=>cE l f&&dY P l true a&&dY P l true b
 |_,.refuse s=>!Jq s
 |_,.scope _|_,.label _|_,.goto _=>false
theorem yT{P l r o}(h:qD P l true o=true):qD P l r o=true:=by
 unfold qD at h⊢;cases r
 ·simp at h;simp[h.1]
 ·exact h
theorem Q0{P l r o}(h:rI P l true o=true):rI P l r o=true:=by unfold rI at h⊢;rw[pS]at h⊢;exact h.imp yT id
theorem wV{P l r}:∀{c:Code},dY P l true c=true->dY P l r c=true
 |.skip,_|.exit _,_|.ret,_=>by cases r<;>rfl
 |.refuse _,h=>h
 |.region _ d dr,h=>by
  have h:(d.all (rI P l true)||(!dr&&spB P l d))=true:=h;show(d.all (rI P l r)||(!dr&&spB P l d))=true;rw[pS]at h⊢;rcases h with h|h
  ·left;rw[pQ]at h⊢;exact fun o e=>Q0 (h o e)
  ·exact .inr h
 |.seq a b,h=>by simp only[dY,cm]at h⊢;exact⟨wV h.1,wV h.2⟩
 |.cond c a b,h=>by simp only[dY,cm]at h⊢;exact⟨⟨h.1.1,wV h.1.2⟩,wV h.2⟩
 |.block _ b,h=>by simp only[dY]at h⊢;exact wV h
 |.loop b,h=>by simp only[dY]at h⊢;exact wV h
 |.rangeFunc f _ a b,h=>by simp only[dY]at h⊢;exact h
 |.scope _,h|.label _,h|.goto _,h=>by simp[dY]at h
class aW where
 wall:String->Item
 good:∀s,(∃c,wall s=.code c)\/∃c,wall s=.inLoop c
section
variable [aA] [aW]
structure Fit(P:aN)(l:List bh):Prop where
 zeros:mw P
 fns:yw P
 ok:∀f,aA.ok f↔l.contains f=true
 code:∀c,aA.code c↔dY P l true c=true
 body:∀f,l.contains f=true->∃fn c,P.funcs[f]? =some fn/\fn.body=some c/\dY P l false c=true
 inits:∀f,aA.known f->P.inits.idxOf? f=none
 known:∀f,aA.known f->∃fn c,P.funcs[f]? =some fn/\fn.body=some c
 O8:∀f,aA.ok f->aA.known f
 prog:P=aA.prog
inductive IR(P:aN)(l:List bh)(ρ:Ren)(r:Bool):Item->Item->Prop
 |code {c:Code} (h:dY P l r c=true):IR P l ρ r (.code c) (.code c)
 |inBlock (id:Nat):IR P l ρ r (.inBlock id) (.inBlock id)
 |inLoop {b:Code} (h:dY P l r b=true):IR P l ρ r (.inLoop b) (.inLoop b)
 |inRegion {ops:Array dW} (todo:List Nat) (h:ops.all (rI P l r)=true):IR P l ρ r (.inRegion ops todo) (.inRegion ops todo)
 |spec {ops:Array dW} (n:Nat) (h:spB P l ops=true):IR P l ρ r (.inRegion ops ((dM ops.size).drop n)) (.inRegion ops ((dM ops.size).drop n))
 |inRangeFunc {n a:Nat} (h:ρ n a):IR P l ρ r (.inRangeFunc n) (.inRangeFunc a)
 |endRangeFunc {n a:Nat} (h:ρ n a):IR P l ρ r (.endRangeFunc n) (.endRangeFunc a)
 |beginRound:IR P l ρ r .beginRound .beginRound
 |stop (s:String):IR P l ρ r (.code (.refuse s)) (aW.wall s)
def rm(ρ:Ren)(e a:sw):Prop:=VR ρ e.v a.v/\a.recovered=e.recovered/\e.goexit=false/\a.goexit=false
inductive oW(ρ:Ren):tw->tw->Prop
 |run:oW ρ .run .run
 |returning:oW ρ .returning .returning
 |panicking {c a:List sw} (h:cH (rm ρ) c a):oW ρ (.panicking c) (.panicking a)
structure bY(P:aN)(l:List bh)(ρ:Ren)(fr a:aJ):Prop where
 fn:a.fn=fr.fn
 ok:aA.known fr.fn
 tmps:bf ρ fr.tmps a.tmps
 todo:cH (IR P l ρ fr.roundOf.isSome) fr.todo a.todo
 defers:cH (DR ρ) fr.defers a.defers
 mode:oW ρ fr.mode a.mode
 kind:a.kind=fr.kind
 kinds:fr.kind=.normal\/fr.kind=.deferred
 round:wq ρ fr.roundOf a.roundOf
theorem cH.mono{α e:Type}{R S}(h:∀a b,R a b->S a b){x:List α}{y:List e}(k:cH R x y):cH S x y:=by
 induction k with
 |nil=>exact .nil
 |cons c _ d=>exact .cons (h _ _ c) d
theorem cH.append{α c:Type}{R x}{y:List c}{a:List α}{b:List c}(k:cH R x y)(f:cH R a b):cH R (x++a) (y++b):=by
 induction k with
 |nil=>exact f
 |cons d _ e=>exact .cons d e
theorem IR.mono{P l ρ σ r}(g:ρ.le σ){a b}(h:IR P l ρ r a b):IR P l σ r a b:=by
 cases h with
 |code h=>exact .code h
 |inBlock id=>exact .inBlock id
 |inLoop h=>exact .inLoop h
 |inRegion t h=>exact .inRegion t h
 |spec n h=>exact .spec n h
 |inRangeFunc h=>exact .inRangeFunc (g _ _ h)
 |endRangeFunc h=>exact .endRangeFunc (g _ _ h)
 |beginRound=>exact .beginRound
 |stop s=>exact .stop s
theorem rm.mono{ρ σ}(g:ρ.le σ){a b}(h:rm ρ a b):rm σ a b:=⟨h.1.mono g,h.2⟩
theorem oW.mono{ρ σ}(g:ρ.le σ){a b:tw}(h:oW ρ a b):oW σ a b:=by
 cases h with
 |run=>exact .run
 |returning=>exact .returning
 |panicking h=>exact .panicking (h.mono fun _ _=>rm.mono g)
theorem wq.mono{ρ σ}(g:ρ.le σ){a b}(h:wq ρ a b):wq σ a b:=by
 cases h with
 |none=>exact .none
 |some h=>exact .some (g _ _ h)
theorem bY.mono{P l}{ρ c:Ren}(g:ρ.le c){a b:aJ}(h:bY P l ρ a b):bY P l c a b:=
 ⟨h.fn,h.ok,h.tmps.mono g,h.todo.mono fun _ _=>IR.mono g,h.defers.mono fun _ _=>DR.mono g,h.mode.mono g,h.kind,h.kinds,h.round.mono g⟩
theorem bY.eval{P l ρ fr fr'}(h:bY P l ρ fr fr')(e:∀f,l.contains f=true->aA.ok f):Reads l ρ fr.eval fr'.eval:=by
 intro x c;cases x with
 |tmp t=>
  show VR ρ (fr.tmps.getD t undef) (fr'.tmps.getD t undef)
  by_cases a:t<fr.tmps.size
  ·have b:t<fr'.tmps.size:=by rw[h.tmps.1];exact a
   simp;exact h.tmps.2 t _ _ (by simp[a]) (by simp[b])
  ·have b:¬t<fr'.tmps.size:=by rw[h.tmps.1];exact a
   simp only[vG,a,b,hO,GB];exact .tuple rfl (fun i v d hv=>by simp at hv)
 |const v=>exact Rp c ρ
 |global g=>cases c
 |func f=>exact .func (.func f (e f c)) rfl (fun i v d hv=>by simp at hv) rfl (fun i v d hv=>by simp at hv)
theorem rQ(ρ):VR ρ undef undef:=.tuple rfl (fun i v a hv=>by simp at hv)
theorem bY.finish{P l ρ fr fr'}(h:bY P l ρ fr fr'){v v'}(hv:VR ρ v v'):bY P l ρ (fr.finish v) (fr'.finish v'):=by
 have h0:=h;obtain⟨m,o,g,b,p,q,r,t,u⟩:=h;unfold Frame.finish;revert b;cases E:fr.todo with
 |nil=>intro b;cases z:fr'.todo with
  |nil=>exact h0
  |cons a k=>rw[z]at b;cases b
 |cons i k=>
  intro b;cases y:fr'.todo with
  |nil=>rw[y]at b;cases b
  |cons F G=>
   rw[y]at b;cases b with
   |cons B w=>
    cases B with
    |@inRegion f D x=>
     cases D with
     |nil=>exact h0
     |cons j rest=>
      refine⟨m,o,?_,.cons (.inRegion rest x) w,p,q,r,t,u⟩;show bf ρ (match(f[j]?).bind (·.dst)with|some d=>fr.tmps.setIfInBounds d v|none=>fr.tmps) (match(f[j]?).bind (·.dst)with|some d=>fr'.tmps.setIfInBounds d v'|none=>fr'.tmps);cases (f[j]?).bind (·.dst)with
      |none=>exact g
      |some d=>exact g.set hv d
    |@spec f n x=>
     cases A:(dM f.size).drop n with
     |nil=>exact h0
     |cons j rest=>
      have hr:rest=(dM f.size).drop (n+1):=by rw[<-List.tail_drop,A];rfl
      refine⟨m,o,?_,.cons (by rw[hr];exact .spec (n+1) x) w,p,q,r,t,u⟩;show bf ρ (match(f[j]?).bind (·.dst)with|some d=>fr.tmps.setIfInBounds d v|none=>fr.tmps) (match(f[j]?).bind (·.dst)with|some d=>fr'.tmps.setIfInBounds d v'|none=>fr'.tmps);cases (f[j]?).bind (·.dst)with
      |none=>exact g
      |some d=>exact g.set hv d
    |inRangeFunc C=>exact⟨m,o,g,.cons (.endRangeFunc C) w,p,q,r,t,u⟩
    |beginRound=>exact⟨m,o,g,w,p,q,r,t,u⟩
    |stop s=>rcases aW.good s with⟨c,e⟩|⟨c,e⟩<;>(rw[e];exact h0)
    |_=>exact h0
theorem bY.raise{P l}{ρ:Ren}{fr a:aJ}(h:bY P l ρ fr a){c m:List sw}(hc:cH (rm ρ) c m):bY P l ρ (fr.raise c) (a.raise m):=by
 obtain⟨f1,f2,f3,f4,f5,f6,f7⟩:=fr;obtain⟨o,p,q,r,s,t,u⟩:=a;obtain⟨b,d,e,f,g,n,i,j,k⟩:=h;unfold Frame.raise;simp only at n⊢;cases n with
 |run=>exact⟨b,d,e,f,g,.panicking hc,i,j,k⟩
 |returning=>exact⟨b,d,e,f,g,.panicking hc,i,j,k⟩
 |panicking hm=>exact⟨b,d,e,f,g,.panicking (hc.append hm),i,j,k⟩
end
section
variable [aA] [aW] {S:Nat->Prop}
def Still(base:List aJ):Prop:=∀b∈base,b.mode=.run\/b.mode=.panicking [Ad]
theorem adG:Still []:=fun _ h=>by cases h
theorem Still.recover:∀{base:List aJ},Still base->∀a,tryRecover a base=none
 |[],_,a=>by unfold tryRecover;cases a.kind<;>rfl
 |b::rest,h,a=>by
  unfold tryRecover;have hr:Still rest:=fun x c=>h x (by simp[c]);cases a.kind with
  |deferred=>rcases h b aq with hm|hm<;>simp only[hm,Ad]
  |wrapped=>simp only[Still.recover hr b];rfl
  |_=>rfl
theorem Still.loop:∀{base:List aJ},Still base->∀n,tryRecoverLoop n base=none
 |[],_,_=>rfl
 |b::rest,h,n=>by
  have hr:Still rest:=fun x a=>h x (by simp[a]);unfold tryRecoverLoop;split
  ·simp only[Still.loop hr];rfl
  ·split
   ·simp only[Still.recover hr];rfl
   ·simp only[Still.loop hr];rfl
  ·simp only[Still.loop hr];rfl
def MW(bl:List aJ)(g:Goroutine):Prop:=∃b rest,bl=b::rest/\(g=G b rest\/(∃v,g=G (b.finish v) rest)\/∃c,g=G (b.raise c) rest)
def nK(fr:aJ):Prop:=fr.mode=.run/\∃a j rest k,fr.todo=.inRegion a (j::rest)::k
def Cw(P:aN)(bl:List aJ)(g:Goroutine)(u:an):Prop:=MW bl g\/∀n a cs w,runN P n (solo g u)=.next (lone a (cs++bl) w)->nK a
def Au(u:an)(sL:(Nat->Question->Nat)->vn)(mk:an->vn)(u1:an):Prop:=jF u u1/\∀a,jA a u.tape u.drawn u1.drawn->sL a=mk (u1.tp a)
def SG(S:Nat->Prop)(P:aN)(l:List bh)(ρ:Ren)(bl base:List aJ)(u w:an)(s:vn)(sL:(Nat->Question->Nat)->vn)(s':vn):Prop:=
 match s with
 |.go a u1 j=>Cw P bl a u1\/∃h d σ i f w1 g,a=G h (d++bl)/\s'=.go (G i (f++base)) w1 g/\bY P l σ h i/\cH (bY P l σ) d f/\bO P ρ σ u u1 w w1/\Whole S σ u1/\(∀e∈g,gy S σ e)/\Au u sL (fun x=>.go a x j) u1
 |.comm a cs b sh u1 j=>∃h d σ i f c k w1 g,a=G h (d++bl)/\cs=#[c]/\b=false/\sh=.select/\s'=.comm (G i (f++base)) #[k] false .select w1 g/\CR σ c k/\bY P l σ h i/\cH (bY P l σ) d f/\bO P ρ σ u u1 w w1/\Whole S σ u1/\(∀e∈g,gy S σ e)/\Au u sL (fun x=>.comm a cs b sh x j) u1
 |.ended _ _ _=>True
 |_=>False
section
variable {P:aN} {l:List bh} {ρ σ:Ren} {bl base:List aJ} {u w u1 w1:an} {s s':vn} {sL sL1:(Nat->Question->Nat)->vn}
theorem Au.trans{mk u2}(b:jF u u1)(d:∀a,jA a u.tape u.drawn u1.drawn->sL a=sL1 a)(h:Au u1 sL1 mk u2):Au u sL mk u2:=
 ⟨b.trans h.1,fun a c=>(d a (c.sub (aV _) h.1.drawn)).trans (h.2 a (by rw[b.tape];exact c.sub b.drawn (aV _)))⟩
theorem abm(hm:bO P ρ σ u u1 w w1)(B:jF u u1)(C:∀a,jA a u.tape u.drawn u1.drawn->sL a=sL1 a)(h:SG S P l σ bl base u1 w1 s sL1 s'):SG S P l ρ bl base u w s sL s':=by
 cases s with
 |go g v e=>
  rcases h with h|h
  ·exact .inl h
  obtain⟨j,d,a,k,f,A,i,m,n,p,q,r,t,y,z⟩:=h;exact .inr ⟨j,d,a,k,f,A,i,m,n,p,q,hm.trans r,t,y,z.trans B C⟩
 |comm g x b sh v e=>
  obtain⟨j,d,a,k,f,c,D,A,i,m,n,p,q,r,t,y,z,H,E,F,G⟩:=h;exact⟨j,d,a,k,f,c,D,A,i,m,n,p,q,r,t,y,z,hm.trans H,E,F,G.trans B C⟩
 |ended o v e=>trivial
 |_=>exact h
theorem abh(es d)(E:∀e∈d,gy S ρ e)(h:SG S P l ρ bl base u w s sL s'):SG S P l ρ bl base u w (jo es s) (fun a=>jo es (sL a)) (jo d s'):=by
 cases s with
 |go g v e=>
  rcases h with h|h
  ·exact .inl h
  obtain⟨m,j,a,n,k,B,x,p,q,r,t,f,y,z,i⟩:=h;subst q;refine .inr ⟨m,j,a,n,k,B,d++x,p,rfl,r,t,f,y,fun e hx=>?_,i.1,fun a A=>by(simp only[i.2 a A];rfl)⟩;rcases tP.1 hx with hx|hx
  ·exact(E e hx).mono f.le
  ·exact z e hx
 |comm g x b sh v e=>
  obtain⟨m,j,a,n,k,c,F,B,x,p,q,r,t,f,y,z,i,D,G,H,C⟩:=h;subst f;refine⟨m,j,a,n,k,c,F,B,d++x,p,q,r,t,rfl,y,z,i,D,G,fun e hx=>?_,C.1,fun a A=>by(simp only[C.2 a A];rfl)⟩;rcases tP.1 hx with hx|hx
  ·exact(E e hx).mono D.le
  ·exact H e hx
 |ended o v e=>trivial
 |_=>exact h.elim
theorem Sg{dP uT iK ry}(es a)(h:∀e∈a,gy S σ e)(c:bY P l σ dP uT)(d:cH (bY P l σ) iK ry)(f:bO P ρ σ u u1 w w1)(g:Whole S σ u1)(i:jF u u1)(j:∀b,jA b u.tape u.drawn u1.drawn->sL b=.go (G dP (iK++bl)) (u1.tp b) es):
  SG S P l ρ bl base u w (.go (G dP (iK++bl)) u1 es) sL (.go (G uT (ry++base)) w1 a):=.inr ⟨dP,iK,σ,uT,ry,w1,a,rfl,rfl,c,d,f,g,h,i,j⟩
theorem dg{dP uT iK ry}(f:WR P ρ u w)(d:Whole S ρ u)(b:bY P l ρ dP uT)(c:cH (bY P l ρ) iK ry)(e:∀a,sL a=.go (G dP (iK++bl)) (u.tp a)):
  SG S P l ρ bl base u w (.go (G dP (iK++bl)) u) sL (.go (G uT (ry++base)) w):=Sg #[] #[] aq b c (bO.refl f) d (.refl u) (fun a _=>e a)
theorem wT{σ x}(h:fK S σ #[] x):∀e∈x,gy S σ e:=by obtain⟨y,rfl,a⟩:=h;simpa using a
theorem EW{σ x}(f)(h:∀e∈x,gy S σ e):∀e∈seen P f x,gy S σ e:=fun e a=>h e (mem_seen a)
theorem Dy(a:Fit P l){f}(hf:aA.ok f){x x'}(d:bf ρ x x'){k}(j:k=.normal\/k=.deferred):bY P l ρ (Frame.enter P f x k) (Frame.enter P f x' k):=by
 obtain⟨m,c,e,g,h⟩:=a.body f ((a.ok f).1 hf);refine⟨rfl,a.O8 f hf,?_,?_,.nil,.run,rfl,j,.none⟩
 ·show bf ρ (x++_) (x'++_);rw[d.1];refine d.append ⟨rfl,fun i v n hv b=>?_⟩;rw[hv]at b;cases b;rw[Bz]at hv;split at hv
  ·cases hv;exact rQ ρ
  ·cases hv
 ·show cH _ [_] [_];simp only[e,Option.bind_some,g,mj];exact .cons (.code h) .nil
theorem RM(c:Fit P l){n n'}(e:ρ n n'){f a b}(h0:aA.known f/\aA.code a/\aA.code b){x x'}(g:bf ρ x x'){k}(d:k=.normal\/k=.deferred):bY P l ρ (HK n f x a b k) (HK n' f x' a b k):=
 ⟨rfl,h0.1,g,.cons (.code ((c.code a).1 h0.2.1)) (.cons .beginRound (.cons (.code ((c.code b).1 h0.2.2)) .nil)),.nil,.run,rfl,d,.some e⟩
theorem EF{fr fr' cs cs'}(h:bY P l ρ fr fr')(J:cH (bY P l ρ) cs cs')(G:Still bl)(I:Still base):
  (tryRecover fr (cs++bl)=none/\tryRecover fr' (cs'++base)=none)\/∃v o c g,tryRecover fr (cs++bl)=some (v,c++bl)/\tryRecover fr' (cs'++base)=some (o,g++base)/\VR ρ v o/\cH (bY P l ρ) c g:=by
 have d:=h.kind;rcases h.kinds with h1|h1
 ·rw[h1]at d;refine .inl ⟨?_,?_⟩
  ·unfold tryRecover;rw[h1]
  ·unfold tryRecover;rw[d]
 ·rw[h1]at d;cases J with
  |nil=>exact .inl ⟨G.recover fr,I.recover fr'⟩
  |@cons a b x y H M=>
   obtain⟨a1,p,a3,q,Y,r,z⟩:=a;obtain⟨b1,A,B,C,Z,D,E⟩:=b;obtain⟨N,O,Q,R,T,j,U,V,W⟩:=H;simp only at j;cases j with
   |run=>exact .inl ⟨by unfold tryRecover;rw[h1];rfl,by unfold tryRecover;rw[d];rfl⟩
   |returning=>exact .inl ⟨by unfold tryRecover;rw[h1];rfl,by unfold tryRecover;rw[d];rfl⟩
   |panicking hm=>
    cases hm with
    |nil=>exact .inl ⟨by unfold tryRecover;rw[h1];rfl,by unfold tryRecover;rw[d];rfl⟩
    |@cons e F t X K L=>
     obtain⟨i,e2,e3⟩:=e;obtain⟨d1,d2,d3⟩:=F;obtain⟨f,k,m,n⟩:=K;simp only at f k m n;subst k m n;cases d2 with
     |true=>exact .inl ⟨by unfold tryRecover;rw[h1];rfl,by unfold tryRecover;rw[d];rfl⟩
     |false=>
      refine .inr ⟨i,d1,⟨a1,p,a3,q,.panicking (⟨i,true,false⟩::t),r,z⟩::x,⟨b1,A,B,C,.panicking (⟨d1,true,false⟩::X),D,E⟩::y,by unfold tryRecover;rw[h1];rfl,by unfold tryRecover;rw[d];rfl,f,.cons ⟨N,O,Q,R,T,.panicking (.cons ⟨f,rfl,rfl,rfl⟩ L),U,V,W⟩ M⟩
theorem Y7(C:ρ.one){cs cs'}(H:cH (bY P l ρ) cs cs')(D:Still bl)(E:Still base):∀{n q:Nat},ρ n q->
  (tryRecoverLoop n (cs++bl)=none/\tryRecoverLoop q (cs'++base)=none)\/∃v f c d,tryRecoverLoop n (cs++bl)=some (v,c++bl)/\tryRecoverLoop q (cs'++base)=some (f,d++base)/\VR ρ v f/\cH (bY P l ρ) c d:=by
 induction H with
 |nil=>exact fun _=>.inl ⟨D.loop _,E.loop _⟩
 |@cons a b x y B K p=>
  intro n q h
  have j:∀{r t:Option (au×List aJ)},((r=none/\t=none)\/∃v f c d,r=some (v,c++bl)/\t=some (f,d++base)/\VR ρ v f/\cH (bY P l ρ) c d)->
    ((r.map fun(v,rest)=>(v,a::rest))=none/\(t.map fun(v,rest)=>(v,b::rest))=none)\/∃v f c d,(r.map fun(v,rest)=>(v,a::rest))=some (v,c++bl)/\(t.map fun(v,rest)=>(v,b::rest))=some (f,d++base)/\VR ρ v f/\cH (bY P l ρ) c d:=by
   rintro r t (⟨rfl,rfl⟩|⟨v,f,c,d,rfl,rfl,hv,G⟩)
   ·exact .inl ⟨rfl,rfl⟩
   ·exact .inr ⟨v,f,a::c,b::d,rfl,rfl,hv,.cons B G⟩
  rw[jR,jR];unfold tryRecoverLoop;obtain⟨T,U,V,g,W,X,Y,Z,L⟩:=id B;have hr:=L;revert g;cases N:a.todo with
  |nil=>
   intro g;cases A:b.todo with
   |nil=>exact j (p h)
   |cons i k=>rw[A]at g;cases g
  |cons i k=>
   intro g;cases A:b.todo with
   |nil=>rw[A]at g;cases g
   |cons Q R=>
    rw[A]at g;cases g with
    |cons I O=>
     cases I with
     |@inRangeFunc m M hm=>
      have F:(M==q)=(m==n):=by
       rw[xC,vV,vV];constructor
       ·rintro rfl;exact C.2 _ _ _ hm h
       ·rintro rfl;exact C.1 _ _ _ hm h
      revert hr;cases a.roundOf with
      |none=>
       intro hr;cases z:b.roundOf with
       |some _=>rw[z]at hr;cases hr
       |none=>
        simp only;rw[F];split
        ·exact j (EF B K D E)
        ·exact j (p h)
      |some o=>
       intro hr;cases z:b.roundOf with
       |none=>rw[z]at hr;cases hr
       |some o'=>
        rw[z]at hr;cases hr with
        |some J=>
         simp only;rw[F];split
         ·exact j (p J)
         ·exact j (p h)
     |stop s=>rcases aW.good s with⟨c,e⟩|⟨c,e⟩<;>(rw[e];exact j (p h))
     |_=>exact j (p h)
end
end
section
variable [aA] [aW] {S:Nat->Prop}
section
variable {P:aN} {l:List bh} {ρ σ:Ren} {bl base:List aJ} {u w u1 w1:an} {K:Kn}
theorem gE{s s' sL sL1}(hm:bO P ρ σ u u1 w w1)(d:jF u u1)(es a)(f:∀b,jA b u.tape u.drawn u1.drawn->sL b=jo es (sL1 b))(c:∀e∈a,gy S σ e)(h:SG S P l σ bl base u1 w1 s sL1 s'):SG S P l ρ bl base u w (jo es s) sL (jo a s'):=
 abm hm d f (abh es a c h)
theorem EO{α k:Type}{Q s}{j:Sem k}(h:SR P Q ρ K s j)(e:Own K u)(i:WR P ρ u w)(f:Whole S ρ u){r:Result α}(hr:s.run P u=r)(g:∀x v,r=.halt x v->¬jT x):
  jF u r.world/\∀a,jA a u.tape u.drawn r.world.drawn->s.runT P (u.tp a) #[]=(r.tp a,(s.runT P u #[]).2):=by
 rcases h.loc u w i e f with⟨x,v,b,c⟩|⟨b,c⟩
 ·exact absurd c (g x v (hr.symm.trans b))
 ·rw[hr]at b c;refine⟨b,fun a d=>?_⟩;rw[c #[] a d,iW,hr]
theorem Ol{x}(f b)(h:∀e∈x,gy S σ e):∀e∈seen P f (if b=true then #[]else x),gy S σ e:=by
 intro e a;have:=mem_seen a;split at this
 ·simp at this
 ·exact h e this
theorem mH{α:Type}(s:Sem α)(u):s.runT P u #[]=(s.run P u,(s.runT P u #[]).2):=by rw[<-iW P s u #[]]
theorem K5{r x y}(h:cH (IR P l ρ r) x y):(∀d b n s k,x≠.call d b n s::k)/\∀d b n s k,y≠.call d b n s::k:=by
 cases h with
 |nil=>exact⟨fun _ _ _ _ _ e=>(by cases e),fun _ _ _ _ _ e=>(by cases e)⟩
 |cons f _=>
  cases f with
  |stop s=>exact⟨fun _ _ _ _ _ e=>(by cases e),fun _ _ _ _ _ e=>by rcases aW.good s with⟨c,a⟩|⟨c,a⟩<;>(rw[a]at e;cases e)⟩
  |_=>exact⟨fun _ _ _ _ _ e=>(by cases e),fun _ _ _ _ _ e=>(by cases e)⟩
theorem Pm{c c'}(h:cH (rm ρ) c c'):c.dropWhile (!·.goexit)=[]/\c'.dropWhile (!·.goexit)=[]:=by
 induction h with
 |nil=>exact⟨rfl,rfl⟩
 |cons a _ b=>exact⟨by simp only[UC,a.2.2.1,BF,cD,b.1],by simp only[UC,a.2.2.2,BF,cD,b.2]⟩
def CO(S:Nat->Prop)(P:aN)(ρ:Ren)(u w:an)(s a:Sem Next):Prop:=cz S P NR ρ u w #[] (s.run P u) (a.runT P w #[])/\dH P s u
theorem SR.abp{s s'}(c:SR P NR ρ K s s')(a:Own K u)(d:WR P ρ u w)(b:Whole S ρ u):CO S P ρ u w s s':=⟨c.tI u w #[] d a b,c.loc u w d a b⟩
theorem D7{s}(f:dH P s u){r:Result Next}(hr:s.run P u=r)(e:∀x v,r=.halt x v->¬jT x):
  jF u r.world/\∀a,jA a u.tape u.drawn r.world.drawn->s.runT P (u.tp a) #[]=(r.tp a,(s.runT P u #[]).2):=by
 rcases f with⟨x,v,b,c⟩|⟨b,c⟩
 ·exact absurd c (e x v (hr.symm.trans b))
 ·rw[hr]at b c;refine⟨b,fun a d=>?_⟩;rw[c #[] a d,iW,hr]
theorem Kv(R:Fit P l)(J:Still bl)(L:Still base){s s'}(V:CO S P ρ u w s s'){fr k:aJ}{cs D:List aJ}(h:bY P l ρ fr k)(T:cH (bY P l ρ) cs D):
  SG S P l ρ bl base u w (stepG.apply P true fr (cs++bl) none s u) (fun d=>stepG.apply P true fr (cs++bl) none s (u.tp d)) (stepG.apply P true k (D++base) none s' w):=by
 have hr:=V.1;have U:=fun{r:Result Next}=>D7 V.2 (r:=r);obtain⟨hk,af⟩:=K5 h.todo;generalize A:(fun d=>stepG.apply P true fr (cs++bl) none s (u.tp d))=sL;unfold stepG.apply;simp only[cD];unfold cz at hr;cases z:s.run P u with
 |ok n u1=>
  obtain⟨p,C⟩:=U z (fun x v e=>by cases e);rw[mH s u,z];generalize (s.runT P u #[]).2=H at C;have j:∀d,jA d u.tape u.drawn u1.drawn->s.runT P (u.tp d) #[]=(.ok n (u1.tp d),H):=C;rw[z]at hr;obtain⟨σ,n',w1,x,I,O,hm,m,N⟩:=hr;rw[I];have B:=fun(b:Bool)=>Ol (P:=P) k.fn b (wT N);have g:=h.mono hm.le;have o:=T.mono fun _ _=>bY.mono hm.le;cases O with
  |value hv=>exact gE hm p _ _ (fun d i=>by rw[<-A];unfold stepG.apply;simp only[cD];rw[j d i];rfl) (B _) (dg hm.rel m (g.finish hv) o fun _=>rfl)
  |skip=>exact gE hm p _ _ (fun d i=>by rw[<-A];unfold stepG.apply;simp only[cD];rw[j d i];rfl) (B _) (dg hm.rel m (g.finish (rQ σ)) o fun _=>rfl)
  |@enter f x x' Z Q=>
   have Y:bY P l σ (Frame.enter P f x (match fr.todo with|.call _ true _ _::_=>.wrapped|_=>.normal)) (Frame.enter P f x' (match k.todo with|.call _ true _ _::_=>.wrapped|_=>.normal)):=by
    split
    ·exact absurd ‹fr.todo=_› (hk _ _ _ _ _)
    ·split
     ·exact absurd ‹k.todo=_› (af _ _ _ _ _)
     ·exact Dy R Z Q (.inl rfl)
   exact gE hm p _ _ (fun d i=>by rw[<-A];unfold stepG.apply;simp only[cD];rw[j d i];rfl) (B _) (dg (iK:=_::_) (ry:=_::_) hm.rel m Y (.cons g o) fun _=>rfl)
  |round f a b h0 hl Q=>
   exact gE hm p _ _ (fun d i=>by rw[<-A];unfold stepG.apply;simp only[cD];rw[j d i];rfl) (B _) (dg (iK:=_::_) (ry:=_::_) hm.rel m (RM R hl h0 Q (.inl rfl)) (.cons g o) fun _=>rfl)
  |defer W=>
   refine gE hm p _ _ (fun d i=>by rw[<-A];unfold stepG.apply;simp only[cD];rw[j d i];rfl) (B _) (dg hm.rel m (bY.finish ?_ (rQ σ)) o fun _=>rfl);exact⟨g.fn,g.ok,g.tmps,g.todo,.cons W g.defers,g.mode,g.kind,g.kinds,g.round⟩
  |recover=>
   have key:∀{r E:Option (au×List aJ)},((r=none/\E=none)\/∃v F c G,r=some (v,c++bl)/\E=some (F,G++base)/\VR σ v F/\cH (bY P l σ) c G)->
     SG S P l σ bl base u1 w1 (match r with|some (v,callers)=>.go {frame:=fr.finish v,callers,status:=.running,dying:=none} u1|none=>.go {frame:=fr.finish .nilIface,callers:=cs++bl,status:=.running,dying:=none} u1)
      (fun d=>match r with|some (v,callers)=>.go {frame:=fr.finish v,callers,status:=.running,dying:=none} (u1.tp d)|none=>.go {frame:=fr.finish .nilIface,callers:=cs++bl,status:=.running,dying:=none} (u1.tp d))
      (match E with|some (v,callers)=>.go {frame:=k.finish v,callers,status:=.running,dying:=none} w1|none=>.go {frame:=k.finish .nilIface,callers:=D++base,status:=.running,dying:=none} w1):=by
    rintro r E (⟨rfl,rfl⟩|⟨v,F,c,G,rfl,rfl,hv,M⟩)
    ·exact dg hm.rel m (g.finish .nilIface) o fun _=>rfl
    ·exact dg hm.rel m (g.finish hv) M fun _=>rfl
   refine gE hm p _ _ (fun d i=>by rw[<-A];unfold stepG.apply;simp only[cD];rw[j d i];rfl) (B _) (key ?_);have t:=g.round;revert t;cases fr.roundOf with
   |none=>
    intro t;cases j:k.roundOf with
    |none=>exact EF g o J L
    |some _=>rw[j]at t;cases t
   |some n=>
    intro t;cases j:k.roundOf with
    |none=>rw[j]at t;cases t
    |some n'=>
     rw[j]at t;cases t with
     |some O=>
      simp only;split
      ·exact EF g o J L
      ·exact Y7 hm.rel.one o J L O
  |comm M=>exact⟨fr,cs,σ,k,D,_,_,w1,_,rfl,rfl,rfl,rfl,rfl,M,g,o,hm,m,fun e X=>B (k.kind==.early) e (by simpa using X),p,fun d i=>by rw[<-A];unfold stepG.apply;simp only[cD];rw[j d i];rfl⟩
 |halt x u1=>
  rw[z]at hr;cases x with
  |panic v=>
   obtain⟨p,C⟩:=U z (fun x v e=>by cases e;exact id);rw[mH s u,z];generalize (s.runT P u #[]).2=H at C;have j:∀d,jA d u.tape u.drawn u1.drawn->s.runT P (u.tp d) #[]=(.halt (.panic v) (u1.tp d),H):=C;obtain⟨σ,F,w1,y,I,hv,hm,m,N⟩:=hr;rw[I];exact gE hm p _ _ (fun d i=>by rw[<-A];unfold stepG.apply;simp only[cD];rw[j d i];rfl) (Ol (P:=P) k.fn _ (wT N)) (dg hm.rel m ((h.mono hm.le).raise (.cons ⟨hv,rfl,rfl,rfl⟩ .nil)) (T.mono fun _ _=>bY.mono hm.le) fun _=>rfl)
  |stuck _=>rw[mH s u,z];trivial
  |unsupported q=>
   rw[mH s u,z];cases q with
   |initOrder _=>exact hr.elim
   |_=>trivial
  |_=>exact hr.elim
theorem zg(b:Fit P l)(d:Still bl)(e:Still base){s s'}(g:SR P NR ρ K s s')(a:Own K u)(i:WR P ρ u w)(c:Whole S ρ u){fr fr' cs cs'}(h:bY P l ρ fr fr')(f:cH (bY P l ρ) cs cs'):
  SG S P l ρ bl base u w (stepG.apply P true fr (cs++bl) none s u) (fun j=>stepG.apply P true fr (cs++bl) none s (u.tp j)) (stepG.apply P true fr' (cs'++base) none s' w):=
 Kv b d e (g.abp a i c) h f
theorem Sj{main}(E:bl≠[])(D:Still bl)(s:WR P ρ u w)(p:Whole S ρ u){fr fr' cs cs'}(h:bY P l ρ fr fr')(F:cH (bY P l ρ) cs cs'){v v'}(hv:VR ρ v v'):
  SG S P l ρ bl base u w (Cn P true fr (cs++bl) none v u) (fun L=>Cn P true fr (cs++bl) none v (u.tp L)) (Cn P main fr' (cs'++base) none v' w):=by
 cases F with
 |nil=>
  cases bl with
  |nil=>exact absurd rfl E
  |cons b rest=>
   have hm:=D b aq;unfold Cn;rcases h.kinds with hk|hk
   ·simp only[pW,hk];exact .inl (.inl ⟨b,rest,rfl,.inr (.inl ⟨v,rfl⟩)⟩)
   ·rcases hm with hm|hm<;>simp only[pW,hk,hm,Ad]<;>exact .inl (.inl ⟨b,rest,rfl,.inl rfl⟩)
 |@cons a b x y q z=>
  unfold Cn;have n:=h.kind;rcases h.kinds with hk|hk
  ·rw[hk]at n;simp only[jR,hk,n];exact dg s p (q.finish hv) z fun _=>rfl
  ·rw[hk]at n;simp only[jR,hk,n];refine dg s p ?_ z fun _=>rfl;obtain⟨a1,M,a3,N,O,Q,R⟩:=a;obtain⟨b1,T,U,V,W,X,Y⟩:=b;obtain⟨c,d,f,g,i,A,j,k,m⟩:=q;simp only at A⊢;cases A with
   |run=>exact⟨c,d,f,g,i,.run,j,k,m⟩
   |returning=>exact⟨c,d,f,g,i,.returning,j,k,m⟩
   |panicking hm=>
    cases hm with
    |nil=>exact⟨c,d,f,g,i,.panicking .nil,j,k,m⟩
    |@cons e C t t' r o=>
     obtain⟨Z,e2,e3⟩:=e;obtain⟨d1,d2,d3⟩:=C;have G:=r;obtain⟨H,B,I,J⟩:=r;simp only at H B I J;subst B;cases d2 with
     |false=>exact⟨c,d,f,g,i,.panicking (.cons G o),j,k,m⟩
     |true=>
      simp only[(Pm o).1,(Pm o).2];exact⟨c,d,f,g,i,.returning,j,k,m⟩
theorem SH{α:Type}{f f'}(h:∀x σ L,ρ.le σ->SR P VR σ L (f x) (f' x)):∀(xs:List α) (σ:Ren) (L:Kn),ρ.le σ->SR P (fun a y b=>cH (VR a) y b) σ L (xs.mapM f) (xs.mapM f')
 |[],σ,L,_=>.pure .nil
 |x::xs,σ,L,g=>by rw[vP,vP];refine SR.then (h x σ L g) fun a M v i c _ hv=>?_;refine SR.then (SH h xs a M (Ren.le_trans g c)) fun j N y b d _ e=>?_;exact .pure (.cons (hv.mono d) e)
theorem aeQ{x y}(h:cH (VR ρ) x y):bf ρ x.toArray y.toArray:=by
 have c:y.length=x.length:=by
  induction h with
  |nil=>rfl
  |cons _ _ b=>simp[b]
 refine⟨by simpa using c,?_⟩;induction h with
 |nil=>intro i v d hv;simp at hv
 |cons e _ b=>
  intro i v d hv a;cases i with
  |zero=>simp at hv a;subst hv a;exact e
  |succ i=>exact b (by simpa using c) i v d (by simpa using hv) (by simpa using a)
theorem Iw{x x'}(h:bf ρ x x')(t):VR ρ (x.getD t undef) (x'.getD t undef):=by
 by_cases a:t<x.size
 ·have b:t<x'.size:=by rw[h.1];exact a
  simp;exact h.2 t _ _ (by simp[a]) (by simp[b])
 ·have b:¬t<x'.size:=by rw[h.1];exact a
  simp only[vG,a,b,hO,GB];exact rQ ρ
theorem xh(fn){x x'}(f:bf ρ x x'):SR P VR ρ K (results fn x) (results fn x'):=by
 unfold results;rw[zE,zE];refine SR.then (Q:=bf) ?_ fun σ L y h _ _ d=>?_
 ·refine Fl _ _ (SH (fun r σ L g=>?_) _ ρ K (Ren.le_refl _)) fun _ a b _ i=>aeQ i;cases r with
  |tmp t=>exact .pure ((Iw f t).mono g)
  |cell a t=>exact SR.then (abG ((Iw f a).mono g)) fun m M b k _ _ j=>SF j t
 ·refine .pure ?_
  by_cases c:y.size=1
  ·have e:h.size=1:=by rw[d.1];exact c
   simp only[c,e,qW];exact d.2 0 _ _ (by simp[c]) (by simp[e])
  ·have e:¬h.size=1:=by rw[d.1];exact c
   simp only[c,e,hO,GB];exact .tuple d.1 d.2
end
end
section
variable [aA] [aW] {S:Nat->Prop}
section
variable {P:aN} {ρ σ:Ren} {u w u1 w1:an} {es x:Array Event}
theorem cz.bind{α n p q:Type}{Q:Ren->α->n->Prop}{R:Ren->p->q->Prop}{s:Sem α}{o:Sem n}{f:α->Sem p}{f':n->Sem q}(h:cz S P Q ρ u w es (s.run P u) (o.runT P w es))
  (k:∀a u1 σ b w1 x,s.run P u=.ok a u1->Q σ a b->bO P ρ σ u u1 w w1->Whole S σ u1->cz S P R σ u1 w1 x ((f a).run P u1) ((f' b).runT P w1 x)):cz S P R ρ u w es ((s.bind f).run P u) ((o.bind f').runT P w es):=by
 cases hr:s.run P u with
 |ok a u1=>
  have h0:=h;rw[hr]at h0;obtain⟨σ,b,w1,x,g,j,c,l,m⟩:=h0;exact cz.step (s1:=f a) (s1':=f' b) c m (by rw[gH,hr];rfl) (by rw[cG,g]) (k a u1 σ b w1 x hr j c l)
 |halt z u1=>
  rw[hr]at h;have e:(s.bind f).run P u=.halt z u1:=by rw[gH,hr];rfl
  rw[e];cases z with
  |panic v=>
   obtain⟨σ,r,w1,x,g,j,c,l,m⟩:=h;exact⟨σ,r,w1,x,by rw[cG,g],j,c,l,m⟩
  |_=>exact h
theorem dH.bind{α l:Type}{s}{f:α->Sem l}(h:dH P s u)(k:∀a u1,s.run P u=.ok a u1->dH P (f a) u1):dH P (s.bind f) u:=by
 rcases h with⟨x,w1,b,c⟩|⟨b,c⟩
 ·exact .inl ⟨x,w1,by rw[gH,b];rfl,c⟩
 ·cases hr:s.run P u with
  |ok a u1=>
   rw[hr]at b c;refine dH.step b (by rw[gH,hr];rfl) (fun es=>⟨(s.runT P u es).2,?_,fun g e j=>?_⟩) (k a u1 hr)
   ·rw[cG];have:(s.runT P u es).1=.ok a u1:=by rw[iW,hr]
    revert this;cases s.runT P u es with
    |mk r y=>intro this;simp only at this;subst this;rfl
   ·rw[cG,c es g (e.sub (aV _) j.drawn),iW,hr];rfl
  |halt z u1=>
   rw[hr]at b c;refine .inr ⟨by rw[gH,hr];exact b,fun es g e=>?_⟩;rw[gH,hr]at e;rw[cG,cG,c es g e];have:(s.runT P u es).1=.halt z u1:=by rw[iW,hr]
   revert this;cases s.runT P u es with
   |mk r y=>intro this;simp only at this;subst this;rfl
theorem xm{t:aK}{d:jy}(h:P.underlying t=some d)(u es):(underlying t).runT P u es=(.ok d u,es):=by simp only[underlying,program,bind,cA,Sem.runT,h,pure]
theorem Ds{s d t:aK}(g:P.underlying s=some (.pointer t))(c:P.underlying d=some .unsafePointer)(a u es):(convert s d (.pointer (some a))).runT P u es=((rT a).bind (toRest t)).runT P u es:=by
 have e:∀(f:jy->Sem au) (u:an) (es:Array Event),((underlying s) >>= f).runT P u es=(f (.pointer t)).runT P u es:=fun f u es=>by show((underlying s).bind f).runT P u es=_;rw[cG,xm g]
 have b:∀(f:jy->Sem au) (u:an) (es:Array Event),((underlying d) >>= f).runT P u es=(f .unsafePointer).runT P u es:=fun f u es=>by show((underlying d).bind f).runT P u es=_;rw[cG,xm c]
 unfold convert;rw[e,b];unfold zJ;rw[e,b];rfl
theorem Dr{s d t:aK}(g:P.underlying s=some (.pointer t))(c:P.underlying d=some .unsafePointer)(a u es):(convert d s (.pointer (some a))).runT P u es=((rT a).bind (yE t)).runT P u es:=by
 have e:∀(f:jy->Sem au) (u:an) (es:Array Event),((underlying s) >>= f).runT P u es=(f (.pointer t)).runT P u es:=fun f u es=>by show((underlying s).bind f).runT P u es=_;rw[cG,xm g]
 have b:∀(f:jy->Sem au) (u:an) (es:Array Event),((underlying d) >>= f).runT P u es=(f .unsafePointer).runT P u es:=fun f u es=>by show((underlying d).bind f).runT P u es=_;rw[cG,xm c]
 unfold convert;rw[b,e];unfold zJ;rw[b,e];rfl
theorem Sk{r}(h:u.heap[r]? =some bG):u.shape? r=none:=by unfold World.shape?;rw[h];rfl
theorem Sm{t:aK}{i:iX}(h:P.info? t=some i)(u):(sizeOf t).run P u=.ok i.size u:=by simp only[sizeOf,typeInfo,program,bind,cA,Sem.run,h,pure]
theorem toRest_poison{t:aK}{i:iX}(h:P.info? t=some i)(e:i.size≠0){a}(b:u.heap[a.block]? =some bG):(toRest t a).run P u=.ok (.pointer (some a)) u:=by
 have c:(cellsIn a.block).run P u=.ok none u:=by simp only[cellsIn,shape,getObj,bind,cA,Sem.run,(Sk b),b,bG,pure]
 unfold toRest;show((cellsIn a.block).bind _).run P u=_;rw[gH,c];show((sizeOf t).bind _).run P u=_;rw[gH,Sm h];simp only[UZ,e,decide_false,TY,eA,dy,pure,Sem.run]
theorem Hi{t:aK}{i:iX}(h:P.info? t=some i)(b:i.size≠0){a}(c:u.heap[a.block]? =some bG):∃x,(yE t a).run P u=.halt x u/\jT x:=by unfold yE;refine⟨.unsupported (.unsafePointer "memory that has no shape (a package-level variable that still waits for its initialiser), seen as another type"),?_,trivial⟩;show((sizeOf t).bind _).run P u=_;rw[gH,Sm h];simp only[variablesAt,program,shape,unsupported,UZ,bind,cA,Sem.run,(Sk c),pure,b,decide_false,TY,eA,dy]
theorem aaP{a}(b:u.heap[a.block]? =some bG):(rT a).run P u=.ok a u:=by have hv:(viewAt a.block).run P u=.ok none u:=FC b (fun _ _ e=>by cases e);unfold rT;show((viewAt a.block).bind _).run P u=_;rw[gH,hv];rfl
section
variable {s d t:aK} {i:iX}
theorem Dt{s:Sem au}{s1:Sem au}(h:∀u es,s.runT P u es=s1.runT P u es):(∀u,s.run P u=s1.run P u):=fun u=>by rw[<-iW P s u #[],h,iW]
theorem dH.congr{α:Type}{s s1:Sem α}(h:∀u es,s.runT P u es=s1.runT P u es)(k:dH P s1 u):dH P s u:=by
 have e:s.run P u=s1.run P u:=by rw[<-iW P s u #[],h,iW]
 rcases k with⟨x,w1,a,b⟩|⟨a,b⟩
 ·exact .inl ⟨x,w1,e.trans a,b⟩
 ·exact .inr ⟨by rw[e];exact a,fun es f c=>by rw[h,h];exact b es f (by rw[<-e];exact c)⟩
theorem abq(n:P.underlying s=some (.pointer t))(m:P.underlying d=some .unsafePointer)(A:uC t)(y:P.info? t=some i)(B:i.size≠0)(q:WR P ρ u w)(l:Whole S ρ u){a a':Addr}(D:AR ρ a a'):
  CO S P ρ u w (do pure (.value (<-convert d s (.pointer (some a))))) (do pure (.value (<-convert d s (.pointer (some a'))))):=by
 have p:=(SL (P:=P) (K:=fun _=>False) D);constructor
 ·refine cz.bind (Q:=VR) ?_ fun v u1 σ E w1 x _ hv hm c=>⟨σ,_,w1,x,rfl,.value hv,bO.refl hm.rel,c,.refl _⟩;rw[Dt (Dr n m a),Dr n m a'];refine cz.bind (p.tI u w #[] q (fun _ h=>h.elim) l) fun b u1 σ C w1 x _ e hm c=>?_;obtain⟨o,f⟩:∃o,u1.heap[b.block]? =some o:=⟨_,cw (hm.rel.lt _ _ e.1).1⟩
  by_cases g:o=bG
  ·subst g;obtain⟨z,j,k⟩:=Hi y B f;rw[j];exact cz.lost k u1
  ·exact(Sr (K:=fun r=>r=b.block) A e rfl).tI u1 w1 x hm.rel (fun r hr=>by cases hr;exact⟨o,f,g⟩) c
 ·refine dH.bind (dH.congr (Dr n m a) (dH.bind (p.loc u w q (fun _ h=>h.elim) l) fun b u1 hr=>?_)) fun v u1 _=>.inr ⟨.refl u1,fun _ _ _=>rfl⟩;have h0:=p.tI u w #[] q (fun _ h=>h.elim) l;rw[hr]at h0;obtain⟨σ,C,w1,x,j,e,hm,c,_⟩:=h0;obtain⟨o,f⟩:∃o,u1.heap[b.block]? =some o:=⟨_,cw (hm.rel.lt _ _ e.1).1⟩
  by_cases g:o=bG
  ·subst g;obtain⟨z,j,k⟩:=Hi y B f;exact .inl ⟨z,u1,j,k⟩
  ·exact(Sr (K:=fun r=>r=b.block) A e rfl).loc u1 w1 hm.rel (fun r hr=>by cases hr;exact⟨o,f,g⟩) c
theorem abr(m:P.underlying s=some (.pointer t))(l:P.underlying d=some .unsafePointer)(y:uC t)(D:P.info? t=some i)(E:i.size≠0)(z:WR P ρ u w)(p:Whole S ρ u){a a':Addr}(C:AR ρ a a'):
  CO S P ρ u w (do pure (.value (<-convert s d (.pointer (some a))))) (do pure (.value (<-convert s d (.pointer (some a')))))\/
   ∃b u1,(do pure (Next.value (<-convert s d (.pointer (some a)))):Sem Next).run P u=.ok (.value (.pointer (some b))) u1/\u1.heap[b.block]? =some bG:=by
 have q:=(SL (P:=P) (K:=fun _=>False) C);have h0:=q.tI u w #[] z (fun _ h=>h.elim) p
 have B:(∃b u1,(rT a).run P u=.ok b u1/\u1.heap[b.block]? =some bG)\/∀b u1,(rT a).run P u=.ok b u1->u1.heap[b.block]? ≠some bG:=by
  by_cases h:∃b u1,(rT a).run P u=.ok b u1/\u1.heap[b.block]? =some bG
  ·exact .inl h
  ·exact .inr fun b u1 j k=>h ⟨b,u1,j,k⟩
 rcases B with⟨b,u1,j,k⟩|good
 ·refine .inr ⟨b,u1,?_,k⟩
  have e:(convert s d (.pointer (some a))).run P u=.ok (.pointer (some b)) u1:=by rw[Dt (Ds m l a),gH,j];exact toRest_poison D E k
  show((convert s d (.pointer (some a))).bind _).run P u=_;rw[gH,e];rfl
 ·left;constructor
  ·refine cz.bind (Q:=VR) ?_ fun v u1 σ F w1 x _ hv hm c=>⟨σ,_,w1,x,rfl,.value hv,bO.refl hm.rel,c,.refl _⟩;rw[Dt (Ds m l a),Ds m l a'];refine cz.bind h0 fun b u1 σ A w1 x hr f hm c=>?_;obtain⟨o,g⟩:∃o,u1.heap[b.block]? =some o:=⟨_,cw (hm.rel.lt _ _ f.1).1⟩;exact(SP (K:=fun r=>r=b.block) y f rfl).tI u1 w1 x hm.rel (fun r n=>by cases n;exact⟨o,g,fun e=>good b u1 hr (e▸g)⟩) c
  ·refine dH.bind (dH.congr (Ds m l a) (dH.bind (q.loc u w z (fun _ h=>h.elim) p) fun b u1 hr=>?_)) fun v u1 _=>.inr ⟨.refl u1,fun _ _ _=>rfl⟩;have h0:=h0;rw[hr]at h0;obtain⟨σ,A,w1,x,j,f,hm,c,_⟩:=h0;obtain⟨o,g⟩:∃o,u1.heap[b.block]? =some o:=⟨_,cw (hm.rel.lt _ _ f.1).1⟩;exact(SP (K:=fun r=>r=b.block) y f rfl).loc u1 w1 hm.rel (fun r n=>by cases n;exact⟨o,g,fun e=>good b u1 hr (e▸g)⟩) c
theorem Sz{K}(j:P.underlying s=some (.pointer t))(f:P.underlying d=some .unsafePointer){x x'}(h:VR ρ x x')(k:∀a,x≠.pointer (some a)):SR P VR ρ K (convert s d x) (convert s d x')/\SR P VR ρ K (convert d s x) (convert d s x'):=by
 constructor
 ·unfold convert;refine SR.then (aT j) fun _ _ p q g _ b=>?_;obtain⟨rfl,rfl⟩:=b;refine SR.then (aT f) fun _ _ p q e _ c=>?_;obtain⟨rfl,rfl⟩:=c;have h:=(h.mono g).mono e;unfold zJ;cases h with
  |ptr l=>exact absurd rfl (k _)
  |gi=>
   refine SR.then (aT j) fun _ _ p q g _ b=>?_;obtain⟨rfl,rfl⟩:=b;refine SR.then (aT f) fun _ _ p q e _ c=>?_;obtain⟨rfl,rfl⟩:=c;exact .pure .gi
  |_=>
   refine SR.then (aT j) fun _ _ p q g _ b=>?_;obtain⟨rfl,rfl⟩:=b;refine SR.then (aT f) fun _ _ p q e _ c=>?_;obtain⟨rfl,rfl⟩:=c;exact .lost aq
 ·unfold convert;refine SR.then (aT f) fun _ _ p q g _ b=>?_;obtain⟨rfl,rfl⟩:=b;refine SR.then (aT j) fun _ _ p q e _ c=>?_;obtain⟨rfl,rfl⟩:=c;unfold zJ;cases ((h.mono g).mono e)with
  |ptr l=>exact absurd rfl (k _)
  |gi=>
   refine SR.then (aT f) fun _ _ p q g _ b=>?_;obtain⟨rfl,rfl⟩:=b;refine SR.then (aT j) fun _ _ p q e _ c=>?_;obtain⟨rfl,rfl⟩:=c;exact .pure .gi
  |_=>
   refine SR.then (aT f) fun _ _ p q g _ b=>?_;obtain⟨rfl,rfl⟩:=b;refine SR.then (aT j) fun _ _ p q e _ c=>?_;obtain⟨rfl,rfl⟩:=c;exact .lost aq
end
end
end
end
end Go.Proofs.YtpobhljcainmdaaGreat
