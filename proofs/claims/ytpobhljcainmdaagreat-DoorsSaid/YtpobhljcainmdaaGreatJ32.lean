/- Proved here: a part of what Doors keeps (Rd4, Rd5, Rd6, Rd7, Rd8a). -/
import Derived.Test.YtpobhljcainmdaaGreatJ31
set_option maxRecDepth 100000
set_option maxHeartbeats 8000000
set_option linter.all false
namespace Go.Proofs.YtpobhljcainmdaaGreat
section
open Go.Proofs.Tryz
open Go Go.Conc Go.RowKit Go.Conc.Lib Go.ConcR.Gen Go.ConcN.Gen
open Go.ConcN (ShN WgLive Has)
section
variable [aR] [aB] {Stop:(Nat->Prop)->Goroutine->World->Prop} {O:Nat->Prop} {w:World} {xb sb B1 Wg n B2 D L i:Nat} {cl:List (Option Nat)} {cs0:List Frame} {v:Nat->Value}
theorem yA(h:i<n)(hn:n<4294967296):IntKind.i64.wrap ((i:Int)+1)=((i+1:Nat):Int):=by rw[IntKind.wrap_i64];omega
theorem Sb(hH:ew f61 xb sb B1 Wg B2 D L n cl .ready O w)(hi:i<n)(hn:n<4294967296)(dw:cl[i]? =some none)
  (hnext:∀v,CJ prog true link.tWg Wg Stop O (Hj f61 f96 xb sb B1 Wg B2 D L n (i+1) v cs0) w):
  CJ prog true link.tWg Wg Stop O (Hj f61 f96 xb sb B1 Wg B2 D L n i v cs0) w:=by
 have hin:(i:Int)<(n:Int):=by omega
 have hi0:(0:Int)<=(i:Int):=by omega
 have Vx:=yA hi hn;simp only[Hj,jD,f96,Xj];refine .seq ?_;refine .region ?_;simp only[List.size_toArray,List.length_cons,List.length_nil,Nat.reduceAdd,Nat.zero_add,List.range,List.range.loop];refine .op (.bool true) rfl rfl (by simp[base]) (fun w₁ r=>by unfold execOp;simp[go_sem,Act.put,Act.eval,hin]) (fun w₁ r e he=>by unfold execOp at he;simp[go_sem,Act.put,Act.eval,hin]at he) ?_
 walk_nrm
 refine .regionEnd (.seq (.cond (v:=true) rfl ?_));simp only[if_true,Bool.false_eq_true,if_false];refine .skip (.seq (.block (.seq ?_)));refine .region ?_;simp only[List.size_toArray,List.length_cons,List.length_nil,Nat.reduceAdd,Nat.zero_add,List.range,List.range.loop];refine .op (.pointer (some ⟨sb,i,none⟩)) rfl rfl (by simp[base]) (fun w₁ r=>by unfold execOp;simp[go_sem,Act.put,Act.eval,hin,hi0]) (fun w₁ r e he=>by unfold execOp at he;simp[go_sem,Act.put,Act.eval,hin,hi0]at he) ?_
 walk_nrm
 refine .op (vp none) rfl rfl (by simp[base]) (fun w₁ r=>?_) (fun w₁ r e he=>?_) ?_
 ·have hc:w₁.cell? ⟨sb,i,none⟩=some (vp none):=(r.cell (ad:=⟨sb,i,none⟩) hH.os).trans (hH.at_ i none dw);unfold execOp;simp[go_sem,hc,Act.put,Act.eval]
 ·have hc:w₁.cell? ⟨sb,i,none⟩=some (vp none):=(r.cell (ad:=⟨sb,i,none⟩) hH.os).trans (hH.at_ i none dw);unfold execOp at he;simp[go_sem,hc,Act.put,Act.eval]at he;subst he;exact fU hH.os (Nat.lt_of_lt_of_le (mZ (hH.at_ i none dw)) r.size) false
 walk_nrm
 refine .op (vp none) rfl rfl (by simp[base]) (fun w₁ r=>by unfold execOp;simp[go_sem,Act.put,Act.eval]) (fun w₁ r e he=>by unfold execOp at he;simp[go_sem,Act.put,Act.eval]at he) ?_
 walk_nrm
 refine .regionEnd (.seq ?_);refine .region ?_;simp only[List.size_toArray,List.length_cons,List.length_nil,Nat.reduceAdd,Nat.zero_add,List.range,List.range.loop];refine .op (vp none) rfl rfl (by simp[base]) (fun w₁ r=>by unfold execOp;simp[go_sem,Act.put,Act.eval]) (fun w₁ r e he=>by unfold execOp at he;simp[go_sem,Act.put,Act.eval]at he) ?_
 walk_nrm
 refine .op (.bool false) rfl rfl (by simp[base]) (fun w₁ r=>by unfold execOp;simp[go_sem,Act.put,Act.eval,vp,su underlying119]) (fun w₁ r e he=>by unfold execOp at he;simp[go_sem,Act.put,Act.eval,vp,mK underlying119]at he) ?_
 walk_nrm
 refine .op (.bool false) rfl rfl (by simp[base]) (fun w₁ r=>by unfold execOp;simp[go_sem,Act.put,Act.eval]) (fun w₁ r e he=>by unfold execOp at he;simp[go_sem,Act.put,Act.eval]at he) ?_
 walk_nrm
 refine .unwanted rfl rfl ?_
 walk_nrm
 refine .unwanted rfl rfl ?_
 walk_nrm
 refine .unwanted rfl rfl ?_
 walk_nrm
 refine .unwanted rfl rfl ?_
 walk_nrm
 refine .op (.bool false) rfl rfl (by simp[base]) (fun w₁ r=>by unfold execOp;simp[go_sem,Act.put,Act.eval]) (fun w₁ r e he=>by unfold execOp at he;simp[go_sem,Act.put,Act.eval]at he) ?_
 walk_nrm
 refine .regionEnd (.cond (v:=false) rfl ?_);simp only[if_true,Bool.false_eq_true,if_false];refine .skip (.inBlock ?_);refine .region ?_;simp only[List.size_toArray,List.length_cons,List.length_nil,Nat.reduceAdd,Nat.zero_add,List.range,List.range.loop];refine .op (.int .i64 ((i+1:Nat):Int)) rfl rfl (by simp[base]) (fun w₁ r=>by unfold execOp;simp[go_sem,Act.put,Act.eval,Vx]) (fun w₁ r e he=>by unfold execOp at he;simp[go_sem,Act.put,Act.eval,Vx]at he) ?_
 walk_nrm
 refine .op (.int .i64 ((i+1:Nat):Int)) rfl rfl (by simp[base]) (fun w₁ r=>by unfold execOp;simp[go_sem,Act.put,Act.eval]) (fun w₁ r e he=>by unfold execOp at he;simp[go_sem,Act.put,Act.eval]at he) ?_
 walk_nrm
 refine .regionEnd (.inLoop ?_);exact hnext (fun k=>(#[undef,undef,undef,undef,vp none,undef,undef,undef,undef,undef,undef,.bool true,.pointer (some ⟨sb,i,none⟩),vp none,vp none,.bool false,.bool false,undef,undef,undef,undef,.bool false,.int .i64 ((i+1:Nat):Int)]:Array Value).getD k undef)
end
end
section
open Go.Proofs.Tryz
open Go Go.Conc Go.RowKit Go.Conc.Lib Go.ConcR.Gen Go.ConcN.Gen
open Go.ConcN (ShN WgLive Has)
section
variable [aR] [aB] {P:Program} {w:World}
theorem yieldT{l:Nat}{args:Array Value}{r:Loop}(h:w.heap[l]? =some (.loop r))(hs:args.size=r.params.size)(es:Array Event):(Instr.yield l args).runT P w es=(.ok (.round l r.fn ((r.params.zip args).foldl (fun tmps x=>tmps.setIfInBounds x.1 x.2) r.tmps) r.assign r.body) w,es.push ⟨.obj l,false,false⟩):=by simp only[Instr.yield,Instr.getLoop,getObj,bind,Sem.bind,pure,Sem.runT,h,hs,ne_eq,not_true_eq_false,if_false];rfl
theorem MI{a:Act}{o:Oper}{f x:Operand}{ats:Array TypeId}{l:Nat}{v:Value}{r:Loop}(hop:o.op=.call {callee:=.value f,args:=#[x],argTypes:=ats}) (hf:a.eval f=.func (.yield l) #[] #[]) (hx:a.eval x=v) (h:w.heap[l]? =some (.loop r)) (hs:1=r.params.size) (es:Array Event):
  (execOp a.eval o).runT P w es=(.ok (.round l r.fn ((r.params.zip #[v]).foldl (fun tmps x=>tmps.setIfInBounds x.1 x.2) r.tmps) r.assign r.body) w,es.push ⟨.obj l,false,false⟩):=by
 have e:execOp a.eval o=Instr.yield l #[v]:=by unfold execOp;simp[hop,resolve,Deferred.ofValue,hf,hx,invoke,bind,Sem.bind,pure]
 rw[e];exact yieldT h (by simpa using hs) es
end
section
variable [aR] [aB] {O:Nat->Prop} {w:World} {xb sb B1 Wg n B2 D L i c:Nat} {cl:List (Option Nat)} {cs0:List Frame} {v:Nat->Value}
def ZY(xb B1 Wg B2 B c:Nat)(t8:Value):Array Value:=#[pt xb,pt B1,pt Wg,pt B,undef,pt xb,.func (.func 96) #[] #[pt B2],pt c,t8,undef,undef,undef,undef,undef,undef,undef,undef,undef,undef,undef,undef,undef,undef]
def yG(fn:Func):Array Oper:=match lZ fn with|.block _ (.seq (.region _ x _) _)=>x|_=>#[]
def goCode(fn:Func):Code:=match lZ fn with|.block _ (.seq _ x)=>x|_=>.skip
def FG(fn:Func):Array Oper:=match jD fn with|.seq _ (.seq _ (.seq (.block _ (.seq _ (.seq (.region _ x _) _))) _))=>x|_=>#[]
def Kc(fn:Func):Code:=match jD fn with|.seq _ (.seq _ (.seq (.block _ (.seq _ (.seq _ x))) _))=>x|_=>.skip
def PU(fn:Func):Code:=match jD fn with|.seq _ (.seq _ (.seq _ x))=>x|_=>.skip
def itT(L B2 xb sb n i c:Nat)(v:Nat->Value):Array Value:=#[.func (.yield L) #[] #[],pt B2,undef,undef,pt c,pt xb,pt xb,.pointer (some ⟨xb,9,none⟩),.slice (some ⟨sb,0,none⟩) n n,.int .i64 n,.int .i64 i,.bool true,.pointer (some ⟨sb,i,none⟩),pt c,pt c,.bool true,.bool true,.func (.yield L) #[] #[],pt c,v 19,v 20,v 21,v 22]
def Tt(NB:Func)(xb sb B2 L n i c:Nat)(v:Nat->Value):Frame:=(base 96).at ⟨itT L B2 xb sb n i c v,[]⟩ (.inRegion (FG NB) [5,6,7]::.code (Kc NB)::.inBlock 1::.code (PU NB)::.inLoop (jD NB)::.inBlock 0::[])
def Tw(gw:Func)(xb B1 Wg B2 L B c:Nat)(is:List Nat)(t8:Value):Frame:=rf L jz ⟨ZY xb B1 Wg B2 B c t8,[]⟩ (.inRegion (yG gw) is::.code (goCode gw)::.inBlock 1::[])
def OV(gw NB:Func)(P:Program)(xb sb B1 Wg B2 D L n i c:Nat)(cl:List (Option Nat))(cs0:List Frame)(O:Nat->Prop)(w:World)(O':Nat->Prop)(g':Goroutine)(w':World):Prop:=
 ∃B v,g'=G (Frame.enter P 97 #[pt Wg,.int .i64 1] .normal) (Tw gw xb B1 Wg B2 L B c [0] undef::Tt NB xb sb B2 L n i c v::Qa gw xb B1 Wg B2 D L::cs0)/\ew gw xb sb B1 Wg B2 D L n cl .busy O' w'/\O' B/\¬O B/\w'.cell? ⟨B,0,none⟩=some (pt c)/\
  (∀b,O b->O' b)/\(∀b,O' b->O b\/(w.heap.size<=b/\b<w'.heap.size))/\(∀b,O b->b≠L->w'.heap[b]? =w.heap[b]?)/\w.heap.size<=w'.heap.size/\w'.os=w.os
theorem Sa(hH:ew f61 xb sb B1 Wg B2 D L n cl .ready O w)(hlt:∀b,O b->b<w.heap.size)(hi:i<n)(hn:n<4294967296)(dw:cl[i]? =some (some c)):
  CJ prog true link.tWg Wg (OV f61 f96 prog xb sb B1 Wg B2 D L n i c cl cs0 O w) O (Hj f61 f96 xb sb B1 Wg B2 D L n i v cs0) w:=by
 have hin:(i:Int)<(n:Int):=by omega
 have hi0:(0:Int)<=(i:Int):=by omega
 have hvp:vp (some c)=pt c:=rfl;generalize hS:OV f61 f96 prog xb sb B1 Wg B2 D L n i c cl cs0 O w=Stop;simp only[Hj,jD,f96,Xj];refine .seq ?_;refine .region ?_;simp only[List.size_toArray,List.length_cons,List.length_nil,Nat.reduceAdd,Nat.zero_add,List.range,List.range.loop];refine .op (.bool true) rfl rfl (by simp[base]) (fun w₁ r=>by unfold execOp;simp[go_sem,Act.put,Act.eval,hin]) (fun w₁ r e he=>by unfold execOp at he;simp[go_sem,Act.put,Act.eval,hin]at he) ?_
 walk_nrm
 refine .regionEnd (.seq (.cond (v:=true) rfl ?_));simp only[if_true,Bool.false_eq_true,if_false];refine .skip (.seq (.block (.seq ?_)));refine .region ?_;simp only[List.size_toArray,List.length_cons,List.length_nil,Nat.reduceAdd,Nat.zero_add,List.range,List.range.loop];refine .op (.pointer (some ⟨sb,i,none⟩)) rfl rfl (by simp[base]) (fun w₁ r=>by unfold execOp;simp[go_sem,Act.put,Act.eval,hin,hi0]) (fun w₁ r e he=>by unfold execOp at he;simp[go_sem,Act.put,Act.eval,hin,hi0]at he) ?_
 walk_nrm
 refine .op (vp (some c)) rfl rfl (by simp[base]) (fun w₁ r=>?_) (fun w₁ r e he=>?_) ?_
 ·have hc:w₁.cell? ⟨sb,i,none⟩=some (vp (some c)):=(r.cell (ad:=⟨sb,i,none⟩) hH.os).trans (hH.at_ i (some c) dw);unfold execOp;simp[go_sem,hc,Act.put,Act.eval]
 ·have hc:w₁.cell? ⟨sb,i,none⟩=some (vp (some c)):=(r.cell (ad:=⟨sb,i,none⟩) hH.os).trans (hH.at_ i (some c) dw);unfold execOp at he;simp[go_sem,hc,Act.put,Act.eval]at he;subst he;exact fU hH.os (Nat.lt_of_lt_of_le (mZ (hH.at_ i (some c) dw)) r.size) false
 walk_nrm
 refine .op (vp (some c)) rfl rfl (by simp[base]) (fun w₁ r=>by unfold execOp;simp[go_sem,Act.put,Act.eval]) (fun w₁ r e he=>by unfold execOp at he;simp[go_sem,Act.put,Act.eval]at he) ?_
 walk_nrm
 refine .regionEnd (.seq ?_);refine .region ?_;simp only[List.size_toArray,List.length_cons,List.length_nil,Nat.reduceAdd,Nat.zero_add,List.range,List.range.loop];refine .op (vp (some c)) rfl rfl (by simp[base]) (fun w₁ r=>by unfold execOp;simp[go_sem,Act.put,Act.eval]) (fun w₁ r e he=>by unfold execOp at he;simp[go_sem,Act.put,Act.eval]at he) ?_
 walk_nrm
 refine .op (.bool true) rfl rfl (by simp[base]) (fun w₁ r=>by unfold execOp;simp[go_sem,Act.put,Act.eval,vp,su underlying119]) (fun w₁ r e he=>by unfold execOp at he;simp[go_sem,Act.put,Act.eval,vp,mK underlying119]at he) ?_
 walk_nrm
 refine .op (.bool true) rfl rfl (by simp[base]) (fun w₁ r=>by unfold execOp;simp[go_sem,Act.put,Act.eval]) (fun w₁ r e he=>by unfold execOp at he;simp[go_sem,Act.put,Act.eval]at he) ?_
 walk_nrm
 refine .op (.func (.yield L) #[] #[]) rfl rfl (by simp[base]) (fun w₁ r=>by unfold execOp;simp[go_sem,Act.put,Act.eval]) (fun w₁ r e he=>by unfold execOp at he;simp[go_sem,Act.put,Act.eval]at he) ?_
 walk_nrm
 refine .op (vp (some c)) rfl rfl (by simp[base]) (fun w₁ r=>by unfold execOp;simp[go_sem,Act.put,Act.eval]) (fun w₁ r e he=>by unfold execOp at he;simp[go_sem,Act.put,Act.eval]at he) ?_
 walk_nrm
 have hrd:∀w₁,Rel link.tWg Wg O w w₁->∀(a:Act) (o:Oper),o.op=.call {callee:=.value (.tmp 17),args:=#[.tmp 18],argTypes:=#[119]}->a.eval (.tmp 17)=.func (.yield L) #[] #[]->a.eval (.tmp 18)=vp (some c)->(execOp a.eval o).runT prog w₁ #[]=(.ok (.round L 61 #[pt xb,pt B1,pt Wg,undef,undef,pt xb,.func (.func 96) #[] #[pt B2],pt c,undef,undef,undef,undef,undef,undef,undef,undef,undef,undef,undef,undef,undef,undef,undef] (pz f61) (lZ f61)) w₁,#[⟨.obj L,false,false⟩]):=fun w₁ r a o h1 h2 h3=>by rw[MI h1 h2 h3 (hH.rel r).lp rfl #[]];simp[mP,zX,jz,vp]
 refine .round (l:=L) (f:=61) (tmps:=#[pt xb,pt B1,pt Wg,undef,undef,pt xb,.func (.func 96) #[] #[pt B2],pt c,undef,undef,undef,undef,undef,undef,undef,undef,undef,undef,undef,undef,undef,undef,undef]) (oW:=pz f61) (bd:=lZ f61) rfl rfl (by simp[base]) (fun w₁ r=>?_) (fun w₁ r e he=>?_) ?_
 ·rw[<-Sem.runT_fst _ _ w₁ #[],hrd w₁ r _ _ rfl rfl rfl]
 ·unfold Sem.events at he;rw[hrd w₁ r _ _ rfl rfl rfl]at he;simp at he;subst he;have hl:=(hH.rel r).lp;exact uf hH.oL (Array.getElem?_eq_some_iff.1 hl).1 false
 simp only[pz,lZ,f61];show CJ _ _ _ _ _ _ (G (rf L jz _ _) _) _;refine .Ae ?_;simp only[List.size_toArray,List.length_cons,List.length_nil,Nat.reduceAdd,Nat.zero_add,List.range,List.range.loop];refine .VY (fun n=>pt n) (.cells #[.pointer none] 119) rfl rfl (by simp) (by simp[jz]) (fun w₁ r=>by unfold execOp;simp[go_sem,Act.put,Act.eval]) (fun w₁ r e he=>by unfold execOp at he;simp[go_sem,Act.put,Act.eval]at he) fun w1 r1=>?_
 walk_nrm
 have s1:=r1.size;have QN:¬O w1.heap.size:=fun h=>by have:=hlt _ h;omega
 have KJ:∀w₁:World,Rel link.tWg Wg (fun c=>O c\/c=w1.heap.size) {w1 with heap:=w1.heap.push (.cells #[.pointer none] 119)} w₁->w₁.heap[w1.heap.size]? =some (.cells #[.pointer none] 119):=fun w₁ r=>by rw[r.own _ (.inr rfl)];show(w1.heap.push _)[w1.heap.size]? =_;simp
 refine .RU (ad:=⟨w1.heap.size,0,none⟩) (v:=pt c) (.inr rfl) rfl rfl (by simp) (by simp[jz]) (fun w₁ r=>?_) (fun w₁ r e he=>?_) fun w2 r2=>?_
 ·have hb:=KJ w₁ r;have hc:w₁.cell? ⟨w1.heap.size,0,none⟩=some (.pointer none):=by simp[World.cell?,hb]
  have hf:w₁.frozen? ⟨w1.heap.size,0,none⟩=false:=by simp[World.frozen?,hb]
  unfold execOp;simp[go_sem,hc,hf,Act.put,Act.eval]
 ·have hb:=KJ w₁ r;have hc:w₁.cell? ⟨w1.heap.size,0,none⟩=some (.pointer none):=by simp[World.cell?,hb]
  have hf:w₁.frozen? ⟨w1.heap.size,0,none⟩=false:=by simp[World.frozen?,hb]
  unfold execOp at he;simp[go_sem,hc,hf,Act.put,Act.eval]at he;rw[events_store _ _ _ _ _ _ rfl]at he;simp[go_sem,hc,hf]at he;subst he;exact fU (.inr rfl) (Array.getElem?_eq_some_iff.1 hb).1 true
 walk_nrm
 have s2:w1.heap.size+1<=w2.heap.size:=by have:=r2.size;simpa using this
 have e2:∀b,O b->w2.heap[b]? =w.heap[b]? :=fun b hb=>by rw[r2.own b (.inl hb),qw (Nat.lt_of_lt_of_le (hlt b hb) s1)];exact r1.own b hb
 have l2:WgLive link.tWg Wg w2:=r2.live (qi (r1.live hH.lv) (qw (Nat.lt_of_lt_of_le (qh hH.lv) s1)));have hWB:Wg≠w1.heap.size:=by have:=qh hH.lv;omega
 have XV:∀b,b≠w1.heap.size->(w2.setCell ⟨w1.heap.size,0,none⟩ (pt c)).heap[b]? =w2.heap[b]? :=fun b hb=>(aside_setCell w2 ⟨w1.heap.size,0,none⟩ (pt c)).block b hb
 have pW:ew f61 xb sb B1 Wg B2 D L n cl .ready (fun c=>O c\/c=w1.heap.size) (w2.setCell ⟨w1.heap.size,0,none⟩ (pt c)):=
  hH.kept (fun b hb=>.inl hb) (fun h=>h.elim hH.nW hWB) (fun b hb=>(XV b fun e=>QN (e▸hb)).trans (e2 b hb)) (qi l2 (XV Wg hWB))
 have c2:(w2.setCell ⟨w1.heap.size,0,none⟩ (pt c)).cell? ⟨w1.heap.size,0,none⟩=some (pt c):=by have hb:=KJ w2 r2;have aay:=(Array.getElem?_eq_some_iff.1 hb).1;simp[World.cell?,World.setCell,Array.getElem?_modify,hb]
 have YL:L<(w2.setCell ⟨w1.heap.size,0,none⟩ (pt c)).heap.size:=(Array.getElem?_eq_some_iff.1 pW.lp).1;have hLB:L≠w1.heap.size:=fun e=>QN (e▸hH.oL);refine .oI (.fo (l:=L) (r:=mP jz ⟨zX xb B1 Wg B2,[]⟩ #[7] (pz f61) (lZ f61) D .busy) rfl pW.oL YL (fun w₁ r=>LM (by simp[jz]) (by kernel_rfl) (pW.rel r).lp rfl) fun w3 r3=>?_);have AB:=pW.rel r3;refine .RN (.ZZ (.Ae ?_));simp only[List.size_toArray,List.length_cons,List.length_nil,Nat.reduceAdd,Nat.zero_add,List.range,List.range.loop];refine .VW rfl rfl (by simp) (by simp[jz]) rfl func97 (by kernel_rfl) rfl ?_
 walk_nrm
 subst hS;have s3:w2.heap.size<=w3.heap.size:=by have:=r3.size;simpa using this
 refine .stop fun w4 r4=>⟨w1.heap.size,v,rfl,?_,.inr rfl,QN,?_,fun b hb=>.inl hb,fun b hb=>?_,fun b hb hne=>?_,?_,?_⟩
 ·exact(AB.fo .busy).rel r4
 ·rw[r4.cell (ad:=⟨w1.heap.size,0,none⟩) (.inr rfl),cell_of (ad:=⟨w1.heap.size,0,none⟩) (dG (Ne.symm hLB)),r3.cell (ad:=⟨w1.heap.size,0,none⟩) (.inr rfl)];exact c2
 ·have s4:w3.heap.size<=w4.heap.size:=by have:=r4.size;rwa [gh]at this
  rcases hb with hb|hb
  ·exact .inl hb
  ·exact .inr (by omega)
 ·rw[r4.own b (.inl hb),dG hne,r3.own b (.inl hb),XV b fun e=>QN (e▸hb)];exact e2 b hb
 ·have s4:w3.heap.size<=w4.heap.size:=by have:=r4.size;rwa [gh]at this
  omega
 ·exact r4.os.trans (r3.os.trans ((by simp[World.setCell]:(w2.setCell ⟨w1.heap.size,0,none⟩ (pt c)).os=w2.os).trans (r2.os.trans r1.os)))
end
end
section
open Go.Proofs.Tryz
open Go Go.Conc Go.RowKit Go.Conc.Lib Go.ConcR.Gen Go.ConcN.Gen
open Go.ConcN (ShN WgLive Has)
section
variable [aR] [aB] {O:Nat->Prop} {w:World} {xb sb B1 Wg n B2 D L B i c:Nat} {cl:List (Option Nat)} {cs0:List Frame} {v:Nat->Value}
def Pm(fn:Func):Array Oper:=match goCode fn with|.region _ x _=>x|_=>#[]
def goT(xb B1 Wg B2 B c:Nat):Array Value:=#[pt xb,pt B1,pt Wg,pt B,undef,pt xb,.func (.func 96) #[] #[pt B2],pt c,.tuple #[],.func (.func 98) #[] #[pt Wg,pt B],undef,undef,undef,undef,undef,undef,undef,undef,undef,undef,undef,undef,undef]
def SU(gw:Func)(xb B1 Wg B2 L B c:Nat)(is:List Nat):Frame:=rf L jz ⟨goT xb B1 Wg B2 B c,[]⟩ (.inRegion (Pm gw) is::.inBlock 1::[])
theorem JN(gw:Func):(Tw gw xb B1 Wg B2 L B c [0] undef).finish (.tuple #[])=rf L jz ((⟨ZY xb B1 Wg B2 B c undef,[]⟩:Act).put (((yG gw)[0]?).bind (·.dst)) (.tuple #[])) (.inRegion (yG gw) []::.code (goCode gw)::.inBlock 1::[]):=nD ..
theorem Wa:CJ prog true link.tWg Wg (fun O' g' w'=>O'=O/\g'=G (SU f61 xb B1 Wg B2 L B c [1]) (Tt f96 xb sb B2 L n i c v::Qa f61 xb B1 Wg B2 D L::cs0)/\Rel link.tWg Wg O w w') O (G ((Tw f61 xb B1 Wg B2 L B c [0] undef).finish (.tuple #[])) (Tt f96 xb sb B2 L n i c v::Qa f61 xb B1 Wg B2 D L::cs0)) w:=by
 rw[JN];generalize hS:(fun(O':Nat->Prop) (g':Goroutine) (w':World)=>O'=O/\g'=G (SU f61 xb B1 Wg B2 L B c [1]) _/\Rel link.tWg Wg O w w')=Stop;generalize hc1:Tt _ _ _ _ _ _ _ _ _=f1 at hS⊢;generalize AD:Qa _ _ _ _ _ _ _=f2 at hS⊢;simp only[yG,goCode,lZ,f61,ZY]
 walk_nrm
 refine .oI (.Ae ?_);simp only[List.size_toArray,List.length_cons,List.length_nil,Nat.reduceAdd,Nat.zero_add,List.range,List.range.loop];refine .rop (.func (.func 98) #[] #[pt Wg,pt B]) rfl rfl (by simp) (by simp[jz]) (fun w₁ r=>by unfold execOp;simp[go_sem,Act.put,Act.eval]) (fun w₁ r e he=>by unfold execOp at he;simp[go_sem,Act.put,Act.eval]at he) ?_
 walk_nrm
 subst hS;exact .stop fun w₁ r=>⟨rfl,rfl,r⟩
theorem Av(f1 f2:Frame)(w:World):stepG prog true (G (SU f61 xb B1 Wg B2 L B c [1]) (f1::f2::cs0)) w=.spawn (G (SU f61 xb B1 Wg B2 L B c []) (f1::f2::cs0)) (born prog (rQ Wg B)) w #[]:=by
 have hr:∀(a:Act) (o:Oper),o.op=.go {callee:=.value (.tmp 9),args:=#[],argTypes:=#[]}->a.eval (.tmp 9)=.func (.func 98) #[] #[pt Wg,pt B]->(execOp a.eval o).run prog w=.ok (.spawn (rQ Wg B)) w/\(execOp a.eval o).events prog w #[]=#[]:=fun a o h1 h2=>by
  have e:execOp a.eval o=pure (.spawn (rQ Wg B)):=by unfold execOp;simp[h1,resolve,Deferred.ofValue,h2,rQ,bind,Sem.bind,pure]
  rw[e];exact⟨rfl,rfl⟩
 have h3:=LP (P:=prog) (main:=true) (w:=w) (b:=jz) (a:=⟨goT xb B1 Wg B2 B c,[]⟩) (k:=[.inBlock 1]) (cs:=f1::f2::cs0) (l:=L) (ops:=Pm f61) (i:=1) (rest:=[]) (d:=rQ Wg B) rfl rfl (fun c (h:Op.go {callee:=.value (.tmp 9),args:=#[],argTypes:=#[]}=Op.defer c)=>by cases h) (by simp[jz]) (hr _ _ rfl rfl).1 rfl;unfold SU;rw[h3]
 have h4:∀(fn:FuncId) (a:Act) (o:Oper),(execOp a.eval o).events prog w #[]=#[]->listed prog fn a o w=#[]:=fun fn a o h=>by unfold listed;rw[h,seen_none]
 rw[h4 _ _ _ (hr _ _ rfl rfl).2];rfl
theorem Ox(hH:ew f61 xb sb B1 Wg B2 D L n cl .busy O w)(hi:i<n)(hn:n<4294967296):
  CJ prog true link.tWg Wg (fun O' g' w'=>O'=O/\(∃v,g'=Hj f61 f96 xb sb B1 Wg B2 D L n (i+1) v cs0)/\ew f61 xb sb B1 Wg B2 D L n cl .ready O w'/\(∀b,O b->b≠L->w'.heap[b]? =w.heap[b]?)/\w.heap.size<=w'.heap.size/\w'.os=w.os) O
   (G (SU f61 xb B1 Wg B2 L B c []) (Tt f96 xb sb B2 L n i c v::Qa f61 xb B1 Wg B2 D L::cs0)) w:=by
 have hin:(i:Int)<(n:Int):=by omega
 have hi0:(0:Int)<=(i:Int):=by omega
 have Vx:=yA hi hn;generalize hS:(fun(O':Nat->Prop) (g':Goroutine) (w':World)=>O'=O/\(∃v,g'=Hj _ _ xb sb B1 Wg B2 D L n (i+1) v cs0)/\ew _ xb sb B1 Wg B2 D L n cl .ready O w'/\(∀b,O b->b≠L->w'.heap[b]? =w.heap[b]?)/\w.heap.size<=w'.heap.size/\w'.os=w.os)=Stop;refine .oI (.LQ (.fo (l:=L) (r:=mP jz ⟨zX xb B1 Wg B2,[]⟩ #[7] (pz f61) (lZ f61) D .ready) rfl hH.oL (Array.getElem?_eq_some_iff.1 hH.lp).1 (fun w₁ r=>RQ rfl (by kernel_rfl) (hH.rel r).lp) fun w1 r1=>?_));have GV:=(hH.rel r1).fo .ready;have e1:∀b,O b->b≠L->(fo w1 L (mP jz ⟨zX xb B1 Wg B2,[]⟩ #[7] (pz f61) (lZ f61) D .ready)).heap[b]? =w.heap[b]? :=fun b hb hne=>(dG hne).trans (r1.own b hb);have s1:w.heap.size<=(fo w1 L (mP jz ⟨zX xb B1 Wg B2,[]⟩ #[7] (pz f61) (lZ f61) D .ready)).heap.size:=by rw[gh];exact r1.size
 have o1:(fo w1 L (mP jz ⟨zX xb B1 Wg B2,[]⟩ #[7] (pz f61) (lZ f61) D .ready)).os=w.os:=r1.os;generalize fo w1 L _=w2 at GV e1 s1 o1⊢;generalize AD:Qa _ _ _ _ _ _ _=f2;unfold Tt;rw[Frame.finish_at];simp only[FG,Kc,PU,jD,f96,itT]
 walk_nrm
 refine .op (.bool false) rfl rfl (by simp[base]) (fun w₁ r=>by unfold execOp;simp[go_sem,Act.put,Act.eval]) (fun w₁ r e he=>by unfold execOp at he;simp[go_sem,Act.put,Act.eval]at he) ?_
 walk_nrm
 refine .op (.bool false) rfl rfl (by simp[base]) (fun w₁ r=>by unfold execOp;simp[go_sem,Act.put,Act.eval]) (fun w₁ r e he=>by unfold execOp at he;simp[go_sem,Act.put,Act.eval]at he) ?_
 walk_nrm
 refine .regionEnd (.cond (v:=false) rfl ?_);simp only[if_true,Bool.false_eq_true,if_false];refine .skip (.inBlock ?_);refine .region ?_;simp only[List.size_toArray,List.length_cons,List.length_nil,Nat.reduceAdd,Nat.zero_add,List.range,List.range.loop];refine .op (.int .i64 ((i+1:Nat):Int)) rfl rfl (by simp[base]) (fun w₁ r=>by unfold execOp;simp[go_sem,Act.put,Act.eval,Vx]) (fun w₁ r e he=>by unfold execOp at he;simp[go_sem,Act.put,Act.eval,Vx]at he) ?_
 walk_nrm
 refine .op (.int .i64 ((i+1:Nat):Int)) rfl rfl (by simp[base]) (fun w₁ r=>by unfold execOp;simp[go_sem,Act.put,Act.eval]) (fun w₁ r e he=>by unfold execOp at he;simp[go_sem,Act.put,Act.eval]at he) ?_
 walk_nrm
 refine .regionEnd (.inLoop ?_);subst hS AD;exact .stop fun w₁ r=>⟨rfl,⟨(fun k=>(#[undef,undef,undef,undef,pt c,undef,undef,undef,undef,undef,undef,.bool true,.pointer (some ⟨sb,i,none⟩),pt c,pt c,.bool true,.bool true,.func (.yield L) #[] #[],pt c,.bool true,.bool false,.bool false,.int .i64 ((i+1:Nat):Int)]:Array Value).getD k undef),rfl⟩,GV.rel r,fun b hb hne=>(r.own b hb).trans (e1 b hb hne),Nat.le_trans s1 r.size,r.os.trans o1⟩
theorem Ol(gw:Func)(x:Value):(Qa gw xb B1 Wg B2 D L).finish x=jz.at ⟨zX xb B1 Wg B2,[{target:=.collected D,args:=#[]}]⟩ (.endRangeFunc L::.inBlock 0::.code (rJ gw)::[]):=rfl
def aac(fn:Func):Array Oper:=match rJ fn with|.seq (.region _ x _) _=>x|_=>#[]
def mS(fn:Func):Code:=match rJ fn with|.seq _ x=>x|_=>.skip
def Tz(gw:Func)(xb B1 Wg B2 D:Nat)(is:List Nat)(t10:Value):Frame:=jz.at ⟨(zX xb B1 Wg B2).setIfInBounds 10 t10,[{target:=.collected D,args:=#[]}]⟩ (.inRegion (aac gw) is::.code (mS gw)::[])
theorem Oy(hH:ew f61 xb sb B1 Wg B2 D L n cl .ready O w):
  CJ prog true link.tWg Wg (fun O' g' w'=>O'=O/\g'=G (Frame.enter prog 101 #[pt Wg] .normal) (Tz f61 xb B1 Wg B2 D [0] undef::cs0)/\ew f61 xb sb B1 Wg B2 D L n cl .exhausted O w'/\(∀b,O b->b≠L->w'.heap[b]? =w.heap[b]?)/\w.heap.size<=w'.heap.size/\w'.os=w.os) O
   (Hj f61 f96 xb sb B1 Wg B2 D L n n v cs0) w:=by
 generalize hS:(fun(O':Nat->Prop) (g':Goroutine) (w':World)=>O'=O/\g'=G (Frame.enter prog 101 #[pt Wg] .normal) _/\ew _ xb sb B1 Wg B2 D L n cl .exhausted O w'/\(∀b,O b->b≠L->w'.heap[b]? =w.heap[b]?)/\w.heap.size<=w'.heap.size/\w'.os=w.os)=Stop;simp only[Hj,jD,f96,Xj];refine .seq ?_;refine .region ?_;simp only[List.size_toArray,List.length_cons,List.length_nil,Nat.reduceAdd,Nat.zero_add,List.range,List.range.loop];refine .op (.bool false) rfl rfl (by simp[base]) (fun w₁ r=>by unfold execOp;simp[go_sem,Act.put,Act.eval]) (fun w₁ r e he=>by unfold execOp at he;simp[go_sem,Act.put,Act.eval]at he) ?_
 walk_nrm
 refine .regionEnd (.seq (.cond (v:=false) rfl ?_));simp only[if_true,Bool.false_eq_true,if_false];refine .exit rfl (.end_ (.leave rfl rfl rfl func96 rfl ?_));rw[Ol];refine .fo (l:=L) (r:=mP jz ⟨zX xb B1 Wg B2,[]⟩ #[7] (pz f61) (lZ f61) D .exhausted) rfl hH.oL (Array.getElem?_eq_some_iff.1 hH.lp).1 (fun w₁ r=>xl (by kernel_rfl) (hH.rel r).lp rfl rfl) fun w1 r1=>?_;have GV:=(hH.rel r1).fo .exhausted;have e1:∀b,O b->b≠L->(fo w1 L (mP jz ⟨zX xb B1 Wg B2,[]⟩ #[7] (pz f61) (lZ f61) D .exhausted)).heap[b]? =w.heap[b]? :=fun b hb hne=>(dG hne).trans (r1.own b hb);have s1:w.heap.size<=(fo w1 L (mP jz ⟨zX xb B1 Wg B2,[]⟩ #[7] (pz f61) (lZ f61) D .exhausted)).heap.size:=by rw[gh];exact r1.size
 have o1:(fo w1 L (mP jz ⟨zX xb B1 Wg B2,[]⟩ #[7] (pz f61) (lZ f61) D .exhausted)).os=w.os:=r1.os;generalize fo w1 L _=w2 at GV e1 s1 o1⊢;simp only[rJ,f61];refine .inBlock (.seq ?_);refine .region ?_;simp only[List.size_toArray,List.length_cons,List.length_nil,Nat.reduceAdd,Nat.zero_add,List.range,List.range.loop];refine .call rfl rfl (by simp[jz]) rfl func101 (by kernel_rfl) rfl ?_
 walk_nrm
 subst hS;exact .stop fun w₁ r=>⟨rfl,rfl,GV.rel r,fun b hb hne=>(r.own b hb).trans (e1 b hb hne),Nat.le_trans s1 r.size,r.os.trans o1⟩
end
end
section
open Go.Proofs.Tryz
open Go Go.Conc Go.RowKit Go.Conc.Lib Go.ConcR.Gen Go.ConcN.Gen
open Classical
open Go.ConcN (ShN WgLive Has)
open Go.ConcR (Payload stA smA WgAt)
section
variable [aR] [aB]
theorem WS.mono{P:Program}{ty:TypeId}{Wg:Nat}{Q Q':(Nat->Prop)->World->Prop}{p:Ph}{O:Nat->Prop}{g:Goroutine}{w:World}(h:WS P ty Wg Q p O g w)(hq:∀O w,Q O w->Q' O w):WS P ty Wg Q' p O g w:=by
 induction h with
 |quit h k=>exact .quit h fun w₁ r=>hq _ _ (k w₁ r)
 |step hp hg q h wk _ ih=>exact .step hp hg q h wk ih
structure Setup(l:List FuncId)(C:Nat->Nat->Prop)(R:Nat->Ending->World->Prop)(K:Nat->Prop)(w0:World)(cl:List (Option Nat))(xb sb B1 Wg n:Nat):Prop where
 fit:Fit prog l
 ZQ:aR.ok 100
 Yq:prog.globals.size<=w0.heap.size
 len:cl.length=n
 small:n<2147483647
 closed:∀(j:Nat) c,cl[j]? =some (some c)->Closed (C c) w0/\C c c
 Qz:∀(j j':Nat) c c',cl[j]? =some (some c)->cl[j']? =some (some c')->j≠j'->∀b,C c b->¬C c' b
 cG:∀(j:Nat) c,cl[j]? =some (some c)->∀b,C c b->¬K b/\b≠Wg/\b<w0.heap.size
 kx:K xb/\K sb/\K B1
 klt:∀b,K b->b<w0.heap.size
 LX:∀c e u τ,R c e u->R c e (World.tp u τ)
 RS:∀c e u,R c e u->∃v,e=.returned v
 calls:∀(j:Nat) c,cl[j]? =some (some c)->∀w,(∀b,C c b->w.heap[b]? =w0.heap[b]?)->w0.heap.size<=w.heap.size->w.os=w0.os->∀τ,Calls prog 100 #[pt c] ((mask (C c) w).tp τ) (R c)
structure jy(C:Nat->Nat->Prop)(K:Nat->Prop)(w0:World)(cl:List (Option Nat))(i:Nat)(O:Nat->Prop)(w:World):Prop where
 size:w0.heap.size<=w.heap.size
 os:w.os=w0.os
 lt:∀b,O b->b<w.heap.size
 rest:∀(j:Nat) c,i<=j->cl[j]? =some (some c)->∀b,C c b->O b/\w.heap[b]? =w0.heap[b]?
 kept:∀b,K b->O b/\w.heap[b]? =w0.heap[b]?
variable {l:List FuncId} {C:Nat->Nat->Prop} {R:Nat->Ending->World->Prop} {K:Nat->Prop} {w0:World} {cl:List (Option Nat)} {xb sb B1 Wg n B2 D L:Nat} {O:Nat->Prop} {w:World} {i:Nat}
theorem jy.rel{w₁:World}(h:jy C K w0 cl i O w)(r:Rel link.tWg Wg O w w₁):jy C K w0 cl i O w₁:=
 ⟨Nat.le_trans h.size r.size,r.os.trans h.os,fun b hb=>Nat.lt_of_lt_of_le (h.lt b hb) r.size,fun j c hj hc b hb=>⟨(h.rest j c hj hc b hb).1,(r.own b (h.rest j c hj hc b hb).1).trans (h.rest j c hj hc b hb).2⟩,fun b hb=>⟨(h.kept b hb).1,(r.own b (h.kept b hb).1).trans (h.kept b hb).2⟩⟩
theorem jy.next(h:jy C K w0 cl i O w){i':Nat}(hi:i<=i'):jy C K w0 cl i' O w:=⟨h.size,h.os,h.lt,fun j c hj hc=>h.rest j c (by omega) hc,h.kept⟩
theorem vL{gw:Func}{st:LoopState}{ad:Addr}{v:Value}(ha:ad.block=Wg)(h:ew gw xb sb B1 Wg B2 D L n cl st O w)(hl:WgLive link.tWg Wg (w.setCell ad v)):ew gw xb sb B1 Wg B2 D L n cl st O (w.setCell ad v):=
 h.kept (fun _ x=>x) h.nW (fun b hb=>(aside_setCell w ad v).block b fun e=>h.nW (ha▸e▸hb)) hl
theorem vK{ad:Addr}{v:Value}(ha:ad.block=Wg)(hW:¬O Wg)(h:jy C K w0 cl i O w):jy C K w0 cl i O (w.setCell ad v):=
 ⟨by simpa using h.size,(by simp[World.setCell]:(w.setCell ad v).os=w.os).trans h.os,fun b hb=>by simpa using h.lt b hb,fun j c hj hc b hb=>⟨(h.rest j c hj hc b hb).1,((aside_setCell w ad v).block b fun e=>hW (ha▸e▸(h.rest j c hj hc b hb).1)).trans (h.rest j c hj hc b hb).2⟩,fun b hb=>⟨(h.kept b hb).1,((aside_setCell w ad v).block b fun e=>hW (ha▸e▸(h.kept b hb).1)).trans (h.kept b hb).2⟩⟩
def sat(cl:List (Option Nat)):List Nat:=cl.filterMap id
def Qs(C:Nat->Nat->Prop)(R:Nat->Ending->World->Prop)(cl:List (Option Nat))(m:Nat)(O:Nat->Prop)(w:World):Prop:=∃c,(sat cl)[m]? =some c/\Qr (C c) (R c) O w
def FB(gw:Func)(C:Nat->Nat->Prop)(K:Nat->Prop)(w0:World)(cl:List (Option Nat))(xb sb B1 Wg n:Nat)(cs0:List Frame)(m:Nat)(O:Nat->Prop)(g:Goroutine)(w:World):Prop:=
 m=(sat cl).length/\∃B2 D L,g=G (Tz gw xb B1 Wg B2 D [] (.tuple #[])) cs0/\ew gw xb sb B1 Wg B2 D L n cl .exhausted O w/\jy C K w0 cl n O w/\w0.heap.size<=B2/\w0.heap.size<=D
theorem Mb{c:Nat}(h:cl[i]? =some (some c)):(sat cl)[(sat (cl.take i)).length]? =some c/\(sat (cl.take (i+1))).length=(sat (cl.take i)).length+1:=by
 have hlt:=(List.getElem?_eq_some_iff.1 h).1
 have e:sat cl=sat (cl.take i)++(c::sat (cl.drop (i+1))):=by
  have h2:=List.getElem?_eq_some_iff.1 h
  have h3:cl=cl.take i++(some c::cl.drop (i+1)):=by rw[<-h2.2,<-List.drop_eq_getElem_cons hlt,List.take_append_drop]
  have h4:sat cl=sat (cl.take i++(some c::cl.drop (i+1))):=congrArg sat h3;rw[h4];simp[sat]
 constructor
 ·rw[e,List.getElem?_append_right (Nat.le_refl _)];simp
 ·rw[List.take_add_one,h];simp[sat]
theorem Ma(h:cl[i]? =some none):(sat (cl.take (i+1))).length=(sat (cl.take i)).length:=by rw[List.take_add_one,h];simp[sat]
theorem RZ:∀cl:List (Option Nat),(sat cl).length<=cl.length:=fun cl=>List.length_filterMap_le _ _
end
end
section
open Go.Proofs.Tryz
open Go Go.Conc Go.RowKit Go.Conc.Lib Go.ConcR.Gen Go.ConcN.Gen
open Go.ConcN (ShN WgLive Has)
open Go.ConcR (Payload stA smA WgAt)
section
variable [aR] [aB] {l:List FuncId} {C:Nat->Nat->Prop} {R:Nat->Ending->World->Prop} {K:Nat->Prop} {w0:World} {cl:List (Option Nat)} {xb sb B1 Wg n B2 D L:Nat} {O:Nat->Prop} {w:World} {i:Nat} {cs0:List Frame}
theorem jy.BU(S:Setup l C R K w0 cl xb sb B1 Wg n)(h:jy C K w0 cl i O w)(hL:w0.heap.size<=L){O':Nat->Prop}{w':World}(hO:∀b,O b->O' b)(hlt:∀b,O' b->b<w'.heap.size)(he:∀b,O b->b≠L->w'.heap[b]? =w.heap[b]?)(hs:w.heap.size<=w'.heap.size)(ho:w'.os=w.os):jy C K w0 cl i O' w':=by
 refine⟨Nat.le_trans h.size hs,ho.trans h.os,hlt,fun j c hj hc b hb=>?_,fun b hb=>?_⟩
 ·obtain⟨h1,h2⟩:=h.rest j c hj hc b hb;have:=(S.cG j c hc b hb).2.2;exact⟨hO b h1,(he b h1 (by omega)).trans h2⟩
 ·obtain⟨h1,h2⟩:=h.kept b hb;have:=S.klt b hb;exact⟨hO b h1,(he b h1 (by omega)).trans h2⟩
theorem GA(Wg:Nat):Frame.enter prog 97 #[pt Wg,.int .i64 1] .normal=(base link.add).at ⟨#[pt Wg,.int .i64 1,undef,undef,undef,undef,undef,undef,undef,undef,undef,undef,undef,undef,undef,undef,undef,undef,undef,undef,undef,undef,undef,undef,undef,undef,undef,undef,undef,undef,undef,undef,undef,undef,undef,undef,undef,undef,undef,undef,undef,undef,undef,undef,undef,undef,undef,undef,undef,undef,undef,undef,undef,undef,undef,undef,undef,undef,undef,undef,undef,undef,undef,undef,undef,undef,undef,undef,undef,undef,undef,undef,undef,undef,undef,undef,undef,undef,undef,undef,undef,undef,undef,undef,undef,undef,undef,undef,undef,undef,undef,undef,undef,undef,undef,undef,undef,undef,undef,undef,undef,undef,undef,undef,undef,undef,undef,undef,undef,undef,undef,undef,undef,undef,undef,undef,undef],[]⟩ [.code (body_add link)]:=by
 rw[enter_at _ wB.f_add rfl]
 walk_nrmf addFn
 rfl
theorem Ft(Wg:Nat):Frame.enter prog 101 #[pt Wg] .normal=(base link.wait).at ⟨#[pt Wg,undef,undef,undef,undef,undef,undef,undef,undef,undef,undef,undef,undef,undef,undef,undef,undef,undef,undef,undef,undef,undef,undef,undef,undef,undef,undef,undef,undef,undef,undef,undef,undef,undef,undef,undef,undef,undef,undef,undef,undef,undef,undef,undef,undef,undef,undef,undef,undef,undef,undef,undef,undef,undef,undef,undef,undef,undef,undef,undef,undef,undef,undef,undef,undef,undef,undef,undef,undef,undef,undef,undef,undef,undef,undef,undef,undef,undef,undef,undef,undef,undef,undef,undef],[]⟩ [.code (body_wait link)]:=by
 rw[enter_at _ wB.f_wait rfl]
 walk_nrmf waitFn
 rfl
end
end
end Go.Proofs.YtpobhljcainmdaaGreat
