/- Proved here: a part of what Doors keeps (Cw2, Rd3, Eq1). -/
import Derived.Test.YtpobhljcainmdaaGreatJ30
set_option maxRecDepth 100000
set_option maxHeartbeats 8000000
set_option linter.all false
namespace Go.Proofs.YtpobhljcainmdaaGreat
section
open Go Go.Conc
open Go.ConcN (ShN WgLive)
def rf(l:Nat)(b:Frame)(a:Act)(todo:List Item):Frame:={b.at a todo with roundOf:=some l}
section
variable {P:Program} {main:Bool} {w:World} {b:Frame} {a:Act} {k:List Item} {cs:List Frame} {l:Nat}
theorem RR{x y:Code}:stepG P main (G (rf l b a (.code (.seq x y)::k)) cs) w=.go (G (rf l b a (.code x::.code y::k)) cs) w:=by simp[G,stepG,stepG.exec,rf,Frame.at]
theorem LN{id:Nat}{x:Code}:stepG P main (G (rf l b a (.code (.block id x)::k)) cs) w=.go (G (rf l b a (.code x::.inBlock id::k)) cs) w:=by simp[G,stepG,stepG.exec,rf,Frame.at]
theorem EI{id:Nat}:stepG P main (G (rf l b a (.inBlock id::k)) cs) w=.go (G (rf l b a k) cs) w:=by simp[G,stepG,stepG.exec,rf,Frame.at]
theorem Iz{id:Nat}{ops:Array Oper}:stepG P main (G (rf l b a (.code (.region id ops false)::k)) cs) w=.go (G (rf l b a (.inRegion ops (List.range ops.size)::k)) cs) w:=by simp[G,stepG,stepG.exec,rf,Frame.at]
theorem Ab{ops:Array Oper}:stepG P main (G (rf l b a (.inRegion ops []::k)) cs) w=.go (G (rf l b a k) cs) w:=by simp[G,stepG,stepG.exec,rf,Frame.at]
theorem nD(ops:Array Oper)(i:Nat)(rest:List Nat)(v:Value):(rf l b a (.inRegion ops (i::rest)::k)).finish v=rf l b (a.put ((ops[i]?).bind (·.dst)) v) (.inRegion ops rest::k):=by cases h:(ops[i]?).bind (·.dst)<;>simp[Frame.finish,rf,Frame.at,Act.put,h]
theorem tN{ops:Array Oper}{i:Nat}{rest:List Nat}{o:Oper}(ho:ops[i]? =some o)(hw:Region.wanted o (yielded ops a.tmps)=true)(hd:∀c,o.op≠.defer c):
  stepG P main (G (rf l b a (.inRegion ops (i::rest)::k)) cs) w=stepG.apply P true (rf l b a (.inRegion ops (i::rest)::k)) cs none (execOp a.eval o) w:=by
 have he:=Frame.eval_at' b a (.inRegion ops (i::rest)::k)
 have UT:(rf l b a (.inRegion ops (i::rest)::k)).eval=a.eval:=by
  rw[<-he]
  funext x
  cases x<;>rfl
 have hq:(rf l b a (.inRegion ops (i::rest)::k)).oper?=some o:=by simp[Frame.oper?,rf,Frame.at,ho]
 have h1:stepG P main (G (rf l b a (.inRegion ops (i::rest)::k)) cs) w=stepG.oper P true (rf l b a (.inRegion ops (i::rest)::k)) cs none w:=by simp[G,stepG,stepG.exec,rf,Frame.at,ho,hw]
 rw[h1];unfold stepG.oper;rw[hq];simp only;have hr:(rf l b a (.inRegion ops (i::rest)::k)).roundOf=some l:=rfl;rw[hr,UT];cases hop:o.op with
 |defer c=>exact absurd hop (hd c)
 |_=>rfl
theorem Cg{ops:Array Oper}{i:Nat}{rest:List Nat}{o:Oper}{v:Value}{w':World}(ho:ops[i]? =some o)(hw:Region.wanted o (yielded ops a.tmps)=true)(hd:∀c,o.op≠.defer c)
  (hk:b.kind≠.early) (hr:(execOp a.eval o).run P w=.ok (.value v) w'):
  stepG P main (G (rf l b a (.inRegion ops (i::rest)::k)) cs) w=.go (G (rf l b (a.put o.dst v) (.inRegion ops rest::k)) cs) w' (listed P b.fn a o w):=by
 have qb:(rf l b a (.inRegion ops (i::rest)::k)).finish v=rf l b (a.put o.dst v) (.inRegion ops rest::k):=by rw[nD,ho];rfl
 have hk':(b.kind==CallKind.early)=false:=by simpa using hk
 rw[tN ho hw hd,<-qb];simp[stepG.apply,hr,G,rf,Frame.at,hk',GStep.after,listed]
theorem Oo{ops:Array Oper}{i:Nat}{rest:List Nat}{o:Oper}{w':World}(ho:ops[i]? =some o)(hw:Region.wanted o (yielded ops a.tmps)=true)(hd:∀c,o.op≠.defer c)
  (hk:b.kind≠.early) (hr:(execOp a.eval o).run P w=.ok .skip w'):
  stepG P main (G (rf l b a (.inRegion ops (i::rest)::k)) cs) w=.go (G (rf l b (a.put o.dst undef) (.inRegion ops rest::k)) cs) w' (listed P b.fn a o w):=by
 have qb:(rf l b a (.inRegion ops (i::rest)::k)).finish undef=rf l b (a.put o.dst undef) (.inRegion ops rest::k):=by rw[nD,ho];rfl
 have hk':(b.kind==CallKind.early)=false:=by simpa using hk
 rw[tN ho hw hd,<-qb];simp[stepG.apply,hr,G,rf,Frame.at,hk',GStep.after,listed]
theorem LO{ops:Array Oper}{i:Nat}{rest:List Nat}{o:Oper}{f:FuncId}{args:Array Value}{w':World}(ho:ops[i]? =some o)(hw:Region.wanted o (yielded ops a.tmps)=true)(hd:∀c,o.op≠.defer c)
  (hk:b.kind≠.early) (hr:(execOp a.eval o).run P w=.ok (.enter f args) w'):
  stepG P main (G (rf l b a (.inRegion ops (i::rest)::k)) cs) w=.go (G (Frame.enter P f args .normal) (rf l b a (.inRegion ops (i::rest)::k)::cs)) w' (listed P b.fn a o w):=by
 have hk':(b.kind==CallKind.early)=false:=by simpa using hk
 rw[tN ho hw hd];simp[stepG.apply,hr,G,rf,Frame.at,hk',GStep.after,listed]
theorem LP{ops:Array Oper}{i:Nat}{rest:List Nat}{o:Oper}{d:Deferred}{w':World}{f:Fn}{c:Array Value}(ho:ops[i]? =some o)(hw:Region.wanted o (yielded ops a.tmps)=true)(hnd:∀c,o.op≠.defer c)
  (hk:b.kind≠.early) (hr:(execOp a.eval o).run P w=.ok (.spawn d) w') (hd:d.target=.fn f c):
  stepG P main (G (rf l b a (.inRegion ops (i::rest)::k)) cs) w=.spawn (G (rf l b (a.put o.dst undef) (.inRegion ops rest::k)) cs) (born P d) w' (listed P b.fn a o w):=by
 have qb:(rf l b a (.inRegion ops (i::rest)::k)).finish undef=rf l b (a.put o.dst undef) (.inRegion ops rest::k):=by rw[nD,ho];rfl
 have hk':(b.kind==CallKind.early)=false:=by simpa using hk
 rw[tN ho hw hnd,<-qb];simp[stepG.apply,hr,G,rf,Frame.at,hk',GStep.after,listed,born,hd]
def fo(w:World)(l:Nat)(r:Loop):World:={w with heap:=w.heap.setIfInBounds l (.loop r)}
def yN(l:Nat):Array Event:=#[⟨.obj l,false,false⟩,⟨.obj l,true,false⟩]
theorem vJ(f:FuncId)(hf:((P.funcs[f]?).any (·.norace))=false):seen P f (yN l)=yN l:=by
 cases h:P.funcs[f]? with
 |none=>simp[seen,yN,h]
 |some fn=>
  rw[h]at hf;have:fn.norace=false:=by simpa using hf
  simp[seen,yN,h,this]
theorem LM{r:Loop}(hk:b.kind≠.early)(hf:((P.funcs[b.fn]?).any (·.norace))=false)(hl:w.heap[l]? =some (.loop r))(hr:r.state=.ready):
  stepG P main (G (rf l b a (.beginRound::k)) cs) w=.go (G (rf l b a k) cs) (fo w l {r with state:=.busy}) (yN l):=by
 have hk':(b.kind==CallKind.early)=false:=by simpa using hk
 have h1:(do Instr.beginRound l;pure Next.skip:Sem Next).runT P w #[]=(.ok .skip (fo w l {r with state:=.busy}),yN l):=by simp only[Instr.beginRound,Instr.getLoop,getObj,setObj,bind,Sem.bind,pure,Sem.runT,hl,hr];rfl
 have h2:stepG P main (G (rf l b a (.beginRound::k)) cs) w=stepG.apply P true (rf l b a (.beginRound::k)) cs none (do Instr.beginRound l;pure Next.skip) w:=by simp[G,stepG,stepG.exec,rf,Frame.at]
 rw[h2];unfold stepG.apply;simp only[if_true];rw[h1];have h3:((rf l b a (.beginRound::k)).kind==CallKind.early)=false:=hk';have h4:(rf l b a (.beginRound::k)).finish undef=rf l b a k:=rfl;simp only[h3,h4,Bool.false_eq_true,if_false];have h5:seen P (rf l b a (.beginRound::k)).fn (yN l)=yN l:=vJ _ hf;rw[h5];simp[GStep.after,G]
theorem RQ{r:Loop}{c:Frame}(hk:b.kind=.normal)(hf:((P.funcs[b.fn]?).any (·.norace))=false)(hl:w.heap[l]? =some (.loop r)):
  stepG P main (G (rf l b a []) (c::cs)) w=.go (G (c.finish (.bool true)) cs) (fo w l {r with state:=.ready,pending:=none}) (yN l):=by
 have h1:(Instr.endRound l none).runT P w #[]=(.ok (.bool true) (fo w l {r with state:=.ready,pending:=none}),yN l):=by simp only[Instr.endRound,Instr.getLoop,getObj,setObj,bind,Sem.bind,pure,Sem.runT,hl];rfl
 have h5:seen P b.fn (yN l)=yN l:=vJ _ hf;simp only[G,stepG,stepG.exec,rf,Frame.at,h1];simp[doReturn,hk,h5,GStep.after]
theorem xl{r:Loop}(hf:((P.funcs[b.fn]?).any (·.norace))=false)(hl:w.heap[l]? =some (.loop r))(hr:r.state=.ready)(hp:r.pending=none):
  stepG P main (G (b.at a (.endRangeFunc l::k)) cs) w=.go (G (b.at a k) cs) (fo w l {r with state:=.exhausted}) (yN l):=by
 have h1:(Instr.endLoop l).runT P w #[]=(.ok none (fo w l {r with state:=.exhausted}),yN l):=by
  have hq:(LoopState.ready==LoopState.busy)=false:=by decide
  simp only[Instr.endLoop,Instr.getLoop,getObj,setObj,bind,Sem.bind,pure,Sem.runT,hl,hr,hp,hq,Bool.false_eq_true,if_false];rfl
 have h5:seen P b.fn (yN l)=yN l:=vJ _ hf;simp only[G,stepG,stepG.exec,Frame.at,h1];simp[h5,GStep.after]
def mP(b:Frame)(a:Act)(ps:Array Tmp)(oW bd:Code)(D:Nat)(st:LoopState):Loop:={state:=st,pending:=none,fn:=b.fn,tmps:=a.tmps,params:=ps,assign:=oW,body:=bd,defers:=D}
def fy(w:World)(r:Loop):World:={w with heap:=(w.heap.push (.deferred (some []))).push (.loop r)}
theorem tC{g:Operand}{ps:Array Tmp}{oW bd:Code}{f:FuncId}{fn:Func}{caps:Array Value}(hk:b.kind≠.early)(hg:a.eval g=.func (.func f) #[] caps)(hfn:P.funcs[f]? =some fn)(hname:(fn.name== "runtime.NumGoroutine")=false)(hbody:fn.body.isNone=false):
  stepG P main (G (b.at a (.code (.rangeFunc g ps oW bd)::k)) cs) w=
   .go (G (Frame.enter P f (#[.func (.yield (w.heap.size+1)) #[] #[]]++caps) .normal) (b.at ⟨a.tmps,{target:=.collected w.heap.size,args:=#[]}::a.defers⟩ (.inRangeFunc (w.heap.size+1)::k)::cs)) (fy w (mP b a ps oW bd w.heap.size .ready)):=by
 have h1:(Instr.enterLoop b.fn a.tmps ps oW bd none).runT P w #[]=(.ok (w.heap.size+1,[{target:=.collected w.heap.size,args:=#[]}]) (fy w (mP b a ps oW bd w.heap.size .ready)),#[]):=by simp only[Instr.enterLoop,newObj,bind,Sem.bind,pure,Sem.runT,Array.size_push];rfl
 have hn:¬fn.name= "runtime.NumGoroutine" :=by simpa using hname
 obtain⟨cd,hcd⟩:∃cd,fn.body=some cd:=by
  cases h:fn.body with
  |none=>rw[h]at hbody;cases hbody
  |some cd=>exact⟨cd,rfl⟩
 have h2:∀(W:World) (y:Value),(do let d <-resolve a.eval {callee:=.value g,args:=#[.const y],argTypes:=#[]} 0;invoke d.target d.args:Sem Next).runT P W #[]=(.ok (.enter f (#[y]++caps)) W,#[]):=fun W y=>by have hc:a.eval (.const y)=y:=rfl;simp[resolve,Deferred.ofValue,hg,hc,invoke,callFunc,hfn,hn,hcd]
 have hev:∀td ds,({b.at a (.code (.rangeFunc g ps oW bd)::k)with todo:=td,defers:=ds}:Frame).eval=a.eval:=fun td ds=>by
  funext x
  cases x<;>rfl
 have hk':(b.kind==CallKind.early)=false:=by simpa using hk
 simp only[G,stepG,stepG.exec,Frame.at]at hev⊢;simp only[h1,seen_none];unfold stepG.apply;simp only[if_true,hev,h2,hk',Bool.false_eq_true,if_false,seen_none,GStep.after];rfl
theorem CP{ops:Array Oper}{i:Nat}{rest:List Nat}{o:Oper}{f:FuncId}{tmps:Array Value}{oW bd:Code}{w':World}(ho:ops[i]? =some o)(hw:Region.wanted o (yielded ops a.tmps)=true)
  (hk:b.kind≠.early) (hr:(execOp a.eval o).run P w=.ok (.round l f tmps oW bd) w'):
  stepG P main (G (b.at a (.inRegion ops (i::rest)::k)) cs) w=.go (G (rf l {(default:Frame)with fn:=f,kind:=.normal} ⟨tmps,[]⟩ [.code oW,.beginRound,.code bd]) (b.at a (.inRegion ops (i::rest)::k)::cs)) w' (listed P b.fn a o w):=by
 have hk':(b.kind==CallKind.early)=false:=by simpa using hk
 rw[stepG_oper ho hw];simp[stepG.apply,hr,G,Frame.at,hk',GStep.after,listed,rf,Frame.round]
end
section
variable [aR] [aB] {P:Program} {main:Bool} {ty:TypeId} {Wg:Nat} {Stop:(Nat->Prop)->Goroutine->World->Prop} {O:Nat->Prop} {w:World} {b:Frame} {a:Act} {k:List Item} {cs:List Frame} {l:Nat} {g:Goroutine}
theorem uf{n:Nat}(h:O l)(hlt:l<n)(wr:Bool):gV Wg O n (.ofEvent ⟨.obj l,wr,false⟩):=by refine⟨fun x hx=>?_,by cases wr<;>simp[MemAct.ofEvent],by cases wr<;>exact hlt,fun _=>by cases wr<;>simp[MemAct.ofEvent],fun _=>by cases wr<;>simp[MemAct.ofEvent]⟩;cases wr<;>simp[MemAct.ofEvent,MemAct.touch?]at hx<;>(subst hx;exact .inr (.inl ⟨l,rfl,h⟩))
theorem JM{n:Nat}(h:O l)(hlt:l<n):∀e∈yN l,gV Wg O n (.ofEvent e):=fun e he=>by
 simp only[yN,List.mem_toArray,List.mem_cons,List.not_mem_nil,or_false]at he;rcases he with rfl|rfl
 ·exact uf h hlt false
 ·exact uf h hlt true
theorem dG{r:Loop}{i:Nat}(h:i≠l):(fo w l r).heap[i]? =w.heap[i]? :=Array.getElem?_setIfInBounds_ne (Ne.symm h)
theorem Ir{r:Loop}(h:l<w.heap.size):(fo w l r).heap[l]? =some (.loop r):=by show(w.heap.setIfInBounds l (.loop r))[l]? =_;simp[h]
theorem gh{r:Loop}:(fo w l r).heap.size=w.heap.size:=by simp[fo]
theorem CJ.fo{g':Goroutine}{r:Loop}(hg:g.status=.running)(hO:O l)(hlt:l<w.heap.size)(h:∀w₁,Rel ty Wg O w w₁->stepG P main g w₁=.go g' (Go.Proofs.YtpobhljcainmdaaGreat.fo w₁ l r) (yN l))(c:∀w₁,Rel ty Wg O w w₁->CJ P main ty Wg Stop O g' (Go.Proofs.YtpobhljcainmdaaGreat.fo w₁ l r)):CJ P main ty Wg Stop O g w:=
 .one hg fun w₁ r1=>by have hG:dQ O w₁ (Go.Proofs.YtpobhljcainmdaaGreat.fo w₁ l r)=O:=kW gh;refine⟨g',_,_,.go (h w₁ r1),⟨fun b hb hn=>dG fun e=>hn (e▸hO),by rw[gh];exact Nat.le_refl _,rfl,rfl,rfl⟩,fun x hx=>?_,by rw[hG];exact c w₁ r1⟩;obtain⟨e,he,rfl⟩:=Array.mem_map.1 hx;rw[hG,gh];exact JM hO (Nat.lt_of_lt_of_le hlt r1.size) e he
theorem CJ.leave1{c:Frame}{fn:Func}{t:Tmp}{todo:List Item}(hn:b.kind=.normal)(hd:a.defers=[])(hf:P.funcs[b.fn]? =some fn)(hr:fn.results=#[.tmp t])(k:CJ P main ty Wg Stop O (G (c.finish (a.tmps.getD t undef)) cs) w):CJ P main ty Wg Stop O (G {b.at a todo with mode:=.returning} (c::cs)) w:=
 .ctl rfl (fun w₁ _=>stepG_leave hn hd hf (by simp[results,hr]) (events_results_tmp hr _ _)) k
theorem fV{r:Loop}{i:Nat}(h:i<w.heap.size):(fy w r).heap[i]? =w.heap[i]? :=by show((w.heap.push _).push _)[i]? =_;rw[Array.getElem?_push,if_neg (by simp;omega),Array.getElem?_push,if_neg (by omega)]
theorem JQ{r:Loop}:(fy w r).heap[w.heap.size]? =some (.deferred (some [])):=by show((w.heap.push _).push _)[w.heap.size]? =_;rw[Array.getElem?_push,if_neg (by simp),Array.getElem?_push,if_pos rfl]
theorem JR{r:Loop}:(fy w r).heap[w.heap.size+1]? =some (.loop r):=by show((w.heap.push _).push _)[w.heap.size+1]? =_;rw[Array.getElem?_push,if_pos (by simp)]
theorem jc{r:Loop}:(fy w r).heap.size=w.heap.size+2:=by simp[fy]
theorem CJ.Hx{x:Operand}{ps:Array Tmp}{oW bd:Code}{f:FuncId}{fn:Func}{caps:Array Value}(hk:b.kind≠.early)(hg:a.eval x=.func (.func f) #[] caps)(hfn:P.funcs[f]? =some fn)(hname:(fn.name== "runtime.NumGoroutine")=false)(hbody:fn.body.isNone=false)
  (c:∀w₁,Rel ty Wg O w w₁->CJ P main ty Wg Stop (fun c=>O c\/c=w₁.heap.size\/c=w₁.heap.size+1) (G (Frame.enter P f (#[.func (.yield (w₁.heap.size+1)) #[] #[]]++caps) .normal) (b.at ⟨a.tmps,{target:=.collected w₁.heap.size,args:=#[]}::a.defers⟩ (.inRangeFunc (w₁.heap.size+1)::k)::cs)) (fy w₁ (mP b a ps oW bd w₁.heap.size .ready))):
  CJ P main ty Wg Stop O (G (b.at a (.code (.rangeFunc x ps oW bd)::k)) cs) w:=
 .one rfl fun w₁ r=>by
  have hG:dQ O w₁ (fy w₁ (mP b a ps oW bd w₁.heap.size .ready))=fun c=>O c\/c=w₁.heap.size\/c=w₁.heap.size+1:=by
   funext y
   apply propext;show(O y\/(w₁.heap.size<=y/\y<(fy w₁ _).heap.size))↔_;rw[jc];constructor
   ·rintro(h|h)
    ·exact .inl h
    ·exact .inr (by omega)
   ·rintro(h|h)
    ·exact .inl h
    ·exact .inr (by omega)
  refine⟨_,_,_,.go (tC hk hg hfn hname hbody),⟨fun y hy _=>fV hy,by rw[jc];omega,rfl,rfl,rfl⟩,fun y hy=>by simp at hy,by rw[hG];exact c w₁ r⟩
theorem CJ.round{ops:Array Oper}{i:Nat}{rest:List Nat}{o:Oper}{f:FuncId}{tmps:Array Value}{oW bd:Code}(ho:ops[i]? =some o)(hw:Region.wanted o (yielded ops a.tmps)=true)(hk:b.kind≠.early)
  (hr:∀w₁,Rel ty Wg O w w₁->(execOp a.eval o).run P w₁=.ok (.round l f tmps oW bd) w₁) (he:∀w₁,Rel ty Wg O w w₁->∀e∈(execOp a.eval o).events P w₁ #[],gV Wg O w₁.heap.size (.ofEvent e))
  (c:CJ P main ty Wg Stop O (G (rf l {(default:Frame)with fn:=f,kind:=.normal} ⟨tmps,[]⟩ [.code oW,.beginRound,.code bd]) (b.at a (.inRegion ops (i::rest)::k)::cs)) w):CJ P main ty Wg Stop O (G (b.at a (.inRegion ops (i::rest)::k)) cs) w:=
 .quiet rfl (fun w₁ r=>⟨_,CP ho hw hk (hr w₁ r),fun e h=>he w₁ r e (eX h)⟩) c
theorem CJ.ZZ{x y:Code}(c:CJ P main ty Wg Stop O (G (rf l b a (.code x::.code y::k)) cs) w):CJ P main ty Wg Stop O (G (rf l b a (.code (.seq x y)::k)) cs) w:=.ctl rfl (fun _ _=>RR) c
theorem CJ.RN{id:Nat}{x:Code}(c:CJ P main ty Wg Stop O (G (rf l b a (.code x::.inBlock id::k)) cs) w):CJ P main ty Wg Stop O (G (rf l b a (.code (.block id x)::k)) cs) w:=.ctl rfl (fun _ _=>LN) c
theorem CJ.LQ{id:Nat}(c:CJ P main ty Wg Stop O (G (rf l b a k) cs) w):CJ P main ty Wg Stop O (G (rf l b a (.inBlock id::k)) cs) w:=.ctl rfl (fun _ _=>EI) c
theorem CJ.Ae{id:Nat}{ops:Array Oper}(c:CJ P main ty Wg Stop O (G (rf l b a (.inRegion ops (List.range ops.size)::k)) cs) w):CJ P main ty Wg Stop O (G (rf l b a (.code (.region id ops false)::k)) cs) w:=.ctl rfl (fun _ _=>Iz) c
theorem CJ.oI{ops:Array Oper}(c:CJ P main ty Wg Stop O (G (rf l b a k) cs) w):CJ P main ty Wg Stop O (G (rf l b a (.inRegion ops []::k)) cs) w:=.ctl rfl (fun _ _=>Ab) c
theorem CJ.rop{ops:Array Oper}{i:Nat}{rest:List Nat}{o:Oper}(v:Value)(ho:ops[i]? =some o)(hw:Region.wanted o (yielded ops a.tmps)=true)(hd:∀c,o.op≠.defer c)(hk:b.kind≠.early)
  (hr:∀w₁,Rel ty Wg O w w₁->(execOp a.eval o).run P w₁=.ok (.value v) w₁) (he:∀w₁,Rel ty Wg O w w₁->∀e∈(execOp a.eval o).events P w₁ #[],gV Wg O w₁.heap.size (.ofEvent e))
  (c:CJ P main ty Wg Stop O (G (rf l b (a.put o.dst v) (.inRegion ops rest::k)) cs) w):CJ P main ty Wg Stop O (G (rf l b a (.inRegion ops (i::rest)::k)) cs) w:=
 .quiet rfl (fun w₁ r=>⟨_,Cg ho hw hd hk (hr w₁ r),fun e h=>he w₁ r e (eX h)⟩) c
theorem xJ{x:Obj}{w₁:World}:dQ O w₁ {w₁ with heap:=w₁.heap.push x}=fun c=>O c\/c=w₁.heap.size:=by
 funext y
 apply propext;show(O y\/(w₁.heap.size<=y/\y<(w₁.heap.push x).size))↔_;rw[Array.size_push];constructor
 ·rintro(h|h)
  ·exact .inl h
  ·exact .inr (by omega)
 ·rintro(h|h)
  ·exact .inl h
  ·exact .inr (by omega)
theorem CJ.VY{ops:Array Oper}{i:Nat}{rest:List Nat}{o:Oper}(v:Nat->Value)(x:Obj)(ho:ops[i]? =some o)(hw:Region.wanted o (yielded ops a.tmps)=true)(hd:∀c,o.op≠.defer c)(hk:b.kind≠.early)
  (hr:∀w₁,Rel ty Wg O w w₁->(execOp a.eval o).run P w₁=.ok (.value (v w₁.heap.size)) {w₁ with heap:=w₁.heap.push x}) (he:∀w₁,Rel ty Wg O w w₁->∀e∈(execOp a.eval o).events P w₁ #[],gV Wg (fun c=>O c\/c=w₁.heap.size) (w₁.heap.size+1) (.ofEvent e))
  (c:∀w₁,Rel ty Wg O w w₁->CJ P main ty Wg Stop (fun c=>O c\/c=w₁.heap.size) (G (rf l b (a.put o.dst (v w₁.heap.size)) (.inRegion ops rest::k)) cs) {w₁ with heap:=w₁.heap.push x}):CJ P main ty Wg Stop O (G (rf l b a (.inRegion ops (i::rest)::k)) cs) w:=
 .one rfl fun w₁ r=>by
  refine⟨_,_,_,.go (Cg ho hw hd hk (hr w₁ r)),⟨fun y hy _=>?_,by simp,rfl,rfl,rfl⟩,fun y hy=>?_,by rw[xJ];exact c w₁ r⟩
  ·show(w₁.heap.push x)[y]? =_;rw[Array.getElem?_push,if_neg (by omega)]
  ·obtain⟨e,h,rfl⟩:=Array.mem_map.1 hy;rw[xJ];have:=he w₁ r e (eX h);simpa using this
theorem CJ.RU{ops:Array Oper}{i:Nat}{rest:List Nat}{o:Oper}{ad:Addr}{v:Value}(hO:O ad.block)(ho:ops[i]? =some o)(hw:Region.wanted o (yielded ops a.tmps)=true)(hd:∀c,o.op≠.defer c)(hk:b.kind≠.early)
  (hr:∀w₁,Rel ty Wg O w w₁->(execOp a.eval o).run P w₁=.ok .skip (w₁.setCell ad v)) (he:∀w₁,Rel ty Wg O w w₁->∀e∈(execOp a.eval o).events P w₁ #[],gV Wg O w₁.heap.size (.ofEvent e))
  (c:∀w₁,Rel ty Wg O w w₁->CJ P main ty Wg Stop O (G (rf l b (a.put o.dst undef) (.inRegion ops rest::k)) cs) (w₁.setCell ad v)):CJ P main ty Wg Stop O (G (rf l b a (.inRegion ops (i::rest)::k)) cs) w:=
 .one rfl fun w₁ r=>by have hG:dQ O w₁ (w₁.setCell ad v)=O:=kW (by simp);refine⟨_,_,_,.go (Oo ho hw hd hk (hr w₁ r)),⟨fun y hy hn=>(aside_setCell w₁ ad v).block y fun e=>hn (e▸hO),by simp,by simp[World.setCell],by simp[World.setCell],by simp[World.setCell]⟩,fun y hy=>?_,by rw[hG];exact c w₁ r⟩;obtain⟨e,h,rfl⟩:=Array.mem_map.1 hy;rw[hG];have:=he w₁ r e (eX h);simpa using this
theorem CJ.VW{ops:Array Oper}{i:Nat}{rest:List Nat}{o:Oper}{f:FuncId}{fn:Func}{args:Array Operand}{ats:Array TypeId}(ho:ops[i]? =some o)(hw:Region.wanted o (yielded ops a.tmps)=true)(hd:∀c,o.op≠.defer c)(hk:b.kind≠.early)
  (hop:o.op=.call {callee:=.value (.func f),args,argTypes:=ats}) (hf:P.funcs[f]? =some fn) (hname:(fn.name== "runtime.NumGoroutine")=false) (hb:fn.body.isNone=false)
  (c:CJ P main ty Wg Stop O (G (Frame.enter P f (args.map a.eval) .normal) (rf l b a (.inRegion ops (i::rest)::k)::cs)) w):CJ P main ty Wg Stop O (G (rf l b a (.inRegion ops (i::rest)::k)) cs) w:=
 .quiet rfl (fun w₁ r=>⟨_,LO ho hw hd hk (run_call_body hop hf hname hb),fun e he=>by have:=eX he;rw[events_call_body hop hf hname hb]at this;simp at this⟩) c
end
end
section
open Go.Proofs.Tryz
open Go Go.Conc Go.RowKit Go.Conc.Lib Go.ConcR.Gen Go.ConcN.Gen
open Go.ConcN (ShN WgLive Has)
def jz:Frame:={(default:Frame)with fn:=61,kind:=.normal}
def oG(fn:Func):Code:=match fn.body with|some (.seq _ (.seq _ x))=>x|_=>.skip
def rJ(fn:Func):Code:=match fn.body with|some (.seq _ (.seq _ (.seq _ x)))=>x|_=>.skip
def pz(fn:Func):Code:=match fn.body with|some (.seq _ (.seq _ (.seq (.seq _ (.block _ (.rangeFunc _ _ x _))) _)))=>x|_=>.skip
def lZ(fn:Func):Code:=match fn.body with|some (.seq _ (.seq _ (.seq (.seq _ (.block _ (.rangeFunc _ _ _ x))) _)))=>x|_=>.skip
def jD(fn:Func):Code:=match fn.body with|some (.seq _ (.block _ (.loop x)))=>x|_=>.skip
section
variable [aR] [aB] {Stop:(Nat->Prop)->Goroutine->World->Prop} {O:Nat->Prop} {w:World} {xb sb B1 Wg n:Nat} {cl:List (Option Nat)} {cs0:List Frame}
def zX(xb B1 Wg B2:Nat):Array Value:=#[pt xb,pt B1,pt Wg,undef,undef,pt xb,.func (.func 96) #[] #[pt B2],undef,undef,undef,undef,undef,undef,undef,undef,undef,undef,undef,undef,undef,undef,undef,undef]
def Xj(L B2 xb sb n i:Nat)(v:Nat->Value):Array Value:=#[.func (.yield L) #[] #[],pt B2,undef,undef,v 4,pt xb,pt xb,.pointer (some ⟨xb,9,none⟩),.slice (some ⟨sb,0,none⟩) n n,.int .i64 n,.int .i64 i,v 11,v 12,v 13,v 14,v 15,v 16,v 17,v 18,v 19,v 20,v 21,v 22]
def Qa(fn:Func)(xb B1 Wg B2 D L:Nat):Frame:=jz.at ⟨zX xb B1 Wg B2,[{target:=.collected D,args:=#[]}]⟩ (.inRangeFunc L::.inBlock 0::.code (rJ fn)::[])
def Hj(gw NB:Func)(xb sb B1 Wg B2 D L n i:Nat)(v:Nat->Value)(cs0:List Frame):Goroutine:=G ((base 96).at ⟨Xj L B2 xb sb n i v,[]⟩ [.code (jD NB),.inLoop (jD NB),.inBlock 0]) (Qa gw xb B1 Wg B2 D L::cs0)
def vp(v:Option Nat):Value:=.pointer (v.map fun c=>⟨c,0,none⟩)
structure ew(gw:Func)(xb sb B1 Wg B2 D L n:Nat)(cl:List (Option Nat))(st:LoopState)(O:Nat->Prop)(w:World):Prop where
 ox:O xb
 os:O sb
 o1:O B1
 o2:O B2
 oD:O D
 oL:O L
 nW:¬O Wg
 lv:WgLive link.tWg Wg w
 b1:w.cell? ⟨B1,0,none⟩=some (pt xb)
 b2:w.cell? ⟨B2,0,none⟩=some (pt xb)
 sl:w.cell? ⟨xb,9,none⟩=some (.slice (some ⟨sb,0,none⟩) n n)
 at_:∀(j:Nat) v,cl[j]? =some v->w.cell? ⟨sb,j,none⟩=some (vp v)
 len:cl.length=n
 df:w.heap[D]? =some (.deferred (some []))
 lp:w.heap[L]? =some (.loop (mP jz ⟨zX xb B1 Wg B2,[]⟩ #[7] (pz gw) (lZ gw) D st))
 bx:w.heap[B2]? =some (.cells #[pt xb] 36)
theorem mZ{ad:Addr}{v:Value}(h:w.cell? ad=some v):ad.block<w.heap.size:=by
 unfold World.cell? at h;split at h
 ·rename_i hh;exact(Array.getElem?_eq_some_iff.1 hh).1
 ·cases h
theorem cell_of{w':World}{ad:Addr}(h:w'.heap[ad.block]? =w.heap[ad.block]?):w'.cell? ad=w.cell? ad:=by unfold World.cell?;rw[h]
variable {gw:Func} {B2 D L:Nat} {st:LoopState}
theorem ew.kept{O':Nat->Prop}{w':World}(h:ew gw xb sb B1 Wg B2 D L n cl st O w)(hO:∀b,O b->O' b)(hW:¬O' Wg)(hw:∀b,O b->w'.heap[b]? =w.heap[b]?)(hl:WgLive link.tWg Wg w'):ew gw xb sb B1 Wg B2 D L n cl st O' w':=
 ⟨hO _ h.ox,hO _ h.os,hO _ h.o1,hO _ h.o2,hO _ h.oD,hO _ h.oL,hW,hl,(cell_of (ad:=⟨B1,0,none⟩) (hw _ h.o1)).trans h.b1,(cell_of (ad:=⟨B2,0,none⟩) (hw _ h.o2)).trans h.b2,(cell_of (ad:=⟨xb,9,none⟩) (hw _ h.ox)).trans h.sl,
  fun j v hj=>(cell_of (ad:=⟨sb,j,none⟩) (hw _ h.os)).trans (h.at_ j v hj),h.len,(hw _ h.oD).trans h.df,(hw _ h.oL).trans h.lp,(hw _ h.o2).trans h.bx⟩
theorem ew.rel{w₁:World}(h:ew gw xb sb B1 Wg B2 D L n cl st O w)(r:Rel link.tWg Wg O w w₁):ew gw xb sb B1 Wg B2 D L n cl st O w₁:=h.kept (fun _ x=>x) h.nW r.own (r.live h.lv)
theorem pJ{l:Nat}{r:Loop}{ad:Addr}{v:Value}(h:w.cell? ad=some v)(k:w.heap[l]? =some (.loop r)):ad.block≠l:=fun e=>by unfold World.cell? at h;rw[e,k]at h;cases h
theorem qi{w':World}(h:WgLive link.tWg Wg w)(e:w'.heap[Wg]? =w.heap[Wg]?):WgLive link.tWg Wg w':=by obtain⟨st,sm,hh⟩:=h;exact⟨st,sm,e.trans hh⟩
theorem ew.fo(h:ew gw xb sb B1 Wg B2 D L n cl st O w)(st':LoopState):ew gw xb sb B1 Wg B2 D L n cl st' O (fo w L (mP jz ⟨zX xb B1 Wg B2,[]⟩ #[7] (pz gw) (lZ gw) D st')):=by
 have hD:D≠L:=fun e=>by have:=h.df;rw[e,h.lp]at this;cases this
 have hW:Wg≠L:=fun e=>h.nW (e▸h.oL)
 exact⟨h.ox,h.os,h.o1,h.o2,h.oD,h.oL,h.nW,qi h.lv (dG hW),(cell_of (ad:=⟨B1,0,none⟩) (dG (pJ h.b1 h.lp))).trans h.b1,(cell_of (ad:=⟨B2,0,none⟩) (dG (pJ h.b2 h.lp))).trans h.b2,(cell_of (ad:=⟨xb,9,none⟩) (dG (pJ h.sl h.lp))).trans h.sl,
  fun j v hj=>(cell_of (ad:=⟨sb,j,none⟩) (dG (pJ (h.at_ j v hj) h.lp))).trans (h.at_ j v hj),h.len,(dG hD).trans h.df,Ir (Array.getElem?_eq_some_iff.1 h.lp).1,(dG (pJ h.b2 h.lp)).trans h.bx⟩
theorem qh(h:WgLive link.tWg Wg w):Wg<w.heap.size:=by obtain⟨st,sm,hh⟩:=h;unfold Go.ConcR.WgAt at hh;exact(Array.getElem?_eq_some_iff.1 hh).1
theorem qw{x:Obj}{i:Nat}(h:i<w.heap.size):({w with heap:=w.heap.push x}:World).heap[i]? =w.heap[i]? :=by show(w.heap.push x)[i]? =_;rw[Array.getElem?_push,if_neg (by omega)]
theorem aaa(h1:O B1)(hx:O xb)(hs:O sb)(hW:¬O Wg)(hlt:∀b,O b->b<w.heap.size)(hl:WgLive link.tWg Wg w)(bz:w.cell? ⟨B1,0,none⟩=some (pt xb))(hsl:w.cell? ⟨xb,9,none⟩=some (.slice (some ⟨sb,0,none⟩) n n))(hat:∀(j:Nat) v,cl[j]? =some v->w.cell? ⟨sb,j,none⟩=some (vp v))(hlen:cl.length=n)
  (hnext:∀B2 D L O' w' v,(∀b,O b->O' b)->(∀b,O' b->O b\/w.heap.size<=b)->(∀b,O b->w'.heap[b]? =w.heap[b]?)->(∀b,O' b->b<w'.heap.size)->w.heap.size<=w'.heap.size->w'.os=w.os->w.heap.size<=B2->w.heap.size<=D->w.heap.size<=L->ew f61 xb sb B1 Wg B2 D L n cl .ready O' w'->CJ prog true link.tWg Wg Stop O' (Hj f61 f96 xb sb B1 Wg B2 D L n 0 v cs0) w'):
  CJ prog true link.tWg Wg Stop O (G (jz.at ⟨#[pt xb,pt B1,pt Wg,undef,undef,undef,undef,undef,undef,undef,undef,undef,undef,undef,undef,undef,undef,undef,undef,undef,undef,undef,undef],[]⟩ [.code (oG f61)]) cs0) w:=by
 have Rk:=mZ bz;simp only[oG,f61];refine .seq (.seq ?_);refine .region ?_;simp only[List.size_toArray,List.length_cons,List.length_nil,Nat.reduceAdd,Nat.zero_add,List.range,List.range.loop];refine .op (pt xb) rfl rfl (by simp[jz]) (fun w₁ r=>?_) (fun w₁ r e he=>?_) ?_
 ·have hc:w₁.cell? ⟨B1,0,none⟩=some (pt xb):=(r.cell (ad:=⟨B1,0,none⟩) h1).trans bz;unfold execOp;simp[go_sem,hc,Act.put,Act.eval]
 ·have hc:w₁.cell? ⟨B1,0,none⟩=some (pt xb):=(r.cell (ad:=⟨B1,0,none⟩) h1).trans bz;unfold execOp at he;simp[go_sem,hc,Act.put,Act.eval]at he;subst he;exact fU h1 (Nat.lt_of_lt_of_le Rk r.size) false
 walk_nrm
 refine .call rfl rfl (by simp[jz]) rfl func59 (by kernel_rfl) rfl ?_;rw[enter_at _ func59 rfl]
 walk_nrm
 simp only[f59,Option.getD_some];refine .seq ?_;refine .region ?_;simp only[List.size_toArray,List.length_cons,List.length_nil,Nat.reduceAdd,Nat.zero_add,List.range,List.range.loop];refine .make (fun n=>pt n) (.cells #[pt xb] 36) rfl rfl (by simp[base]) (fun w₁ r=>by unfold execOp;simp[go_sem,Act.put,Act.eval]) (fun w₁ r e he=>by unfold execOp at he;simp[go_sem,Act.put,Act.eval]at he) fun w1 r1=>?_
 walk_nrm
 refine .op .nilFunc rfl rfl (by simp[base]) (fun w₁ r=>by unfold execOp;simp[go_sem,Act.put,Act.eval]) (fun w₁ r e he=>by unfold execOp at he;simp[go_sem,Act.put,Act.eval]at he) ?_
 walk_nrm
 refine .regionEnd (.seq ?_);refine .region ?_;simp only[List.size_toArray,List.length_cons,List.length_nil,Nat.reduceAdd,Nat.zero_add,List.range,List.range.loop];refine .op (.func (.func 96) #[] #[pt w1.heap.size]) rfl rfl (by simp[base]) (fun w₁ r=>by unfold execOp;simp[go_sem,Act.put,Act.eval]) (fun w₁ r e he=>by unfold execOp at he;simp[go_sem,Act.put,Act.eval]at he) ?_
 walk_nrm
 refine .op (.func (.func 96) #[] #[pt w1.heap.size]) rfl rfl (by simp[base]) (fun w₁ r=>by unfold execOp;simp[go_sem,Act.put,Act.eval]) (fun w₁ r e he=>by unfold execOp at he;simp[go_sem,Act.put,Act.eval]at he) ?_
 walk_nrm
 refine .regionEnd (.ret (.leave1 rfl rfl func59 rfl ?_));rw[Frame.finish_at]
 walk_nrm
 refine .regionEnd (.block (.Hx (caps:=#[pt w1.heap.size]) (by simp[jz]) rfl func96 (by kernel_rfl) rfl fun w2 r2=>?_));rw[enter_at _ func96 rfl]
 walk_nrm
 have e1:∀b,O b->w1.heap[b]? =w.heap[b]? :=r1.own;have s1:=r1.size;have s2:w1.heap.size+1<=w2.heap.size:=by have:=r2.size;simpa using this
 have e2:∀b,O b->w2.heap[b]? =w.heap[b]? :=fun b hb=>by rw[r2.own b (.inl hb),qw (Nat.lt_of_lt_of_le (hlt b hb) s1)];exact e1 b hb
 have eB2:w2.heap[w1.heap.size]? =some (.cells #[pt xb] 36):=by rw[r2.own _ (.inr rfl)];show(w1.heap.push _)[w1.heap.size]? =_;simp
 have l2:WgLive link.tWg Wg w2:=r2.live (qi (r1.live hl) (qw (Nat.lt_of_lt_of_le (qh hl) s1)));generalize hr:mP jz _ _ _ _ w2.heap.size .ready=rec
 have hH:ew f61 xb sb B1 Wg w1.heap.size w2.heap.size (w2.heap.size+1) n cl .ready (fun c=>(O c\/c=w1.heap.size)\/c=w2.heap.size\/c=w2.heap.size+1) (fy w2 rec):=by
  have old:∀b,O b->(fy w2 rec).heap[b]? =w.heap[b]? :=fun b hb=>by rw[fV (by have:=hlt b hb;omega)];exact e2 b hb
  refine⟨.inl (.inl hx),.inl (.inl hs),.inl (.inl h1),.inl (.inr rfl),.inr (.inl rfl),.inr (.inr rfl),?_,qi l2 (fV (qh l2)),(cell_of (ad:=⟨B1,0,none⟩) (old _ h1)).trans bz,?_,(cell_of (ad:=⟨xb,9,none⟩) (old _ hx)).trans hsl,fun j v hj=>(cell_of (ad:=⟨sb,j,none⟩) (old _ hs)).trans (hat j v hj),hlen,JQ,?_,(fV (by omega)).trans eB2⟩
  ·have:=qh hl;rintro((h|h)|h|h)
   ·exact hW h
   all_goals omega
  ·have:(fy w2 rec).heap[w1.heap.size]? =some (.cells #[pt xb] 36):=(fV (by omega)).trans eB2;simp[World.cell?,this]
  ·rw[JR,<-hr];rfl
 have KX:=hnext w1.heap.size w2.heap.size (w2.heap.size+1) (fun c=>(O c\/c=w1.heap.size)\/c=w2.heap.size\/c=w2.heap.size+1) (fy w2 rec) (fun i=>undef) (fun b hb=>.inl (.inl hb)) (fun b hb=>by rcases hb with(hb|hb)|hb|hb;exact .inl hb;all_goals exact .inr (by omega)) (fun b hb=>by rw[fV (by have:=hlt b hb;omega)];exact e2 b hb) (fun b hb=>by rw[jc];rcases hb with(hb|hb)|hb|hb;have:=hlt b hb;omega;all_goals omega) (by rw[jc];omega) (r2.os.trans r1.os) (by omega) (by omega) (by omega) hH;simp only[f96,Option.getD_some];refine .seq ?_;refine .region ?_;simp only[List.size_toArray,List.length_cons,List.length_nil,Nat.reduceAdd,Nat.zero_add,List.range,List.range.loop];refine .op (pt xb) rfl rfl (by simp[base]) (fun w₁ r=>?_) (fun w₁ r e he=>?_) ?_
 ·have hc:w₁.cell? ⟨w1.heap.size,0,none⟩=some (pt xb):=(r.cell (ad:=⟨w1.heap.size,0,none⟩) hH.o2).trans hH.b2;unfold execOp;simp[go_sem,hc,Act.put,Act.eval]
 ·have hc:w₁.cell? ⟨w1.heap.size,0,none⟩=some (pt xb):=(r.cell (ad:=⟨w1.heap.size,0,none⟩) hH.o2).trans hH.b2;unfold execOp at he;simp[go_sem,hc,Act.put,Act.eval]at he;subst he;exact fU hH.o2 (Nat.lt_of_lt_of_le (mZ hH.b2) r.size) false
 walk_nrm
 refine .op (pt xb) rfl rfl (by simp[base]) (fun w₁ r=>by unfold execOp;simp[go_sem,Act.put,Act.eval]) (fun w₁ r e he=>by unfold execOp at he;simp[go_sem,Act.put,Act.eval]at he) ?_
 walk_nrm
 refine .op (.pointer (some ⟨xb,9,none⟩)) rfl rfl (by simp[base]) (fun w₁ r=>by unfold execOp;simp[go_sem,Act.put,Act.eval]) (fun w₁ r e he=>by unfold execOp at he;simp[go_sem,Act.put,Act.eval]at he) ?_
 walk_nrm
 refine .op (.slice (some ⟨sb,0,none⟩) n n) rfl rfl (by simp[base]) (fun w₁ r=>?_) (fun w₁ r e he=>?_) ?_
 ·have hc:w₁.cell? ⟨xb,9,none⟩=some (.slice (some ⟨sb,0,none⟩) n n):=(r.cell (ad:=⟨xb,9,none⟩) hH.ox).trans hH.sl;unfold execOp;simp[go_sem,hc,Act.put,Act.eval]
 ·have hc:w₁.cell? ⟨xb,9,none⟩=some (.slice (some ⟨sb,0,none⟩) n n):=(r.cell (ad:=⟨xb,9,none⟩) hH.ox).trans hH.sl;unfold execOp at he;simp[go_sem,hc,Act.put,Act.eval]at he;subst he;exact fU hH.ox (Nat.lt_of_lt_of_le (mZ hH.sl) r.size) false
 walk_nrm
 refine .op (.int .i64 n) rfl rfl (by simp[base]) (fun w₁ r=>by unfold execOp;simp[go_sem,Act.put,Act.eval]) (fun w₁ r e he=>by unfold execOp at he;simp[go_sem,Act.put,Act.eval]at he) ?_
 walk_nrm
 refine .op (.int .i64 0) rfl rfl (by simp[base]) (fun w₁ r=>by unfold execOp;simp[go_sem,Act.put,Act.eval]) (fun w₁ r e he=>by unfold execOp at he;simp[go_sem,Act.put,Act.eval]at he) ?_
 walk_nrm
 refine .regionEnd (.block (.loop ?_));exact KX
end
end
section
open Go Go.Conc
section
variable [aR] [aB] {P:Program}
theorem Ss{t:TypeId}{d:TypeDesc}(h:P.underlying t=some d)(w:World)(es:Array Event):(underlying t).runT P w es=(.ok d w,es):=by simp[underlying,program,bind,Sem.bind,Sem.runT,pure,h,Sem.run,Sem.events]
theorem DI{t elem:TypeId}(h:P.underlying t=some (.pointer elem))(a:Option Addr)(w:World)(es:Array Event):(Op.equal t (.pointer a) (.pointer none)).runT P w es=(.ok a.isNone w,es):=by unfold Op.equal;rw[show Op.maxDepth=9999+1 from rfl];unfold Op.equalIn;show(Sem.bind _ _).runT P w es=_;rw[bq,Ss h];cases a<;>rfl
theorem BZ{t elem:TypeId}(h:P.underlying t=some (.pointer elem))(a:Option Addr)(w:World)(es:Array Event):(binOp .neq t (.pointer a) (.pointer none)).runT P w es=(.ok (.bool a.isSome) w,es):=by unfold binOp;show(Sem.bind _ _).runT P w es=_;rw[bq,DI h];cases a<;>rfl
theorem mK{t elem:TypeId}(h:P.underlying t=some (.pointer elem))(a:Option Addr)(w:World)(es:Array Event):(binOp .neq t (.pointer a) (.pointer none)).events P w es=es:=by unfold Sem.events;rw[BZ h]
theorem su{t elem:TypeId}(h:P.underlying t=some (.pointer elem))(a:Option Addr)(w:World):(binOp .neq t (.pointer a) (.pointer none)).run P w=.ok (.bool a.isSome) w:=by rw[<-Sem.runT_fst P _ w #[],BZ h]
end
end
end Go.Proofs.YtpobhljcainmdaaGreat
