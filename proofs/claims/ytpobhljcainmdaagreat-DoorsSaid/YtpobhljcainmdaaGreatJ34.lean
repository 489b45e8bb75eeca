/- Proved here: a part of what Doors keeps (Wx5, Wx6, Wx7, Wx8, Wx9). -/
import Derived.Conc.CompanyDraw
import Derived.Test.YtpobhljcainmdaaGreatJ30
import Derived.Test.YtpobhljcainmdaaGreatJ33
set_option maxRecDepth 100000
set_option maxHeartbeats 8000000
set_option linter.all false
namespace Go.Proofs.YtpobhljcainmdaaGreat
section
open Go Go.Conc
open Go.ConcN (sumTo)
section
variable [aR] {P:Program} {l:List FuncId} {Q:Exit->Act->World->Prop} {a:Act} {u:World} {Post:Frame->List Frame->World->Prop} {b:Frame} {k:List Item} {cs:List Frame}
theorem DF{ρ:Ren}{f:FuncId}{args:Array Value}(h:cF ρ (Frame.enter P f args .normal).tmps (Frame.enter P f args .normal).tmps):cF ρ args args:=by
 refine⟨rfl,fun i v v' h1 h2=>?_⟩;rw[h1]at h2;cases h2;have hlt:=(Array.getElem?_eq_some_iff.1 h1).1
 have e:(Frame.enter P f args .normal).tmps[i]? =some v:=by unfold Frame.enter;show(args++_)[i]? =_;rw[Array.getElem?_append_left hlt];exact h1
 exact h.2 i v v e e
theorem bG.lift(hT:Fit P l){f:FuncId}(hok:aR.ok f){args:Array Value}{R:Ending->World->Prop}(hR:∀e u τ,R e u->R e (World.tp u τ))(qd:∀e u,R e u->∃v,e=.returned v)(h:∀τ,Calls P f args (u.tp τ) R):bG P f args u R:=fun cs Shun S ρ gs w sl t q hB hV=>by
 letI:aB:=aC []
 have hfr:dZ P l ρ (Frame.enter P f args .normal) (Frame.enter P f args .normal):=ni hT hok (DF hB.top.tmps) (.inl rfl);have hst:Still cs:=fun f hf=>.inl (hB.below.run f hf);have Ut:Beside P l cs Shun S (Frame.enter P f args .normal) [] u ρ gs w t q:=⟨⟨_,hB.Bb,⟨_,[],rfl,hfr,.nil⟩⟩,hB.world,hB.whole,hB.bK,hB.past,hB.clear,hB.same,hB.size,hB.wL,hB.full⟩
 have hL:gU P l (Frame.enter P f args .normal) [] u:=by have:gU P l (Frame.enter P f args .normal) [] (u.tp (laid u w)):=⟨S,ρ,cs,_,w,hst,⟨_,[],rfl,hfr,.nil⟩,hB.world.lay,hB.whole⟩;exact this.tp u.tape
 have mG:=wD hT hL hR (fun u hu=>by obtain⟨v,e⟩:=qd _ _ hu;cases e) h;obtain⟨N,ρ',fr',cs',u',gs',w',sl',t',q',r1,r2,⟨rfl,hfn,e,he,Pv,hlv⟩,r4,r5⟩:=mV hT hst mG (sumTo gs.size q+1) ρ gs w sl t q (by omega) Ut;obtain⟨⟨g,hg,uE,TQ,rfl,hf',hcs⟩,k2,k3,k4,k5,k6,k7,k8,k9,Tu⟩:=r4;cases hcs;have hs:=hf'.same k7;obtain⟨v,rfl⟩:=qd e u' Pv;obtain⟨l1,l2,l3,fn,l4,l5⟩:=hlv;refine⟨N,Shun,S,ρ',uE,cs,u',gs',w',sl',t',q',r1,⟨rfl,by rw[hs];exact hfn,.returned v,by simp,Pv,?_⟩,⟨hg,hf'.xf k7 l3,hB.below.mono r5.le,k2,k3,k4,k5,k6,k7,k8,k9,Tu⟩,r5,.refl Shun w⟩;rw[hs];exact⟨l1,l2,l3,fn,l4,l5⟩
theorem Wq{ρ:Ren}{k k':List Item}(h:XF ρ (b.at a k)):XF ρ (b.at a k'):=⟨h.tmps,h.defers,h.kind,h.known,h.mode⟩
theorem Reach.at_{k':List Item}(h:∀w,stepG P true (G (b.at a k) cs) w=.go (G (b.at a k') cs) w)(c:Reach P Post (b.at a k') cs u):Reach P Post (b.at a k) cs u:=.ctl h (fun _=>Wq) c
theorem jl{x:Item}(hx:x.plain=true)(ho:jH Q k):jH Q (x::k):=fun id hi=>by obtain⟨k',hk⟩:=ho id hi;exact⟨k',by cases x<;>simp_all[exitTo,Item.plain]⟩
theorem cI{x:Item}{cs':List Frame}{e:Exit}{fr:Frame}(hx:x.plain=true)(hn:e≠.normal)(h:Ws b (x::k) cs e a fr cs'):Ws b k cs e a fr cs':=by
 cases e with
 |normal=>exact absurd rfl hn
 |exit id=>
  obtain⟨⟨k',h1,h2⟩,h3⟩:=h;exact⟨⟨k',by cases x<;>simp_all[exitTo,Item.plain],h2⟩,h3⟩
 |_=>exact h
theorem WX.mono{c:Code}{Q':Exit->Act->World->Prop}(h:WX P c Q a u)(hq:∀e a u,Q e a u->Q' e a u):WX P c Q' a u:=fun b k cs hf ho=>
 (h b k cs hf fun id ⟨a,u,hx⟩=>ho id ⟨a,u,hq _ _ _ hx⟩).mono fun fr cs' u' ⟨e,a',h1,h2⟩=>⟨e,a',hq _ _ _ h1,h2⟩
theorem bG.mono{f:FuncId}{args:Array Value}{R R':Ending->World->Prop}(h:bG P f args u R)(hr:∀e u,R e u->R' e u):bG P f args u R':=fun cs=>
 (h cs).mono fun fr cs' u' ⟨h1,h2,e,h3,h4,h5⟩=>⟨h1,h2,e,h3,hr e u' h4,h5⟩
theorem WX.seq{x y:Code}(h:WX P x (Exit.then (WX P y Q) Q) a u):WX P (.seq x y) Q a u:=fun b k cs hf ho=>by
 refine .at_ (fun _=>stepG_seq) ?_;have ho':jH (Exit.then (WX P y Q) Q) (.code y::k):=fun id hi=>jl rfl ho id hi;refine(h b (.code y::k) cs hf ho').bind ?_;rintro fr cs' u' ⟨e,a',h1,h2⟩;cases e with
 |normal=>
  obtain⟨rfl,rfl⟩:=h2;exact(show WX P y Q a' u' from h1) b k cs' hf ho
 |exit id=>exact .here ⟨_,a',h1,cI (x:=.code y) rfl (by simp) h2⟩
 |goto x=>exact h2.elim
 |ret=>exact .here ⟨_,a',h1,cI (x:=.code y) rfl (by simp) h2⟩
 |panic ch=>exact .here ⟨_,a',h1,cI (x:=.code y) rfl (by simp) h2⟩
 |outgrown=>exact h2.elim
theorem WX.cond{c:Operand}{x y:Code}{v:Bool}(hc:a.eval c=.bool v)(h:WX P (if v then x else y) Q a u):WX P (.cond c x y) Q a u:=fun b k cs hf ho=>.at_ (fun _=>stepG_cond hc) (h b k cs hf ho)
theorem WX.skip(h:Q .normal a u):WX P .skip Q a u:=fun b k cs _ _=>.at_ (fun _=>stepG_skip) (.here ⟨.normal,a,h,rfl,rfl⟩)
theorem WX.ret(h:Q .ret a u):WX P .ret Q a u:=fun b k cs _ _=>.ctl (fun _=>stepG_ret') (fun ρ hx=>⟨hx.tmps,hx.defers,hx.kind,hx.known,.returning⟩) (.here ⟨.ret,a,h,⟨_,rfl⟩,rfl⟩)
theorem WX.block{id:Nat}{c:Code}(h:WX P c (Exit.inBlock id Q) a u):WX P (.block id c) Q a u:=fun b k cs hf ho=>by
 refine .at_ (fun _=>stepG_block) ?_
 have ho':jH (Exit.inBlock id Q) (.inBlock id::k):=fun id' ⟨a',u',hi⟩=>by
  by_cases e:id'=id
  ·exact⟨k,by simp[exitTo,e]⟩
  ·simp only[Exit.inBlock,e,if_false]at hi;obtain⟨k',hk⟩:=ho id' ⟨a',u',hi⟩;have:(id==id')=false:=by simp;exact fun h=>e h.symm
   exact⟨k',by simp[exitTo,this,hk]⟩
 refine(h b (.inBlock id::k) cs hf ho').bind ?_;rintro fr cs' u' ⟨e,a',h1,h2⟩;cases e with
 |normal=>
  obtain⟨rfl,rfl⟩:=h2;exact .at_ (fun _=>stepG_inBlock) (.here ⟨.normal,a',h1,rfl,rfl⟩)
 |exit id'=>
  obtain⟨⟨k',h3,rfl⟩,rfl⟩:=h2
  by_cases e:id'=id
  ·simp only[Exit.inBlock,e,if_true]at h1;have:k'=k:=by simpa[exitTo,e]using h3.symm
   subst this;exact .here ⟨.normal,a',h1,rfl,rfl⟩
  ·simp only[Exit.inBlock,e,if_false]at h1;have hn:(id==id')=false:=by simp;exact fun h=>e h.symm
   exact .here ⟨.exit id',a',h1,⟨k',by simpa[exitTo,hn]using h3,rfl⟩,rfl⟩
 |goto x=>exact h2.elim
 |ret=>exact .here ⟨_,a',h1,h2⟩
 |panic ch=>exact .here ⟨_,a',h1,h2⟩
 |outgrown=>exact h2.elim
theorem WX.loop{c:Code}(I:Act->World->Prop)(μ:Act->World->Nat)(h₀:I a u)(round:∀a u,I a u->WX P c (Exit.then (fun a' u'=>I a' u'/\μ a' u'<μ a u) Q) a u):WX P (.loop c) Q a u:=fun b k cs hf ho=>by
 have key:∀n a u,μ a u=n->I a u->Reach P (tW Q b k cs) (b.at a (.code c::.inLoop c::k)) cs u:=by
  intro n;induction n using Nat.strongRecOn with
  |ind n ih=>
   intro a u hn hI;have ho':jH (Exit.then (fun a' u'=>I a' u'/\μ a' u'<μ a u) Q) (.inLoop c::k):=fun id hi=>jl rfl ho id hi;refine(round a u hI b (.inLoop c::k) cs hf ho').bind ?_;rintro fr cs' u' ⟨e,a',h1,h2⟩;cases e with
   |normal=>
    obtain⟨rfl,rfl⟩:=h2;obtain⟨h3,h4⟩:I a' u'/\μ a' u'<μ a u:=h1;exact .at_ (fun _=>stepG_inLoop) (ih (μ a' u') (hn▸h4) a' u' rfl h3)
   |exit id=>exact .here ⟨_,a',h1,cI (x:=.inLoop c) rfl (by simp) h2⟩
   |goto x=>exact h2.elim
   |ret=>exact .here ⟨_,a',h1,cI (x:=.inLoop c) rfl (by simp) h2⟩
   |panic ch=>exact .here ⟨_,a',h1,cI (x:=.inLoop c) rfl (by simp) h2⟩
   |outgrown=>exact h2.elim
 exact .at_ (fun _=>stepG_loop) (key _ a u rfl h₀)
end
end
section
open Go Go.Conc
open Go.ConcN (sumTo)
section
variable [aR] {P:Program} {l:List FuncId} {Q:Exit->Act->World->Prop} {a:Act} {u u1:World} {Post:Frame->List Frame->World->Prop} {b fr:Frame} {k:List Item} {cs:List Frame} {ops:Array Oper} {i:Nat} {rest:List Nat} {o:Oper}
theorem mX{ρ:Ren}(hT:Fit P l)(h:cF ρ a.tmps a.tmps):Reads l ρ a.eval a.eval:=by
 haveI:aB:=aC []
 have hl:∀f,l.contains f=true->aR.ok f:=fun f hf=>(hT.ok f).2 hf;intro x hx;cases x with
 |tmp t=>exact pS h t
 |const v=>exact ya hx ρ
 |global g=>cases hx
 |func f=>exact .func (.func f (hl f hx)) rfl (fun i v v' hv=>by simp at hv) rfl (fun i v v' hv=>by simp at hv)
theorem OT{ρ:Ren}(h:cF ρ a.tmps a.tmps){v:Value}(hv:VR ρ v v)(d:Option Tmp):cF ρ (a.put d v).tmps (a.put d v).tmps:=by
 cases d with
 |none=>exact h
 |some d=>exact h.set hv d
theorem MH{ρ:Ren}{k k':List Item}(h:XF ρ (b.at a k)){v:Value}(hv:VR ρ v v)(d:Option Tmp):XF ρ (b.at (a.put d v) k'):=
 ⟨OT h.tmps hv d,by cases d<;>exact h.defers,h.kind,h.known,h.mode⟩
theorem CY{ρ:Ren}(hT:Fit P l)(h:cF ρ a.tmps a.tmps){args:Array Operand}(ha:args.all (bF l)=true):cF ρ (args.map a.eval) (args.map a.eval):=by refine⟨rfl,fun i v v' h1 h2=>?_⟩;rw[h1]at h2;cases h2;rw[Array.getElem?_map]at h1;obtain⟨x,hx,rfl⟩:=Option.map_eq_some_iff.1 h1;exact mX hT h x (Array.all_eq_true_iff_forall_mem.1 ha x (Array.mem_of_getElem? hx))
theorem wF{ρ:Ren}{f:FuncId}{args:Array Value}{fn:Func}{c:Code}(hf:P.funcs[f]? =some fn)(hb:fn.body=some c)(hk:aR.known f)(h:cF ρ args args):XF ρ (Frame.enter P f args .normal):=by
 haveI:aB:=aC []
 rw[enter_at args hf hb];refine⟨⟨rfl,fun i v v' h1 h2=>?_⟩,.nil,rfl,hk,.run⟩;rw[h1]at h2;cases h2;change(args++Array.replicate (fn.ntmps-args.size) undef)[i]? =_ at h1
 by_cases hi:i<args.size
 ·rw[Array.getElem?_append_left hi]at h1;exact h.2 i v v h1 h1
 ·rw[Array.getElem?_append_right (by omega),Array.getElem?_replicate]at h1;split at h1
  ·cases h1;exact cK ρ
  ·cases h1
theorem eP.ok{Shun:Loc->Prop}{S:Nat->Prop}{ρ:Ren}{gs:Array Goroutine}{w:World}{t:Trace}{q:Nat->Nat}(hB:eP P Shun S fr cs u ρ gs w t q){α β:Type}{R:Ren->α->β->Prop}{s:Sem α}{s':Sem β}(hs:SR P R ρ (fun _=>False) s s'){v:α}(h:∀τ,s.run P (u.tp τ)=.ok v (u1.tp τ)):
  ∃σ v' w1 x,s'.runT P w #[]=(.ok v' w1,x)/\R σ v v'/\eR ρ σ w w1/\nK P σ u1 w1/\Whole S σ u1/\(∀a b,σ a b->a=b)/\u1.heap.size=w1.heap.size/\(∀e∈x,dz S σ e)/\Full σ u1:=by
 haveI:aB:=aC []
 obtain⟨_,σ,v',w1,x,h1,h2,h3,h4,h5⟩:=lu hs (bW _) hB.world.lay hB.whole (h (laid u w));have hsz:u.heap.size=w.heap.size:=hB.size;have hp:u1.heap.size+w.heap.size=w1.heap.size+u.heap.size:=h3.Ip;refine⟨σ,v',w1,x,h1,h2,h3.went,?_,h4,fun a b hab=>?_,by omega,h5,h3.full hB.full⟩
 ·have:=h3.rel.drop;exact⟨this.one,this.lt,this.obj,this.low,this.base,this.calm,this.os⟩
 ·rcases h3.news a b hab with h|⟨_,_,h⟩
  ·exact hB.same a b h
  ·have h:a+w.heap.size=b+u.heap.size:=h;omega
theorem gS{fr c:Frame}{fn:Func}{v:Value}{w w1:World}{x:Array Event}(hm:fr.mode=.returning)(hd:fr.defers=[])(hk:fr.kind=.normal)(hf:P.funcs[fr.fn]? =some fn)(hr:(results fn fr.tmps).runT P w #[]=(.ok v w1,x)):
  stepG P true (G fr (c::cs)) w=.go (G (c.finish v) cs) w1 (seen P fr.fn x):=by
 have h1:(Go.results fn fr.tmps).run P w=.ok v w1:=by rw[<-Sem.runT_fst P _ w #[],hr]
 have h2:(Go.results fn fr.tmps).events P w #[]=x:=by unfold Sem.events;rw[hr]
 simp[G,stepG,unwind,doReturn,hm,hd,hk,hf,h1,h2,GStep.after]
theorem eP.results{Shun:Loc->Prop}{S:Nat->Prop}{ρ:Ren}{gs:Array Goroutine}{w:World}{t:Trace}{q:Nat->Nat}(hB:eP P Shun S fr cs u ρ gs w t q){fn:Func}{v:Value}(h:(results fn fr.tmps).run P u=.ok v u)(τ:Nat->Question->Nat):(results fn fr.tmps).run P (u.tp τ)=.ok v (u.tp τ):=by
 haveI:aB:=aC []
 have hw:WR P ρ u (w.tp fun j q=>u.tape (u.drawn+(j-w.drawn)) q):=⟨hB.world.one,hB.world.lt,hB.world.obj,fun i q=>by show u.tape (u.drawn+(w.drawn+i-w.drawn)) q=_;rw[Nat.add_sub_cancel_left],hB.world.low,hB.world.base,hB.world.calm,hB.world.os⟩
 obtain⟨_,fD⟩:=(lu (lC (P:=P) (K:=fun _=>False) fn hB.top.tmps) (bW u) hw hB.whole h).1;rw[<-Sem.runT_fst P _ (u.tp τ) #[],fD τ (fun i q a b=>by omega)]
def OX(P:Program)(ops:Array Oper)(Q:Exit->Act->World->Prop)(is:List Nat)(a:Act)(u:World):Prop:=
 ∀(b:Frame) (k:List Item) (cs:List Frame),gT k->jH Q k->Reach P (tW Q b k cs) (b.at a (.inRegion ops is::k)) cs u
theorem OX.nil(h:Q .normal a u):OX P ops Q [] a u:=fun _ _ _ _ _=>.at_ (fun _=>stepG_region_end) (.here ⟨.normal,a,h,rfl,rfl⟩)
theorem OX.value(hT:Fit P l)(ho:ops[i]? =some o)(hw:Region.wanted o (yielded ops a.tmps)=true)(hok:okB P l o.op=true){v:Value}(hr:∀τ,(execOp a.eval o).run P (u.tp τ)=.ok (.value v) (u1.tp τ))(c:OX P ops Q rest (a.put o.dst v) u1):OX P ops Q (i::rest) a u:=fun b k cs hf hop=>by
 haveI:aB:=aC []
 exact .one fun Shun S ρ gs w t q hB _=>by
  have hl:∀f,l.contains f=true->aR.ok f:=fun f hf=>(hT.ok f).2 hf;obtain⟨σ,v',w1,x,h1,h2,h3,h4,h5,h6,h7,h8,h9⟩:=hB.ok (nF (K:=fun _=>False) hT.zeros hT.fns hl (mX hT hB.top.tmps) (fun ζ hz v=>by(subst hz;rfl)) (fun ζ hz v=>by(subst hz;rfl)) hok) hr;cases h2 with
  |@value _ v' hv=>
   obtain rfl:=hv.eq h6;have hrun:(execOp a.eval o).run P w=.ok (.value v) w1:=by rw[<-Sem.runT_fst P _ w #[],h1]
   have hk:b.kind≠.early:=by have:b.kind=.normal:=hB.top.kind;rw[this];simp
   refine⟨_,cs,u1,σ,w1,_,stepG_value ho hw hk hrun,⟨h3,h4,h5,h6,h7,fun e he=>?_,MH (hB.top.mono h3.le) hv _,hB.below.mono h3.le,h9⟩,c b k cs hf hop⟩;have he':=mem_seen he;unfold Sem.events at he';rw[h1]at he';exact h8 e he'
theorem OX.call(hT:Fit P l)(ho:ops[i]? =some o)(hw:Region.wanted o (yielded ops a.tmps)=true){f:FuncId}{fn:Func}{body:Code}{args:Array Operand}{ats:Array TypeId}(hop:o.op=.call {callee:=.value (.func f),args,argTypes:=ats}) (hfn:P.funcs[f]? =some fn) (hname:(fn.name== "runtime.NumGoroutine")=false) (hb:fn.body=some body) (hkn:aR.known f) (hargs:args.all (bF l)=true)
  (c:bG P f (args.map a.eval) u fun e u'=>∃v,e=.returned v/\OX P ops Q rest (a.put o.dst v) u'):OX P ops Q (i::rest) a u:=fun b k cs hf gO=>by
 haveI:aB:=aC []
 have FU:fn.body.isNone=false:=by rw[hb];rfl
 have qb:∀v,(b.at a (.inRegion ops (i::rest)::k)).finish v=b.at (a.put o.dst v) (.inRegion ops rest::k):=by intro v;rw[Frame.finish_at,ho];rfl
 refine .one fun Shun S ρ gs w t q hB _=>?_
 have hk:b.kind≠.early:=by have:b.kind=.normal:=hB.top.kind;rw[this];simp
 have KM:=hB.below.deep;refine⟨Frame.enter P f (args.map a.eval) .normal,b.at a (.inRegion ops (i::rest)::k)::cs,u,ρ,w,_,stepG_enter ho hw hk (run_call_body hop hfn hname FU),⟨.refl ρ w,hB.world,hB.whole,hB.same,hB.size,fun e he=>?_,wF hfn hb hkn (CY hT hB.top.tmps hargs),hB.below.push hB.top rfl,hB.full⟩,(c (b.at a (.inRegion ops (i::rest)::k)::cs)).bind ?_⟩
 ·have he':=mem_seen he;rw[events_call_body hop hfn hname FU]at he';simp at he'
 ·rintro fr cs' u' ⟨rfl,_,e,_,⟨v,rfl,Vk⟩,l1,l2,l3,fn',l4,l5⟩;refine .one fun Shun S ρ gs w t q hB _=>?_;obtain⟨σ,v',w1,x,h1,h2,h3,h4,h5,h6,h7,h8,h9⟩:=hB.ok (u1:=u') (lC (P:=P) (K:=fun _=>False) fn' hB.top.tmps) (hB.results l5);obtain rfl:=VR.eq h6 h2;have Xf:=hB.below.pop KM;refine⟨_,cs,u',σ,w1,_,gS l1 l2 l3 l4 h1,⟨h3,h4,h5,h6,h7,fun e he=>h8 e (mem_seen he),?_,Xf.2.mono h3.le,h9⟩,?_⟩
  ·rw[qb];exact MH (Xf.1.mono h3.le) h2 _
  ·rw[qb];exact Vk b k cs hf gO
theorem WX.region{id:Nat}(h:OX P ops Q (List.range ops.size) a u):WX P (.region id ops false) Q a u:=fun b k cs hf ho=>.at_ (fun _=>stepG_region) (h b k cs hf ho)
theorem bG.Gh{f:FuncId}{fn:Func}{c:Code}{args:Array Value}{R:Ending->World->Prop}(hf:P.funcs[f]? =some fn)(hb:fn.body=some c)
  (h:WX P c (fun e a u=>(e=.normal\/e=.ret)/\a.defers=[]/\∃v,(results fn a.tmps).run P u=.ok v u/\R (.returned v) u) {tmps:=args++Array.replicate (fn.ntmps-args.size) undef,defers:=[]} u):bG P f args u R:=fun cs=>by
 rw[enter_at args hf hb];refine(h (base f) [] cs trivial fun id ⟨a,u,hq,_⟩=>by rcases hq with hq|hq<;>cases hq).bind ?_;rintro fr cs' u' ⟨e,a',⟨he,hd,v,hr,hv⟩,h2⟩;rcases he with rfl|rfl
 ·obtain⟨rfl,rfl⟩:=h2;exact .ctl (fun _=>stepG_end) (fun ρ hx=>⟨hx.tmps,hx.defers,hx.kind,hx.known,.returning⟩) (.here ⟨rfl,rfl,.returned v,by simp,hv,rfl,hd,rfl,fn,hf,hr⟩)
 ·obtain⟨⟨todo,rfl⟩,rfl⟩:=h2;exact .here ⟨rfl,rfl,.returned v,by simp,hv,rfl,hd,rfl,fn,hf,hr⟩
end
end
section
open Go Go.Conc
open Go.ConcN (ShN WgLive sumTo upd sumTo_upd upd_ne upd_same)
open Go.ConcR (WgAt)
section
variable [aR] {P:Program} {l:List FuncId} {Post:Frame->List Frame->World->Prop} {fr:Frame} {cs:List Frame} {u w:World} {gs:Array Goroutine} {t:Trace} {q:Nat->Nat}
def MY(P:Program)(Post:Frame->List Frame->World->Prop)(ρ:Ren)(Shun:Loc->Prop)(w0:World)(gs:Array Goroutine)(w:World)(sl:Option (Nat×Nat))(t:Trace):Prop:=
 ∃N cO S' ρ' fr' cs' u' gs' w' sl' t' q',runNT P N (crowd gs w sl) t=(.next (crowd gs' w' sl'),t')/\Post fr' cs' u'/\eP P cO S' fr' cs' u' ρ' gs' w' t' q'/\eR ρ ρ' w0 w'/\gL Shun cO w0
theorem Reach.ZS(h:∀Shun S ρ gs w t q,eP P Shun S fr cs u ρ gs w t q->Gy ρ Shun w->∃bT bV w1,stepG P true (G fr cs) w=.go (G bT bV) w1/\∀gX sl,gX[0]? =some (G bT bV)->gX.size=gs.size->Leavers P t gX q->MY P Post ρ Shun w gX w1 sl t):Reach P Post fr cs u:=by
 haveI:aB:=aC []
 have key:∀(n:Nat) Shun S ρ gs w sl t q,sumTo gs.size q<n->eP P Shun S fr cs u ρ gs w t q->Gy ρ Shun w->MY P Post ρ Shun w gs w sl t:=by
  intro n;induction n with
  |zero=>exact fun Shun S ρ gs w sl t q hS=>absurd hS (by omega)
  |succ n ih=>
   intro Shun S ρ gs w sl t q hS hB hV;have h0:=hB.Bb;have hL:=hB.bK;have hlt:0<gs.size:=(Array.getElem?_eq_some_iff.1 h0).1
   have Ra:∀g∈gs,awake g:=by
    intro g hg;obtain⟨i,hi,rfl⟩:=Array.mem_iff_getElem.1 hg;rcases Nat.eq_zero_or_pos i with rfl|hpos
    ·have:gs[0]=G fr cs:=by simpa[Array.getElem?_eq_getElem hi]using h0
     rw[this];exact awake_of (.inl rfl)
    ·exact awake_of ((hL.old i _ hpos (Array.getElem?_eq_getElem hi)).status.elim .inl fun x=>.inr (.inr x))
   obtain⟨i,g,d,sl',hi,hg,hst⟩:=crowd_pick (P:=P) (w:=w) (sl:=sl) Ra ⟨0,_,h0,rfl⟩;have FN:=hB.at d;rcases Nat.eq_zero_or_pos i with rfl|hpos
   ·obtain rfl:g=G fr cs:=by rw[h0]at hi;exact(Option.some.inj hi).symm
    obtain⟨bT,bV,w1,hs,hr⟩:=h Shun S ρ gs (w.at d) t q FN (hV.at d);have jT:=runT_crowd_go (P:=P) (sl:=sl') (i:=0) hi (show stepG P (0==0) (G fr cs) (w.at d)=_ from hs);have hsz:((gs.map (woken P (G fr cs) (G bT bV) w1)).setIfInBounds 0 (G bT bV)).size=gs.size:=by simp
    have he:t++MemOp.ofEvents 0 (G fr cs).frame.fn (G fr cs).frame.place #[]=t:=by rw[ofEvents_eq];simp
    obtain⟨N,cO,S',ρ',fr',cs',u',gs',w',vP,t',q',r1,r2,r3,r4,r5⟩:=hr ((gs.map (woken P (G fr cs) (G bT bV) w1)).setIfInBounds 0 (G bT bV)) sl' (by simp[hlt]) hsz
     ⟨fun j x hj hx=>by rw[Array.getElem?_setIfInBounds_ne (by omega),Array.getElem?_map]at hx;obtain⟨y,hy,rfl⟩:=Option.map_eq_some_iff.1 hx;have hq:=hL.old j y hj hy;rw[woken_quitsD hq];exact hq,fun j hj=>hL.above j (by rw[hsz]at hj;exact hj)⟩
    refine⟨N+1,cO,S',ρ',fr',cs',u',gs',w',vP,t',q',by simp only[runNT,hst,jT];rw[he];exact r1,r2,r3,((eR.refl ρ w).at d).trans r4,r5⟩
   ·have hq:=hL.old i g hpos hi;have hi0:(i==0)=false:=by simp;omega
    have hlt':i<gs.size:=(Array.getElem?_eq_some_iff.1 hi).1;cases Jy:q i with
    |zero=>rw[Jy]at hq;rw[hq.1]at hg;cases hg
    |succ k=>
     rw[Jy]at hq;rcases hq with⟨hf,_⟩|⟨_,g',es,hm,uQ,kY⟩
     ·rw[hf]at hg;cases hg
     have jT:=runT_crowd_go (P:=P) (sl:=sl') (i:=i) hi (by rw[hi0];exact uQ (w.at d));have hsz:((gs.map (woken P g g' (w.at d))).setIfInBounds i g').size=gs.size:=by simp
     have hsum:sumTo gs.size (upd q i k)+q i=sumTo gs.size q+k:=sumTo_upd q k id hlt'
     obtain⟨N,cO,S',ρ',fr',cs',u',gs',w',vP,t',q',r1,r2,r3,r4,r5⟩:=ih Shun S ρ ((gs.map (woken P g g' (w.at d))).setIfInBounds i g') (w.at d) sl' (t++MemOp.ofEvents i g.frame.fn g.frame.place es) (upd q i k) (by rw[hsz];omega)
      ⟨by
       have hne:i≠0:=by omega
       rw[Array.getElem?_setIfInBounds_ne hne,Array.getElem?_map,h0];simp[woken_running (show(G fr cs).status=.running from rfl)],hB.top,hB.below,FN.world,hB.whole,⟨fun j x hj hx=>by
       by_cases hji:i=j
       ·subst hji;rw[Array.getElem?_setIfInBounds_self_of_lt (by simpa using hlt')]at hx;obtain rfl:=Option.some.inj hx;rw[upd_same,Deaf_own];exact kY
       ·rw[Array.getElem?_setIfInBounds_ne hji,Array.getElem?_map]at hx;obtain⟨y,hy,rfl⟩:=Option.map_eq_some_iff.1 hx;have Hs:=hL.old j y hj hy;rw[woken_quitsD Hs,upd_ne q k (Ne.symm hji),Deaf_other t hji _ (MemOp.ofEvents_g _ _ _ _)];exact Hs,fun j hj=>by
       rw[Deaf_other t (g':=i) (by simp at hj;omega) _ (MemOp.ofEvents_g _ _ _ _)];exact hL.above j (by simpa using hj)⟩,FN.past.mute (by omega) hm,FN.clear,hB.same,FN.size,kO (by rw[hsz];exact hB.wL) (by rw[hsz];exact hlt') (MemOp.ofEvents_g _ _ _ _),hB.full⟩ (hV.at d)
     exact⟨N+1,cO,S',ρ',fr',cs',u',gs',w',vP,t',q',by simp only[runNT,hst,jT];exact r1,r2,r3,((eR.refl ρ w).at d).trans r4,r5⟩
 exact fun Shun S ρ gs w sl t q hB hV=>key (sumTo gs.size q+1) Shun S ρ gs w sl t q (by omega) hB hV
theorem vh{Shun:Loc->Prop}{S Own:Nat->Prop}[DecidablePred Own](h0:gs[0]? =some (G fr cs))(hL:Leavers P t gs q)(hP:Past Shun w.heap.size t)(wL:∀i j,t.g? i=some j->j<gs.size)
  (hO:∀b,Own b->¬S b/\∃o,w.heap[b]? =some o/\OR (cP fun b=>Own b\/S b) o o) (hS:∀b,S b->b<w.heap.size/\Calm w.heap[b]?) (hg:P.globals.size<=w.heap.size)
  (hx:XF (cP fun b=>Own b\/S b) fr) (hcs:Gv (cP fun b=>Own b\/S b) cs) (dw:∀l,Shun l->∃a:Addr,l=.cell a/\a.block<w.heap.size/\¬Own a.block):
  eP P Shun S fr cs (mask Own w) (cP fun b=>Own b\/S b) gs w t q:=by
 haveI:aB:=aC []
 have hlt:∀b,Own b\/S b->b<w.heap.size:=fun b hb=>hb.elim (fun h=>by obtain⟨_,o,ho,_⟩:=hO b h;exact(Array.getElem?_eq_some_iff.1 ho).1) fun h=>(hS b h).1;refine⟨h0,hx,hcs,⟨⟨fun a b b' h h'=>h.1.symm.trans h'.1,fun a a' b h h'=>h.1.trans h'.1.symm⟩,?_,?_,?_,by rw[eY];exact hg,?_,rfl⟩,⟨?_,?_⟩,hL,hP,?_,fun a b h=>h.1,eY,wL,fun a o ho hn=>?_⟩
 ·rintro a b ⟨rfl,h⟩;rw[eY];exact⟨hlt a h,hlt a h⟩
 ·rintro a b o ⟨rfl,h⟩ ho
  by_cases hb:Own a
  ·rw[ef hb]at ho;obtain⟨_,o',ho',dP⟩:=hO a hb;rw[ho']at ho;obtain rfl:=Option.some.inj ho;exact .inr ⟨_,ho',dP⟩
  ·rw[qm hb (hlt a h)]at ho;exact .inl (Option.some.inj ho).symm
 ·rintro a b ⟨rfl,_⟩ h;exact h
 ·rintro a b ⟨rfl,h⟩ hp
  by_cases hb:Own a
  ·rw[ef hb]at hp;obtain⟨_,o',ho',dP⟩:=hO a hb;rw[ho']at hp;cases hp;exact absurd rfl (bp dP)
  ·exact(hS a (h.resolve_left hb)).2
 ·rintro a b ⟨rfl,h⟩
  by_cases hb:Own a
  ·obtain⟨hs,o',ho',dP⟩:=hO a hb;exact .inl ⟨hs,o',by rw[ef hb];exact ho',bp dP⟩
  ·exact .inr ⟨h.resolve_left hb,qm hb (hlt a h)⟩
 ·exact fun b hb=>⟨b,rfl,.inr hb⟩
 ·intro l hl;obtain⟨a,h1,h2,h3⟩:=dw l hl;exact⟨a,h1,h2,fun x hx=>hx.2.resolve_left h3⟩
 ·by_cases hb:Own a
  ·exact⟨a,rfl,.inl hb⟩
  ·have hlt:a<w.heap.size:=by
    have:=(Array.getElem?_eq_some_iff.1 ho).1
    rwa [eY]at this
   rw[qm hb hlt]at ho;exact absurd (Option.some.inj ho).symm hn
end
end
section
open Go Go.Conc
open Classical
open Go.ConcN (ShN WgLive sumTo upd)
open Go.ConcR (WgAt)
section
variable [aR] [aB] {P:Program} {Post:Frame->List Frame->World->Prop} {fr:Frame} {cs:List Frame} {u w w1:World} {gs gX:Array Goroutine} {t:Trace} {q:Nat->Nat} {Shun:Loc->Prop} {S:Nat->Prop} {ρ:Ren} {ty:TypeId} {OW:Nat->(Nat->Prop)->Goroutine->World->Prop} {Q:Nat->(Nat->Prop)->World->Prop} {M:Nat} {sl:Option (Nat×Nat)} {x:Obj}
theorem Ni{Wg:Nat}{st sm:Int}(h:WgAt ty Wg w st sm):Calm w.heap[Wg]? :=by unfold Go.ConcR.WgAt at h;rw[h];exact⟨_,_,_,rfl,by simp,Nat.le_refl _⟩
theorem DX(hB:eP P Shun S fr cs u ρ gs w t q)(hw1:w1.heap=w.heap.push x)(FZ:dD w w1)(hwg:WgAt ty w.heap.size w1 0 0){a:Goroutine}(ha:gX[0]? =some a)(hsz:gX.size=gs.size)(hL:Leavers P t gX q)(hM:M<2147483647)
  (PI:MS P ty w.heap.size OW Q M 0 .opn (fun b=>ρ b b/\¬S b) a w1)
  (qb:∀m O' a' w' (Oq:Nat->Nat->Prop),OW m O' a' w'->(∀i,i<m->Q i (Oq i) w')->(∀b,O' b->∀i,i<m->¬Oq i b)->(∀b i j,i<m->j<m->Oq i b->Oq j b->i=j)->(∀b,O' b\/(∃i,i<m/\Oq i b)->b≠w.heap.size/\b<w'.heap.size/\¬S b/\((ρ b b/\¬S b)\/w.heap.size<b))->WgAt ty w.heap.size w' 0 0->dD w1 w'->
   ∃fr' cs' Own,a'=G fr' cs'/\Post fr' cs' (mask Own w')/\(∀b,Own b->b≠w.heap.size/\(b<w.heap.size->ρ b b/\¬S b)/\∃o,w'.heap[b]? =some o/\OR (cP fun b=>Own b\/S b\/b=w.heap.size) o o)/\XF (cP fun b=>Own b\/S b\/b=w.heap.size) fr'/\(∀b,ρ b b->Own b\/S b\/b=w.heap.size)/\Gv (cP fun b=>Own b\/S b\/b=w.heap.size) cs'):
  MY P Post ρ Shun w gX w1 sl t:=by
 have hs1:w1.heap.size=w.heap.size+1:=by rw[hw1];simp
 have hold:∀b,b<w.heap.size->w1.heap[b]? =w.heap[b]? :=fun b hb=>by rw[hw1,Array.getElem?_push,if_neg (by omega)]
 have YM:∀b,S b->b<w.heap.size:=fun b hb=>by obtain⟨c,hc⟩:=hB.whole.has b hb;exact(hB.world.lt c b hc).2
 have zw:∀b,ρ b b->b<w.heap.size:=fun b hb=>(hB.world.lt b b hb).2
 have hOw:(fun b=>ρ b b/\¬S b)=(fun k b=>k=0/\(ρ b b/\¬S b):Nat->Nat->Prop) 0:=by
  funext b
  apply propext;exact⟨fun h=>⟨rfl,h⟩,fun h=>h.2⟩
 have hI:Inv P ty w.heap.size Shun Q M gX.size ⟨fun b=>b<w1.heap.size/\¬(ρ b b/\¬S b)/\b≠w.heap.size,fun b=>ρ b b/\¬S b,w1⟩ .opn a false w1 0 (fun _=>⟨.quit,fun _=>False,a,w1,0⟩) (fun k b=>k=0/\(ρ b b/\¬S b)) q gX w1 t:=
  .start (fun b hb hx=>hx.2.1 hb) (fun b hb=>hb.1) (.refl ..) (fun h=>h.2.2 rfl) hM ha hL hB.past (by rw[hsz];exact hB.wL) hwg (fun b hb=>by have:=zw b hb.1;omega) (fun h=>Nat.lt_irrefl _ (zw _ h.1)) fun b hb l hl hsh=>by
   obtain⟨ad,rfl,_,h3⟩:=hB.clear l hsh;rcases hl with⟨XN,e,rfl⟩|e
   ·cases e;exact hb.2 (h3 _ hb.1)
   ·cases e
 obtain⟨N,a',w0',m,f,Ow,q1,gs',w',sl',t',hrun,QU,hpost,hsame⟩:=phase PI _ _ q gX w1 sl t hOw.symm hI;obtain⟨o1,⟨q',o2⟩,o3,o4,o5,o6,o7,o8,o9⟩:=QU.over;have Xp:=QU.tc;have aak:=QU.many
 have VK:∀b,(ρ b b/\¬S b)\/w1.heap.size<=b->¬S b:=fun b hb hs=>hb.elim (fun h=>h.2 hs) fun h=>by have:=YM b hs;omega
 obtain⟨fr',cs',Own,rfl,h1,h2,h3,h3',h4⟩:=qb m (Ow 0) a' w' (fun i=>Ow (gX.size+i)) hpost o5 (fun b hb i hi h=>by have:=Xp.one _ _ b hb h;omega) (fun b i j _ _ h h'=>by have:=Xp.one _ _ b h h';omega) (fun b hb=>by
  rcases hb with hb|⟨i,_,hb⟩
  ·exact⟨fun e=>o9 0 (e▸hb),o8 0 b hb,VK b (QU.all.old 0 b hb),(QU.all.old 0 b hb).imp id fun h=>by(have h:w1.heap.size<=b:=h;omega)⟩
  ·exact⟨fun e=>o9 _ (e▸hb),o8 _ b hb,VK b (QU.all.old _ b hb),(QU.all.old _ b hb).imp id fun h=>by(have h:w1.heap.size<=b:=h;omega)⟩) o4 hsame
 have hsz':=hsame.size;refine⟨N,fun l=>Shun l\/ShN w.heap.size l,fun b=>S b\/b=w.heap.size,_,fr',cs',mask Own w',gs',w',sl',t',q',hrun,h1,vh o1 o2 o3 o6 (fun b hb=>?_) (fun b hb=>?_) ?_ h3 h4 fun l hl=>?_,?_,fun ad hl=>?_⟩
 ·obtain⟨k1,k2,k3⟩:=h2 b hb;refine⟨?_,k3⟩;rintro(h|h)
  ·exact(k2 (YM b h)).2 h
  ·exact k1 h
 ·rcases hb with hb|rfl
  ·have hlt:=YM b hb;refine⟨by omega,?_⟩;have e:w'.heap[b]? =w1.heap[b]? :=o7.own b ⟨by omega,fun h=>h.2 hb,by omega⟩;rw[e,hold b hlt];obtain⟨c,hc⟩:=hB.whole.has b hb;rcases hB.whole.all c b hc with⟨h,_⟩|⟨_,h⟩
   ·exact absurd hb h
   ·exact hB.world.calm c b hc h
  ·exact⟨by omega,Ni o4⟩
 ·have:=hB.world.base;have:=hB.size;omega
 ·rcases hl with hl|⟨ad,rfl,hl⟩
  ·obtain⟨ad,e,h5,h6⟩:=hB.clear l hl;refine⟨ad,e,by omega,fun ho=>?_⟩;obtain⟨_,k2,_⟩:=h2 _ ho;exact(k2 h5).2 (h6 _ (k2 h5).1)
  ·exact⟨ad,rfl,by rw[hl];omega,fun ho=>(h2 _ ho).1 hl⟩
 ·refine⟨fun a b hab=>?_,by omega,fun b hb hn=>?_,fun a b hab=>?_,hsame.os.trans FZ.os,hsame.output.trans FZ.output,hsame.tape.trans FZ.tape⟩
  ·obtain rfl:=hB.same _ _ hab;exact⟨rfl,h3' a hab⟩
  ·exact(o7.own b ⟨by omega,fun h=>hn b h.1,by omega⟩).trans (hold b hb)
  ·obtain⟨rfl,hb⟩:=hab
   by_cases hlt:w.heap.size<=a
   ·exact .inr hlt
   ·rcases hb with hb|hb|hb
    ·exact .inl ((h2 a hb).2.1 (by omega)).1
    ·obtain⟨c,hc⟩:=hB.whole.has a hb;have e:=hB.same _ _ hc;subst e;exact .inl hc
    ·omega
 ·rcases hl with hl|⟨XN,e,hl⟩
  ·exact .inl hl
  ·cases e;exact .inr (by omega)
end
end
section
open Go Go.Conc
open Go.ConcN (sumTo)
section
variable [aR] {P:Program} {l:List FuncId} {ρ:Ren} {fr:Frame} {cs:List Frame} {u w:World} {gs:Array Goroutine} {t:Trace} {q:Nat->Nat} {Shun:Loc->Prop} {S:Nat->Prop}
theorem OR.eq(hρ:∀a b,ρ a b->a=b){o o':Obj}(h:OR ρ o o'):o'=o:=by
 haveI:aB:=aC []
 cases h with
 |cells t fz h=>rw[cF.eq hρ h]
 |@map x x' c h=>
  have:x=x':=by apply Array.ext h.1.symm;intro i h1 h2;obtain⟨k1,k2,k3⟩:=h.2 i _ _ (Array.getElem?_eq_getElem h1) (Array.getElem?_eq_getElem h2);have e1:=VR.eq hρ k1;have e2:=VR.eq hρ k2;cases hx:x[i];cases hy:x'[i];rw[hx,hy]at e1 e2 k3;simp only at e1 e2 k3;rw[e1,e2,k3]
  rw[this]
 |chan cap cl s r t=>rfl
 |@loop l l' h0 h1 h2 h3 h4 h5 h6 h7 h8=>
  have e4:=cF.eq hρ h4;have e8:=hρ _ _ h8;cases l;cases l';simp only at h1 h2 h3 e4 h5 h6 h7 e8;subst h1 h2 h3 e4 h5 h6 h7 e8;rfl
 |eV=>rfl
 |cy=>rfl
 |@number a a' l h=>
  obtain⟨h1,h2,h3⟩:=h;obtain⟨x,y,z⟩:=a;obtain⟨x',y',z'⟩:=a';have h4:=hρ _ _ h1;simp only at h2 h3 h4;rw[h2,h3,h4]
theorem eP.heap(hB:eP P Shun S fr cs u ρ gs w t q){b:Nat}{o:Obj}(ho:u.heap[b]? =some o)(hn:o≠aV):ρ b b/\¬S b/\w.heap[b]? =some o/\OR (cP fun b=>ρ b b) o o:=by
 haveI:aB:=aC []
 obtain⟨b',hb'⟩:=hB.full b o ho hn;obtain rfl:=hB.same _ _ hb';rcases hB.world.obj b b o hb' ho with h|⟨o',h1,h2⟩
 ·exact absurd h hn
 ·obtain rfl:=h2.eq hB.same;refine⟨hb',hB.whole.own hb' ho hn,h1,?_⟩;have:=h2.right;refine this.mono fun a c h=>⟨h.1,?_⟩;obtain⟨x,hx⟩:=h.2;have e:=hB.same _ _ hx;subst e;exact hx
theorem eP.cell(hB:eP P Shun S fr cs u ρ gs w t q){ad:Addr}{v:Value}(h:u.cell? ad=some v):ρ ad.block ad.block/\¬S ad.block/\w.cell? ad=some v:=by obtain⟨o,ho,hn⟩:=bY h;obtain⟨h1,h2,h3,_⟩:=hB.heap ho hn;refine⟨h1,h2,?_⟩;unfold World.cell? at h⊢;rw[ho]at h;rw[h3];exact h
theorem eP.zJ(hB:eP P Shun S fr cs u ρ gs w t q){b:Nat}(h:ρ b b)(hS:¬S b):∃o,u.heap[b]? =some o/\o≠aV:=by
 rcases hB.whole.all b b h with⟨_,o,ho,hn⟩|⟨h,_⟩
 ·exact⟨o,ho,hn⟩
 ·exact absurd h hS
theorem nK.zJ{Own:Nat->Prop}[DecidablePred Own](h:nK P ρ u w)(hO:∀a b,ρ a b->Own b):nK P ρ u (mask Own w):=
 haveI:aB:=aC []
 ⟨h.one,fun a b hab=>by rw[eY];exact h.lt a b hab,fun a b o hab ho=>by rw[ef (hO a b hab)];exact h.obj a b o hab ho,h.low,h.base,fun a b hab hp=>by rw[ef (hO a b hab)];exact h.calm a b hab hp,h.os⟩
theorem Reach.left(hT:Fit P l){R:Ending->World->Prop}(Vr:∀ρ,@bU Item Item (@IR (aC []) P l ρ false) fr.todo fr.todo)(hro:fr.roundOf=none)(hR:∀e u τ,R e u->R e (World.tp u τ))(qd:∀e u,R e u->∃v,e=.returned v)
  (h:∀τ,∃e u' fr',R e u'/\Comes P (lone fr [bot P] (u.tp τ)) (lone fr' [bot P] u') e/\fr'.fn=fr.fn/\fr'.leaving P u' e):
  Reach P (fun fr' cs' u'=>cs'=cs/\fr'.fn=fr.fn/\∃e,e≠.outgrown/\R e u'/\fr'.leaving P u' e) fr cs u:=fun Shun S ρ gs w sl t q hB hV=>by
 letI:aB:=aC []
 have hfr:dZ P l ρ fr fr:=⟨rfl,hB.top.known,hB.top.tmps,by rw[hro];exact Vr ρ,hB.top.defers,hB.top.mode,rfl,.inl hB.top.kind,by rw[hro];exact .none⟩;have hst:Still cs:=fun f hf=>.inl (hB.below.run f hf);have Ut:Beside P l cs Shun S fr [] u ρ gs w t q:=⟨⟨_,hB.Bb,⟨_,[],rfl,hfr,.nil⟩⟩,hB.world,hB.whole,hB.bK,hB.past,hB.clear,hB.same,hB.size,hB.wL,hB.full⟩
 have hL:gU P l fr [] u:=by have:gU P l fr [] (u.tp (laid u w)):=⟨S,ρ,cs,_,w,hst,⟨_,[],rfl,hfr,.nil⟩,hB.world.lay,hB.whole⟩;exact this.tp u.tape
 have mG:ud P (Left P fr.fn R) fr [] u:=by refine Az hT (fun fr' cs' u' τ hl ⟨h1,h2,e,h3,h4,h5⟩=>⟨h1,h2,e,h3,hR e u' τ h4,uU hT hl τ h5⟩) hL fun τ _=>?_;obtain⟨e,u',fr',h1,h2,h3,h4⟩:=h τ;obtain⟨v,rfl⟩:=qd e u' h1;obtain⟨n,hn⟩:=h2;exact⟨n,fr',[],u',hn,rfl,h3,_,by simp,h1,h4⟩
 obtain⟨N,ρ',fr',cs',u',gs',w',sl',t',q',r1,r2,⟨rfl,hfn,e,he,Pv,hlv⟩,r4,r5⟩:=mV hT hst mG (sumTo gs.size q+1) ρ gs w sl t q (by omega) Ut;obtain⟨⟨g,hg,uE,TQ,rfl,hf',hcs⟩,k2,k3,k4,k5,k6,k7,k8,k9,Tu⟩:=r4;cases hcs;have hs:=hf'.same k7;obtain⟨v,rfl⟩:=qd e u' Pv;obtain⟨l1,l2,l3,fn,l4,l5⟩:=hlv;refine⟨N,Shun,S,ρ',uE,cs,u',gs',w',sl',t',q',r1,⟨rfl,by rw[hs];exact hfn,.returned v,by simp,Pv,?_⟩,⟨hg,hf'.xf k7 l3,hB.below.mono r5.le,k2,k3,k4,k5,k6,k7,k8,k9,Tu⟩,r5,.refl Shun w⟩;rw[hs];exact⟨l1,l2,l3,fn,l4,l5⟩
end
end
end Go.Proofs.YtpobhljcainmdaaGreat
