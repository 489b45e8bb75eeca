/- Proved here: a part of what Doors keeps (Wx12, Wx13). -/
import Derived.Conc.AppendEvents3
import Derived.Test.YtpobhljcainmdaaGreatJ41
import Derived.Test.YtpobhljcainmdaaGreatJ46
set_option maxRecDepth 100000
set_option maxHeartbeats 8000000
set_option linter.all false
namespace Go.Proofs.YtpobhljcainmdaaGreat
section
open Go Go.Conc
open Go.ConcN (sumTo)
section
variable [aR] {P:Program} {l:List FuncId} {Q:Exit->Act->World->Prop} {a:Act} {u u1:World} {Post:Frame->List Frame->World->Prop} {b fr:Frame} {k:List Item} {cs:List Frame} {ops:Array Oper} {i:Nat} {rest:List Nat} {o:Oper} {Lf:FuncId->List Nat} {f0:FuncId} {dn:Nat}
def FX(Lf:FuncId->List Nat)(f0:FuncId)(dn:Nat)(P:Program)(c:Code)(Q:Exit->Act->World->Prop)(a:Act)(u:World):Prop:=
 ∀(b:Frame) (k:List Item) (cs:List Frame),b.fn=f0->cs.length=dn->gT k->jH Q k->cC Lf P (tW Q b k cs) (b.at a (.code c::k)) cs u
def FO(Lf:FuncId->List Nat)(f0:FuncId)(dn:Nat)(P:Program)(ops:Array Oper)(Q:Exit->Act->World->Prop)(is:List Nat)(a:Act)(u:World):Prop:=
 ∀(b:Frame) (k:List Item) (cs:List Frame),b.fn=f0->cs.length=dn->gT k->jH Q k->cC Lf P (tW Q b k cs) (b.at a (.inRegion ops is::k)) cs u
theorem cC.at_{k':List Item}(h:∀w,stepG P true (G (b.at a k) cs) w=.go (G (b.at a k') cs) w)(c:cC Lf P Post (b.at a k') cs u):cC Lf P Post (b.at a k) cs u:=.ctl h (fun _ hx=>⟨hx.tmps,hx.kind,hx.known⟩) c
theorem FX.mono{c:Code}{Q':Exit->Act->World->Prop}(h:FX Lf f0 dn P c Q a u)(hq:∀e a u,Q e a u->Q' e a u):FX Lf f0 dn P c Q' a u:=fun b k cs hb hd hf ho=>
 (h b k cs hb hd hf fun id ⟨a,u,hx⟩=>ho id ⟨a,u,hq _ _ _ hx⟩).mono fun fr cs' u' ⟨e,a',h1,h2⟩=>⟨e,a',hq _ _ _ h1,h2⟩
theorem FX.seq{x y:Code}(h:FX Lf f0 dn P x (Exit.then (FX Lf f0 dn P y Q) Q) a u):FX Lf f0 dn P (.seq x y) Q a u:=fun b k cs hb hd hf ho=>by
 refine .at_ (fun _=>stepG_seq) ?_;have ho':jH (Exit.then (FX Lf f0 dn P y Q) Q) (.code y::k):=fun id hi=>jl rfl ho id hi;refine(h b (.code y::k) cs hb hd hf ho').bind ?_;rintro fr cs' u' ⟨e,a',h1,h2⟩;cases e with
 |normal=>
  obtain⟨rfl,rfl⟩:=h2;exact(show FX Lf f0 dn P y Q a' u' from h1) b k cs' hb hd hf ho
 |exit id=>exact .here ⟨_,a',h1,cI (x:=.code y) rfl (by simp) h2⟩
 |goto x=>exact h2.elim
 |ret=>exact .here ⟨_,a',h1,cI (x:=.code y) rfl (by simp) h2⟩
 |panic ch=>exact .here ⟨_,a',h1,cI (x:=.code y) rfl (by simp) h2⟩
 |outgrown=>exact h2.elim
theorem FX.cond{c:Operand}{x y:Code}{v:Bool}(hc:a.eval c=.bool v)(h:FX Lf f0 dn P (if v then x else y) Q a u):FX Lf f0 dn P (.cond c x y) Q a u:=fun b k cs hb hd hf ho=>.at_ (fun _=>stepG_cond hc) (h b k cs hb hd hf ho)
theorem FX.skip(h:Q .normal a u):FX Lf f0 dn P .skip Q a u:=fun b k cs _ _ _ _=>.at_ (fun _=>stepG_skip) (.here ⟨.normal,a,h,rfl,rfl⟩)
theorem FX.exit{id:Nat}(h:Q (.exit id) a u):FX Lf f0 dn P (.exit id) Q a u:=fun b k cs _ _ _ ho=>by obtain⟨k',hk⟩:=ho id ⟨a,_,h⟩;exact .at_ (fun _=>stepG_exit hk) (.here ⟨.exit id,a,h,⟨k',hk,rfl⟩,rfl⟩)
theorem FX.ret(h:Q .ret a u):FX Lf f0 dn P .ret Q a u:=fun b k cs _ _ _ _=>.ctl (fun _=>stepG_ret') (fun ρ hx=>⟨hx.tmps,hx.kind,hx.known⟩) (.here ⟨.ret,a,h,⟨_,rfl⟩,rfl⟩)
theorem FX.block{id:Nat}{c:Code}(h:FX Lf f0 dn P c (Exit.inBlock id Q) a u):FX Lf f0 dn P (.block id c) Q a u:=fun b k cs hb hd hf ho=>by
 refine .at_ (fun _=>stepG_block) ?_
 have ho':jH (Exit.inBlock id Q) (.inBlock id::k):=fun id' ⟨a',u',hi⟩=>by
  by_cases e:id'=id
  ·exact⟨k,by simp[exitTo,e]⟩
  ·simp only[Exit.inBlock,e,if_false]at hi;obtain⟨k',hk⟩:=ho id' ⟨a',u',hi⟩;have:(id==id')=false:=by simp;exact fun h=>e h.symm
   exact⟨k',by simp[exitTo,this,hk]⟩
 refine(h b (.inBlock id::k) cs hb hd hf ho').bind ?_;rintro fr cs' u' ⟨e,a',h1,h2⟩;cases e with
 |normal=>
  obtain⟨rfl,rfl⟩:=h2;exact .at_ (fun _=>stepG_inBlock) (.here ⟨.normal,a',h1,rfl,rfl⟩)
 |exit id'=>
  obtain⟨⟨k',h3,rfl⟩,rfl⟩:=h2
  by_cases e:id'=id
  ·simp only[Exit.inBlock,e,if_true]at h1;have:k'=k:=by simpa[exitTo,e]using h3.symm
   subst this;exact .here ⟨.normal,a',h1,rfl,rfl⟩
  ·simp only[Exit.inBlock,e,if_false]at h1;have hn:(id==id')=false:=by simp;exact fun h=>e h.symm
   exact .here ⟨.exit id',a',h1,⟨k',by simpa[exitTo,hn]using h3,rfl⟩,rfl⟩
 |goto x=>exact h2.elim
 |ret=>exact .here ⟨_,a',h1,h2⟩
 |panic ch=>exact .here ⟨_,a',h1,h2⟩
 |outgrown=>exact h2.elim
theorem FX.loop{c:Code}(I:Act->World->Prop)(μ:Act->World->Nat)(h₀:I a u)(round:∀a u,I a u->FX Lf f0 dn P c (Exit.then (fun a' u'=>I a' u'/\μ a' u'<μ a u) Q) a u):FX Lf f0 dn P (.loop c) Q a u:=fun b k cs hb hd hf ho=>by
 have key:∀n a u,μ a u=n->I a u->cC Lf P (tW Q b k cs) (b.at a (.code c::.inLoop c::k)) cs u:=by
  intro n;induction n using Nat.strongRecOn with
  |ind n ih=>
   intro a u hn hI;have ho':jH (Exit.then (fun a' u'=>I a' u'/\μ a' u'<μ a u) Q) (.inLoop c::k):=fun id hi=>jl rfl ho id hi;refine(round a u hI b (.inLoop c::k) cs hb hd hf ho').bind ?_;rintro fr cs' u' ⟨e,a',h1,h2⟩;cases e with
   |normal=>
    obtain⟨rfl,rfl⟩:=h2;obtain⟨h3,h4⟩:I a' u'/\μ a' u'<μ a u:=h1;exact .at_ (fun _=>stepG_inLoop) (ih (μ a' u') (hn▸h4) a' u' rfl h3)
   |exit id=>exact .here ⟨_,a',h1,cI (x:=.inLoop c) rfl (by simp) h2⟩
   |goto x=>exact h2.elim
   |ret=>exact .here ⟨_,a',h1,cI (x:=.inLoop c) rfl (by simp) h2⟩
   |panic ch=>exact .here ⟨_,a',h1,cI (x:=.inLoop c) rfl (by simp) h2⟩
   |outgrown=>exact h2.elim
 exact .at_ (fun _=>stepG_loop) (key _ a u rfl h₀)
theorem FX.region{id:Nat}(h:FO Lf f0 dn P ops Q (List.range ops.size) a u):FX Lf f0 dn P (.region id ops false) Q a u:=fun b k cs hb hd hf ho=>.at_ (fun _=>stepG_region) (h b k cs hb hd hf ho)
theorem FO.nil(h:Q .normal a u):FO Lf f0 dn P ops Q [] a u:=fun _ _ _ _ _ _ _=>.at_ (fun _=>stepG_region_end) (.here ⟨.normal,a,h,rfl,rfl⟩)
def Sv(L:List Nat)(x:Array Value):Array Value:=x.mapIdx fun i v=>if i∈L then undef else v
def lM(L:List Nat)(a:Act):Act:=⟨Sv L a.tmps,a.defers⟩
theorem bw{L:List Nat}{i:Nat}(h:i∉L):(lM L a).eval (.tmp i)=a.eval (.tmp i):=by simp only[Act.eval,lM,Sv,Array.getD_eq_getD_getElem?,Array.getElem?_mapIdx,h,if_false];cases a.tmps[i]? <;>rfl
theorem wq{ρ:Ren}{L:List Nat}(h:∀(i:Nat) v,a.tmps[i]? =some v->i∉L->VR ρ v v):cF ρ (lM L a).tmps (lM L a).tmps:=by
 haveI:aB:=aC []
 refine⟨rfl,fun i v v' h1 h2=>?_⟩;rw[h1]at h2;cases h2;simp only[lM,Sv,Array.getElem?_mapIdx]at h1;cases hx:a.tmps[i]? with
 |none=>rw[hx]at h1;cases h1
 |some y=>
  rw[hx]at h1;simp only[Option.map_some,Option.some.injEq]at h1
  by_cases hi:i∈L
  ·rw[if_pos hi]at h1;subst h1;exact cK ρ
  ·rw[if_neg hi]at h1;subst h1;exact h i _ hx hi
theorem nH{ρ:Ren}{L:List Nat}{k k':List Item}{d:Nat}{v:Value}(h:De ρ L (b.at a k))(hv:d∉L->VR ρ v v):De ρ L (b.at (a.put (some d) v) k'):=by
 refine⟨fun i x hx hi=>?_,h.kind,h.known⟩;change(a.tmps.setIfInBounds d v)[i]? =some x at hx
 by_cases e:d=i
 ·subst e
  by_cases hl:d<a.tmps.size
  ·rw[Array.getElem?_setIfInBounds_self_of_lt hl]at hx;cases hx;exact hv hi
  ·rw[Array.getElem?_eq_none (by simp;omega)]at hx;cases hx
 ·rw[Array.getElem?_setIfInBounds_ne e]at hx;exact h.tmps i x hx hi
theorem pg.ok{Shun:Loc->Prop}{S:Nat->Prop}{ρ:Ren}{gs:Array Goroutine}{w:World}{t:Trace}{q:Nat->Nat}(hB:pg Lf P Shun S fr cs u ρ gs w t q){α β:Type}{R:Ren->α->β->Prop}{s:Sem α}{s':Sem β}(hs:SR P R ρ (fun _=>False) s s'){v:α}(h:∀τ,s.run P (u.tp τ)=.ok v (u1.tp τ)):
  ∃σ v' w1 x,s'.runT P w #[]=(.ok v' w1,x)/\R σ v v'/\eR ρ σ w w1/\nK P σ u1 w1/\Whole S σ u1/\(∀a b,σ a b->a=b)/\u1.heap.size=w1.heap.size/\(∀e∈x,dz S σ e)/\Full σ u1:=by
 haveI:aB:=aC []
 obtain⟨_,σ,v',w1,x,h1,h2,h3,h4,h5⟩:=lu hs (bW _) hB.world.lay hB.whole (h (laid u w));have hsz:u.heap.size=w.heap.size:=hB.size;have hp:u1.heap.size+w.heap.size=w1.heap.size+u.heap.size:=h3.Ip;refine⟨σ,v',w1,x,h1,h2,h3.went,?_,h4,fun a b hab=>?_,by omega,h5,h3.full hB.full⟩
 ·have:=h3.rel.drop;exact⟨this.one,this.lt,this.obj,this.low,this.base,this.calm,this.os⟩
 ·rcases h3.news a b hab with h|⟨_,_,h⟩
  ·exact hB.same a b h
  ·have h:a+w.heap.size=b+u.heap.size:=h;omega
theorem FO.own{d:Nat}{v:Value}(hT:Fit P l)(ho:ops[i]? =some o)(hw:Region.wanted o (yielded ops a.tmps)=true)(hd:o.dst=some d)(hok:okB P l o.op=true)(Df:execOp a.eval o=execOp (lM (Lf f0) a).eval o)(hr:∀τ,(execOp a.eval o).run P (u.tp τ)=.ok (.value v) (u1.tp τ))(c:FO Lf f0 dn P ops Q rest (a.put (some d) v) u1):FO Lf f0 dn P ops Q (i::rest) a u:=fun b k cs hb KM hf hop=>by
 haveI:aB:=aC []
 exact .one fun Shun S ρ gs w t q hB hV=>by
  have hl:∀f,l.contains f=true->aR.ok f:=fun f hf=>(hT.ok f).2 hf;have Eh:De ρ (Lf f0) (b.at a (.inRegion ops (i::rest)::k)):=hb▸hB.top;have Vu:=wq (a:=a) (L:=Lf f0) Eh.tmps;rw[Df]at hr;obtain⟨σ,v',w1,x,h1,h2,h3,h4,h5,h6,h7,h8,h9⟩:=hB.ok (nF (K:=fun _=>False) hT.zeros hT.fns hl (mX hT Vu) (fun ζ hz v=>by(subst hz;rfl)) (fun ζ hz v=>by(subst hz;rfl)) hok) hr;cases h2 with
  |@value _ v' hv=>
   obtain rfl:=hv.eq h6;have hrun:(execOp a.eval o).run P w=.ok (.value v) w1:=by rw[Df,<-Sem.runT_fst P _ w #[],h1]
   have hk:b.kind≠.early:=by have:b.kind=.normal:=hB.top.kind;rw[this];simp
   refine⟨_,cs,u1,σ,w1,_,stepG_value ho hw hk hrun,⟨h3,h4,h5,h6,h7,fun e he=>?_,?_,fun f hf=>⟨(hB.low f hf).1.mono h3.le,(hB.low f hf).2⟩,h9⟩,?_⟩
   ·have he':=mem_seen he;unfold Sem.events at he';rw[Df,h1]at he';exact BA (hB.clear.went h3) (fun y b AF=>(h4.lt y b AF).2) (h8 e he')
   ·rw[hd];show De σ (Lf b.fn) _;rw[hb];exact nH (Eh.mono h3.le) (fun _=>hv)
   ·rw[hd];exact c b k cs hb KM hf hop
theorem FO.void(hT:Fit P l)(ho:ops[i]? =some o)(hw:Region.wanted o (yielded ops a.tmps)=true)(hd:o.dst=none)(hok:okB P l o.op=true)(Df:execOp a.eval o=execOp (lM (Lf f0) a).eval o)(hr:∀τ,(execOp a.eval o).run P (u.tp τ)=.ok .skip (u1.tp τ))(c:FO Lf f0 dn P ops Q rest a u1):FO Lf f0 dn P ops Q (i::rest) a u:=fun b k cs hb KM hf hop=>by
 haveI:aB:=aC []
 exact .one fun Shun S ρ gs w t q hB hV=>by
  have hl:∀f,l.contains f=true->aR.ok f:=fun f hf=>(hT.ok f).2 hf;have Eh:De ρ (Lf f0) (b.at a (.inRegion ops (i::rest)::k)):=hb▸hB.top;have Vu:=wq (a:=a) (L:=Lf f0) Eh.tmps;rw[Df]at hr;obtain⟨σ,v',w1,x,h1,h2,h3,h4,h5,h6,h7,h8,h9⟩:=hB.ok (nF (K:=fun _=>False) hT.zeros hT.fns hl (mX hT Vu) (fun ζ hz v=>by(subst hz;rfl)) (fun ζ hz v=>by(subst hz;rfl)) hok) hr;cases h2 with
  |skip=>
   have hrun:(execOp a.eval o).run P w=.ok .skip w1:=by rw[Df,<-Sem.runT_fst P _ w #[],h1]
   have hk:b.kind≠.early:=by have:b.kind=.normal:=hB.top.kind;rw[this];simp
   refine⟨_,cs,u1,σ,w1,_,stepG_none ho hw hk hrun,⟨h3,h4,h5,h6,h7,fun e he=>?_,?_,fun f hf=>⟨(hB.low f hf).1.mono h3.le,(hB.low f hf).2⟩,h9⟩,?_⟩
   ·have he':=mem_seen he;unfold Sem.events at he';rw[Df,h1]at he';exact BA (hB.clear.went h3) (fun y b AF=>(h4.lt y b AF).2) (h8 e he')
   ·rw[hd];have hm:=hB.top.mono h3.le;exact⟨hm.tmps,hm.kind,hm.known⟩
   ·rw[hd];exact c b k cs hb KM hf hop
theorem FO.unwanted{d:Nat}(ho:ops[i]? =some o)(hw:Region.wanted o (yielded ops a.tmps)=false)(hd:o.dst=some d)(c:FO Lf f0 dn P ops Q rest (a.put (some d) undef) u):FO Lf f0 dn P ops Q (i::rest) a u:=fun b k cs hb KM hf hop=>by
 haveI:aB:=aC []
 refine .ctl (bT:=b.at (a.put (some d) undef) (.inRegion ops rest::k)) (fun _=>by rw[<-hd];exact stepG_unwanted ho hw) (fun ρ hx=>nH hx fun _=>cK ρ) (c b k cs hb KM hf hop)
theorem FO.blind{d:Nat}{v:Value}(ho:ops[i]? =some o)(hw:Region.wanted o (yielded ops a.tmps)=true)(hd:o.dst=some d)(hr:∀w,(execOp a.eval o).run P w=.ok (.value v) w)(he:∀w,(execOp a.eval o).events P w #[]=#[])(hv:d∈Lf f0\/∀ρ,VR ρ v v)(c:FO Lf f0 dn P ops Q rest (a.put (some d) v) u):FO Lf f0 dn P ops Q (i::rest) a u:=fun b k cs hb KM hf hop=>by
 haveI:aB:=aC []
 exact .one fun Shun S ρ gs w t q hB hV=>by
  have hk:b.kind≠.early:=by have:b.kind=.normal:=hB.top.kind;rw[this];simp
  refine⟨_,cs,u,ρ,w,_,stepG_value ho hw hk (hr w),⟨.refl ρ w,hB.world,hB.whole,hB.same,hB.size,fun e hx=>?_,?_,hB.low,hB.full⟩,?_⟩
  ·have he':=mem_seen hx;rw[he]at he';simp at he'
  ·rw[hd];exact nH hB.top (fun hn=>hv.elim (fun h=>absurd (show d∈Lf b.fn from hb▸h) hn) fun h=>h ρ)
  ·rw[hd];exact c b k cs hb KM hf hop
theorem FO.ZU{d wb:Nat}{v:Value}{ob:Obj}(zo:aR.Sz wb=some ob)(ho:ops[i]? =some o)(hw:Region.wanted o (yielded ops a.tmps)=true)(hd:o.dst=some d)(hr:∀w,w.heap[wb]? =some ob->(execOp a.eval o).run P w=.ok (.value v) w)(he:∀w,w.heap[wb]? =some ob->∀e∈(execOp a.eval o).events P w #[],∃ad:Addr,e.loc=.cell ad/\ad.block=wb)(hv:∀ρ,VR ρ v v)(c:FO Lf f0 dn P ops Q rest (a.put (some d) v) u):FO Lf f0 dn P ops Q (i::rest) a u:=fun b k cs hb KM hf hop=>by
 haveI:aB:=aC []
 exact .one fun Shun S ρ gs w t q hB hV=>by
  have hk:b.kind≠.early:=by have:b.kind=.normal:=hB.top.kind;rw[this];simp
  obtain⟨v1,v2,v3⟩:=hV wb ob zo;refine⟨_,cs,u,ρ,w,_,stepG_value ho hw hk (hr w v2),⟨.refl ρ w,hB.world,hB.whole,hB.same,hB.size,fun e hx=>?_,?_,hB.low,hB.full⟩,?_⟩
  ·obtain⟨ad,h1,h2⟩:=he w v2 e (mem_seen hx);obtain⟨loc,wr,sy⟩:=e;obtain rfl:loc=.cell ad:=h1;refine⟨fun x hx hs=>?_,⟨by simp[MemAct.ofEvent],by simp[MemAct.ofEvent]⟩,?_⟩
   ·simp[MemAct.ofEvent,MemAct.touch?]at hx;subst hx;exact v3 ad h2 hs
   ·show ad.block<w.heap.size;rw[h2];exact(Array.getElem?_eq_some_iff.1 v2).1
  ·rw[hd];exact nH hB.top (fun _=>hv ρ)
  ·rw[hd];exact c b k cs hb KM hf hop
theorem FO.call{d:Nat}{t0:Tmp}(hT:Fit P l)(hdn:aR.depth=dn+1)(ho:ops[i]? =some o)(hw:Region.wanted o (yielded ops a.tmps)=true){f:FuncId}{fn:Func}{body:Code}{args:Array Operand}{ats:Array TypeId}(hop:o.op=.call {callee:=.value (.func f),args,argTypes:=ats}) (hd:o.dst=some d) (hfn:P.funcs[f]? =some fn) (hname:(fn.name== "runtime.NumGoroutine")=false) (hbd:fn.body=some body) (hkn:aR.known f) (hres:fn.results=#[.tmp t0]) (hargs:args.all (bF l)=true) (Df:args.map a.eval=args.map (lM (Lf f0) a).eval)
  (c:bG P f (args.map a.eval) u fun e u'=>∃v,e=.returned v/\FO Lf f0 dn P ops Q rest (a.put (some d) v) u'):FO Lf f0 dn P ops Q (i::rest) a u:=fun b k cs hb dw hf gO Shun S ρ gs w sl t q hB hV=>by
 haveI:aB:=aC []
 have FU:fn.body.isNone=false:=by rw[hbd];rfl
 have qb:∀v,(b.at a (.inRegion ops (i::rest)::k)).finish v=b.at (a.put (some d) v) (.inRegion ops rest::k):=by intro v;rw[Frame.finish_at,ho];show b.at (a.put o.dst v) _=_;rw[hd]
 have hk:b.kind≠.early:=by have:b.kind=.normal:=hB.top.kind;rw[this];simp
 have Eh:De ρ (Lf f0) (b.at a (.inRegion ops (i::rest)::k)):=hb▸hB.top;have Vu:=wq (a:=a) (L:=Lf f0) Eh.tmps
 obtain⟨N1,bT,bV,w1,gX,Gm,t1,q1,⟨rfl,rfl,d1,rfl⟩,r1,r2,r3,r4,r5⟩:=step0 (K:=fun bT bV w1=>bT=Frame.enter P f (args.map a.eval) .normal/\bV=b.at a (.inRegion ops (i::rest)::k)::cs/\∃d,w1=w.at d) (Shun:=Shun) (sumTo gs.size q+1) gs w sl t q (by omega) hB.Bb hB.bK hB.past hB.wL fun d'=>⟨_,_,w.at d',_,stepG_enter ho hw hk (run_call_body hop hfn hname FU),Nat.le_refl _,fun e he=>by have he':=mem_seen he;rw[events_call_body hop hfn hname FU]at he';simp at he',rfl,rfl,d',rfl⟩
 have hN:eP P Shun S (Frame.enter P f (args.map a.eval) .normal) (b.at a (.inRegion ops (i::rest)::k)::cs) u ρ gX (w.at d1) t1 q1:=by
  refine⟨r2,wF hfn hbd hkn (by rw[Df];exact CY hT Vu hargs),⟨by rw[hdn,<-dw];simp,fun g hg=>?_,fun j g hg hl=>?_⟩,hB.world.at d1,hB.whole,r3,r4,hB.clear,hB.same,hB.size,r5,hB.full⟩
  ·rcases List.mem_cons.1 hg with rfl|hg
   ·rfl
   ·exact(hB.low g hg).2
  ·rw[hdn]at hl;simp at hl;omega
 obtain⟨N2,rN,S2,MK,uF,AA,u2,Pn,w2,Sf,t2,q2,k1,⟨rfl,Ho,e,he,⟨v,rfl,Vk⟩,l1,l2,l3,fn',l4,l5⟩,k3,k4,k5⟩:=c (b.at a (.inRegion ops (i::rest)::k)::cs) Shun S ρ gX (w.at d1) Gm t1 q1 hN (hV.at d1);rw[Ho,hfn]at l4;cases l4
 have hv:v=uF.tmps.getD t0 undef:=by
  have:(results fn uF.tmps).run P u2=.ok (uF.tmps.getD t0 undef) u2:=by simp[results,hres]
  rw[this]at l5;cases l5;rfl
 have ZF:VR MK v v:=hv▸pS k3.top.tmps t0;have hle:ρ.le MK:=k4.le
 obtain⟨N3,fr3,cs,w3,gs3,sl3,t3,q3,⟨rfl,rfl,d3,rfl⟩,m1,m2,m3,m4,m5⟩:=step0 (K:=fun fr3 cs3 w3=>fr3=b.at (a.put (some d) v) (.inRegion ops rest::k)/\cs3=cs/\∃d,w3=w2.at d) (Shun:=rN) (sumTo Pn.size q2+1) Pn w2 Sf t2 q2 (by omega) k3.Bb k3.bK k3.past k3.wL fun d'=>⟨_,_,w2.at d',_,gS (v:=v) (w1:=w2.at d') (x:=#[]) l1 l2 l3 (by rw[Ho];exact hfn) (by
   have e1:(results fn uF.tmps).run P (w2.at d')=.ok v (w2.at d'):=by simp[results,hres,hv]
   have e2:(results fn uF.tmps).events P (w2.at d') #[]=#[]:=events_results_tmp hres _ _;unfold Sem.events at e2;rw[<-Sem.runT_fst P _ (w2.at d') #[]]at e1;exact Prod.ext e1 e2),Nat.le_refl _,fun e he=>by
   have:=mem_seen he;simp at this,qb v,rfl,d',rfl⟩
 obtain⟨N4,TI,S4,ρ4,fr4,cs4,u4,gs4,w4,sl4,t4,q4,n1,n2,n3,n4,n5⟩:=Vk b k cs hb dw hf gO rN S2 MK gs3 (w2.at d3) sl3 t3 q3
  ⟨m2,by show De MK (Lf b.fn) _;rw[hb];exact nH (Eh.mono hle) (fun _=>ZF),fun g hg=>⟨(hB.low g hg).1.mono hle,(hB.low g hg).2⟩,k3.world.at d3,k3.whole,m3,m4,k3.clear,k3.same,k3.size,m5,k3.full⟩ ((((hV.at d1).went k4 k5)).at d3)
 refine⟨N1+(N2+(N3+N4)),TI,S4,ρ4,fr4,cs4,u4,gs4,w4,sl4,t4,q4,?_,n2,n3,(((eR.refl ρ w).at d1).trans k4).trans (((eR.refl MK w2).at d3).trans n4),fun ad h=>?_⟩
 ·rw[gH r1,gH k1,gH m1];exact n1
 ·rcases n5 ad h with h|h
  ·exact k5 ad h
  ·exact .inr (Nat.le_trans k4.size h)
def iw(Lf:FuncId->List Nat)(P:Program)(dn:Nat)(f:FuncId)(args:Array Value)(u:World)(R:Ending->World->Prop):Prop:=
 ∀(cs:List Frame),cs.length=dn->cC Lf P (fun fr cs' u'=>cs'=cs/\fr.fn=f/\∃e,e≠.outgrown/\R e u'/\fr.leaving P u' e) (Frame.enter P f args .normal) cs u
theorem iw.mono{f:FuncId}{args:Array Value}{R R':Ending->World->Prop}(h:iw Lf P dn f args u R)(hr:∀e u,R e u->R' e u):iw Lf P dn f args u R':=fun cs hc=>
 (h cs hc).mono fun fr cs' u' ⟨h1,h2,e,h3,h4,h5⟩=>⟨h1,h2,e,h3,hr e u' h4,h5⟩
theorem FO.TN{d:Nat}{t0:Tmp}(ho:ops[i]? =some o)(hw:Region.wanted o (yielded ops a.tmps)=true){f:FuncId}{fn:Func}{body:Code}{args:Array Operand}{ats:Array TypeId}(hop:o.op=.call {callee:=.value (.func f),args,argTypes:=ats}) (hd:o.dst=some d) (hfn:P.funcs[f]? =some fn) (hname:(fn.name== "runtime.NumGoroutine")=false) (hbd:fn.body=some body) (hkn:aR.known f) (hres:fn.results=#[.tmp t0]) (Xo:t0∉Lf f) (hx:∀ρ (j:Nat) v,(Frame.enter P f (args.map a.eval) .normal).tmps[j]? =some v->j∉Lf f->VR ρ v v)
  (c:iw Lf P (dn+1) f (args.map a.eval) u fun e u'=>∃v,e=.returned v/\FO Lf f0 dn P ops Q rest (a.put (some d) v) u'):FO Lf f0 dn P ops Q (i::rest) a u:=fun b k cs hb dw hf gO=>by
 haveI:aB:=aC []
 have FU:fn.body.isNone=false:=by rw[hbd];rfl
 have qb:∀v,(b.at a (.inRegion ops (i::rest)::k)).finish v=b.at (a.put (some d) v) (.inRegion ops rest::k):=by intro v;rw[Frame.finish_at,ho];show b.at (a.put o.dst v) _=_;rw[hd]
 refine .one fun Shun S ρ gs w t q hB _=>?_
 have hk:b.kind≠.early:=by have:b.kind=.normal:=hB.top.kind;rw[this];simp
 refine⟨Frame.enter P f (args.map a.eval) .normal,b.at a (.inRegion ops (i::rest)::k)::cs,u,ρ,w,_,stepG_enter ho hw hk (run_call_body hop hfn hname FU),⟨.refl ρ w,hB.world,hB.whole,hB.same,hB.size,fun e he=>?_,⟨hx ρ,rfl,hkn⟩,fun g hg=>?_,hB.full⟩,(c (b.at a (.inRegion ops (i::rest)::k)::cs) (by simp[dw])).bind ?_⟩
 ·have he':=mem_seen he;rw[events_call_body hop hfn hname FU]at he';simp at he'
 ·rcases List.mem_cons.1 hg with rfl|hg
  ·exact⟨hB.top,rfl⟩
  ·exact hB.low g hg
 ·rintro fr cs' u' ⟨rfl,Ho,e,_,⟨v,rfl,Vk⟩,l1,l2,l3,fn',l4,l5⟩;rw[Ho,hfn]at l4;cases l4
  have hv:v=fr.tmps.getD t0 undef:=by
   have:(results fn fr.tmps).run P u'=.ok (fr.tmps.getD t0 undef) u':=by simp[results,hres]
   rw[this]at l5;cases l5;rfl
  refine .one fun Shun S ρ gs w t q hB _=>?_;have Xf:=hB.low (b.at a (.inRegion ops (i::rest)::k)) (List.mem_cons_self ..)
  have ZF:VR ρ v v:=by
   rw[hv];cases hx:fr.tmps[t0]? with
   |none=>
    have:fr.tmps.getD t0 undef=undef:=by simp[Array.getD_eq_getD_getElem?,hx]
    rw[this];exact cK ρ
   |some y=>
    have:fr.tmps.getD t0 undef=y:=by simp[Array.getD_eq_getD_getElem?,hx]
    rw[this];exact hB.top.tmps t0 y hx (by rw[Ho];exact Xo)
  refine⟨b.at (a.put (some d) v) (.inRegion ops rest::k),cs,u',ρ,w,seen P fr.fn #[],?_,⟨.refl ρ w,hB.world,hB.whole,hB.same,hB.size,fun e he=>?_,nH Xf.1 (fun _=>ZF),fun g hg=>hB.low g (List.mem_cons_of_mem _ hg),hB.full⟩,Vk b k cs hb dw hf gO⟩
  ·rw[<-qb v]
   exact gS (v:=v) (w1:=w) (x:=#[]) l1 l2 l3 (by rw[Ho];exact hfn) (by
    have e1:(results fn fr.tmps).run P w=.ok v w:=by simp[results,hres,hv]
    have e2:(results fn fr.tmps).events P w #[]=#[]:=events_results_tmp hres _ _;unfold Sem.events at e2;rw[<-Sem.runT_fst P _ w #[]]at e1;exact Prod.ext e1 e2)
  ·have:=mem_seen he;simp at this
theorem iw.PY{f:FuncId}{fn:Func}{c:Code}{args:Array Value}{R:Ending->World->Prop}(hf:P.funcs[f]? =some fn)(hb:fn.body=some c)
  (h:FX Lf f dn P c (fun e a u=>e=.ret/\a.defers=[]/\∃v,(results fn a.tmps).run P u=.ok v u/\R (.returned v) u) {tmps:=args++Array.replicate (fn.ntmps-args.size) undef,defers:=[]} u):iw Lf P dn f args u R:=fun cs dw=>by
 haveI:aB:=aC []
 rw[enter_at args hf hb];refine(h (base f) [] cs rfl dw trivial fun id ⟨a,u,hq,_⟩=>by cases hq).mono ?_;rintro fr cs' u' ⟨e,a',⟨rfl,hd,v,hr,hv⟩,⟨todo,rfl⟩,rfl⟩;exact⟨rfl,rfl,.returned v,by simp,hv,rfl,hd,rfl,fn,hf,hr⟩
end
end
section
open Go.Proofs.Tryz
open Go Go.Conc Go.RowKit
open Go.ConcN (sumTo)
attribute [local go_sem ↓] Go.wp_at_zero Go.wp_at_succ
section
variable [aR] {l:List FuncId} {Q:Exit->Act->World->Prop} {a:Act} {u u1:World} {ops:Array Oper} {i d k k1 k2:Nat} {rest:List Nat} {o:Oper} {Lf:FuncId->List Nat} {f0:FuncId} {dn:Nat} {v:Value} {x y:Int}
def dU(ops:Array Oper)(a:Act)(o:Oper):Prop:=Region.wanted o (yielded ops a.tmps)=true
theorem wants(hg:o.guard=none):dU ops a o:=by simp[dU,Region.wanted,hg]
theorem gK{j p:Nat}{oj:Oper}{b:Bool}(hg:o.guard=some (j,b))(hj:ops[j]? =some oj)(Za:oj.dst=some p)(hp:p<a.tmps.size)(hv:a.eval (.tmp p)=.bool b):dU ops a o:=by
 have h1:a.tmps[p]? =some (.bool b):=by have:a.tmps[p]? =some a.tmps[p]:=Array.getElem?_eq_getElem hp;rw[this];have h2:=ev hv;rw[this]at h2;exact congrArg some h2
 simp[dU,Region.wanted,hg,yielded,hj,Za,h1]
theorem lF{j p:Nat}{oj:Oper}{b:Bool}(hg:o.guard=some (j,b))(hj:ops[j]? =some oj)(Za:oj.dst=some p)(hp:p<a.tmps.size)(hv:a.eval (.tmp p)=.bool (!b)):Region.wanted o (yielded ops a.tmps)=false:=by
 have h1:a.tmps[p]? =some (.bool (!b)):=by have:a.tmps[p]? =some a.tmps[p]:=Array.getElem?_eq_getElem hp;rw[this];have h2:=ev hv;rw[this]at h2;exact congrArg some h2
 cases b<;>simp[Region.wanted,hg,yielded,hj,Za,h1]
theorem FO.mv(hT:Fit prog l)(ho:ops[i]? =some o)(hg:dU ops a o)(hd:o.dst=some d)(hop:o.op=.move (.tmp k))(hk:k∉Lf f0)(hv:a.eval (.tmp k)=v)(c:FO Lf f0 dn prog ops Q rest (a.put (some d) v) u):FO Lf f0 dn prog ops Q (i::rest) a u:=
 FO.own (u1:=u) hT ho hg hd (by rw[hop];rfl) (by unfold execOp;rw[hop];simp only[bw hk]) (fun τ=>by unfold execOp;rw[hop];simp[hv]) c
theorem FO.oW(hT:Fit prog l)(ho:ops[i]? =some o)(hg:dU ops a o)(hd:o.dst=some d)(hop:o.op=.assign (.tmp k))(hk:k∉Lf f0)(hv:a.eval (.tmp k)=v)(c:FO Lf f0 dn prog ops Q rest (a.put (some d) v) u):FO Lf f0 dn prog ops Q (i::rest) a u:=
 FO.own (u1:=u) hT ho hg hd (by rw[hop];rfl) (by unfold execOp;rw[hop];simp only[bw hk]) (fun τ=>by unfold execOp;rw[hop];simp[hv]) c
theorem FO.Qq(hT:Fit prog l)(ho:ops[i]? =some o)(hg:dU ops a o)(hd:o.dst=some d)(hop:o.op=.assign (.const v))(hok:okB prog l (.assign (.const v))=true)(c:FO Lf f0 dn prog ops Q rest (a.put (some d) v) u):FO Lf f0 dn prog ops Q (i::rest) a u:=
 FO.own (u1:=u) hT ho hg hd (by rw[hop];exact hok) (by unfold execOp;rw[hop];rfl) (fun τ=>by unfold execOp;rw[hop];rfl) c
theorem FO.not(hT:Fit prog l){b:Bool}(ho:ops[i]? =some o)(hg:dU ops a o)(hd:o.dst=some d)(hop:o.op=.unOp .not 4 (.tmp k))(hk:k∉Lf f0)(hv:a.eval (.tmp k)=.bool b)(c:FO Lf f0 dn prog ops Q rest (a.put (some d) (.bool !b)) u):FO Lf f0 dn prog ops Q (i::rest) a u:=
 FO.own (u1:=u) hT ho hg hd (by rw[hop];rfl) (by unfold execOp;rw[hop];simp only[bw hk]) (fun τ=>by unfold execOp;rw[hop];dsimp only;rw[hv];go_simp) c
theorem FO.pick(hT:Fit prog l){b:Bool}{p q:Operand}(ho:ops[i]? =some o)(hg:dU ops a o)(hd:o.dst=some d)(hop:o.op=.pick (.tmp k) p q)(hok:okB prog l (.pick (.tmp k) p q)=true)(hk:k∉Lf f0)(hp:(lM (Lf f0) a).eval p=a.eval p)(hq:(lM (Lf f0) a).eval q=a.eval q)(hv:a.eval (.tmp k)=.bool b)(he:(if b then a.eval p else a.eval q)=v)(c:FO Lf f0 dn prog ops Q rest (a.put (some d) v) u):FO Lf f0 dn prog ops Q (i::rest) a u:=
 FO.own (u1:=u) hT ho hg hd (by rw[hop];exact hok) (by unfold execOp;rw[hop];simp only[bw hk,hp,hq]) (fun τ=>by unfold execOp;rw[hop];dsimp only;rw[hv,<-he];cases b<;>rfl) c
theorem FO.Yo(hT:Fit prog l)(ho:ops[i]? =some o)(hg:dU ops a o)(hd:o.dst=some d)(hop:o.op=.binOp .geq 3 (.tmp k) (.const (.int .i64 y)) 3)(hk:k∉Lf f0)(hv:a.eval (.tmp k)=.int .i64 x)(c:FO Lf f0 dn prog ops Q rest (a.put (some d) (.bool (decide (y<=x)))) u):FO Lf f0 dn prog ops Q (i::rest) a u:=
 FO.own (u1:=u) hT ho hg hd (by rw[hop];kernel_rfl) (by unfold execOp;rw[hop];simp only[bw hk];rfl) (fun τ=>by have hv':=ev hv;unfold execOp;rw[hop];go_simp) c
theorem FO.lss(hT:Fit prog l)(ho:ops[i]? =some o)(hg:dU ops a o)(hd:o.dst=some d)(hop:o.op=.binOp .lss 3 (.tmp k1) (.tmp k2) 3)(h1:k1∉Lf f0)(h2:k2∉Lf f0)(PO:a.eval (.tmp k1)=.int .i64 x)(PR:a.eval (.tmp k2)=.int .i64 y)(c:FO Lf f0 dn prog ops Q rest (a.put (some d) (.bool (decide (x<y)))) u):FO Lf f0 dn prog ops Q (i::rest) a u:=
 FO.own (u1:=u) hT ho hg hd (by rw[hop];kernel_rfl) (by unfold execOp;rw[hop];simp only[bw h1,bw h2]) (fun τ=>by have hv':=ev PO;have Vt:=ev PR;unfold execOp;rw[hop];go_simp) c
theorem FO.gtr(hT:Fit prog l)(ho:ops[i]? =some o)(hg:dU ops a o)(hd:o.dst=some d)(hop:o.op=.binOp .gtr 3 (.tmp k1) (.tmp k2) 3)(h1:k1∉Lf f0)(h2:k2∉Lf f0)(PO:a.eval (.tmp k1)=.int .i64 x)(PR:a.eval (.tmp k2)=.int .i64 y)(c:FO Lf f0 dn prog ops Q rest (a.put (some d) (.bool (decide (y<x)))) u):FO Lf f0 dn prog ops Q (i::rest) a u:=
 FO.own (u1:=u) hT ho hg hd (by rw[hop];kernel_rfl) (by unfold execOp;rw[hop];simp only[bw h1,bw h2]) (fun τ=>by have hv':=ev PO;have Vt:=ev PR;unfold execOp;rw[hop];go_simp) c
theorem FO.incr(hT:Fit prog l)(ho:ops[i]? =some o)(hg:dU ops a o)(hd:o.dst=some d)(hop:o.op=.binOp .add 3 (.tmp k) (.const (.int .i64 1)) 3)(hk:k∉Lf f0)(hv:a.eval (.tmp k)=.int .i64 x)(hx:-9223372036854775808<=x/\x<9223372036854775807)(c:FO Lf f0 dn prog ops Q rest (a.put (some d) (.int .i64 (x+1))) u):FO Lf f0 dn prog ops Q (i::rest) a u:=
 FO.own (u1:=u) hT ho hg hd (by rw[hop];kernel_rfl) (by unfold execOp;rw[hop];simp only[bw hk];rfl) (fun τ=>by have hv':=ev hv;have hw:IntKind.i64.wrap (x+1)=x+1:=lH (by omega) (by omega);unfold execOp;rw[hop];go_simp) c
theorem FO.Uk{p:Value}{t j:Nat}(hT:Fit prog l)(ho:ops[i]? =some o)(hg:dU ops a o)(hd:o.dst=some d)(hop:o.op=.fieldAddr t (.tmp k) j)(hok:okB prog l (.fieldAddr t (.tmp k) j)=true)(hk:k∉Lf f0)(hv:a.eval (.tmp k)=p)(hr:∀w,(Instr.fieldAt t p j).run prog w=.ok v w)(c:FO Lf f0 dn prog ops Q rest (a.put (some d) v) u):FO Lf f0 dn prog ops Q (i::rest) a u:=
 FO.own (u1:=u) hT ho hg hd (by rw[hop];exact hok) (by unfold execOp;rw[hop];simp only[bw hk]) (fun τ=>by unfold execOp;rw[hop];simp[hv,hr]) c
theorem FO.ld{p:Value}{t:Nat}(hT:Fit prog l)(ho:ops[i]? =some o)(hg:dU ops a o)(hd:o.dst=some d)(hop:o.op=.load t (.tmp k))(hk:k∉Lf f0)(hv:a.eval (.tmp k)=p)(hr:∀τ,(Instr.loadAt t p).run prog (u.tp τ)=.ok v (u.tp τ))(c:FO Lf f0 dn prog ops Q rest (a.put (some d) v) u):FO Lf f0 dn prog ops Q (i::rest) a u:=
 FO.own (u1:=u) hT ho hg hd (by rw[hop];rfl) (by unfold execOp;rw[hop];simp only[bw hk]) (fun τ=>by unfold execOp;rw[hop];simp[hv,hr]) c
theorem FO.WA{parts:Array (Nat×Operand)}{t:Nat}(hT:Fit prog l)(ho:ops[i]? =some o)(hg:dU ops a o)(hd:o.dst=some d)(hop:o.op=.build t parts)(hok:okB prog l (.build t parts)=true)(hp:(parts.map fun(q:Nat×Operand)=>(q.1,(lM (Lf f0) a).eval q.2))=parts.map fun(q:Nat×Operand)=>(q.1,a.eval q.2))(hr:∀w,(Instr.build t (parts.map fun(q:Nat×Operand)=>(q.1,a.eval q.2))).run prog w=.ok v w)(c:FO Lf f0 dn prog ops Q rest (a.put (some d) v) u):FO Lf f0 dn prog ops Q (i::rest) a u:=
 FO.own (u1:=u) hT ho hg hd (by rw[hop];exact hok) (by
  unfold execOp;rw[hop];dsimp only;rw[hp]) (fun τ=>by
  unfold execOp;rw[hop];dsimp only;rw[Sem.run_bind,hr];rfl) c
theorem FO.box{p:Value}{t:Nat}{ob:Obj}(hT:Fit prog l)(ho:ops[i]? =some o)(hg:dU ops a o)(hd:o.dst=some d)(hop:o.op=.box t (.tmp k))(hk:k∉Lf f0)(hv:a.eval (.tmp k)=p)(hr:∀w:World,(Instr.box t p).run prog w=.ok (pt w.heap.size) (w.alloc ob))(c:FO Lf f0 dn prog ops Q rest (a.put (some d) (pt u.heap.size)) (u.alloc ob)):FO Lf f0 dn prog ops Q (i::rest) a u:=
 FO.own (u1:=u.alloc ob) hT ho hg hd (by rw[hop];rfl) (by unfold execOp;rw[hop];simp only[bw hk]) (fun τ=>by unfold execOp;rw[hop];dsimp only;rw[hv,Sem.run_bind,hr];rfl) c
theorem FO.new{t:Nat}{ob:Obj}(hT:Fit prog l)(ho:ops[i]? =some o)(hg:dU ops a o)(hd:o.dst=some d)(hop:o.op=.alloc t)(hr:∀w:World,(Instr.alloc t true (.tuple #[])).run prog w=.ok (pt w.heap.size) (w.alloc ob))(c:FO Lf f0 dn prog ops Q rest (a.put (some d) (pt u.heap.size)) (u.alloc ob)):FO Lf f0 dn prog ops Q (i::rest) a u:=
 FO.own (u1:=u.alloc ob) hT ho hg hd (by rw[hop];rfl) (by unfold execOp;rw[hop]) (fun τ=>by unfold execOp;rw[hop];dsimp only;rw[Sem.run_bind,hr];rfl) c
theorem FO.sto{p z:Value}{t:Nat}(hT:Fit prog l)(ho:ops[i]? =some o)(hg:dU ops a o)(hd:o.dst=none)(hop:o.op=.store t (.tmp k1) (.tmp k2))(h1:k1∉Lf f0)(h2:k2∉Lf f0)(PO:a.eval (.tmp k1)=p)(PR:a.eval (.tmp k2)=z)(hr:∀τ,(Instr.storeAt t p z).run prog (u.tp τ)=.ok () (u1.tp τ))(c:FO Lf f0 dn prog ops Q rest a u1):FO Lf f0 dn prog ops Q (i::rest) a u:=
 FO.void (u1:=u1) hT ho hg hd (by rw[hop];rfl) (by unfold execOp;rw[hop];simp only[bw h1,bw h2]) (fun τ=>by unfold execOp;rw[hop];dsimp only;rw[PO,PR,Sem.run_bind,hr];rfl) c
theorem FO.ZN(ho:ops[i]? =some o)(hg:dU ops a o)(hd:o.dst=some d)(hop:o.op=.move (.tmp k))(hk:d∈Lf f0)(hv:a.eval (.tmp k)=v)(c:FO Lf f0 dn prog ops Q rest (a.put (some d) v) u):FO Lf f0 dn prog ops Q (i::rest) a u:=
 FO.blind ho hg hd (fun w=>by unfold execOp;rw[hop];simp[hv]) (fun w=>by unfold execOp;rw[hop];simp) (.inl hk) c
theorem FO.len{ad:Option Addr}{n c0:Nat}(ho:ops[i]? =some o)(hg:dU ops a o)(hd:o.dst=some d)(hop:o.op=.call {callee:=.builtin .len,args:=#[.tmp k],argTypes:=#[22]}) (hv:a.eval (.tmp k)=.slice ad n c0) (c:FO Lf f0 dn prog ops Q rest (a.put (some d) (.int .i64 n)) u):FO Lf f0 dn prog ops Q (i::rest) a u:=
 FO.blind ho hg hd (fun w=>by
  have hv':=ev hv;unfold execOp;rw[hop];go_simp) (fun w=>by
  have hv':=ev hv;unfold execOp;rw[hop];go_simp) (.inr fun ρ=>.int _ _) c
theorem FO.idx{ad:Addr}{n c0:Nat}(ho:ops[i]? =some o)(hg:dU ops a o)(hd:o.dst=some d)(hop:o.op=.indexAddr 22 (.tmp k1) (.tmp k2))(hk:d∈Lf f0){j:Nat}(hj:j<n)(PO:a.eval (.tmp k1)=.slice (some ad) n c0)(PR:a.eval (.tmp k2)=.int .i64 j)(c:FO Lf f0 dn prog ops Q rest (a.put (some d) (.pointer (some (ad.add (j*15))))) u):FO Lf f0 dn prog ops Q (i::rest) a u:=by
 have hj':0<=(j:Int)/\(j:Int)<(n:Int):=by omega
 exact FO.blind ho hg hd (fun w=>by
  have hv':=ev PO;have Vt:=ev PR;unfold execOp;rw[hop];go_simp) (fun w=>by
  unfold execOp;rw[hop];dsimp only;rw[PO,PR];have:=events_indexAt_slice (P:=prog) (w:=w) (es:=#[]) 22 ad n c0 .i64 j (by kernel_rfl) hj';simp[this]) (.inl hk) c
theorem FO.see{ad:Addr}{t x wb:Nat}{ob:Obj}{vs:Array Value}(zo:aR.Sz wb=some ob)(Df:∀w,(isAgg t).run prog w=.ok true w)(hz:∀w,(sizeOf t).run prog w=.ok x w)(MR:∀w es,(isAgg t).events prog w es=es)(ho:ops[i]? =some o)(hg:dU ops a o)(hd:o.dst=some d)(hop:o.op=.load t (.tmp k))(hv:a.eval (.tmp k)=.pointer (some ad))(hb:ad.block=wb)(hs:vs.size=x)(hc:∀w:World,w.heap[wb]? =some ob->∀j,(h:j<vs.size)->w.cell? (ad.add j)=some vs[j])(hr:∀w:World,w.heap[wb]? =some ob->(loadCells ad x).run prog w=.ok vs w)(hvs:∀ρ,VR ρ (.agg vs) (.agg vs))(c:FO Lf f0 dn prog ops Q rest (a.put (some d) (.agg vs)) u):FO Lf f0 dn prog ops Q (i::rest) a u:=by
 refine FO.ZU zo ho hg hd (fun w hw=>?_) (fun w hw e he=>?_) hvs c
 ·unfold execOp;rw[hop];dsimp only;rw[hv];simp[Instr.loadAt,Instr.sureAddr,loadVar,Df,hz,hr w hw]
 ·unfold execOp at he;rw[hop]at he;dsimp only at he;rw[hv]at he;simp[Instr.loadAt,Instr.sureAddr,loadVar,Df,hz,MR,hr w hw]at he;rcases events_loadCellsFrom_at ad (fun b=>b=wb) hb x 0 #[] w #[] (fun j hj=>by rw[Nat.zero_add,hc w hw j (by omega)];rfl) e he with h|⟨a',h1,h2,h3⟩
  ·simp at h
  ·exact⟨_,h1,h3⟩
end
end
end Go.Proofs.YtpobhljcainmdaaGreat
