/- Proved here: a part of what Doors keeps (Mir1, Mir2). -/
import Derived.Below
import Derived.WalkKit
set_option maxRecDepth 100000
set_option maxHeartbeats 8000000
set_option linter.all false
namespace Go.Proofs.YtpobhljcainmdaaGreat
section
open Go
class aR where
 ok:FuncId->Prop
 code:Code->Prop
 known:FuncId->Prop
 /-- how many frames at the bottom are walked by themselves -/
 depth:Nat
 /-- blocks that are only looked at there, and what they hold -/
 Sz:Nat->Option Obj
variable [aR]
abbrev Ren:=Nat->Nat->Prop
def Ren.le(ρ σ:Ren):Prop:=∀a b,ρ a b->σ a b
def Ren.one(ρ:Ren):Prop:=(∀a b b',ρ a b->ρ a b'->b=b')/\∀a a' b,ρ a b->ρ a' b->a=a'
def Ren.ext(ρ:Ren)(n n':Nat):Ren:=fun a b=>ρ a b\/(a=n/\b=n')
theorem Ren.le_refl(ρ:Ren):ρ.le ρ:=fun _ _ h=>h
theorem Ren.le_trans{ρ σ τ:Ren}(h:ρ.le σ)(k:σ.le τ):ρ.le τ:=fun a b x=>k a b (h a b x)
theorem Ren.Ej(ρ:Ren)(n n':Nat):ρ.le (ρ.ext n n'):=fun _ _ h=>.inl h
def AR(ρ:Ren)(a a':Addr):Prop:=ρ a.block a'.block/\a'.off=a.off/\a'.spot=a.spot
inductive FR(ρ:Ren):Fn->Fn->Prop
 |func (f:FuncId) (h:aR.ok f):FR ρ (.func f) (.func f)
 |yield {l l':Nat} (h:ρ l l'):FR ρ (.yield l) (.yield l')
inductive VR(ρ:Ren):Value->Value->Prop
 |bool (b:Bool):VR ρ (.bool b) (.bool b)
 |int (k:IntKind) (n:Int):VR ρ (.int k n) (.int k n)
 |string (s:ByteArray):VR ρ (.string s) (.string s)
 |jF:VR ρ (.pointer none) (.pointer none)
 |ptr {a a':Addr} (h:AR ρ a a'):VR ρ (.pointer (some a)) (.pointer (some a'))
 |bP (l c:Nat):VR ρ (.slice none l c) (.slice none l c)
 |slice {a a':Addr} (l c:Nat) (h:AR ρ a a'):VR ρ (.slice (some a) l c) (.slice (some a') l c)
 |nM:VR ρ (.map none) (.map none)
 |map {r r':Nat} (h:ρ r r'):VR ρ (.map (some r)) (.map (some r'))
 |jd:VR ρ (.chan none) (.chan none)
 |chan {r r':Nat} (h:ρ r r'):VR ρ (.chan (some r)) (.chan (some r'))
 |func {f f':Fn} {x x' y y':Array Value} (h:FR ρ f f') (hx:x'.size=x.size) (hxs:∀(i:Nat) v v',x[i]? =some v->x'[i]? =some v'->VR ρ v v') (hy:y'.size=y.size) (hys:∀(i:Nat) v v',y[i]? =some v->y'[i]? =some v'->VR ρ v v'):VR ρ (.func f x y) (.func f' x' y')
 |nilFunc:VR ρ .nilFunc .nilFunc
 |iface {v v':Value} (t:TypeId) (h:VR ρ v v'):VR ρ (.iface t v) (.iface t v')
 |nilIface:VR ρ .nilIface .nilIface
 |agg {x x':Array Value} (hx:x'.size=x.size) (hxs:∀(i:Nat) v v',x[i]? =some v->x'[i]? =some v'->VR ρ v v'):VR ρ (.agg x) (.agg x')
 |tuple {x x':Array Value} (hx:x'.size=x.size) (hxs:∀(i:Nat) v v',x[i]? =some v->x'[i]? =some v'->VR ρ v v'):VR ρ (.tuple x) (.tuple x')
theorem AR.mono{ρ σ:Ren}(h:ρ.le σ){a a':Addr}(k:AR ρ a a'):AR σ a a':=⟨h _ _ k.1,k.2⟩
theorem FR.mono{ρ σ:Ren}(h:ρ.le σ){f f':Fn}(k:FR ρ f f'):FR σ f f':=by
 cases k with
 |func f hf=>exact .func f hf
 |yield k=>exact .yield (h _ _ k)
theorem VR.mono{ρ σ:Ren}(h:ρ.le σ){v v':Value}(k:VR ρ v v'):VR σ v v':=by
 induction k with
 |bool b=>exact .bool b
 |int k n=>exact .int k n
 |string s=>exact .string s
 |jF=>exact .jF
 |ptr k=>exact .ptr (k.mono h)
 |bP l c=>exact .bP l c
 |slice l c k=>exact .slice l c (k.mono h)
 |nM=>exact .nM
 |map k=>exact .map (h _ _ k)
 |jd=>exact .jd
 |chan k=>exact .chan (h _ _ k)
 |func k hx _ hy _ ih1 ih2=>exact .func (k.mono h) hx ih1 hy ih2
 |nilFunc=>exact .nilFunc
 |iface t _ ih=>exact .iface t ih
 |nilIface=>exact .nilIface
 |agg hx _ ih=>exact .agg hx ih
 |tuple hx _ ih=>exact .tuple hx ih
def cF(ρ:Ren)(x x':Array Value):Prop:=x'.size=x.size/\∀(i:Nat) v v',x[i]? =some v->x'[i]? =some v'->VR ρ v v'
theorem cF.mono{ρ σ:Ren}(h:ρ.le σ){x x':Array Value}(k:cF ρ x x'):cF σ x x':=⟨k.1,fun i v v' a b=>(k.2 i v v' a b).mono h⟩
def AL(ρ:Ren)(x x':Array MapEntry):Prop:=x'.size=x.size/\∀(i:Nat) e e',x[i]? =some e->x'[i]? =some e'->VR ρ e.key e'.key/\VR ρ e.val e'.val/\e'.born=e.born
inductive OR(ρ:Ren):Obj->Obj->Prop
 |cells {x x':Array Value} (t:TypeId) (fz:Nat×Nat) (h:cF ρ x x'):OR ρ (.cells x t fz) (.cells x' t fz)
 |map {x x':Array MapEntry} (c:Nat) (h:AL ρ x x'):OR ρ (.map x c) (.map x' c)
 |chan (cap:Nat) (cl:Bool) (s r:Nat) (t:Bool):OR ρ (.chan cap #[] cl s r t) (.chan cap #[] cl s r t)
 |loop {l l':Loop} (h0:aR.known l.fn/\aR.code l.assign/\aR.code l.body/\∀c,l.pending=some c->aR.code c) (h1:l'.state=l.state) (h2:l'.pending=l.pending) (h3:l'.fn=l.fn) (h4:cF ρ l.tmps l'.tmps) (h5:l'.params=l.params) (h6:l'.assign=l.assign) (h7:l'.body=l.body) (h8:ρ l.defers l'.defers):OR ρ (.loop l) (.loop l')
 |eV:OR ρ (.deferred none) (.deferred none)
 |cy:OR ρ (.deferred (some [])) (.deferred (some []))
 |number {a a':Addr} (l:Bool) (h:AR ρ a a'):OR ρ (.number a l) (.number a' l)
theorem AL.mono{ρ σ:Ren}(h:ρ.le σ){x x':Array MapEntry}(k:AL ρ x x'):AL σ x x':=⟨k.1,fun i e e' a b=>⟨(k.2 i e e' a b).1.mono h,(k.2 i e e' a b).2.1.mono h,(k.2 i e e' a b).2.2⟩⟩
theorem OR.mono{ρ σ:Ren}(h:ρ.le σ){o o':Obj}(k:OR ρ o o'):OR σ o o':=by
 cases k with
 |cells t fz k=>exact .cells t fz (k.mono h)
 |map c k=>exact .map c (k.mono h)
 |chan cap cl s r t=>exact .chan cap cl s r t
 |loop h0 h1 h2 h3 h4 h5 h6 h7 h8=>exact .loop h0 h1 h2 h3 (h4.mono h) h5 h6 h7 (h _ _ h8)
 |eV=>exact .eV
 |cy=>exact .cy
 |number l k=>exact .number l (k.mono h)
@[simp] def qL:Halt->Prop
 |.stuck _=>True
 |.unsupported (.initOrder _)=>False
 |.unsupported _=>True
 |_=>False
def aV:Obj:=.coro none
def Calm(o:Option Obj):Prop:=∃x t fz,o=some (.cells x t fz)/\x.size≠0/\fz.2<=fz.1
structure WR(p:Program)(ρ:Ren)(w w':World):Prop where
 one:ρ.one
 lt:∀a b,ρ a b->a<w.heap.size/\b<w'.heap.size
 obj:∀a b o,ρ a b->w.heap[a]? =some o->o=aV\/∃o',w'.heap[b]? =some o'/\OR ρ o o'
 tape:∀i q,w'.tape (w'.drawn+i) q=w.tape (w.drawn+i) q
 low:∀a b,ρ a b->a<p.globals.size->b<p.globals.size
 base:p.globals.size<=w.heap.size
 calm:∀a b,ρ a b->w.heap[a]? =some aV->Calm w'.heap[b]?
 os:w'.os=w.os
abbrev Kn:=Nat->Prop
def Kn.and(K:Kn)(r:Nat):Kn:=fun x=>K x\/x=r
def Kn.le(K L:Kn):Prop:=∀r,K r->L r
def Good(P:Program)(ρ:Ren):Prop:=ρ.one/\∀a b,ρ a b->a<P.globals.size->b<P.globals.size
inductive SR(P:Program){α β:Type}(Q:Ren->α->β->Prop):Ren->Kn->Sem α->Sem β->Prop
 |pure {ρ:Ren} {K:Kn} {a:α} {b:β} (h:Q ρ a b):SR P Q ρ K (.pure a) (.pure b)
 |load {ρ:Ren} {K:Kn} {m:Mode} {a a':Addr} {k:Value->Sem α} {k':Value->Sem β} (ha:AR ρ a a') (h:∀v v',VR ρ v v'->SR P Q ρ (K.and a.block) (k v) (k' v')):SR P Q ρ K (.load m a k) (.load m a' k')
 |store {ρ:Ren} {K:Kn} {m:Mode} {a a':Addr} {v v':Value} {k:Sem α} {k':Sem β} (ha:AR ρ a a') (hv:VR ρ v v') (h:SR P Q ρ (K.and a.block) k k'):SR P Q ρ K (.store m a v k) (.store m a' v' k')
 |new {ρ:Ren} {K:Kn} {o o':Obj} {k:Nat->Sem α} {k':Nat->Sem β} (ho:OR ρ o o') (h:∀n n',SR P Q (ρ.ext n n') (K.and n) (k n) (k' n')):SR P Q ρ K (.new o k) (.new o' k')
 |shape {ρ:Ren} {K:Kn} {r r':Nat} {k:Option (TypeId×Nat)->Sem α} {k':Option (TypeId×Nat)->Sem β} (hr:ρ r r') (h:∀x,SR P Q ρ (K.and r) (k (some x)) (k' (some x))) (h0:K r->SR P Q ρ K (k none) (k' none)) (h1:¬K r->∃x,k none=.halt x/\qL x):SR P Q ρ K (.shape r k) (.shape r' k')
 |freeze {ρ:Ren} {K:Kn} {a a':Addr} {n:Nat} {k:Sem α} {k':Sem β} (ha:AR ρ a a') (hK:K a.block) (h:SR P Q ρ K k k'):SR P Q ρ K (.freeze a n k) (.freeze a' n k')
 |frozen {ρ:Ren} {K:Kn} {a a':Addr} {k:Bool->Sem α} {k':Bool->Sem β} (ha:AR ρ a a') (hK:K a.block) (h:∀b,SR P Q ρ K (k b) (k' b)):SR P Q ρ K (.frozen a k) (.frozen a' k')
 |getObj {ρ:Ren} {K:Kn} {r r':Nat} {k:Obj->Sem α} {k':Obj->Sem β} (hr:ρ r r') (h:∀o o',OR ρ o o'->SR P Q ρ (K.and r) (k o) (k' o')) (h0:∃x,k aV=.halt x/\qL x):SR P Q ρ K (.getObj r k) (.getObj r' k')
 |setObj {ρ:Ren} {K:Kn} {r r':Nat} {o o':Obj} {k:Sem α} {k':Sem β} (hr:ρ r r') (hK:K r) (ho:OR ρ o o') (h:SR P Q ρ K k k'):SR P Q ρ K (.setObj r o k) (.setObj r' o' k')
 |choose {ρ:Ren} {K:Kn} {q:Question} {k:Nat->Sem α} {k':Nat->Sem β} (h:∀n,SR P Q ρ K (k n) (k' n)):SR P Q ρ K (.choose q k) (.choose q k')
 |program {ρ:Ren} {K:Kn} {k:Program->Sem α} {k':Program->Sem β} (h:SR P Q ρ K (k P) (k' P)):SR P Q ρ K (.program k) (.program k')
 |env {ρ:Ren} {K:Kn} {k:SysRet->Sem α} {k':SysRet->Sem β} (h:∀r,SR P Q ρ K (k r) (k' r)):SR P Q ρ K (.sys .env k) (.sys .env k')
 |noRoom {ρ:Ren} {K:Kn} {k:Sem α} {k':Sem β} (h:SR P Q ρ K k k'):SR P Q ρ K (.mark .noRoom k) (.mark .noRoom k')
 |panic {ρ:Ren} {K:Kn} {v v':Value} (h:VR ρ v v'):SR P Q ρ K (.halt (.panic v)) (.halt (.panic v'))
 |lost {ρ:Ren} {K:Kn} {x:Halt} {s:Sem β} (h:qL x):SR P Q ρ K (.halt x) s
 |Bo {ρ:Ren} {K:Kn} {s:Sem α} {s':Sem β} (h:∀w,∃x w1,s.run P w=.halt x w1/\qL x):SR P Q ρ K s s'
 |assume {ρ:Ren} {K:Kn} {s:Sem α} {s':Sem β} (h:Good P ρ->SR P Q ρ K s s'):SR P Q ρ K s s'
 |number {ρ:Ren} {K:Kn} {r r':Nat} {k:Option (Addr×Bool)->Sem α} {k':Option (Addr×Bool)->Sem β} (hr:ρ r r') (h0:SR P Q ρ K (k none) (k' none)) (h1:∀a a' l,AR ρ a a'->SR P Q ρ (K.and r) (k (some (a,l))) (k' (some (a',l)))):SR P Q ρ K ((numberAt r).bind k) ((numberAt r').bind k')
 |Ts {ρ:Ren} {K:Kn} {a a':Addr} {k:Bool->Sem α} {k':Bool->Sem β} (ha:AR ρ a a') (h:∀b,SR P Q ρ K (k b) (k' b)):SR P Q ρ K (.frozen a k) (.frozen a' k')
 |VB {ρ:Ren} {K:Kn} {a a' b b':Addr} {k:Bool->Sem α} {k':Bool->Sem β} (ha:AR ρ a a') (hb:AR ρ b b') (h:∀x,SR P Q ρ K (k x) (k' x)):SR P Q ρ K ((mayBeOne a b).bind k) ((mayBeOne a' b').bind k')
 |view {ρ:Ren} {K:Kn} {r r':Nat} {k:Option (Addr×TypeId)->Sem α} {k':Option (Addr×TypeId)->Sem β} (hr:ρ r r') (h0:SR P Q ρ K (k none) (k' none)):SR P Q ρ K ((viewAt r).bind k) ((viewAt r').bind k')
theorem SR.bind{P:Program}{α β γ δ:Type}{Q:Ren->α->β->Prop}{R:Ren->γ->δ->Prop}{ρ:Ren}{K:Kn}{s:Sem α}{s':Sem β}{f:α->Sem γ}{f':β->Sem δ}(h:SR P Q ρ K s s')
  (hf:∀σ L a b,ρ.le σ->K.le L->Q σ a b->SR P R σ L (f a) (f' b)):SR P R ρ K (s.bind f) (s'.bind f'):=by
 have up:∀{K L:Kn} {r:Nat},(K.and r).le L->K.le L:=fun h x hx=>h x (.inl hx);induction h with
 |pure h=>exact hf _ _ _ _ (Ren.le_refl _) (fun _ h=>h) h
 |load ha _ ih=>exact .load ha fun v v' hv=>ih v v' hv fun σ L a b h1 h2 h3=>hf σ L a b h1 (up h2) h3
 |store ha hv _ ih=>exact .store ha hv (ih fun σ L a b h1 h2 h3=>hf σ L a b h1 (up h2) h3)
 |new ho _ ih=>exact .new ho fun n n'=>ih n n' fun σ L a b h1 h2 h3=>hf σ L a b (Ren.le_trans (Ren.Ej _ _ _) h1) (up h2) h3
 |shape hr _ _ h1 ih xR=>
  refine .shape hr (fun x=>ih x fun σ L a b h1 h2 h3=>hf σ L a b h1 (up h2) h3) (fun hk=>xR hk hf) (fun hk=>?_);obtain⟨x,hx,zu⟩:=h1 hk;exact⟨x,by rw[hx];rfl,zu⟩
 |freeze ha hK _ ih=>exact .freeze ha hK (ih hf)
 |frozen ha hK _ ih=>exact .frozen ha hK fun b=>ih b hf
 |getObj hr _ h0 ih=>
  obtain⟨x,hx,zu⟩:=h0;exact .getObj hr (fun o o' ho=>ih o o' ho fun σ L a b h1 h2 h3=>hf σ L a b h1 (up h2) h3) ⟨x,by rw[hx];rfl,zu⟩
 |setObj hr hK ho _ ih=>exact .setObj hr hK ho (ih hf)
 |choose _ ih=>exact .choose fun n=>ih n hf
 |program _ ih=>exact .program (ih hf)
 |env _ ih=>exact .env fun r=>ih r hf
 |noRoom _ ih=>exact .noRoom (ih hf)
 |panic h=>exact .panic h
 |lost h=>exact .lost h
 |Bo h=>
  refine .Bo fun w=>?_;obtain⟨x,w1,e,hx⟩:=h w;refine⟨x,w1,?_,hx⟩;rw[Sem.run_bind',e];rfl
 |assume _ ih=>exact .assume fun g=>ih g hf
 |number hr _ _ xR ih1=>
  rw[Sem.bind_assoc',Sem.bind_assoc'];exact .number hr (xR hf) fun a a' l ha=>ih1 a a' l ha fun σ L a b h1 h2 h3=>hf σ L a b h1 (up h2) h3
 |Ts ha _ ih=>exact .Ts ha fun b=>ih b hf
 |VB ha hb _ ih=>
  rw[Sem.bind_assoc',Sem.bind_assoc'];exact .VB ha hb fun x=>ih x hf
 |view hr _ xR=>
  rw[Sem.bind_assoc',Sem.bind_assoc'];exact .view hr (xR hf)
end
section
open Go
variable [aR]
def Full(ρ:Ren)(w:World):Prop:=∀a o,w.heap[a]? =some o->o≠aV->∃b,ρ a b
structure aW(p:Program)(ρ σ:Ren)(w w1 w' wy:World):Prop where
 le:ρ.le σ
 rel:WR p σ w1 wy
 size:w'.heap.size<=wy.heap.size
 cG:∀b,b<w'.heap.size->(∀a,¬ρ a b)->wy.heap[b]? =w'.heap[b]?
 news:∀a b,σ a b->ρ a b\/(w'.heap.size<=b/\w.heap.size<=a/\a+w'.heap.size=b+w.heap.size)
 os:wy.os=w'.os
 output:wy.output=w'.output
 tape:wy.tape=w'.tape
 drawn:wy.drawn+w.drawn=w'.drawn+w1.drawn
 Ip:w1.heap.size+w'.heap.size=wy.heap.size+w.heap.size
 base:w.heap.size<=w1.heap.size
 still:∀a b,ρ a b->w.heap[a]? =some aV->w1.heap[a]? =some aV/\wy.heap[b]? =w'.heap[b]?
 full:Full ρ w->Full σ w1
theorem aW.refl{p:Program}{ρ:Ren}{w w':World}(h:WR p ρ w w'):aW p ρ ρ w w w' w':=⟨Ren.le_refl _,h,Nat.le_refl _,fun _ _ _=>rfl,fun _ _ h=>.inl h,rfl,rfl,rfl,rfl,Nat.add_comm _ _,Nat.le_refl _,fun _ _ _ h=>⟨h,rfl⟩,id⟩
theorem aW.trans{p:Program}{ρ σ τ:Ren}{w w1 w2 w' wy Ty:World}(h:aW p ρ σ w w1 w' wy)(k:aW p σ τ w1 w2 wy Ty):aW p ρ τ w w2 w' Ty:=by
 refine⟨Ren.le_trans h.le k.le,k.rel,Nat.le_trans h.size k.size,fun b hb hn=>?_,fun a b hab=>?_,k.os.trans h.os,k.output.trans h.output,k.tape.trans h.tape,?_,by(have h1:=h.Ip;have h2:=k.Ip;omega),Nat.le_trans h.base k.base,fun a b hab hp=>⟨(k.still a b (h.le _ _ hab) (h.still a b hab hp).1).1,(k.still a b (h.le _ _ hab) (h.still a b hab hp).1).2.trans (h.still a b hab hp).2⟩,fun f=>k.full (h.full f)⟩
 ·rw[k.cG b (Nat.lt_of_lt_of_le hb h.size) (fun a ha=>?_),h.cG b hb hn];rcases h.news a b ha with h1|h1
  ·exact hn a h1
  ·omega
 ·rcases k.news a b hab with h1|h1
  ·exact h.news a b h1
  ·have h2:=h.Ip;have h3:=h.size;have h4:=h.base;exact .inr (by omega)
 ·have h1:=h.drawn;have h2:=k.drawn;omega
def Own(K:Kn)(w:World):Prop:=∀r,K r->∃o,w.heap[r]? =some o/\o≠aV
theorem bp{ρ:Ren}{o o':Obj}(h:OR ρ o o'):o≠aV:=by intro e;subst e;cases h
theorem Own.set{K:Kn}{w:World}(h:Own K w)(a:Addr)(v:Value):Own K (w.setCell a v):=fun r hr=>by
 obtain⟨o,ho,hn⟩:=h r hr;simp only[World.setCell,Array.getElem?_modify,ho];split
 ·refine⟨_,rfl,?_⟩;cases o<;>first|(intro e;cases e;done)|(intro e;exact hn e)
 ·exact⟨o,rfl,hn⟩
theorem Own.push{K:Kn}{w:World}(h:Own K w){o:Obj}(hn:o≠aV):Own (K.and w.heap.size) {w with heap:=w.heap.push o}:=by
 rintro r (hr|rfl)
 ·obtain⟨x,hx,NU⟩:=h r hr;have:=(Array.getElem?_eq_some_iff.1 hx).1;exact⟨x,by show(w.heap.push o)[r]? =_;rw[Array.getElem?_push,if_neg (by omega)];exact hx,NU⟩
 ·exact⟨o,by show(w.heap.push o)[w.heap.size]? =_;simp,hn⟩
theorem Own.put{K:Kn}{w:World}(h:Own K w)(r:Nat){o:Obj}(hn:o≠aV):Own K {w with heap:=w.heap.setIfInBounds r o}:=fun x hx=>by
 obtain⟨y,hy,AG⟩:=h x hx;have hlt:=(Array.getElem?_eq_some_iff.1 hy).1;show ∃o',(w.heap.setIfInBounds r o)[x]? =some o'/\_;rw[Array.getElem?_setIfInBounds];split
 ·split
  ·exact⟨o,rfl,hn⟩
  ·omega
 ·exact⟨y,hy,AG⟩
theorem Own.and{K:Kn}{w:World}(h:Own K w){r:Nat}{o:Obj}(ho:w.heap[r]? =some o)(hn:o≠aV):Own (K.and r) w:=by
 rintro x (hx|rfl)
 ·exact h x hx
 ·exact⟨o,ho,hn⟩
theorem bY{w:World}{a:Addr}{v:Value}(h:w.cell? a=some v):∃o,w.heap[a.block]? =some o/\o≠aV:=by
 unfold World.cell? at h;split at h
 ·rename_i c t fz hc;exact⟨_,hc,by intro e;cases e⟩
 ·cases h
theorem pK{p:Program}{ρ:Ren}{w w':World}(hw:WR p ρ w w'){a a':Addr}(ha:AR ρ a a'){v:Value}(h:w.cell? a=some v):∃v',w'.cell? a'=some v'/\VR ρ v v':=by
 unfold World.cell? at h;split at h
 ·rename_i c t fz hc;split at h
  ·cases h
  ·rename_i hsp;rcases hw.obj _ _ _ ha.1 hc with hp|⟨o',ho',dP⟩
   ·cases hp
   ·cases dP with
    |cells _ _ hv=>
     rename_i x';have hlt:a.off<c.size:=(Array.getElem?_eq_some_iff.1 h).1;have hlt':a.off<x'.size:=by rw[hv.1];exact hlt
     refine⟨x'[a.off],?_,hv.2 a.off v _ h (by simp[hlt'])⟩;unfold World.cell?;rw[ho',ha.2.2,ha.2.1];simp[hsp,hlt']
 ·cases h
theorem cF.set{ρ:Ren}{x x':Array Value}(h:cF ρ x x'){v v':Value}(hv:VR ρ v v')(i:Nat):cF ρ (x.setIfInBounds i v) (x'.setIfInBounds i v'):=by
 refine⟨by simp[h.1],fun j u u' hu fu=>?_⟩;rw[Array.getElem?_setIfInBounds]at hu fu
 by_cases hij:i=j
 ·subst hij;rw[if_pos rfl]at hu fu;split at hu
  ·split at fu
   ·cases hu;cases fu;exact hv
   ·cases fu
  ·cases hu
 ·rw[if_neg hij]at hu fu;exact h.2 j u u' hu fu
theorem WR.set{p:Program}{ρ:Ren}{w w':World}(hw:WR p ρ w w'){a a':Addr}(ha:AR ρ a a'){v v':Value}(hv:VR ρ v v'){u:Value}(hc:w.cell? a=some u):WR p ρ (w.setCell a v) (w'.setCell a' v'):=by
 refine⟨hw.one,fun x y h=>by have:=hw.lt x y h;simp[World.setCell];exact this,fun x y o hxy ho=>?_,hw.tape,hw.low,by simpa[World.setCell]using hw.base,fun x y hxy hp=>?_,hw.os⟩
 rotate_left
 ·by_cases hx:x=a.block
  ·subst hx;obtain⟨o,ho,hn⟩:=Own.set (K:=(·=a.block)) (w:=w) (fun r hr=>by(obtain rfl:r=a.block:=hr;exact bY hc)) a v a.block rfl;rw[hp]at ho;cases ho;exact absurd rfl hn
  ·have hy:y≠a'.block:=fun e=>hx (hw.one.2 _ _ _ (e▸hxy) ha.1);have e1:(w.setCell a v).heap[x]? =w.heap[x]? :=RowKit.Below.heap_setCell w a v x hx;have e2:(w'.setCell a' v').heap[y]? =w'.heap[y]? :=RowKit.Below.heap_setCell w' a' v' y hy;rw[e1]at hp;rw[e2];exact hw.calm x y hxy hp
 by_cases hx:x=a.block
 ·subst hx;have hy:y=a'.block:=hw.one.1 _ _ _ hxy ha.1;subst hy;unfold World.cell? at hc;split at hc
  ·rename_i c t fz zk;split at hc
   ·cases hc
   ·rename_i hsp;rcases hw.obj _ _ _ ha.1 zk with hp|⟨o',ho',dP⟩
    ·cases hp
    ·cases dP with
     |cells _ _ hvs=>
      rename_i x';right;simp only[World.setCell,Array.getElem?_modify,zk]at ho;simp only[World.setCell,Array.getElem?_modify,ho'];have Zy:¬a'.spot.isSome=true:=by rw[ha.2.2];exact hsp
      simp only[if_true,Option.map_some,hsp,Zy,if_false,Option.some.injEq,Bool.false_eq_true]at ho⊢;refine⟨_,rfl,?_⟩;rw[<-ho,ha.2.1];exact .cells _ _ (hvs.set hv _)
  ·cases hc
 ·have hy:y≠a'.block:=fun e=>hx (hw.one.2 _ _ _ (e▸hxy) ha.1);have e1:(w.setCell a v).heap[x]? =w.heap[x]? :=RowKit.Below.heap_setCell w a v x hx;have e2:(w'.setCell a' v').heap[y]? =w'.heap[y]? :=RowKit.Below.heap_setCell w' a' v' y hy;rw[e1]at ho;rw[e2];exact hw.obj x y o hxy ho
theorem aW.set{p:Program}{ρ:Ren}{w w':World}(hw:WR p ρ w w'){a a':Addr}(ha:AR ρ a a'){v v':Value}(hv:VR ρ v v'){u:Value}(hc:w.cell? a=some u):aW p ρ ρ w (w.setCell a v) w' (w'.setCell a' v'):=
 ⟨Ren.le_refl _,hw.set ha hv hc,by simp[World.setCell],fun b _ hn=>RowKit.Below.heap_setCell w' a' v' b (fun e=>hn a.block (e▸ha.1)),fun _ _ h=>.inl h,rfl,rfl,rfl,rfl,by(simp[World.setCell];omega),by simp[World.setCell],fun x y hxy hp=>by
  have hx:x≠a.block:=by rintro rfl;obtain⟨o,ho,hn⟩:=bY hc;rw[hp]at ho;cases ho;exact hn rfl
  have hy:y≠a'.block:=fun e=>hx (hw.one.2 _ _ _ (e▸hxy) ha.1);exact⟨(RowKit.Below.heap_setCell w a v x hx).trans hp,RowKit.Below.heap_setCell w' a' v' y hy⟩,fun hf x o ho hn=>by
  by_cases hx:x=a.block
  ·exact⟨_,hx▸ha.1⟩
  ·rw[RowKit.Below.heap_setCell w a v x hx]at ho;exact hf x o ho hn⟩
theorem aW.new{p:Program}{ρ:Ren}{w w':World}(hw:WR p ρ w w'){o o':Obj}(ho:OR ρ o o'):aW p ρ (ρ.ext w.heap.size w'.heap.size) w {w with heap:=w.heap.push o} w' {w' with heap:=w'.heap.push o'}:=by
 have hle:=Ren.Ej ρ w.heap.size w'.heap.size
 refine⟨hle,⟨⟨?_,?_⟩,?_,?_,hw.tape,?_,by have:=hw.base;simp;omega,?_,hw.os⟩,by simp,?_,?_,rfl,rfl,rfl,rfl,by(simp;omega),by simp,fun a b hab hp=>by
  have hlt:=hw.lt _ _ hab;exact⟨by rw[Array.getElem?_push,if_neg (by omega)];exact hp,by rw[Array.getElem?_push,if_neg (by omega)]⟩,fun hf x q hq hn=>by
  by_cases hx:x=w.heap.size
  ·exact⟨_,.inr ⟨hx,rfl⟩⟩
  ·rw[Array.getElem?_push,if_neg hx]at hq;exact(hf x q hq hn).imp fun b hb=>.inl hb⟩
 ·rintro a b b' (h|⟨h1,h2⟩) (k|⟨k1,k2⟩)
  ·exact hw.one.1 _ _ _ h k
  ·have:=(hw.lt _ _ h).1;omega
  ·have:=(hw.lt _ _ k).1;omega
  ·omega
 ·rintro a a' b (h|⟨h1,h2⟩) (k|⟨k1,k2⟩)
  ·exact hw.one.2 _ _ _ h k
  ·have:=(hw.lt _ _ h).2;omega
  ·have:=(hw.lt _ _ k).2;omega
  ·omega
 ·rintro a b (h|⟨h1,h2⟩)
  ·have:=hw.lt _ _ h;simp;omega
  ·simp;omega
 ·rintro a b x (h|⟨rfl,rfl⟩) hx
  ·have hlt:=hw.lt _ _ h;rw[Array.getElem?_push,if_neg (by omega)]at hx;rw[Array.getElem?_push,if_neg (by omega)];rcases hw.obj a b x h hx with hp|⟨y,hy,dP⟩
   ·exact .inl hp
   ·exact .inr ⟨y,hy,dP.mono hle⟩
  ·rw[Array.getElem?_push,if_pos rfl]at hx;cases hx;exact .inr ⟨o',by simp,ho.mono hle⟩
 ·rintro a b (h|⟨rfl,rfl⟩) hlt
  ·exact hw.low a b h hlt
  ·have:=hw.base;omega
 ·rintro a b (h|⟨rfl,rfl⟩) hp
  ·have hlt:=hw.lt _ _ h;rw[Array.getElem?_push,if_neg (by omega)]at hp;rw[Array.getElem?_push,if_neg (by omega)];exact hw.calm a b h hp
  ·rw[Array.getElem?_push,if_pos rfl]at hp;cases hp;exact absurd rfl (bp ho)
 ·intro b hb _;rw[Array.getElem?_push,if_neg (by omega)]
 ·rintro a b (h|⟨_,h2⟩)
  ·exact .inl h
  ·exact .inr (by omega)
theorem aW.put{p:Program}{ρ:Ren}{w w':World}(hw:WR p ρ w w'){r r':Nat}(hr:ρ r r'){o o':Obj}(ho:OR ρ o o')(hk:∃x,w.heap[r]? =some x/\x≠aV):aW p ρ ρ w {w with heap:=w.heap.setIfInBounds r o} w' {w' with heap:=w'.heap.setIfInBounds r' o'}:=by
 have hlt:=hw.lt _ _ hr
 refine⟨Ren.le_refl _,⟨hw.one,fun x y h=>by have:=hw.lt x y h;simp;omega,fun x y q hxy hq=>?_,hw.tape,hw.low,by simpa using hw.base,fun x y hxy hp=>?_,hw.os⟩,by simp,fun b _ hn=>?_,fun _ _ h=>.inl h,rfl,rfl,rfl,rfl,by(simp;omega),by simp,fun x y hxy hp=>by
  have hx:x≠r:=by rintro rfl;obtain⟨q,hq,hn⟩:=hk;rw[hp]at hq;cases hq;exact hn rfl
  have hy:y≠r':=fun e=>hx (hw.one.2 _ _ _ (e▸hxy) hr);exact⟨(Array.getElem?_setIfInBounds_ne (Ne.symm hx)).trans hp,Array.getElem?_setIfInBounds_ne (Ne.symm hy)⟩,fun hf x q hq hn=>by
  by_cases hx:x=r
  ·exact⟨_,hx▸hr⟩
  ·have hq:(w.heap.setIfInBounds r o)[x]? =some q:=hq;rw[Array.getElem?_setIfInBounds_ne (Ne.symm hx)]at hq;exact hf x q hq hn⟩
 rotate_left
 ·by_cases hx:x=r
  ·subst hx;have e1:(w.heap.setIfInBounds x o)[x]? =some o:=by simp[hlt.1]
   rw[e1]at hp;cases hp;exact absurd rfl (bp ho)
  ·have hy:y≠r':=fun e=>hx (hw.one.2 _ _ _ (e▸hxy) hr);have e1:(w.heap.setIfInBounds r o)[x]? =w.heap[x]? :=Array.getElem?_setIfInBounds_ne (Ne.symm hx);have e2:(w'.heap.setIfInBounds r' o')[y]? =w'.heap[y]? :=Array.getElem?_setIfInBounds_ne (Ne.symm hy);rw[e1]at hp;rw[e2];exact hw.calm x y hxy hp
 rotate_left
 ·by_cases hx:x=r
  ·subst hx;have hy:y=r':=hw.one.1 _ _ _ hxy hr;subst hy;have e1:(w.heap.setIfInBounds x o)[x]? =some o:=by simp[hlt.1]
   have e2:(w'.heap.setIfInBounds y o')[y]? =some o':=by simp[hlt.2]
   rw[e1]at hq;cases hq;exact .inr ⟨o',e2,ho⟩
  ·have hy:y≠r':=fun e=>hx (hw.one.2 _ _ _ (e▸hxy) hr);have e1:(w.heap.setIfInBounds r o)[x]? =w.heap[x]? :=Array.getElem?_setIfInBounds_ne (Ne.symm hx);have e2:(w'.heap.setIfInBounds r' o')[y]? =w'.heap[y]? :=Array.getElem?_setIfInBounds_ne (Ne.symm hy);rw[e1]at hq;rw[e2];exact hw.obj x y q hxy hq
 ·exact Array.getElem?_setIfInBounds_ne (fun e:r'=b=>hn r (e▸hr))
theorem aW.draw{p:Program}{ρ:Ren}{w w':World}(hw:WR p ρ w w'):aW p ρ ρ w {w with drawn:=w.drawn+1} w' {w' with drawn:=w'.drawn+1}:=
 ⟨Ren.le_refl _,⟨hw.one,hw.lt,hw.obj,fun i q=>by have:=hw.tape (1+i) q;simpa[Nat.add_assoc]using this,hw.low,hw.base,hw.calm,hw.os⟩,Nat.le_refl _,fun _ _ _=>rfl,fun _ _ h=>.inl h,rfl,rfl,rfl,by(show w'.drawn+1+w.drawn=w'.drawn+(w.drawn+1);omega),Nat.add_comm _ _,Nat.le_refl _,fun _ _ _ h=>⟨h,rfl⟩,id⟩
theorem Bt{p:Program}{ρ:Ren}{w w':World}(hw:WR p ρ w w'){a a':Addr}(ha:AR ρ a a')(p:Program)(dm:Bool):∃h,w.farLoad p a dm=.error h/\qL h:=by
 unfold World.farLoad;split
 ·rename_i x y hx;rcases hw.obj _ _ _ ha.1 hx with hp|⟨_,_,dP⟩
  ·cases hp
  ·cases dP
 ·refine⟨_,rfl,?_⟩;unfold World.noCell;split
  ·rename_i x y hx;rcases hw.obj _ _ _ ha.1 hx with hp|⟨_,_,dP⟩
   ·cases hp
   ·cases dP
  ·simp
  ·simp
theorem xD{p:Program}{ρ:Ren}{w w':World}(hw:WR p ρ w w'){a a':Addr}(ha:AR ρ a a')(p:Program)(v:Value)(dm:Bool):∃h,w.farStore p a v dm=.error h/\qL h:=by
 unfold World.farStore;split
 ·rename_i x y hx;rcases hw.obj _ _ _ ha.1 hx with hp|⟨_,_,dP⟩
  ·cases hp
  ·cases dP
 ·refine⟨_,rfl,?_⟩;unfold World.noCell;split
  ·rename_i x y hx;rcases hw.obj _ _ _ ha.1 hx with hp|⟨_,_,dP⟩
   ·cases hp
   ·cases dP
  ·simp
  ·simp
theorem iu{α:Type}{p:Program}{w:World}{m:Mode}{a:Addr}{v:Value}{k:Sem α}(h1:∀x,v≠.agg x)(h2:∀x,v≠.tuple x):(Sem.store m a v k).run p w=(match w.cell? a with
  |some _=>if w.frozen? a then .halt (.unsupported (.unsafePointer "a write to bytes that a string shares")) w else k.run p (w.setCell a v)
  |none=>match w.farStore p a v (m==.atomic)with
   |.ok (w,_)=>k.run p w
   |.error h=>.halt h w):=by
 cases v<;>first|rfl|exact absurd rfl (h1 _)|exact absurd rfl (h2 _)
theorem DT{p:Program}{ρ:Ren}{w w':World}(hw:WR p ρ w w'){a a':Addr}(ha:AR ρ a a'){u:Value}(hc:w.cell? a=some u):w'.frozen? a'=w.frozen? a:=by
 unfold World.cell? at hc;split at hc
 ·rename_i c t fz zk;rcases hw.obj _ _ _ ha.1 zk with hp|⟨o',ho',dP⟩
  ·cases hp
  ·cases dP;unfold World.frozen?;rw[zk,ho',ha.2.1]
 ·cases hc
theorem IJ{p:Program}{ρ:Ren}{w w':World}(hw:WR p ρ w w'){r r':Nat}(hr:ρ r r'){x:TypeId×Nat}(h:w.shape? r=some x):w'.shape? r'=some x:=by
 unfold World.shape? at h;split at h
 ·rename_i c t fz zk;rcases hw.obj _ _ _ hr zk with hp|⟨o',ho',dP⟩
  ·cases hp
  ·cases dP with
   |cells _ _ hv=>
    unfold World.shape?;simp only[ho'];rw[<-h,hv.1]
 ·cases h
theorem uG{p:Program}{ρ:Ren}{w w':World}(hw:WR p ρ w w'){a a':Addr}(ha:AR ρ a a')(hk:∃o,w.heap[a.block]? =some o/\o≠aV):w'.frozen? a'=w.frozen? a:=by
 obtain⟨o,ho,hn⟩:=hk;rcases hw.obj _ _ _ ha.1 ho with hp|⟨o',ho',dP⟩
 ·exact absurd hp hn
 ·unfold World.frozen?;rw[ho,ho'];cases dP<;>simp only[ha.2.1]
theorem Own.freeze{K:Kn}{w:World}(h:Own K w)(a:Addr)(n:Nat):Own K (w.freeze a n):=fun r hr=>by
 obtain⟨o,ho,hn⟩:=h r hr;unfold World.freeze;split
 ·exact⟨o,ho,hn⟩
 ·simp only[Array.getElem?_modify,ho];split
  ·refine⟨_,rfl,?_⟩;cases o<;>first|(intro e;cases e;done)|(intro e;exact hn e)
  ·exact⟨o,rfl,hn⟩
theorem aW.freeze{p:Program}{ρ:Ren}{w w':World}(hw:WR p ρ w w'){a a':Addr}(ha:AR ρ a a')(n:Nat)(hk:∃o,w.heap[a.block]? =some o/\o≠aV):aW p ρ ρ w (w.freeze a n) w' (w'.freeze a' n):=by
 by_cases h0:n=0
 ·subst h0;simp only[World.freeze,if_true];exact aW.refl hw
 ·simp only[World.freeze,h0,if_false]
  refine⟨Ren.le_refl _,⟨hw.one,fun x y h=>by have:=hw.lt x y h;simp;exact this,fun x y q hxy hq=>?_,hw.tape,hw.low,by simpa using hw.base,fun x y hxy hp=>?_,hw.os⟩,by simp,fun b _ hn=>?_,fun _ _ h=>.inl h,rfl,rfl,rfl,rfl,by(simp;omega),by simp,fun x y hxy hp=>by
   have hx:¬a.block=x:=by rintro rfl;obtain⟨q,hq,hn⟩:=hk;rw[hp]at hq;cases hq;exact hn rfl
   have hy:¬a'.block=y:=fun e'=>hx (hw.one.2 _ _ _ ha.1 (e'▸hxy));exact⟨by simp only[Array.getElem?_modify,if_neg hx,hp],by simp only[Array.getElem?_modify,if_neg hy]⟩,fun hf x q hq hn=>by
   by_cases hx:a.block=x
   ·exact⟨_,hx▸ha.1⟩
   ·simp only[Array.getElem?_modify,if_neg hx]at hq;exact hf x q hq hn⟩
  rotate_left
  ·by_cases hx:a.block=x
   ·obtain⟨o,ho,hn⟩:=Own.freeze (K:=(·=a.block)) (w:=w) (fun r hr=>by(obtain rfl:r=a.block:=hr;exact hk)) a n a.block rfl;simp only[World.freeze,h0,if_false]at ho;rw[<-hx]at hp;rw[hp]at ho;cases ho;exact absurd rfl hn
   ·have hy:¬a'.block=y:=fun e'=>hx (hw.one.2 _ _ _ ha.1 (e'▸hxy));simp only[Array.getElem?_modify]at hp⊢;rw[if_neg hx]at hp;rw[if_neg hy];exact hw.calm x y hxy hp
  rotate_left
  ·simp only[Array.getElem?_modify]at hq⊢
   by_cases hx:a.block=x
   ·have hy:a'.block=y:=hw.one.1 _ _ _ ha.1 (hx▸hxy);rw[if_pos hx]at hq;rw[if_pos hy];obtain⟨o,ho,hn⟩:=hk;rw[<-hx,ho]at hq;rcases hw.obj _ _ _ ha.1 ho with hp|⟨o',ho',dP⟩
    ·exact absurd hp hn
    ·rw[<-hy,ho'];simp only[Option.map_some,Option.some.injEq]at hq⊢;subst hq;right;refine⟨_,rfl,?_⟩;cases dP with
     |cells t fz hv=>rw[ha.2.1];exact .cells _ _ hv
     |map c h=>exact .map c h
     |chan c1 c2 c3 c4 c5=>exact .chan c1 c2 c3 c4 c5
     |loop h0 h1 h2 h3 h4 h5 h6 h7 h8=>exact .loop h0 h1 h2 h3 h4 h5 h6 h7 h8
     |eV=>exact .eV
     |cy=>exact .cy
     |number l h=>exact .number l h
   ·have hy:¬a'.block=y:=fun e'=>hx (hw.one.2 _ _ _ ha.1 (e'▸hxy));rw[if_neg hx]at hq;rw[if_neg hy];exact hw.obj x y q hxy hq
  ·simp only[Array.getElem?_modify];rw[if_neg (fun e':a'.block=b=>hn a.block (e'▸ha.1))]
theorem jk{p:Program}{w:World}{r:Nat}{o:Obj}(h:w.heap[r]? =some o)(hn:∀a l,o≠.number a l):(numberAt r).run p w=.ok none w:=by unfold numberAt;cases o<;>first|exact absurd rfl (hn _ _)|simp[shape,getObj,Sem.run,Bind.bind,Sem.bind,World.shape?,h,Pure.pure]
theorem sw{p:Program}{w:World}{r:Nat}{a:Addr}{l:Bool}(h:w.heap[r]? =some (.number a l)):(numberAt r).run p w=.ok (some (a,l)) w:=by unfold numberAt;simp[shape,getObj,Sem.run,Bind.bind,Sem.bind,World.shape?,h,Pure.pure]
theorem rI{p:Program}{w:World}{r:Nat}{o:Obj}(h:w.heap[r]? =some o)(hn:∀a l,o≠.view a l):(viewAt r).run p w=.ok none w:=by unfold viewAt;cases o<;>first|exact absurd rfl (hn _ _)|simp[shape,getObj,Sem.run,Bind.bind,Sem.bind,World.shape?,h,Pure.pure]
theorem tI{p:Program}{ρ:Ren}{w w':World}(hw:WR p ρ w w'){a a':Addr}(ha:AR ρ a a'):w'.frozen? a'=w.frozen? a:=by
 obtain⟨o,ho⟩:∃o,w.heap[a.block]? =some o:=⟨_,Array.getElem?_eq_getElem (hw.lt _ _ ha.1).1⟩
 by_cases hn:o=aV
 ·subst hn;obtain⟨x,t,fz,h,_,hf⟩:=hw.calm _ _ ha.1 ho;unfold World.frozen?;rw[h,ho];obtain⟨lo,hi⟩:=fz;simp only[aV];simp only at hf
  by_cases h1:lo<=a'.off
  ·have:¬a'.off<hi:=by omega
   simp[this]
  ·simp[h1]
 ·exact uG hw ha ⟨o,ho,hn⟩
def Mr(w:World)(x:Addr):Bool:=w.frozen? x||(match w.shape? x.block with|some (_,n)=>w.frozen? {block:=x.block,off:=n}|none=>false)
def SP(w:World)(x:Addr):Bool:=match w.shape? x.block with|some (_,0)=>true|_=>false
def wU(w:World)(a b:Addr):Bool:=(Mr w a&&Mr w b)||(Mr w a&&SP w a)||(Mr w b&&SP w b)
end
end Go.Proofs.YtpobhljcainmdaaGreat
