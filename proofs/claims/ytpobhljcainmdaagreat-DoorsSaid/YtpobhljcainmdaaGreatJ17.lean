/- Proved here: a part of what Doors keeps (Mir3, Mir4, Mir5, Mir6, Mir7). -/
import GoSem.Dispatch
import Derived.Test.YtpobhljcainmdaaGreatJ16
set_option maxRecDepth 100000
set_option maxHeartbeats 8000000
set_option linter.all false
namespace Go.Proofs.YtpobhljcainmdaaGreat
section
open Go
variable [aR]
abbrev cq{α:Type}:Ren->α->α->Prop:=fun _ a b=>b=a
def iy(P:Program):Prop:=∀t i z,P.info? t=some i->i.zero=some z->∀ρ:Ren,VR ρ z z
section
variable {P:Program} {ρ:Ren} {K:Kn}
theorem SR.then {α β γ δ:Type}{Q:Ren->α->β->Prop}{R:Ren->γ->δ->Prop}{s:Sem α}{s':Sem β}{f:α->Sem γ}{f':β->Sem δ}(h:SR P Q ρ K s s')
  (hf:∀σ L a b,ρ.le σ->K.le L->Q σ a b->SR P R σ L (f a) (f' b)):SR P R ρ K (s >>= f) (s' >>= f'):=SR.bind h hf
theorem SR.weaken{α β:Type}{Q R:Ren->α->β->Prop}{s:Sem α}{s':Sem β}(h:SR P Q ρ K s s')(hq:∀σ a b,ρ.le σ->Q σ a b->R σ a b):SR P R ρ K s s':=by
 have e1:s=s.bind .pure:=by
  clear h hq;induction s with
  |pure a=>rfl
  |load m a k ih=>simp only[Sem.bind];congr;funext v;exact ih v
  |store m a v k ih=>simp only[Sem.bind];congr
  |new o k ih=>simp only[Sem.bind];congr;funext v;exact ih v
  |shape r k ih=>simp only[Sem.bind];congr;funext v;exact ih v
  |freeze a n k ih=>simp only[Sem.bind];congr
  |frozen a k ih=>simp only[Sem.bind];congr;funext v;exact ih v
  |getObj r k ih=>simp only[Sem.bind];congr;funext v;exact ih v
  |setObj r o k ih=>simp only[Sem.bind];congr
  |choose q k ih=>simp only[Sem.bind];congr;funext v;exact ih v
  |sys c k ih=>simp only[Sem.bind];congr;funext v;exact ih v
  |program k ih=>simp only[Sem.bind];congr;funext v;exact ih v
  |mark m k ih=>simp only[Sem.bind];congr
  |halt h=>rfl
 have e2:s'=s'.bind .pure:=by
  clear h hq e1;induction s' with
  |pure a=>rfl
  |load m a k ih=>simp only[Sem.bind];congr;funext v;exact ih v
  |store m a v k ih=>simp only[Sem.bind];congr
  |new o k ih=>simp only[Sem.bind];congr;funext v;exact ih v
  |shape r k ih=>simp only[Sem.bind];congr;funext v;exact ih v
  |freeze a n k ih=>simp only[Sem.bind];congr
  |frozen a k ih=>simp only[Sem.bind];congr;funext v;exact ih v
  |getObj r k ih=>simp only[Sem.bind];congr;funext v;exact ih v
  |setObj r o k ih=>simp only[Sem.bind];congr
  |choose q k ih=>simp only[Sem.bind];congr;funext v;exact ih v
  |sys c k ih=>simp only[Sem.bind];congr;funext v;exact ih v
  |program k ih=>simp only[Sem.bind];congr;funext v;exact ih v
  |mark m k ih=>simp only[Sem.bind];congr
  |halt h=>rfl
 rw[e1,e2];exact SR.bind h fun σ L a b h1 _ h3=>.pure (hq σ a b h1 h3)
theorem bJ{α β:Type}{Q:Ren->α->β->Prop}(why:String)(s:Sem β):SR P Q ρ K (stuck why) s:=.lost (by simp)
theorem fJ{α β:Type}{Q:Ren->α->β->Prop}(u:Unsupported)(s:Sem β)(h:qL (.unsupported u):=by simp):SR P Q ρ K (unsupported u) s:=.lost h
theorem bB:SR P (fun _ a b=>a=P/\b=P) ρ K program program:=.program (.pure ⟨rfl,rfl⟩)
theorem bD(t:TypeId):SR P (fun _ a b=>b=a/\P.info? t=some a) ρ K (typeInfo t) (typeInfo t):=by
 refine SR.then bB ?_;rintro σ L a b _ _ ⟨h1,h2⟩;rw[h1,h2];cases h:P.info? t with
 |none=>exact bJ _ _
 |some i=>exact .pure ⟨rfl,rfl⟩
theorem gB(t:TypeId):SR P (fun _ a b=>b=a/\P.underlying t=some a) ρ K (underlying t) (underlying t):=by
 refine SR.then bB ?_;rintro σ L a b _ _ ⟨h1,h2⟩;rw[h1,h2];cases h:P.underlying t with
 |none=>exact bJ _ _
 |some i=>exact .pure ⟨rfl,rfl⟩
theorem dy(hZ:iy P)(t:TypeId):SR P VR ρ K (zeroValue t) (zeroValue t):=by
 refine SR.then (bD t) ?_;rintro σ L a b _ _ ⟨rfl,hi⟩;cases h:b.zero with
 |none=>exact fJ _ _
 |some z=>exact .pure (hZ t b z hi h σ)
theorem bQ(t:TypeId):SR P cq ρ K (sizeOf t) (sizeOf t):=by refine SR.then (bD t) ?_;rintro σ L a b _ _ ⟨rfl,_⟩;exact .pure rfl
theorem Mj(t:TypeId):SR P cq ρ K (isAgg t) (isAgg t):=by refine SR.then (gB t) ?_;rintro σ L a b _ _ ⟨rfl,_⟩;split<;>exact .pure rfl
theorem AR.add{a a':Addr}(h:AR ρ a a')(n:Nat):AR ρ (a.add n) (a'.add n):=by
 unfold Addr.add;split
 ·exact h
 ·exact⟨h.1,by simp[h.2.1],rfl⟩
theorem Ao{a a':Addr}(h:AR ρ a a')(m:Mode):SR P VR ρ K (load a m) (load a' m):=.load h fun _ _ hv=>.pure hv
theorem Mo{a a':Addr}(h:AR ρ a a'){v v':Value}(hv:VR ρ v v')(m:Mode):SR P cq ρ K (store a v m) (store a' v' m):=.store h hv (.pure rfl)
theorem cF.push{x x':Array Value}(h:cF ρ x x'){v v':Value}(hv:VR ρ v v'):cF ρ (x.push v) (x'.push v'):=by
 refine⟨by simp[h.1],fun i u u' hu fu=>?_⟩;rw[Array.getElem?_push]at hu fu;rw[h.1]at fu;split at hu
 ·rename_i hi;rw[if_pos hi]at fu;cases hu;cases fu;exact hv
 ·rename_i hi;rw[if_neg hi]at fu;exact h.2 i u u' hu fu
theorem cF.nil:cF ρ #[] #[]:=⟨rfl,fun i v v' h=>by simp at h⟩
theorem rB{a a':Addr}(h:AR ρ a a')(n:Nat):∀(i:Nat) (x x':Array Value) (K:Kn),cF ρ x x'->SR P cF ρ K (loadCellsFrom a i n x) (loadCellsFrom a' i n x'):=by
 induction n generalizing ρ with
 |zero=>exact fun i x x' K hx=>.pure hx
 |succ n ih=>
  intro i x x' K hx;refine SR.then (Ao (h.add i) .plain) fun σ L v v' h1 _ hv=>?_;exact ih (h.mono h1) (i+1) _ _ L ((hx.mono h1).push hv)
theorem lB{a a':Addr}(h:AR ρ a a')(n:Nat):SR P cF ρ K (loadCells a n) (loadCells a' n):=rB h n 0 _ _ K cF.nil
theorem vV{a a':Addr}(h:AR ρ a a')(t:TypeId):SR P VR ρ K (loadVar t a) (loadVar t a'):=by
 refine SR.then (Mj t) fun σ L b b' h1 _ hb=>?_;obtain rfl:b'=b:=hb;cases b' with
 |false=>exact Ao (h.mono h1) .plain
 |true=>
  refine SR.then (bQ t) fun τ M n n' h2 _ hn=>?_;obtain rfl:n'=n:=hn;refine SR.then (lB ((h.mono h1).mono h2) n') fun υ N x x' _ _ hx=>?_;exact .pure (.agg hx.1 hx.2)
theorem gA{a a':Addr}(h:AR ρ a a'):∀(vs vs':List Value) (i:Nat) (K:Kn),vs'.length=vs.length->(∀(j:Nat) v v',vs[j]? =some v->vs'[j]? =some v'->VR ρ v v')->SR P cq ρ K (storeCells a vs i) (storeCells a' vs' i):=by
 intro vs;induction vs generalizing ρ with
 |nil=>
  intro vs' i K hl _;obtain rfl:vs'=[]:=List.eq_nil_of_length_eq_zero hl;exact .pure rfl
 |cons v vs ih=>
  intro vs' i K hl hv;cases vs' with
  |nil=>simp at hl
  |cons v' vs'=>
   refine SR.then (Mo (h.add i) (hv 0 v v' rfl rfl) .plain) fun σ L _ _ h1 _ _=>?_;exact ih (h.mono h1) vs' (i+1) L (by simpa using hl) fun j u u' hu fu=>(hv (j+1) u u' (by simpa using hu) (by simpa using fu)).mono h1
theorem VR.cells{v v':Value}(h:VR ρ v v'):cF ρ v.cells v'.cells:=by
 have one:∀{u u':Value},VR ρ u u'->cF ρ #[u] #[u']:=fun hu=>⟨rfl,fun i x x' hx hx'=>by
  cases i with
  |zero=>simp at hx hx';rw[<-hx,<-hx'];exact hu
  |succ i=>simp at hx⟩
 cases h with
 |agg hx hxs=>exact⟨hx,hxs⟩
 |bool b=>exact one (.bool b)
 |int k n=>exact one (.int k n)
 |string s=>exact one (.string s)
 |jF=>exact one .jF
 |ptr h=>exact one (.ptr h)
 |bP l c=>exact one (.bP l c)
 |slice l c h=>exact one (.slice l c h)
 |nM=>exact one .nM
 |map h=>exact one (.map h)
 |jd=>exact one .jd
 |chan h=>exact one (.chan h)
 |func h a b c d=>exact one (.func h a b c d)
 |nilFunc=>exact one .nilFunc
 |iface t h=>exact one (.iface t h)
 |nilIface=>exact one .nilIface
 |tuple h a=>exact one (.tuple h a)
theorem CN{a a':Addr}(h:AR ρ a a'){v v':Value}(hv:VR ρ v v')(t:TypeId):SR P cq ρ K (storeVar t a v) (storeVar t a' v'):=by
 have hc:=hv.cells;refine SR.then (bQ t) fun σ L n n' h1 _ hn=>?_;obtain rfl:n'=n:=hn
 by_cases hs:v.cells.size≠n'
 ·rw[if_pos hs];exact .lost (by simp)
 ·have hs':¬v'.cells.size≠n':=by rw[hc.1];exact hs
  rw[if_neg hs,if_neg hs'];exact gA (h.mono h1) _ _ 0 L (by simpa using hc.1) fun j u u' hu fu=>(hc.2 j u u' (by simpa using hu) (by simpa using fu)).mono h1
theorem gm(t:TypeId){x x':Array Value}(h:cF ρ x x'):SR P AR ρ K (newRow t x) (newRow t x'):=by refine SR.then (Q:=fun σ n n'=>σ n n') (.new (.cells t (0,0) h) fun n n'=>.pure (.inr ⟨rfl,rfl⟩)) fun σ L n n' _ _ hn=>?_;exact .pure ⟨hn,rfl,rfl⟩
theorem rD(t:TypeId){v v':Value}(h:VR ρ v v'):SR P AR ρ K (newVar t v) (newVar t v'):=gm t h.cells
theorem iM{α β:Type}{Q:Ren->α->β->Prop}{v v':Value}(h:VR ρ v v'):SR P Q ρ K (goPanic v) (goPanic v'):=.panic h
theorem Fq(s:String):VR ρ (strVal s) (strVal s):=.string _
theorem fc{α β:Type}{Q:Ren->α->β->Prop}:SR P Q ρ K (runtimePanic (α:=α) .nilDeref) (runtimePanic (α:=β) .nilDeref):=by refine SR.then bB fun σ L a b _ _ h=>?_;rw[h.1,h.2];exact iM (.iface _ (Fq _))
theorem yw{α β:Type}{Q:Ren->α->β->Prop}(x y:Int)(s:Bool)(c:BoundsCode):SR P Q ρ K (runtimePanic (α:=α) (.bounds x y s c)) (runtimePanic (α:=β) (.bounds x y s c)):=by
 refine SR.then bB fun σ L a b _ _ h=>?_;rw[h.1,h.2];refine iM (.iface _ (.agg rfl fun i v v' hv hv'=>?_));rw[hv]at hv';cases hv'
 match i,hv with
 |0,hv=>cases hv;exact .int _ _
 |1,hv=>cases hv;exact .int _ _
 |2,hv=>cases hv;exact .bool _
 |3,hv=>cases hv;exact .int _ _
 |i+4,hv=>simp at hv
theorem ir(q:Question):SR P cq ρ K (choose q) (choose q):=.choose fun _=>.pure rfl
theorem lz{v v':Value}(h:VR ρ v v'):SR P cq ρ K (asIntOf v) (asIntOf v'):=by cases h<;>first|exact .pure rfl|exact bJ _ _|exact fJ _ _
theorem iK{v v':Value}(h:VR ρ v v'):SR P cq ρ K (asInt v) (asInt v'):=
 SR.then (lz h) fun _ _ a b _ _ hab=>by obtain rfl:b=a:=hab;exact .pure rfl
theorem yq{v v':Value}(h:VR ρ v v'):SR P cq ρ K (asBool v) (asBool v'):=by cases h<;>first|exact .pure rfl|exact bJ _ _
theorem IQ{v v':Value}(h:VR ρ v v'):SR P AR ρ K (asAddr v) (asAddr v'):=by
 cases h with
 |ptr h=>exact .pure h
 |jF=>exact fc
 |_=>exact bJ _ _
end
end
section
open Go
variable [aR]
section
variable {P:Program} {ρ:Ren} {K:Kn}
theorem ju{v v':Value}(h:VR ρ v v'):SR P AR ρ K (Instr.sureAddr v) (Instr.sureAddr v'):=by
 cases h with
 |ptr h=>exact .pure h
 |_=>exact bJ _ _
theorem IY{v v':Value}(h:VR ρ v v')(t:TypeId):SR P VR ρ K (Instr.loadAt t v) (Instr.loadAt t v'):=
 SR.then (ju h) fun _ _ _ _ _ _ ha=>vV ha t
theorem Fj{v v' x x':Value}(h:VR ρ v v')(hx:VR ρ x x')(t:TypeId):SR P cq ρ K (Instr.storeAt t v x) (Instr.storeAt t v' x'):=
 SR.then (ju h) fun _ _ _ _ h1 _ ha=>CN ha (hx.mono h1) t
theorem Sj{v v':Value}(h:VR ρ v v')(t:TypeId):SR P VR ρ K (Instr.box t v) (Instr.box t v'):=
 SR.then (rD t h) fun _ _ _ _ _ _ ha=>.pure (.ptr ha)
theorem Mf(hZ:iy P)(t:TypeId):SR P VR ρ K (Instr.alloc t true (.tuple #[])) (Instr.alloc t true (.tuple #[])):=
 SR.then (dy hZ t) fun _ _ _ _ _ _ hz=>SR.then (rD t hz) fun _ _ _ _ _ _ ha=>.pure (.ptr ha)
theorem CF{f f':Fn}{x x' y y':Array Value}(h:FR ρ f f')(hx:cF ρ x x')(hy:cF ρ y y'):SR P VR ρ K (Instr.makeFunc f x y) (Instr.makeFunc f' x' y'):=.pure (.func h hx.1 hx.2 hy.1 hy.2)
theorem rC{v v':Value}(h:VR ρ v v')(t:TypeId):SR P VR ρ K (Instr.makeInterface t v) (Instr.makeInterface t v'):=by
 refine SR.then (gB t) fun σ L a b h1 _ hab=>?_;obtain rfl:b=a:=hab.1;split
 ·exact bJ _ _
 ·exact .pure (.iface t (h.mono h1))
theorem Fe{v v':Value}(h:VR ρ v v')(i:Nat):SR P VR ρ K (Instr.extract v i) (Instr.extract v' i):=by
 cases h with
 |@tuple x x' hx hxs=>
  show SR P VR ρ K (match x[i]? with|some v=>pure v|none=>stuck _) (match x'[i]? with|some v=>pure v|none=>stuck _);cases hi:x[i]? with
  |none=>exact bJ _ _
  |some u=>
   have hlt:i<x'.size:=by rw[hx];exact(Array.getElem?_eq_some_iff.1 hi).1
   have hi':x'[i]? =some x'[i]:=by simp[hlt]
   rw[hi'];exact .pure (hxs i _ _ hi hi')
 |_=>exact bJ _ _
theorem Ar{α β γ δ:Type}{Q:Ren->α->β->Prop}{R:Ren->γ->δ->Prop}{s:Sem α}{s':Sem β}(f:α->γ)(f':β->δ)(h:SR P Q ρ K s s')(hf:∀σ a b,ρ.le σ->Q σ a b->R σ (f a) (f' b)):SR P R ρ K (Functor.map f s) (Functor.map f' s'):=
 SR.then h fun _ _ _ _ h1 _ hab=>.pure (hf _ _ _ h1 hab)
theorem fH{α β:Type}{Q:Ren->α->β->Prop}(k:IntKind)(x y:Int)(c:BoundsCode):SR P Q ρ K (boundsPanic (α:=α) k x y c) (boundsPanic (α:=β) k x y c):=by
 unfold boundsPanic;dsimp only;split
 ·refine SR.then (Q:=cq) (Ar _ _ (ir _) fun _ a b _ hab=>by rw[show b=a from hab]) fun σ L a b _ _ hab=>?_;obtain rfl:b=a:=hab;exact yw _ _ _ _
 ·exact yw _ _ _ _
theorem ah{t:TypeId}{d:TypeDesc}(ht:P.underlying t=some d):SR P (fun _ a b=>a=d/\b=d) ρ K (underlying t) (underlying t):=
 (gB t).weaken fun _ a b _ h=>by
  have e:a=d:=by have:=h.2;rw[ht]at this;exact(Option.some.inj this).symm
  exact⟨e,h.1.trans e⟩
theorem Fg{v v' x x':Value}(h:VR ρ v v')(hx:VR ρ x x'){t e:TypeId}(ht:P.underlying t=some (.slice e)):SR P VR ρ K (Instr.indexAt t v x) (Instr.indexAt t v' x'):=by
 unfold Instr.indexAt;refine SR.then (lz hx) fun σ L a b h1 _ hab=>?_;obtain rfl:b=a:=hab;obtain⟨k,i⟩:=b;refine SR.then (ah ht) fun τ M d d' h2 _ hd=>?_;obtain⟨rfl,rfl⟩:=hd;have hv:=(h.mono h1).mono h2;cases hv with
 |bP l c=>
  refine SR.then (Q:=fun _ y y'=>y=(none,l,e)/\y'=(none,l,e)) (.pure ⟨rfl,rfl⟩) fun φ O z z' h5 _ hzz=>?_;obtain⟨rfl,rfl⟩:=hzz;refine SR.then (ah ht) fun υ N y y' h3 _ hy=>?_;obtain⟨rfl,rfl⟩:=hy;exact fH _ _ _ _
 |@slice b b' l c ha=>
  refine SR.then (Q:=fun _ y y'=>y=(some b,l,e)/\y'=(some b',l,e)) (.pure ⟨rfl,rfl⟩) fun φ O z z' h5 _ hzz=>?_;obtain⟨rfl,rfl⟩:=hzz;refine SR.then (ah ht) fun υ N y y' h3 _ hy=>?_;obtain⟨rfl,rfl⟩:=hy;dsimp only;split
  ·refine SR.then (bQ e) fun ψ R n n' h4 _ hn=>?_;obtain rfl:n'=n:=hn;exact .pure (.ptr ((((ha.mono h5).mono h3).mono h4).add _))
  ·simp only[Bool.and_false,Bool.false_eq_true,if_false];exact fH _ _ _ _
 |_=>exact .lost (by simp)
theorem Ff{v v':Value}(h:VR ρ v v'){s:TypeId}{fs:Array Field}{n:Nat}{f:Field}{i:TypeInfo}(hs:P.underlying s=some (.struct fs))(hf:fs[n]? =some f)(hi:P.info? f.type=some i)(h0:i.size≠0):SR P VR ρ K (Instr.fieldAt s v n) (Instr.fieldAt s v' n):=by
 unfold Instr.fieldAt;refine SR.then (ah hs) fun σ L a b h1 _ hab=>?_;obtain⟨rfl,rfl⟩:=hab;simp only[hf];refine SR.then (ju (h.mono h1)) fun τ M a a' h2 _ ha=>?_;refine SR.then (Q:=AR) ?_ fun υ N a a' _ _ ha=>.pure (.ptr ha);unfold fieldPlace;refine SR.then (Q:=fun _ x y=>x=i.size/\y=i.size) ?_ fun υ N x y h3 _ hx=>?_
 ·refine SR.then (bD f.type) fun _ _ x y _ _ hx=>?_;have e:x=i:=by have:=hx.2;rw[hi]at this;exact(Option.some.inj this).symm
  exact .pure ⟨by rw[e],by rw[hx.1,e]⟩
 ·obtain⟨rfl,rfl⟩:=hx;rw[if_neg h0,if_neg h0];exact .pure ((ha.mono h3).add _)
theorem Cz{v v' x x':Value}(h:VR ρ v v')(hx:VR ρ x x'){t:TypeId}(ht:P.underlying t=some .string):SR P VR ρ K (Instr.index t v x) (Instr.index t v' x'):=by
 unfold Instr.index;refine SR.then (lz hx) fun σ L a b h1 _ hab=>?_;obtain rfl:b=a:=hab;obtain⟨k,i⟩:=b;refine SR.then (ah ht) fun τ M d d' h2 _ hd=>?_;obtain⟨rfl,rfl⟩:=hd;cases (h.mono h1).mono h2 with
 |string s=>
  dsimp only;split
  ·exact .pure (.int _ _)
  ·exact fH _ _ _ _
 |_=>exact .lost (by simp)
end
end
section
open Go
variable [aR]
section
variable {P:Program} {ρ:Ren} {K:Kn}
def VO(ρ:Ren):Option Value->Option Value->Prop
 |none,none=>True
 |some v,some v'=>VR ρ v v'
 |_,_=>False
theorem VO.mono{ρ σ:Ren}(h:ρ.le σ){v v':Option Value}(k:VO ρ v v'):VO σ v v':=by cases v<;>cases v'<;>first|exact k.elim|trivial|exact VR.mono h k
theorem dJ{v v':Value}(h:VR ρ v v')(y:Nat)(c:BoundsCode):SR P cq ρ K (Instr.sliceBound v y c) (Instr.sliceBound v' y c):=by
 unfold Instr.sliceBound;refine SR.then (lz h) fun σ L a b h1 _ hab=>?_;obtain rfl:b=a:=hab;obtain⟨k,i⟩:=b;dsimp only;split
 ·exact .pure rfl
 ·exact fH _ _ _ _
theorem lJ{α:Type}(a:α):SR P (fun _ x y=>x=a/\y=a) ρ K (pure a) (pure a):=.pure ⟨rfl,rfl⟩
theorem fI(VA:Bool)(len cap:Nat){lo lo' hi hi':Option Value}(h1:VO ρ lo lo')(h2:VO ρ hi hi'):SR P cq ρ K (Instr.sliceBounds VA len cap lo hi none) (Instr.sliceBounds VA len cap lo' hi' none):=by
 unfold Instr.sliceBounds;dsimp only;refine SR.then (lJ cap) fun σ L m m' g1 _ e1=>?_;obtain⟨rfl,rfl⟩:=e1;have k1:=h1.mono g1;have k2:=h2.mono g1;cases hi with
 |none=>
  cases hi' with
  |none=>
   refine SR.then (lJ len) fun τ M y y' g2 _ e=>?_;obtain⟨rfl,rfl⟩:=e;cases lo with
   |none=>cases lo' with
    |none=>exact .pure rfl
    |some v=>exact k1.elim
   |some v=>cases lo' with
    |none=>exact k1.elim
    |some v'=>exact SR.then (dJ (VR.mono g2 k1) _ _) fun _ _ x x' _ _ e=>by(obtain rfl:x'=x:=e;exact .pure rfl)
  |some v=>exact k2.elim
 |some v=>
  cases hi' with
  |none=>exact k2.elim
  |some v'=>
   refine SR.then (dJ k2 _ _) fun τ M y y' g2 _ e=>?_;obtain rfl:y'=y:=e;cases lo with
   |none=>cases lo' with
    |none=>exact .pure rfl
    |some v=>exact k1.elim
   |some v=>cases lo' with
    |none=>exact k1.elim
    |some v'=>exact SR.then (dJ (VR.mono g2 k1) _ _) fun _ _ x x' _ _ e=>by(obtain rfl:x'=x:=e;exact .pure rfl)
theorem CM{v v':Value}(h:VR ρ v v'){lo lo' hi hi':Option Value}(h1:VO ρ lo lo')(h2:VO ρ hi hi'){t:TypeId}(ht:P.underlying t=some .string):SR P VR ρ K (Instr.slice t v lo hi none) (Instr.slice t v' lo' hi' none):=by
 unfold Instr.slice;refine SR.then (ah ht) fun σ L a b g1 _ hab=>?_;obtain⟨rfl,rfl⟩:=hab;cases h.mono g1 with
 |string s=>
  refine SR.then (fI false _ _ (h1.mono g1) (h2.mono g1)) fun τ M x x' _ _ e=>?_;obtain rfl:x'=x:=e;exact .pure (.string _)
 |_=>exact .lost (by simp)
theorem qC{v v':Value}(h:VR ρ v v'):SR P cq ρ K (Builtin.lenOf v) (Builtin.lenOf v'):=by cases h<;>first|exact .pure rfl|exact bJ _ _
theorem cz(size n:Nat){v v':Value}(h:VR ρ v v'):SR P cF ρ K (Builtin.firstCells size n v) (Builtin.firstCells size n v'):=by
 cases h with
 |slice l c ha=>exact lB ha _
 |bP l c=>exact .pure cF.nil
 |string s=>
  refine .pure ⟨rfl,fun i u u' hu fu=>?_⟩;rw[hu]at fu;cases fu;simp only[Array.getElem?_map]at hu;cases hb:(s.extract 0 n).data[i]? with
  |none=>rw[hb]at hu;cases hu
  |some b=>rw[hb]at hu;cases hu;exact .int _ _
 |_=>exact bJ _ _
theorem oO(n:Nat):SR P cq ρ K (askRoom n) (askRoom n):=by
 unfold askRoom;split
 ·exact .noRoom (.pure rfl)
 ·exact .pure rfl
end
end
section
open Go
variable [aR]
section
variable {P:Program} {ρ:Ren} {K:Kn}
theorem cF.append{x x' y y':Array Value}(h:cF ρ x x')(k:cF ρ y y'):cF ρ (x++y) (x'++y'):=by
 refine⟨by simp[h.1,k.1],fun i u u' hu fu=>?_⟩;rw[Array.getElem?_append]at hu fu;rw[h.1]at fu;split at hu
 ·rename_i hi;rw[if_pos hi]at fu;exact h.2 i u u' hu fu
 ·rename_i hi;rw[if_neg hi]at fu;exact k.2 _ u u' hu fu
def Plain(x:Array Value):Prop:=∀(i:Nat) v,x[i]? =some v->∀ρ:Ren,VR ρ v v
theorem Plain.rel{x:Array Value}(h:Plain x)(ρ:Ren):cF ρ x x:=⟨rfl,fun i v v' a b=>by rw[a]at b;cases b;exact h i v a ρ⟩
theorem jm{z:Value}(h:∀ρ:Ren,VR ρ z z):Plain z.cells:=fun i v hv ρ=>(h ρ).cells.2 i v v hv hv
theorem sA{z:Array Value}(h:Plain z)(n:Nat):Plain (Builtin.zeroCells z n):=by
 intro i v hv ρ;unfold Builtin.zeroCells at hv;simp only[Array.getElem?_map]at hv;cases hr:(Array.range (n*z.size))[i]? with
 |none=>rw[hr]at hv;cases hv
 |some j=>
  rw[hr]at hv;cases hv
  have hj:j<n*z.size:=by have:=Array.getElem?_eq_some_iff.1 hr;obtain⟨h1,h2⟩:=this;simp at h1 h2;omega
  have hz:0<z.size:=by
   cases hs:z.size with
   |zero=>rw[hs]at hj;simp at hj
   |succ m=>omega
  have hlt:j %z.size<z.size:=Nat.mod_lt _ hz;have e:z[j %z.size]? =some (z[j %z.size]!):=by simp[hlt]
  exact h _ _ e ρ
theorem gC(hZ:iy P)(t:TypeId):SR P (fun _ a b=>b=a/\∀ρ:Ren,VR ρ a a) ρ K (zeroValue t) (zeroValue t):=by
 refine SR.then (bD t) ?_;rintro σ L a b _ _ ⟨rfl,hi⟩;cases h:b.zero with
 |none=>exact fJ _ _
 |some z=>exact .pure ⟨rfl,hZ t b z hi h⟩
theorem eJ{α β:Type}{Q:Ren->α->β->Prop}(m:String):SR P Q ρ K (runtimePanic (α:=α) (.error m)) (runtimePanic (α:=β) (.error m)):=by refine SR.then bB fun σ L a b _ _ h=>?_;rw[h.1,h.2];exact iM (.iface _ (Fq _))
theorem cV{α β γ δ:Type}{R:Ren->γ->δ->Prop}(m:String)(f:α->Sem γ)(f':β->Sem δ):SR P R ρ K (runtimePanic (.error m) >>= f) (runtimePanic (.error m) >>= f'):=
 SR.then (Q:=fun _ _ _=>False) (eJ m) fun _ _ _ _ _ _ h=>h.elim
theorem xC{α γ:Type}(s:Sem α)(f:α->Sem γ)(hs:∀w v w1,s.run P w≠.halt v w1)(hf:∀a w,∃x w1,(f a).run P w=.halt x w1/\qL x)(w:World):∃x w1,(s >>= f).run P w=.halt x w1/\qL x:=by
 have e:(s >>= f).run P w=(s.run P w).andThen fun a w'=>(f a).run P w':=Sem.run_bind' P s f w;cases h:s.run P w with
 |ok a w1=>
  obtain⟨x,w2,h1,h2⟩:=hf a w1;exact⟨x,w2,by rw[e,h];exact h1,h2⟩
 |halt x w1=>exact absurd h (hs w x w1)
theorem BM(a:Addr)(n:Nat)(w:World):∃b,(Builtin.holdsCells a n).run P w=.ok b w:=by
 unfold Builtin.holdsCells;cases h:w.shape? a.block with
 |none=>exact⟨false,by simp[shape,Sem.run,Bind.bind,Sem.bind,h,Pure.pure]⟩
 |some x=>exact⟨_,by simp only[shape,Sem.run,Bind.bind,Sem.bind,h,Pure.pure];rfl⟩
def jG{α:Type}(P:Program)(s:Sem α):Prop:=∀w:World,∃b,s.run P w=.ok b w
theorem iD{α:Type}(a:α):jG P (pure a:Sem α):=fun _=>⟨a,rfl⟩
theorem jG.bind{α γ:Type}{s:Sem α}{f:α->Sem γ}(h:jG P s)(k:∀a,jG P (f a)):jG P (s >>= f):=fun w=>by obtain⟨b,hb⟩:=h w;obtain⟨c,hc⟩:=k b w;exact⟨c,by rw[Sem.run_bind,hb];exact hc⟩
theorem zH(a:Addr):jG P (frozen a):=fun w=>⟨w.frozen? a,rfl⟩
theorem Co(size l n:Nat)(base:Option Addr)(x:Value)(w:World):∃b,(Builtin.mayShare size l n base x).run P w=.ok b w:=by
 suffices h:jG P (Builtin.mayShare size l n base x) from h w
 unfold Builtin.mayShare
 extract_lets last
 have hl:∀there,jG P (last there):=fun there=>by
  dsimp only[last];split
  ·exact iD _
  ·split
   ·exact jG.bind (fun w=>BM _ _ w) fun _=>iD _
   ·exact iD _
 cases base with
 |none=>exact jG.bind (iD _) hl
 |some a=>exact jG.bind (fun w=>BM a _ w) fun _=>jG.bind (zH _) fun _=>jG.bind (iD _) hl
theorem IP(hZ:iy P){s s' x x':Value}(hs:VR ρ s s')(hx:VR ρ x x'){t u e ty:TypeId}{d:TypeDesc}(ht:P.underlying t=some (.slice e))(hu:P.underlying u=some d)(hd:d=.string\/∃e',d=.slice e'):SR P VR ρ K (Builtin.append_ #[t,u] ty #[s,x]) (Builtin.append_ #[t,u] ty #[s',x']):=by
 rcases hd with rfl|⟨e',rfl⟩
 all_goals
  unfold Builtin.append_;simp only[List.getElem?_toArray,List.getElem?_cons_zero,List.getElem?_cons_succ];refine SR.then (ah ht) fun σ L a b g1 _ hab=>?_;obtain⟨rfl,rfl⟩:=hab;dsimp only;have hs1:=hs.mono g1;have hx1:=hx.mono g1;cases hs1 with
  |@slice c c' sLen sCap hc=>
   refine SR.then (bQ e) fun τ M size size' g2 _ e2=>?_;obtain rfl:size'=size:=e2;refine SR.then (ah hu) fun oY M2 u u' g3 _ e3=>?_;obtain⟨rfl,rfl⟩:=e3;refine SR.then (lJ false) fun Dh M3 z z' g4 _ e4=>?_;obtain⟨rfl,rfl⟩:=e4;simp only[Bool.false_eq_true,if_false,Bool.not_false,if_true,false_or];have g5:=Ren.le_trans (Ren.le_trans g2 g3) g4;have PT:=hx1.mono g5;have AD:=hc.mono g5;refine SR.then (qC PT) fun Qe M4 n n' g6 _ e5=>?_;obtain rfl:n'=n:=e5;have Vy:=PT.mono g6;have UN:=AD.mono g6;split
   ·refine SR.then (cz _ _ Vy) fun SD M5 w w' g7 _ hw=>?_;refine SR.then (gA ((UN.mono g7).add _) _ _ 0 M5 (by simpa using hw.1) fun j q q' hq kY=>hw.2 j q q' (by simpa using hq) (by simpa using kY)) fun SE M6 _ _ g8 _ _=>?_;exact .pure (.slice _ _ ((UN.mono g7).mono g8))
   ·refine SR.then (bD e) fun SD M5 ti ti' g7 _ ZB=>?_;obtain rfl:ti'=ti:=ZB.1;have ZH:=Vy.mono g7;have UO:=UN.mono g7;split
    ·exact cV _ _ _
    ·refine SR.then (bD e) fun SE M6 tj tj' g8 _ ZC=>?_;obtain rfl:tj'=tj:=ZC.1;split
     ·refine SR.then (Q:=fun _ _ _=>False) (.Bo fun w=>xC _ _ (fun w v w1 hp=>?_) (fun b w=>?_) w) fun _ _ _ _ _ _ h=>h.elim
      ·obtain⟨b,hb⟩:=Co (P:=P) size' sLen n' (some c) x w;rw[hb]at hp;cases hp
      ·cases b
       ·exact⟨_,_,rfl,by simp⟩
       ·exact⟨_,_,rfl,by simp⟩
     ·refine SR.then (ir _) fun τ7 M7 nc ZO g9 _ hnc=>?_;obtain rfl:ZO=nc:=hnc;refine SR.then (bD e) fun τ8 M8 tk tk' Um _ htk=>?_;obtain rfl:tk'=tk:=htk.1;refine SR.then (oO _) fun τ9 M9 _ _ Yl _ _=>?_;have Pk:=Ren.le_trans (Ren.le_trans (Ren.le_trans g8 g9) Um) Yl;refine SR.then (cz _ _ (VR.slice sLen sCap (UO.mono Pk))) fun aad M10 y y' Ym _ hy=>?_;refine SR.then (cz _ _ ((ZH.mono Pk).mono Ym)) fun aae M11 q q' Yn _ hq=>?_;refine SR.then (gC hZ e) fun aaf M12 zz zz' Un _ hzz=>?_;obtain⟨rfl,ZJ⟩:=hzz;refine SR.then (gm e (((hy.mono (Ren.le_trans Yn Un)).append (hq.mono Un)).append ((sA (jm ZJ) _).rel _))) fun aag M13 ad XN _ _ had=>?_;exact .pure (.slice _ _ had)
  |bP sLen sCap=>
   refine SR.then (bQ e) fun τ M size size' g2 _ e2=>?_;obtain rfl:size'=size:=e2;refine SR.then (ah hu) fun oY M2 u u' g3 _ e3=>?_;obtain⟨rfl,rfl⟩:=e3;refine SR.then (lJ false) fun Dh M3 z z' g4 _ e4=>?_;obtain⟨rfl,rfl⟩:=e4;simp only[Bool.false_eq_true,if_false,Bool.not_false,if_true,false_or];have g5:=Ren.le_trans (Ren.le_trans g2 g3) g4;have PT:=hx1.mono g5;refine SR.then (qC PT) fun Qe M4 n n' g6 _ e5=>?_;obtain rfl:n'=n:=e5;have Vy:=PT.mono g6;split
   ·refine SR.then (cz _ _ Vy) fun SD M5 w w' g7 _ hw=>?_;exact .pure (.bP _ _)
   ·refine SR.then (bD e) fun SD M5 ti ti' g7 _ ZB=>?_;obtain rfl:ti'=ti:=ZB.1;have ZH:=Vy.mono g7;split
    ·exact cV _ _ _
    ·refine SR.then (bD e) fun SE M6 tj tj' g8 _ ZC=>?_;obtain rfl:tj'=tj:=ZC.1;split
     ·refine SR.then (Q:=fun _ _ _=>False) (.Bo fun w=>xC _ _ (fun w v w1 hp=>?_) (fun b w=>?_) w) fun _ _ _ _ _ _ h=>h.elim
      ·obtain⟨b,hb⟩:=Co (P:=P) size' sLen n' none x w;rw[hb]at hp;cases hp
      ·cases b
       ·exact⟨_,_,rfl,by simp⟩
       ·exact⟨_,_,rfl,by simp⟩
     ·refine SR.then (ir _) fun τ7 M7 nc ZO g9 _ hnc=>?_;obtain rfl:ZO=nc:=hnc;refine SR.then (bD e) fun τ8 M8 tk tk' Um _ htk=>?_;obtain rfl:tk'=tk:=htk.1;refine SR.then (oO _) fun τ9 M9 _ _ Yl _ _=>?_;have Pk:=Ren.le_trans (Ren.le_trans (Ren.le_trans g8 g9) Um) Yl;refine SR.then (cz _ _ (VR.bP sLen sCap)) fun aad M10 y y' Ym _ hy=>?_;refine SR.then (cz _ _ ((ZH.mono Pk).mono Ym)) fun aae M11 q q' Yn _ hq=>?_;refine SR.then (gC hZ e) fun aaf M12 zz zz' Un _ hzz=>?_;obtain⟨rfl,ZJ⟩:=hzz;refine SR.then (gm e (((hy.mono (Ren.le_trans Yn Un)).append (hq.mono Un)).append ((sA (jm ZJ) _).rel _))) fun aag M13 ad XN _ _ had=>?_;exact .pure (.slice _ _ had)
  |_=>exact .lost (by simp)
end
end
section
open Go
variable [aR]
section
variable {P:Program} {ρ:Ren} {K:Kn}
theorem sN(op:BinOp)(k:IntKind)(x y:Int):SR P VR ρ K (Op.intArith op k x y) (Op.intArith op k x y):=by unfold Op.intArith;split<;>first|exact .pure (.int _ _)|exact bJ _ _
theorem IV(op:BinOp)(x y:Int):SR P VR ρ K (Op.intCmp op x y) (Op.intCmp op x y):=by unfold Op.intCmp;split<;>first|exact .pure (.bool _)|exact bJ _ _
theorem IW(op:BinOp)(k:IntKind)(x y:Int):SR P VR ρ K (Op.intDiv op k x y) (Op.intDiv op k x y):=by
 unfold Op.intDiv;split
 ·exact eJ _
 ·split<;>first|exact .pure (.int _ _)|exact bJ _ _
theorem Mn(op:BinOp)(k:IntKind)(x:Int)(l:IntKind)(y:Int):SR P VR ρ K (Op.shift op k x l y) (Op.shift op k x l y):=by
 unfold Op.shift;split
 ·exact eJ _
 ·dsimp only;split<;>first|exact .pure (.int _ _)|exact bJ _ _
theorem Fh(op:BinOp)(k:IntKind)(x y:Int):SR P VR ρ K (Op.intBits op k x y) (Op.intBits op k x y):=by unfold Op.intBits;dsimp only;split<;>first|exact .pure (.int _ _)|exact bJ _ _
theorem sP(op:BinOp)(x y:ByteArray):SR P VR ρ K (Op.stringOp op x y) (Op.stringOp op x y):=by
 unfold Op.stringOp;dsimp only;split
 ·split
  ·exact fJ _ _
  ·exact .pure (.string _)
 all_goals first|exact .pure (.bool _)|exact bJ _ _
theorem ry(op:BinOp)(t:TypeId)(k l:IntKind)(x y:Int):SR P VR ρ K (binOp op t (.int k x) (.int l y)) (binOp op t (.int k x) (.int l y)):=by
 have hk:SR P VR ρ K (stuck "BinOp: operands of different kinds") (stuck "BinOp: operands of different kinds"):=bJ _ _;cases op<;>simp only[binOp]
 all_goals first
  |exact Mn _ _ _ _ _
  |skip
 all_goals
  split
  ·exact hk
  ·first
   |exact sN _ _ _ _
   |exact IW _ _ _ _
   |exact Fh _ _ _ _
   |exact IV _ _ _
theorem rz(op:BinOp)(t:TypeId)(x y:ByteArray):SR P VR ρ K (binOp op t (.string x) (.string y)) (binOp op t (.string x) (.string y)):=by cases op<;>simp only[binOp]<;>exact sP _ _ _
theorem xj{v v':Value}(h:VR ρ v v'){lo lo' hi hi':Option Value}(h1:VO ρ lo lo')(h2:VO ρ hi hi'){t e:TypeId}(ht:P.underlying t=some (.slice e)):SR P VR ρ K (Instr.slice t v lo hi none) (Instr.slice t v' lo' hi' none):=by
 unfold Instr.slice;refine SR.then (ah ht) fun σ L a b g1 _ hab=>?_;obtain⟨rfl,rfl⟩:=hab;cases h.mono g1 with
 |bP l c=>
  refine SR.then (fI true _ _ (h1.mono g1) (h2.mono g1)) fun τ M x x' _ _ ex=>?_;obtain rfl:x'=x:=ex;refine SR.then (bQ e) fun υ N n n' _ _ en=>?_;obtain rfl:n'=n:=en;obtain⟨Xu,hi1,Xv⟩:=x';simp only[Option.map_none,ite_self];exact .pure (.bP _ _)
 |@slice c c' l k ha=>
  refine SR.then (fI true _ _ (h1.mono g1) (h2.mono g1)) fun τ M x x' g2 _ ex=>?_;obtain rfl:x'=x:=ex;refine SR.then (bQ e) fun υ N n n' g3 _ en=>?_;obtain rfl:n'=n:=en;have ha':=(ha.mono g2).mono g3;obtain⟨Xu,hi1,Xv⟩:=x';split
  ·exact .pure (.slice _ _ ha')
  ·exact .pure (.slice _ _ (ha'.add _))
 |_=>exact .lost (by simp)
theorem vZ{v v':Value}{lo lo' hi hi':Option Value}{t:TypeId}{d:TypeDesc}(ht:P.underlying t=some d)(hd:∀n e,d≠.array n e)
  (h:∀σ L,ρ.le σ->SR P VR σ L (Instr.slice t v lo hi none) (Instr.slice t v' lo' hi' none)):SR P VR ρ K (Instr.sliceAt t v lo hi none) (Instr.sliceAt t v' lo' hi' none):=by
 unfold Instr.sliceAt;refine SR.then (ah ht) fun σ L a b g1 _ hab=>?_;obtain⟨rfl,rfl⟩:=hab;split
 ·exact absurd rfl (hd _ _)
 ·exact h σ L g1
theorem CB{v v':Value}(h:VR ρ v v'){t e:TypeId}(ht:P.underlying t=some (.slice e))(ty:TypeId):SR P VR ρ K (Builtin.len_ #[t] ty #[v]) (Builtin.len_ #[t] ty #[v']):=by unfold Builtin.len_;simp only[List.getElem?_toArray,List.getElem?_cons_zero];refine SR.then (ah ht) fun σ L a b g1 _ hab=>?_;obtain⟨rfl,rfl⟩:=hab;cases h<;>first|exact .pure (.int _ _)|exact .lost (by simp)
theorem IX{v v':Value}(h:VR ρ v v'){t:TypeId}(ht:P.underlying t=some .string)(ty:TypeId):SR P VR ρ K (Builtin.len_ #[t] ty #[v]) (Builtin.len_ #[t] ty #[v']):=by unfold Builtin.len_;simp only[List.getElem?_toArray,List.getElem?_cons_zero];refine SR.then (ah ht) fun σ L a b g1 _ hab=>?_;obtain⟨rfl,rfl⟩:=hab;cases h<;>first|exact .pure (.int _ _)|exact .lost (by simp)
theorem OD{s s' x x':Value}(hs:VR ρ s s')(hx:VR ρ x x'){t u e ty:TypeId}(ht:P.underlying t=some (.slice e)):SR P VR ρ K (Builtin.copy_ #[t,u] ty #[s,x]) (Builtin.copy_ #[t,u] ty #[s',x']):=by
 unfold Builtin.copy_;simp only[List.getElem?_toArray,List.getElem?_cons_zero,List.getElem?_cons_succ];refine SR.then (ah ht) fun σ L a b g1 _ hab=>?_;obtain⟨rfl,rfl⟩:=hab;dsimp only;have hx1:=hx.mono g1;cases hs.mono g1 with
 |@slice c c' l k hc=>
  refine SR.then (qC hx1) fun τ M n n' g2 _ en=>?_;obtain rfl:n'=n:=en;refine SR.then (bQ e) fun oY M2 z z' g3 _ ez=>?_;obtain rfl:z'=z:=ez;have g4:=Ren.le_trans g2 g3;refine SR.then (cz _ _ (hx1.mono g4)) fun Dh M3 w w' g5 _ hw=>?_;refine SR.then (gA ((hc.mono g4).mono g5) _ _ 0 M3 (by simpa using hw.1) fun j q q' hq kY=>hw.2 j q q' (by simpa using hq) (by simpa using kY)) fun SE M6 _ _ g8 _ _=>?_;exact .pure (.int _ _)
 |bP l k=>
  refine SR.then (qC hx1) fun τ M n n' g2 _ en=>?_;obtain rfl:n'=n:=en;refine SR.then (bQ e) fun oY M2 z z' g3 _ ez=>?_;obtain rfl:z'=z:=ez;refine SR.then (cz _ _ (hx1.mono (Ren.le_trans g2 g3))) fun Dh M3 w w' g5 _ hw=>?_;exact .pure (.int _ _)
 |_=>exact .lost (by simp)
end
end
end Go.Proofs.YtpobhljcainmdaaGreat
