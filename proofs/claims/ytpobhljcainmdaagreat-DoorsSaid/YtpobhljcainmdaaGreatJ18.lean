/- Proved here: a part of what Doors keeps (Mir8, Mir9, Mir10, Mir11, Mir12, Mir13). -/
import Derived.Test.YtpobhljcainmdaaGreatJ17
set_option maxRecDepth 100000
set_option maxHeartbeats 8000000
set_option linter.all false
namespace Go.Proofs.YtpobhljcainmdaaGreat
section
open Go
variable [aR]
section
variable {P:Program} {ρ:Ren} {K:Kn}
inductive bU{α β:Type}(R:α->β->Prop):List α->List β->Prop
 |nil:bU R [] []
 |cons {a:α} {b:β} {l:List α} {m:List β} (h:R a b) (t:bU R l m):bU R (a::l) (b::m)
def JK(ρ:Ren)(x x':List Value):Prop:=bU (VR ρ) x x'
theorem cF.list{x x':Array Value}(h:cF ρ x x'):JK ρ x.toList x'.toList:=by
 obtain⟨h1,h2⟩:=h;rcases x with⟨x⟩;rcases x' with⟨x'⟩;simp only[List.size_toArray]at h1;simp only[List.getElem?_toArray]at h2;unfold JK;dsimp only;induction x generalizing x' with
 |nil=>
  obtain rfl:x'=[]:=List.eq_nil_of_length_eq_zero h1;exact .nil
 |cons v x ih=>
  cases x' with
  |nil=>simp at h1
  |cons v' x'=>
   refine .cons (h2 0 v v' rfl rfl) (ih x' (by simpa using h1) fun i u u' hu fu=>h2 (i+1) u u' (by simpa using hu) (by simpa using fu))
theorem Lj{ws ws':List Value}(h:JK ρ ws ws')(off:Nat):∀(k:Nat) {x x':Array Value},cF ρ x x'->
  cF ρ ((ws.zipIdx k).foldl (fun cs (p:Value×Nat)=>cs.setIfInBounds (off+p.2) p.1) x) ((ws'.zipIdx k).foldl (fun cs (p:Value×Nat)=>cs.setIfInBounds (off+p.2) p.1) x'):=by
 unfold JK at h;induction h with
 |nil=>intro k x x' hx;exact hx
 |cons hv _ ih=>intro k x x' hx;exact ih (k+1) (hx.set hv _)
def ML(ρ:Ren)(x x':List (Nat×Value)):Prop:=bU (fun p p'=>p'.1=p.1/\VR ρ p.2 p'.2) x x'
theorem ML.mono{σ:Ren}(g:ρ.le σ){x x':List (Nat×Value)}(h:ML ρ x x'):ML σ x x':=by
 unfold ML at*;induction h with
 |nil=>exact .nil
 |cons hv _ ih=>exact .cons ⟨hv.1,hv.2.mono g⟩ ih
inductive Qk(ρ:Ren):Option (Array Value)->Option (Array Value)->Prop
 |none:Qk ρ none none
 |some {x x':Array Value} (h:cF ρ x x'):Qk ρ (some x) (some x')
theorem uA(place:Nat->Option (Nat×Nat)){ps ps':List (Nat×Value)}(h:ML ρ ps ps'):∀{x x':Array Value},cF ρ x x'->Qk ρ (Instr.fill place x ps) (Instr.fill place x' ps'):=by
 unfold ML at h;induction h with
 |nil=>intro x x' hx;exact .some hx
 |@cons p p' _ _ hv _ ih=>
  intro x x' hx;obtain⟨i,v⟩:=p;obtain⟨i',v'⟩:=p';obtain⟨h1,h2⟩:=hv;dsimp only at h1 h2;subst h1;unfold Instr.fill;cases hp:place i' with
  |none=>exact .none
  |some q=>
   obtain⟨off,size⟩:=q;dsimp only;rw[h2.cells.1,hx.1];split
   ·exact .none
   ·refine ih ?_;have:=Lj h2.cells.list off 0 hx;rw[<-Array.toList_zipIdx,<-Array.toList_zipIdx,Array.foldl_toList,Array.foldl_toList]at this;exact this
theorem OE{α β:Type}{f:α->Sem β}(h:∀a σ L,SR P cq σ L (f a) (f a))(xs:Array α):SR P cq ρ K (xs.mapM f) (xs.mapM f):=by
 rw[Array.mapM_eq_mapM_toList];refine Ar _ _ (Q:=cq) ?_ fun _ a b _ hab=>by rw[show b=a from hab]
 generalize xs.toList=l;induction l generalizing ρ K with
 |nil=>exact .pure rfl
 |cons a l ih=>
  rw[List.mapM_cons];refine SR.then (h a _ _) fun σ L b b' _ _ hb=>?_;obtain rfl:b'=b:=hb;refine SR.then ih fun σ L c c' _ _ hc=>?_;obtain rfl:c'=c:=hc;exact .pure rfl
theorem Mg(hZ:iy P){t:TypeId}{fs:Array Field}(ht:P.underlying t=some (.struct fs)){ps ps':Array (Nat×Value)}(h:ML ρ ps.toList ps'.toList):SR P VR ρ K (Instr.build t ps) (Instr.build t ps'):=by
 unfold Instr.build;refine SR.then (dy hZ t) fun σ L z z' g1 _ hz=>?_;refine SR.then (ah ht) fun τ M a b g2 _ hab=>?_;obtain⟨rfl,rfl⟩:=hab;refine SR.then (OE (fun f σ L=>SR.then (bQ f.type) fun _ _ n n' _ _ hn=>by(obtain rfl:n'=n:=hn;exact .pure rfl)) fs) fun υ N pl Xx g3 _ hpl=>?_;obtain rfl:Xx=pl:=hpl;have hr:=uA (ρ:=υ) (Xx[·]?) (h.mono (Ren.le_trans (Ren.le_trans g1 g2) g3)) (hz.cells.mono (Ren.le_trans g2 g3));revert hr;generalize Instr.fill (fun x=>Xx[x]?) z.cells ps.toList=o;generalize Instr.fill (fun x=>Xx[x]?) z'.cells ps'.toList=o';intro hr;cases hr with
 |none=>exact .lost (by simp)
 |some hx=>exact .pure (.agg hx.1 hx.2)
end
end
section
open Go
variable [aR]
section
variable {P:Program} {ρ:Ren} {K:Kn}
theorem Fp:VR ρ (default:Value) default:=by first|exact .bool _|exact .nilIface|exact .jF|exact .nilFunc|exact .tuple rfl (fun i v v' h=>by simp at h)
theorem nB{z:Array Value}(h:Plain z)(n:Nat):Plain ((Array.range n).map (z[· %z.size]!)):=by
 intro i v hv ρ;simp only[Array.getElem?_map]at hv;cases hr:(Array.range n)[i]? with
 |none=>rw[hr]at hv;cases hv
 |some j=>
  rw[hr]at hv;cases hv
  by_cases hz:j %z.size<z.size
  ·have e:z[j %z.size]? =some (z[j %z.size]!):=by simp[hz]
   exact h _ _ e ρ
  ·have e:z[j %z.size]! =default:=by
    rw[getElem!_neg];exact hz
   show VR ρ (z[j %z.size]!) (z[j %z.size]!);rw[e];exact Fp
theorem xZ:Plain #[]:=fun i v h=>by simp at h
theorem xe(hZ:iy P){t e:TypeId}(ht:P.underlying t=some (.slice e))(len:Nat){ps ps':Array (Nat×Value)}(h:ML ρ ps.toList ps'.toList):SR P VR ρ K (Instr.buildSlice t len ps) (Instr.buildSlice t len ps'):=by
 unfold Instr.buildSlice;refine SR.then (ah ht) fun τ M a b g2 _ hab=>?_;obtain⟨rfl,rfl⟩:=hab;dsimp only;refine SR.then (bQ e) fun υ N n n' g3 _ hn=>?_;obtain rfl:n'=n:=hn;split
 ·exact .lost (by simp)
 ·split
  ·refine SR.then (lJ _) fun φ O z z' g4 _ hz=>?_;obtain⟨rfl,rfl⟩:=hz;have hr:=uA (ρ:=φ) (fun i=>some (i*n',n')) (h.mono (Ren.le_trans (Ren.le_trans g2 g3) g4)) ((nB xZ (len*n')).rel φ);revert hr;generalize Instr.fill _ _ ps.toList=o;generalize Instr.fill _ _ ps'.toList=o';intro hr;cases hr with
   |none=>exact .lost (by simp)
   |some hx=>exact SR.then (gm e hx) fun _ _ _ _ _ _ ha=>.pure (.slice _ _ ha)
  ·refine SR.then (gC hZ e) fun ψ R y y' g5 _ hy=>?_;obtain⟨rfl,hp⟩:=hy;refine SR.then (lJ _) fun φ O z z' g4 _ hz=>?_;obtain⟨rfl,rfl⟩:=hz;have hr:=uA (ρ:=φ) (fun i=>some (i*n',n')) (h.mono (Ren.le_trans (Ren.le_trans (Ren.le_trans g2 g3) g5) g4)) ((nB (jm hp) (len*n')).rel φ);revert hr;generalize Instr.fill _ _ ps.toList=o;generalize Instr.fill _ _ ps'.toList=o';intro hr;cases hr with
   |none=>exact .lost (by simp)
   |some hx=>exact SR.then (gm e hx) fun _ _ _ _ _ _ ha=>.pure (.slice _ _ ha)
theorem Aq(hZ:iy P){t e:TypeId}(ht:P.underlying t=some (.slice e)){x x' y y':Value}(hx:VR ρ x x')(hy:VR ρ y y'):SR P VR ρ K (Instr.makeSlice t x y) (Instr.makeSlice t x' y'):=by
 unfold Instr.makeSlice;refine SR.then (ah ht) fun σ L a b g1 _ hab=>?_;obtain⟨rfl,rfl⟩:=hab;dsimp only;refine SR.then (iK (hx.mono g1)) fun τ M l l' g2 _ hl=>?_;obtain rfl:l'=l:=hl;refine SR.then (iK (hy.mono (Ren.le_trans g1 g2))) fun υ N c c' g3 _ hc=>?_;obtain rfl:c'=c:=hc;refine SR.then (bD e) fun φ O i i' g4 _ hi=>?_;obtain rfl:i'=i:=hi.1;split
 ·split
  ·exact cV _ _ _
  ·split
   ·exact cV _ _ _
   ·refine SR.then (ir _) fun _ _ n n' _ _ hn=>?_;obtain rfl:n'=n:=hn;exact cV _ _ _
 ·refine SR.then (oO _) fun σ2 L2 _ _ g5 _ _=>?_;refine SR.then (bQ e) fun σ3 L3 n n' g6 _ hn=>?_;obtain rfl:n'=n:=hn;split
  ·refine SR.then (lJ _) fun σ4 L4 z z' g7 _ hz=>?_;obtain⟨rfl,rfl⟩:=hz;exact SR.then (gm e ((nB xZ _).rel _)) fun _ _ _ _ _ _ ha=>.pure (.slice _ _ ha)
  ·refine SR.then (gC hZ e) fun ψ R y y' g5 _ hy=>?_;obtain⟨rfl,hp⟩:=hy;refine SR.then (lJ _) fun σ4 L4 z z' g7 _ hz=>?_;obtain⟨rfl,rfl⟩:=hz;exact SR.then (gm e ((nB (jm hp) _).rel _)) fun _ _ _ _ _ _ ha=>.pure (.slice _ _ ha)
theorem kv{v v':Value}(h:VR ρ v v'):SR P VR ρ K (Conv.bytesToString v) (Conv.bytesToString v'):=by
 unfold Conv.bytesToString;cases h with
 |bP l c=>exact .pure (.string _)
 |@slice a a' l c ha=>
  refine SR.then (lB ha l) fun σ L x x' _ _ hx=>?_;simp only[<-Array.forIn_toList];have hl:=hx.list;revert hl;generalize x.toList=y;generalize x'.toList=y';intro hl;refine SR.then (Q:=cq) ?_ fun _ _ b b' _ _ hb=>by(obtain rfl:b'=b:=hb;exact .pure (.string _))
  unfold JK at hl;generalize ByteArray.empty=acc;induction hl generalizing acc with
  |nil=>exact .pure rfl
  |cons hv _ ih=>
   simp only[List.forIn_cons];cases hv with
   |int k n=>
    cases k
    case u8=>exact ih _
    all_goals exact .lost (by simp)
   |_=>exact .lost (by simp)
 |_=>exact .lost (by simp)
theorem Aj{s d e:TypeId}(hs:P.underlying s=some (.slice e))(hd:P.underlying d=some .string)(he:P.underlying e=some (.int .u8)){v v':Value}(h:VR ρ v v')(hv:∀b,v≠.string b)(hn:∀k n,v≠.int k n):SR P VR ρ K (convert s d v) (convert s d v'):=by
 unfold convert;refine SR.then (ah hs) fun _ _ x x' g1 _ hx=>?_;obtain⟨rfl,rfl⟩:=hx;refine SR.then (ah hd) fun _ _ y y' g2 _ hy=>?_;obtain⟨rfl,rfl⟩:=hy;cases h with
 |string b=>exact absurd rfl (hv b)
 |int k n=>exact absurd rfl (hn k n)
 |bP l c=>
  refine SR.then (ah he) fun _ _ z z' g3 _ hz=>?_;obtain⟨rfl,rfl⟩:=hz;exact kv (.bP l c)
 |slice l c ha=>
  refine SR.then (ah he) fun _ _ z z' g3 _ hz=>?_;obtain⟨rfl,rfl⟩:=hz;exact kv (.slice l c (ha.mono (Ren.le_trans (Ren.le_trans g1 g2) g3)))
 |_=>
  refine SR.then (ah he) fun _ _ z z' g3 _ hz=>?_;obtain⟨rfl,rfl⟩:=hz;exact .lost (by simp)
end
end
section
open Go
variable [aR]
section
variable {P:Program} {ρ:Ren} {K:Kn}
theorem gI{k:TypeId}{κ:IntKind}(hk:P.underlying k=some (.int κ))(b b':Bool)(v v':Value):SR P cq ρ K (Instr.checkKey b 10000 k v) (Instr.checkKey b' 10000 k v'):=by rw[show(10000:Nat)=9999+1 from rfl];unfold Instr.checkKey;refine SR.then (ah hk) fun _ _ x x' _ _ hx=>?_;obtain⟨rfl,rfl⟩:=hx;exact .pure rfl
def Qf(ρ:Ren)(x x':List MapEntry):Prop:=bU (fun e e'=>VR ρ e.key e'.key/\VR ρ e.val e'.val/\e'.born=e.born) x x'
theorem AL.list{x x':Array MapEntry}(h:AL ρ x x'):Qf ρ x.toList x'.toList:=by
 obtain⟨h1,h2⟩:=h;rcases x with⟨x⟩;rcases x' with⟨x'⟩;simp only[List.size_toArray]at h1;simp only[List.getElem?_toArray]at h2;unfold Qf;dsimp only;induction x generalizing x' with
 |nil=>
  obtain rfl:x'=[]:=List.eq_nil_of_length_eq_zero h1;exact .nil
 |cons v x ih=>
  cases x' with
  |nil=>simp at h1
  |cons v' x'=>
   refine .cons (h2 0 v v' rfl rfl) (ih x' (by simpa using h1) fun i u u' hu fu=>h2 (i+1) u u' (by simpa using hu) (by simpa using fu))
inductive Found(ρ:Ren):Option (Nat×Value)->Option (Nat×Value)->Prop
 |none:Found ρ none none
 |some (i:Nat) {v v':Value} (h:VR ρ v v'):Found ρ (some (i,v)) (some (i,v'))
theorem Found.mono{σ:Ren}(g:ρ.le σ){x x':Option (Nat×Value)}(h:Found ρ x x'):Found σ x x':=by
 cases h with
 |none=>exact .none
 |some i h=>exact .some i (h.mono g)
theorem AL.push{x x':Array MapEntry}(h:AL ρ x x'){e e':MapEntry}(he:VR ρ e.key e'.key/\VR ρ e.val e'.val/\e'.born=e.born):AL ρ (x.push e) (x'.push e'):=by
 refine⟨by simp[h.1],fun i u u' hu fu=>?_⟩;rw[Array.getElem?_push]at hu fu;rw[h.1]at fu;split at hu
 ·rename_i hi;rw[if_pos hi]at fu;cases hu;cases fu;exact he
 ·rename_i hi;rw[if_neg hi]at fu;exact h.2 i u u' hu fu
theorem AL.modify{x x':Array MapEntry}(h:AL ρ x x'){k k' v v':Value}(hk:VR ρ k k')(hv:VR ρ v v')(i:Nat):AL ρ (x.modify i fun e=>{e with key:=k,val:=v}) (x'.modify i fun e=>{e with key:=k',val:=v'}):=by
 refine⟨by simp[h.1],fun l u u' hu fu=>?_⟩;rw[Array.getElem?_modify]at hu fu;split at hu
 ·rename_i hi;rw[if_pos hi]at fu;cases hx:x[l]? with
  |none=>rw[hx]at hu;cases hu
  |some e=>
   cases hx':x'[l]? with
   |none=>rw[hx']at fu;cases fu
   |some e'=>
    rw[hx]at hu;rw[hx']at fu;cases hu;cases fu;exact⟨hk,hv,(h.2 l e e' hx hx').2.2⟩
 ·rename_i hi;rw[if_neg hi]at fu;exact h.2 l u u' hu fu
theorem RJ{x x':Array MapEntry}(h:AL ρ x x')(i:Nat){k k':Value}(hk:VR ρ k k'):VR ρ (((x[i]?).map (·.key)).getD k) (((x'[i]?).map (·.key)).getD k'):=by
 cases hx:x[i]? with
 |none=>
  have:x'[i]? =none:=by rw[Array.getElem?_eq_none_iff]at hx⊢;rw[h.1];exact hx
  rw[this];exact hk
 |some e=>
  cases hx':x'[i]? with
  |none=>
   rw[Array.getElem?_eq_none_iff,h.1,<-Array.getElem?_eq_none_iff,hx]at hx';cases hx'
  |some e'=>exact(h.2 i e e' hx hx').1
end
end
section
open Go
variable [aR]
inductive TR(ρ:Ren):Target->Target->Prop
 |fn {f f':Fn} {x x':Array Value} (h:FR ρ f f') (hx:cF ρ x x'):TR ρ (.fn f x) (.fn f' x')
 |nil:TR ρ .nil .nil
 |collected {r r':Nat} (h:ρ r r'):TR ρ (.collected r) (.collected r')
def DR(ρ:Ren)(d d':Deferred):Prop:=TR ρ d.target d'.target/\cF ρ d.args d'.args
theorem TR.mono{ρ σ:Ren}(g:ρ.le σ){t t':Target}(h:TR ρ t t'):TR σ t t':=by
 cases h with
 |fn h hx=>exact .fn (h.mono g) (hx.mono g)
 |nil=>exact .nil
 |collected h=>exact .collected (g _ _ h)
theorem DR.mono{ρ σ:Ren}(g:ρ.le σ){d d':Deferred}(h:DR ρ d d'):DR σ d d':=⟨h.1.mono g,h.2.mono g⟩
def CR(ρ:Ren)(c c':CommCase):Prop:=VR ρ c.chan c'.chan/\c.send=none/\c'.send=none/\VR ρ c.zero c'.zero
inductive NR(ρ:Ren):Next->Next->Prop
 |value {v v':Value} (h:VR ρ v v'):NR ρ (.value v) (.value v')
 |skip:NR ρ .skip .skip
 |enter (f:FuncId) {x x':Array Value} (hf:aR.ok f) (h:cF ρ x x'):NR ρ (.enter f x) (.enter f x')
 |round {l l':Nat} (f:FuncId) {x x':Array Value} (a b:Code) (h0:aR.known f/\aR.code a/\aR.code b) (hl:ρ l l') (h:cF ρ x x'):NR ρ (.round l f x a b) (.round l' f x' a b)
 |defer {d d':Deferred} (h:DR ρ d d'):NR ρ (.defer d) (.defer d')
 |recover:NR ρ .recover .recover
 |comm {c c':CommCase} (h:CR ρ c c'):NR ρ (.comm #[c] false .select) (.comm #[c'] false .select)
section
variable {P:Program} {ρ:Ren} {K:Kn}
theorem dc{s s':Sem Value}(h:SR P VR ρ K s s'):SR P NR ρ K (do pure (.value (<-s))) (do pure (.value (<-s'))):=SR.then h fun _ _ _ _ _ _ hv=>.pure (.value hv)
theorem Wd{s s':Sem Unit}(h:SR P cq ρ K s s'):SR P NR ρ K (do s;pure .skip) (do s';pure .skip):=SR.then h fun _ _ _ _ _ _ _=>.pure .skip
theorem vY{f f':Value}(h:VR ρ f f'){x x':Array Value}(hx:cF ρ x x'):SR P DR ρ K (Deferred.ofValue f x) (Deferred.ofValue f' x'):=by
 cases h with
 |func hf h1 h2 h3 h4=>exact .pure ⟨.fn hf ⟨h3,h4⟩,cF.append ⟨h1,h2⟩ hx⟩
 |nilFunc=>exact .pure ⟨.nil,hx⟩
 |_=>exact bJ _ _
theorem sM{f:FuncId}{fn:Func}(h0:aR.ok f)(hf:P.funcs[f]? =some fn)(h1:(fn.name== "runtime.NumGoroutine")=false)(h2:fn.body.isNone=false){x x':Array Value}(hx:cF ρ x x'):SR P NR ρ K (callFunc f x) (callFunc f x'):=by unfold callFunc;refine SR.then bB fun σ L a b g _ h=>?_;rw[h.1,h.2,hf];dsimp only;rw[h1,h2];exact .pure (.enter f h0 (hx.mono g))
theorem vU{l l':Nat}(h:ρ l l'):SR P (fun σ r r'=>OR σ (.loop r) (.loop r')) ρ K (Instr.getLoop l) (Instr.getLoop l'):=by
 unfold Instr.getLoop;refine .getObj h (fun o o' ho=>?_) ⟨_,rfl,by simp⟩;refine SR.then (Q:=OR) (.pure ho) fun τ M o o' g2 _ ho=>?_;cases ho with
 |loop h0 h1 h2 h3 h4 h5 h6 h7 h8=>exact .pure (.loop h0 h1 h2 h3 h4 h5 h6 h7 h8)
 |_=>exact .lost (by simp)
theorem cF.Sd{y y':List Value}(h:JK ρ y y'):∀(ps:List Nat) {x x':Array Value},cF ρ x x'->cF ρ ((ps.zip y).foldl (fun t (p:Nat×Value)=>t.setIfInBounds p.1 p.2) x) ((ps.zip y').foldl (fun t (p:Nat×Value)=>t.setIfInBounds p.1 p.2) x'):=by
 unfold JK at h;induction h with
 |nil=>intro ps x x' hx;cases ps<;>exact hx
 |cons hv _ ih=>
  intro ps x x' hx;cases ps with
  |nil=>exact hx
  |cons p ps=>exact ih ps (hx.set hv p)
theorem Mq{l l':Nat}(h:ρ l l'){x x':Array Value}(hx:cF ρ x x'):SR P NR ρ K (Instr.yield l x) (Instr.yield l' x'):=by
 unfold Instr.yield;refine SR.then (vU h) fun σ L r r' g _ hr=>?_;cases hr with
 |loop h0 h1 h2 h3 h4 h5 h6 h7 h8=>
  rw[hx.1,h5,h3,h6,h7];split
  ·exact .lost (by simp)
  ·refine .pure (.round _ _ _ ⟨h0.1,h0.2.1,h0.2.2.1⟩ (g _ _ h) ?_);have:=cF.Sd (hx.mono g).list r.params.toList h4;rw[<-Array.toList_zip,<-Array.toList_zip,Array.foldl_toList,Array.foldl_toList]at this;exact this
theorem xd{l l':Nat}(h:ρ l l'):SR P cq ρ K (Instr.beginRound l) (Instr.beginRound l'):=by
 unfold Instr.beginRound Instr.getLoop;refine .getObj h (fun o o' ho=>?_) ⟨_,rfl,by simp⟩;cases ho with
 |@loop r r' h0 h1 h2 h3 h4 h5 h6 h7 h8=>
  refine .setObj h (.inr rfl) (.loop h0 rfl h2 h3 h4 h5 h6 h7 h8) ?_;show SR P cq ρ (K.and l) (match r.state with|.ready=>_|.done=>_|.busy=>_|.exhausted=>_) (match r'.state with|.ready=>_|.done=>_|.busy=>_|.exhausted=>_);rw[h1];cases r.state with
  |ready=>exact .pure rfl
  |_=>exact eJ _
 |_=>exact .lost (by simp)
theorem Cv{l l':Nat}(h:ρ l l')(j:Option Code)(hj:∀c,j=some c->aR.code c):SR P VR ρ K (Instr.endRound l j) (Instr.endRound l' j):=by
 unfold Instr.endRound Instr.getLoop;refine .getObj h (fun o o' ho=>?_) ⟨_,rfl,by simp⟩;cases ho with
 |@loop r r' h0 h1 h2 h3 h4 h5 h6 h7 h8=>exact .setObj h (.inr rfl) (.loop ⟨h0.1,h0.2.1,h0.2.2.1,hj⟩ rfl rfl h3 h4 h5 h6 h7 h8) (.pure (.bool _))
 |_=>exact .lost (by simp)
theorem oP{l l':Nat}(h:ρ l l'):SR P (fun _ y y'=>y'=y/\∀c,y=some c->aR.code c) ρ K (Instr.endLoop l) (Instr.endLoop l'):=by
 unfold Instr.endLoop Instr.getLoop;refine .getObj h (fun o o' ho=>?_) ⟨_,rfl,by simp⟩;cases ho with
 |@loop r r' h0 h1 h2 h3 h4 h5 h6 h7 h8=>
  show SR P _ ρ (K.and l) (if(r.state==.busy)=true then _ else _) (if(r'.state==.busy)=true then _ else _);rw[h1];split
  ·exact cV _ _ _
  ·refine .setObj h (.inr rfl) (.loop h0 rfl h2 h3 h4 h5 h6 h7 h8) (.pure ?_);exact⟨h2,h0.2.2.2⟩
 |_=>exact .lost (by simp)
inductive Dk(ρ:Ren):Option Nat->Option Nat->Prop
 |none:Dk ρ none none
 |some {l l':Nat} (h:ρ l l'):Dk ρ (some l) (some l')
theorem Al{fn:FuncId}(h1:aR.known fn){x x':Array Value}(hx:cF ρ x x')(ps:Array Tmp){a b:Code}(ha:aR.code a)(hb:aR.code b){r r':Option Nat}(hr:Dk ρ r r'):SR P (fun σ y y'=>σ y.1 y'.1/\bU (DR σ) y.2 y'.2) ρ K (Instr.enterLoop fn x ps a b r) (Instr.enterLoop fn x' ps a b r'):=by
 unfold Instr.enterLoop;cases hr with
 |none=>
  refine .new .cy fun n n'=>?_;refine .new (.loop ⟨h1,ha,hb,by simp⟩ rfl rfl rfl (hx.mono (Ren.Ej _ _ _)) rfl rfl rfl (.inr ⟨rfl,rfl⟩)) fun m m'=>?_;refine .pure ⟨.inr ⟨rfl,rfl⟩,.cons ⟨.collected (.inl (.inr ⟨rfl,rfl⟩)),cF.nil⟩ .nil⟩
 |@some l l' hl=>
  refine SR.then (vU hl) fun σ L z z' g _ hz=>?_;cases hz with
  |loop _ _ _ _ _ _ _ _ h8=>
   refine .new (.loop ⟨h1,ha,hb,by simp⟩ rfl rfl rfl (hx.mono g) rfl rfl rfl h8) fun m m'=>?_;exact .pure ⟨.inr ⟨rfl,rfl⟩,.nil⟩
theorem tv{l l':Nat}(h:ρ l l'):SR P (fun _ y y'=>y=[]/\y'=[]) ρ K (Instr.takeDeferred l) (Instr.takeDeferred l'):=by
 unfold Instr.takeDeferred;refine .getObj h (fun o o' ho=>?_) ⟨_,rfl,by simp⟩;cases ho with
 |cy=>exact .setObj h (.inr rfl) .eV (.pure ⟨rfl,rfl⟩)
 |_=>exact .lost (by simp)
end
end
section
open Go
variable [aR]
section
variable {P:Program} {ρ:Ren} {K:Kn}
theorem Ja{a a':Addr}(h:AR ρ a a'):SR P cq ρ K (noView a) (noView a'):=by unfold noView;exact .view h.1 (.pure rfl)
theorem bS{a a':Addr}(h:AR ρ a a'):SR P (fun σ x x'=>AR σ x.1 x'.1/\x'.2=x.2) ρ K (behindNumber a) (behindNumber a'):=by unfold behindNumber;exact .number h.1 (.pure ⟨h,rfl⟩) fun b b' l hb=>.pure ⟨hb,rfl⟩
theorem ku{a a':Addr}(h:AR ρ a a'):SR P cq ρ K (byteOf a) (byteOf a'):=by
 unfold byteOf;rw[h.2.2];cases a.spot with
 |some s=>exact .pure rfl
 |none=>
  refine SR.then bB fun σ L p p' g _ hp=>?_;rw[hp.1,hp.2];refine SR.then (Ja (h.mono g)) fun τ M _ _ g2 _ _=>?_;have h2:=(h.mono g).mono g2;refine .shape h2.1 (fun x=>?_) (fun _=>.lost (by simp)) fun _=>⟨_,rfl,by simp⟩;obtain⟨e,n⟩:=x;show SR P cq τ _ (if P.cellsOf e=0 then _ else _) (if P.cellsOf e=0 then _ else _);rw[h2.2.1];split
  ·exact .pure rfl
  ·cases byteOfCell P P.depth e (a.off %P.cellsOf e)with
   |none=>exact .lost (by simp)
   |some b=>exact .pure rfl
theorem qD{a a' b b':Addr}(h:AR ρ a a')(k:AR ρ b b'):SR P cq ρ K (Op.twoPlaces a b) (Op.twoPlaces a' b'):=by
 refine .assume fun hg=>?_;unfold Op.twoPlaces
 by_cases hb:a.block=b.block
 ·have hb':a'.block=b'.block:=hg.1.1 _ _ _ h.1 (hb▸k.1);have e:(a.block !=b.block)=false:=by simp[hb]
  have e':(a'.block !=b'.block)=false:=by simp[hb']
  rw[e,e'];simp only[Bool.false_or];refine SR.then bB fun σ L p p' g _ hp=>?_;rw[hp.1,hp.2]
  by_cases hl:a.block<P.globals.size
  ·have hl':=hg.2 _ _ h.1 hl;have e:decide (a.block≥P.globals.size)=false:=by simp;exact hl
   have e':decide (a'.block≥P.globals.size)=false:=by simp;exact hl'
   rw[e,e'];refine SR.then (ku (h.mono g)) fun τ M x x' g2 _ hx=>?_;obtain rfl:x'=x:=hx;refine SR.then (ku ((k.mono g).mono g2)) fun _ _ y y' _ _ hy=>?_;obtain rfl:y'=y:=hy;exact .pure rfl
  ·have e:decide (a.block≥P.globals.size)=true:=by simp;omega
   rw[e];exact .lost (by simp)
 ·have e:(a.block !=b.block)=true:=by simp[hb]
  rw[e];simp only[Bool.true_or,if_true];refine .Bo fun w=>⟨_,_,rfl,by simp⟩
theorem EZ(k:IntKind){a a' b b':Addr}(h:AR ρ a a')(hb:AR ρ b b'):SR P VR ρ K (Op.addrSub k a b) (Op.addrSub k a' b'):=by refine SR.then (qD h hb) fun _ _ x x' _ _ hx=>?_;obtain rfl:x'=x:=hx;exact .pure (.int _ _)
theorem EX(op:BinOp){a a' b b':Addr}(h:AR ρ a a')(hb:AR ρ b b'):SR P VR ρ K (Op.addrCmp op a b) (Op.addrCmp op a' b'):=by refine SR.then (qD h hb) fun _ _ x x' _ _ hx=>?_;obtain rfl:x'=x:=hx;cases op<;>first|exact .pure (.bool _)|exact .lost (by simp)
theorem EY(k:IntKind){a a':Addr}(h:AR ρ a a')(n:Int):SR P VR ρ K (Op.addrMod k a n) (Op.addrMod k a' n):=by
 unfold Op.addrMod;refine .shape h.1 (fun x=>?_) (fun _=>.lost (by simp)) fun _=>⟨_,rfl,by simp⟩;obtain⟨e,c⟩:=x;refine SR.then (lJ (some (e,c))) fun σ0 L0 y y' g0 _ hy=>?_;obtain⟨rfl,rfl⟩:=hy;refine SR.then (bD e) fun σ L i i' g1 _ hi=>?_;have g:=Ren.le_trans g0 g1;obtain rfl:i'=i:=hi.1;dsimp only;split
 ·exact .lost (by simp)
 ·refine SR.then (ku (h.mono g)) fun _ _ y y' _ _ hy=>?_;obtain rfl:y'=y:=hy;exact .pure (.int _ _)
theorem Au{a a':Addr}(h:AR ρ a a')(t:TypeId){y y':Value}(hy:VR ρ y y'):SR P (fun σ v v'=>∃b b',v=.pointer (some b)/\v'=.pointer (some b')/\AR σ b b') ρ K (Builtin.unsafeAdd_ #[] t #[.pointer (some a),y]) (Builtin.unsafeAdd_ #[] t #[.pointer (some a'),y']):=by
 unfold Builtin.unsafeAdd_;dsimp only;refine SR.then (iK hy) fun σ L n n' g _ hn=>?_;obtain rfl:n'=n:=hn;have h1:=h.mono g;split
 ·exact .view h1.1 (.pure ⟨_,_,rfl,rfl,h1⟩)
 ·split
  ·exact .lost (by simp)
  ·refine .shape h1.1 (fun x=>?_) (fun _=>.lost (by simp)) fun _=>⟨_,rfl,by simp⟩;obtain⟨e,c⟩:=x;refine SR.then (lJ (some (e,c))) fun σ0 L0 y y' g0 _ hy=>?_;obtain⟨rfl,rfl⟩:=hy;refine SR.then bB fun τ M p p' g2 _ hp=>?_;rw[hp.1,hp.2,h1.2.1];split
   ·exact .pure ⟨_,_,rfl,rfl,⟨g2 _ _ (g0 _ _ h1.1),rfl,h1.2.2⟩⟩
   ·exact .lost (by simp)
theorem Cp{a a':Addr}(h:AR ρ a a')(l:Bool):SR P VR ρ K (asNumber a l) (asNumber a' l):=by unfold asNumber;exact .new (.number l h) fun n n'=>.pure (.ptr ⟨.inr ⟨rfl,rfl⟩,rfl,rfl⟩)
def Told(d:TypeDesc):Prop:=d=.string\/(∃κ,d=.int κ)\/∃m,d=.interface m
theorem iL{a a':Addr}(h:AR ρ a a'){t:TypeId}{d:TypeDesc}(ht:P.underlying t=some d)(hd:Told d){y y':Value}(hy:VR ρ y y'):SR P VR ρ K (movedNumber t (.pointer (some a)) y) (movedNumber t (.pointer (some a')) y'):=by unfold movedNumber;refine SR.then (ah ht) fun σ L q q' g _ hq=>?_;rw[hq.1,hq.2];rw[if_neg (by rcases hd with rfl|⟨κ,rfl⟩|⟨m,rfl⟩<;>simp),if_neg (by rcases hd with rfl|⟨κ,rfl⟩|⟨m,rfl⟩<;>simp)];refine SR.then (bS (h.mono g)) fun τ M b b' g2 _ hb=>?_;obtain⟨b,l⟩:=b;obtain⟨b',l'⟩:=b';obtain⟨hb,e⟩:=hb;dsimp only at hb e;subst e;refine SR.then (Au hb t ((hy.mono g).mono g2)) fun υ N v v' g3 _ hv=>?_;obtain⟨c,c',rfl,rfl,hc⟩:=hv;exact Cp hc _
theorem vS{t:TypeId}{κ:IntKind}{i:TypeInfo}(ht:P.underlying t=some (.int κ))(hi:P.info? t=some i)(hn:∀u,i.desc≠.named "sync.copyChecker" u){x x' y y':Value}(hx:VR ρ x x')(hy:VR ρ y y'):SR P cq ρ K (Op.equal t x y) (Op.equal t x' y'):=by
 unfold Op.equal Op.maxDepth;rw[show(10000:Nat)=9999+1 from rfl];unfold Op.equalIn;refine SR.then (ah ht) fun σ L d d' g _ hd=>?_;obtain⟨rfl,rfl⟩:=hd;have hx1:=hx.mono g;have hy1:=hy.mono g;cases hx1 with
 |int j n=>
  cases hy1 with
  |int j' m=>
   dsimp only;split
   ·exact .pure rfl
   ·exact .lost (by simp)
  |ptr h=>
   match n with
   |.ofNat 0=>exact .pure rfl
   |.ofNat (m+1)=>exact .lost (by simp)
   |.negSucc m=>exact .lost (by simp)
  |_=>exact .lost (by simp)
 |@ptr a a' ha=>
  cases hy1 with
  |int j' n=>
   match n with
   |.ofNat 0=>exact .pure rfl
   |.ofNat (m+1)=>exact .lost (by simp)
   |.negSucc m=>exact .lost (by simp)
  |@ptr b b' hb=>
   refine SR.then (bS ha) fun τ M c c' g2 _ hc=>?_;obtain⟨c,l⟩:=c;obtain⟨c',l'⟩:=c';obtain⟨hc,e⟩:=hc;dsimp only at hc e;refine SR.then (bS (hb.mono g2)) fun υ N f f' g3 _ hf=>?_;obtain⟨f,q⟩:=f;obtain⟨f',q'⟩:=f';obtain⟨hf,e2⟩:=hf;dsimp only at hf e2;have hc:=hc.mono g3;dsimp only;refine SR.then bB fun φ O p p' g4 _ hp=>?_;rw[hp.1,hp.2];refine .assume fun hg=>?_
   by_cases hl:c.block=f.block/\c.block<P.globals.size
   ·have hb':c'.block=f'.block:=hg.1.1 _ _ _ (g4 _ _ hc.1) (hl.1▸g4 _ _ hf.1);have hl':=hg.2 _ _ (g4 _ _ hc.1) hl.2;rw[if_pos (by simp[hl.1];rw[<-hl.1];exact hl.2),if_pos (by simp[hb'];rw[<-hb'];exact hl')];refine SR.then (ku (hc.mono g4)) fun τ M x x' g5 _ hx=>?_;obtain rfl:x'=x:=hx;refine SR.then (ku ((hf.mono g4).mono g5)) fun _ _ y y' _ _ hy=>?_;obtain rfl:y'=y:=hy;exact .pure rfl
   ·rw[if_neg (by simpa using hl)];refine .Bo fun w=>?_
    have e:(typeInfo t).run P w=.ok i w:=by unfold typeInfo;rw[Sem.run_bind];show(match P.info? t with|some i=>(pure i:Sem TypeInfo)|none=>_).run P w=_;rw[hi];rfl
    rw[Sem.run_bind,e];dsimp only[Result.andThen];split
    ·rename_i u hu;exact absurd hu (hn u)
    ·exact⟨_,_,rfl,by simp⟩
  |_=>exact .lost (by simp)
 |jF=>cases hy1<;>exact .lost (by simp)
 |_=>cases hy1<;>exact .lost (by simp)
theorem mQ{t:TypeId}{d:TypeDesc}(ht:P.underlying t=some d)(hd:Told d){y y':Value}(hy:VR ρ y y'):SR P VR ρ K (movedNumber t (.pointer none) y) (movedNumber t (.pointer none) y'):=by
 unfold movedNumber;refine SR.then (ah ht) fun σ L q q' g _ hq=>?_;rw[hq.1,hq.2];rw[if_neg (by rcases hd with rfl|⟨κ,rfl⟩|⟨m,rfl⟩<;>simp),if_neg (by rcases hd with rfl|⟨κ,rfl⟩|⟨m,rfl⟩<;>simp)];dsimp only;unfold Builtin.unsafeAdd_;dsimp only;refine SR.then (iK (hy.mono g)) fun σ L n n' g _ hn=>?_;obtain rfl:n'=n:=hn;split
 ·exact .lost (by simp)
 ·split
  ·exact .lost (by simp)
  ·exact .lost (by simp)
theorem sO{x x' y y':Value}{t:TypeId}{d:TypeDesc}(ht:P.underlying t=some d)(hd:Told d)(h:∀σ L,ρ.le σ->SR P VR σ L (movedNumber t x y) (movedNumber t x' y')):SR P VR ρ K (do if(<-underlying t) matches .unsafePointer then movedPointer t x y else movedNumber t x y) (do if(<-underlying t) matches .unsafePointer then movedPointer t x' y' else movedNumber t x' y'):=by refine SR.then (ah ht) fun σ L q q' g _ hq=>?_;rw[hq.1,hq.2];rw[if_neg (by rcases hd with rfl|⟨κ,rfl⟩|⟨m,rfl⟩<;>simp),if_neg (by rcases hd with rfl|⟨κ,rfl⟩|⟨m,rfl⟩<;>simp)];exact h σ L g
theorem Gn(k:IntKind){a a':Addr}(h:AR ρ a a')(n:Int):SR P VR ρ K (do Op.addrMod k (<-behindNumber a).1 n) (do Op.addrMod k (<-behindNumber a').1 n):=
 SR.then (bS h) fun _ _ _ _ _ _ hb=>EY _ hb.1 _
theorem OC(op:BinOp){a a' b b':Addr}(h:AR ρ a a')(k:AR ρ b b'):SR P VR ρ K (do Op.addrCmp op (<-behindNumber a).1 (<-behindNumber b).1) (do Op.addrCmp op (<-behindNumber a').1 (<-behindNumber b').1):=
 SR.then (bS h) fun _ _ _ _ g _ hb=>SR.then (bS (k.mono g)) fun _ _ _ _ g2 _ hc=>EX op (hb.1.mono g2) hc.1
theorem OI{a a' b b':Addr}(h:AR ρ a a')(k:AR ρ b b'):SR P VR ρ K (do Op.addrSub .u64 (<-behindNumber a).1 (<-behindNumber b).1) (do Op.addrSub .u64 (<-behindNumber a').1 (<-behindNumber b').1):=
 SR.then (bS h) fun _ _ _ _ g _ hb=>SR.then (bS (k.mono g)) fun _ _ _ _ g2 _ hc=>EZ _ (hb.1.mono g2) hc.1
theorem vQ(op:BinOp){t:TypeId}{d:TypeDesc}(ht:P.underlying t=some d)(hd:Told d){x x' y y':Value}(eq:SR P cq ρ K (Op.equal t x y) (Op.equal t x' y'))(hx:VR ρ x x')(hy:VR ρ y y'):SR P VR ρ K (binOp op t x y) (binOp op t x' y'):=by
 have pos:SR P VR ρ K (do pure (.bool (<-Op.equal t x y))) (do pure (.bool (<-Op.equal t x' y'))):=SR.then eq fun _ _ b b' _ _ hb=>by(obtain rfl:b'=b:=hb;exact .pure (.bool _))
 have neg:SR P VR ρ K (do pure (.bool (!(<-Op.equal t x y)))) (do pure (.bool (!(<-Op.equal t x' y')))):=SR.then eq fun _ _ b b' _ _ hb=>by(obtain rfl:b'=b:=hb;exact .pure (.bool _))
 cases hx with
 |int j n=>
  cases hy with
  |int j' m=>exact ry op t j j' n m
  |ptr h=>cases op<;>simp only[binOp]<;>first|exact pos|exact neg|exact .lost (by simp)|exact iL h ht hd (.int _ _)|exact Gn _ h _
  |jF=>cases op<;>simp only[binOp]<;>first|exact pos|exact neg|exact .lost (by simp)|exact mQ ht hd (.int _ _)
  |_=>cases op<;>simp only[binOp]<;>first|exact pos|exact neg|exact .lost (by simp)
 |string s=>
  cases hy with
  |string s'=>exact rz op t s s'
  |_=>cases op<;>simp only[binOp]<;>first|exact pos|exact neg|exact .lost (by simp)
 |ptr h=>
  cases hy with
  |int j' m=>cases op<;>simp only[binOp]<;>first|exact pos|exact neg|exact .lost (by simp)|exact sO ht hd fun _ _ g=>iL (h.mono g) ht hd (.int _ _)|exact iL h ht hd (.int _ _)|exact Gn _ h _
  |ptr k=>cases op<;>simp only[binOp]<;>first|exact pos|exact neg|exact .lost (by simp)|exact OC _ h k|exact OI h k
  |_=>cases op<;>simp only[binOp]<;>first|exact pos|exact neg|exact .lost (by simp)
 |jF=>
  cases hy with
  |int j' m=>cases op<;>simp only[binOp]<;>first|exact pos|exact neg|exact .lost (by simp)|exact sO ht hd fun _ _ g=>mQ ht hd (.int _ _)|exact mQ ht hd (.int _ _)
  |_=>cases op<;>simp only[binOp]<;>first|exact pos|exact neg|exact .lost (by simp)
 |_=>cases hy<;>cases op<;>simp only[binOp]<;>first|exact pos|exact neg|exact .lost (by simp)
theorem Cr(op:BinOp){t:TypeId}{κ:IntKind}{i:TypeInfo}(ht:P.underlying t=some (.int κ))(hi:P.info? t=some i)(hn:∀u,i.desc≠.named "sync.copyChecker" u){x x' y y':Value}(hx:VR ρ x x')(hy:VR ρ y y'):SR P VR ρ K (binOp op t x y) (binOp op t x' y'):=
 vQ op ht (.inr (.inl ⟨κ,rfl⟩)) (vS ht hi hn hx hy) hx hy
theorem Cy{t:TypeId}(ht:P.underlying t=some .string){x x' y y':Value}(hx:VR ρ x x')(hy:VR ρ y y'):SR P cq ρ K (Op.equal t x y) (Op.equal t x' y'):=by
 unfold Op.equal Op.maxDepth;rw[show(10000:Nat)=9999+1 from rfl];unfold Op.equalIn;refine SR.then (ah ht) fun σ L d d' g _ hd=>?_;obtain⟨rfl,rfl⟩:=hd;cases hx with
 |string s=>cases hy<;>first|exact .pure rfl|exact .lost (by simp)
 |_=>cases hy<;>exact .lost (by simp)
theorem Ct(op:BinOp){t:TypeId}(ht:P.underlying t=some .string){x x' y y':Value}(hx:VR ρ x x')(hy:VR ρ y y'):SR P VR ρ K (binOp op t x y) (binOp op t x' y'):=
 vQ op ht (.inl rfl) (Cy ht hx hy) hx hy
theorem Cw{t:TypeId}{m:Array (String×TypeId)}(ht:P.underlying t=some (.interface m)){x x':Value}(hx:VR ρ x x'):SR P cq ρ K (Op.equal t x .nilIface) (Op.equal t x' .nilIface):=by unfold Op.equal Op.maxDepth;rw[show(10000:Nat)=9999+1 from rfl];unfold Op.equalIn;refine SR.then (ah ht) fun σ L d d' g _ hd=>?_;obtain⟨rfl,rfl⟩:=hd;cases hx<;>first|exact .pure rfl|exact .lost (by simp)
theorem Cs(op:BinOp){t:TypeId}{m:Array (String×TypeId)}(ht:P.underlying t=some (.interface m)){x x':Value}(hx:VR ρ x x'):SR P VR ρ K (binOp op t x .nilIface) (binOp op t x' .nilIface):=
 vQ op ht (.inr (.inr ⟨m,rfl⟩)) (Cw ht hx) hx .nilIface
end
end
section
open Go
variable [aR]
section
variable {P:Program} {ρ:Ren} {K:Kn}
theorem Gr{v v':Value}(h:VR ρ v v')(b:Bool):VR ρ (.tuple #[v,.bool b]) (.tuple #[v',.bool b]):=by
 refine .tuple rfl fun i u u' hu fu=>?_
 match i,hu,fu with
 |0,hu,fu=>cases hu;cases fu;exact h
 |1,hu,fu=>cases hu;cases fu;exact .bool _
 |i+2,hu,_=>simp at hu
theorem xk(hZ:iy P){v v':Value}(h:VR ρ v v'){xt t:TypeId}{d:TypeDesc}(ht:P.underlying t=some d)(hd:∀m,d≠.interface m):SR P VR ρ K (Instr.typeAssert v xt t true) (Instr.typeAssert v' xt t true):=by
 unfold Instr.typeAssert;refine SR.then (ah ht) fun σ L a b g _ hab=>?_;obtain⟨rfl,rfl⟩:=hab;have zero:∀(τ:Ren) (M:Kn),SR P VR τ M (do pure (.tuple #[<-zeroValue t,.bool false])) (do pure (.tuple #[<-zeroValue t,.bool false])):=fun τ M=>SR.then (dy hZ t) fun _ _ _ _ _ _ hz=>.pure (Gr hz _);have hv:=h.mono g;cases hv with
 |nilIface=>
  cases b
  case interface m=>exact absurd rfl (hd m)
  all_goals exact zero σ L
 |@iface x x' u hx=>
  cases b
  case interface m=>exact absurd rfl (hd m)
  all_goals
   dsimp only;split
   ·exact .pure (Gr hx _)
   ·exact zero σ L
 |_=>
  cases b
  case interface m=>exact absurd rfl (hd m)
  all_goals exact .lost (by simp)
theorem Ap(n:Nat):∀{ρ:Ren} {K:Kn} {a a':Addr} (_:AR ρ a a') (acc:ByteArray),SR P cq ρ K (loadBytes a acc n) (loadBytes a' acc n):=by
 induction n with
 |zero=>exact fun _ _=>.pure rfl
 |succ n ih=>
  intro ρ K a a' h acc;unfold loadBytes;refine SR.then (Ao h .plain) fun σ L v v' g _ hv=>?_;cases hv with
  |int k m=>
   cases k
   case u8=>exact ih ((h.mono g).add 1) _
   all_goals exact .lost (by simp)
  |_=>exact .lost (by simp)
theorem yx(t:TypeId):SR P cq ρ K (elemOf t) (elemOf t):=by unfold elemOf;refine SR.then (gB t) fun σ L a b _ _ hab=>?_;obtain rfl:b=a:=hab.1;cases b<;>first|exact .pure rfl|exact .lost (by simp)
theorem CH{x x':Value}(h:VR ρ x x'){η qJ:Operand->Value}{o:Operand}(e:η o=x)(e':qJ o=x'){op:Oper}(ho:op.op=.nilCheck o):SR P NR ρ K (execOp η op) (execOp qJ op):=by
 unfold execOp;simp only[ho,e,e'];cases h with
 |jF=>exact fc
 |nilIface=>exact fc
 |nilFunc=>exact fc
 |@func f f' a a' b b' hf h1 h2 h3 h4=>
  cases hf with
  |func _ hy=>exact .pure (.value (.func (.func _ hy) h1 h2 h3 h4))
  |yield hl=>exact .pure (.value (.func (.yield hl) h1 h2 h3 h4))
 |bool b=>exact .pure (.value (.bool b))
 |int k n=>exact .pure (.value (.int k n))
 |string s=>exact .pure (.value (.string s))
 |ptr h=>exact .pure (.value (.ptr h))
 |bP l c=>exact .pure (.value (.bP l c))
 |slice l c h=>exact .pure (.value (.slice l c h))
 |nM=>exact .pure (.value .nM)
 |map h=>exact .pure (.value (.map h))
 |jd=>exact .pure (.value .jd)
 |chan h=>exact .pure (.value (.chan h))
 |iface t h=>exact .pure (.value (.iface t h))
 |agg a b=>exact .pure (.value (.agg a b))
 |tuple a b=>exact .pure (.value (.tuple a b))
end
end
end Go.Proofs.YtpobhljcainmdaaGreat
