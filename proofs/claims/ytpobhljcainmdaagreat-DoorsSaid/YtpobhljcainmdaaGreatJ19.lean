/- Proved here: a part of what Doors keeps (Mir14, Mir16, MirN). -/
import Derived.Test.YtpobhljcainmdaaGreatJ18
set_option maxRecDepth 100000
set_option maxHeartbeats 8000000
set_option linter.all false
namespace Go.Proofs.YtpobhljcainmdaaGreat
section
open Go
variable [aR]
section
variable {P:Program} {ρ:Ren} {K:Kn}
theorem Mm{x x':Value}(h:VR ρ x x'):SR P VR ρ K (Op.unary .not x) (Op.unary .not x'):=by cases h<;>simp only[Op.unary]<;>first|exact .pure (.bool _)|exact .lost (by simp)
theorem At{x x' y y':Value}(h:VR ρ x x')(k:VR ρ y y'):SR P VR ρ K (Builtin.min2 x y) (Builtin.min2 x' y'):=by
 cases h with
 |int j n=>cases k<;>simp only[Builtin.min2]<;>first|exact .pure (.int _ _)|exact .lost (by simp)
 |string s=>
  cases k with
  |string s'=>
   simp only[Builtin.min2];refine SR.then (sP .leq s s') fun σ L a b g _ hab=>?_;refine SR.then (yq hab) fun τ M c c' g2 _ hc=>?_;obtain rfl:c'=c:=hc;exact .pure (.string _)
  |_=>simp only[Builtin.min2];exact .lost (by simp)
 |_=>cases k<;>simp only[Builtin.min2]<;>exact .lost (by simp)
theorem Mk{x x' y y':Value}(h:VR ρ x x')(k:VR ρ y y')(ts:Array TypeId)(t:TypeId):SR P VR ρ K (Builtin.min_ ts t #[x,y]) (Builtin.min_ ts t #[x',y']):=by show SR P VR ρ K (Builtin.min2 x y >>= pure) (Builtin.min2 x' y' >>= pure);exact SR.then (At h k) fun _ _ _ _ _ _ hv=>.pure hv
theorem Ak{s d:TypeId}{j k:IntKind}(hs:P.underlying s=some (.int j))(hd:P.underlying d=some (.int k)){x x':Value}(h:VR ρ x x'):SR P VR ρ K (convert s d x) (convert s d x'):=by unfold convert;refine SR.then (ah hs) fun _ _ a b _ _ hx=>?_;obtain⟨rfl,rfl⟩:=hx;refine SR.then (ah hd) fun _ _ a b _ _ hy=>?_;obtain⟨rfl,rfl⟩:=hy;cases h<;>first|exact .pure (.int _ _)|exact .lost (by simp)
theorem OH{c c' a a' b b':Value}(hc:VR ρ c c')(ha:VR ρ a a')(hb:VR ρ b b'):SR P NR ρ K (do pure (.value (if <-asBool c then a else b))) (do pure (.value (if <-asBool c' then a' else b'))):=by
 refine SR.then (yq hc) fun σ L x x' g _ hx=>?_;obtain rfl:x'=x:=hx;split
 ·exact .pure (.value (ha.mono g))
 ·exact .pure (.value (hb.mono g))
theorem tA{x x' y y':Value}(h:VR ρ x x')(k:VR ρ y y')(pt t2 ty:TypeId):SR P VR ρ K (Builtin.unsafeString_ #[pt,t2] ty #[x,y]) (Builtin.unsafeString_ #[pt,t2] ty #[x',y']):=by
 unfold Builtin.unsafeString_;cases h with
 |jF=>
  dsimp only;refine SR.then (iK k) fun σ L n n' g _ hn=>?_;obtain rfl:n'=n:=hn;simp only[List.getElem?_toArray,List.getElem?_cons_zero];split
  ·exact cV _ _ _
  ·split
   ·exact .lost (by simp)
   ·split
    ·exact .pure (.string _)
    ·exact eJ _
 |@ptr a a' ha=>
  dsimp only;refine SR.then (iK k) fun σ L n n' g _ hn=>?_;obtain rfl:n'=n:=hn;simp only[List.getElem?_toArray,List.getElem?_cons_zero];split
  ·exact cV _ _ _
  ·split
   ·exact .lost (by simp)
   ·split
    ·exact .pure (.string _)
    ·refine SR.then (yx pt) fun τ M e e' g2 _ he=>?_;obtain rfl:e'=e:=he;have h2:=(ha.mono g).mono g2;unfold variablesAt;refine .program (.shape h2.1 (fun z=>?_) (fun _=>.lost (by simp)) fun _=>⟨_,rfl,by simp⟩);obtain⟨u,c⟩:=z;have kn:(M.and a.block) a.block:=.inr rfl;show SR P VR τ _ (if liesAt P P.depth u (c / P.cellsOf u) a.off e' n'.toNat=true then _ else _) (if liesAt P P.depth u (c / P.cellsOf u) a'.off e' n'.toNat=true then _ else _);rw[h2.2.1];split
     ·refine SR.then (Ap _ h2 _) fun υ N s s' g3 k3 hs=>?_;obtain rfl:s'=s:=hs;exact .freeze (h2.mono g3) (k3 _ kn) (.pure (.string _))
     ·exact .lost (by simp)
 |_=>exact .lost (by simp)
end
end
section
open Go
variable [aR]
section
variable {P:Program} {ρ:Ren} {K:Kn}
theorem gz{α β:Type}{Q:Ren->α->β->Prop}(m:String):SR P Q ρ K (runtimePanic (α:=α) (.plain m)) (runtimePanic (α:=β) (.plain m)):=by refine SR.then bB fun σ L a b _ _ h=>?_;rw[h.1,h.2];exact iM (.iface _ (Fq _))
theorem CI:SR P cq ρ K Instr.panicnil Instr.panicnil:=by
 unfold Instr.panicnil;refine .env fun r=>?_;refine SR.then (lJ r) fun σ L a b _ _ h=>?_;obtain⟨rfl,rfl⟩:=h;cases b
 case strings=>exact SR.then bB fun σ L a b _ _ h=>by(rw[h.1,h.2];exact .pure rfl)
 all_goals exact .lost (by simp)
theorem rE{α β:Type}{Q:Ren->α->β->Prop}:SR P Q ρ K (runtimePanic (α:=α) .panicNil) (runtimePanic (α:=β) .panicNil):=by refine SR.then bB fun σ L a b _ _ h=>?_;rw[h.1,h.2];refine SR.then (yx _) fun τ M t t' _ _ ht=>?_;obtain rfl:t'=t:=ht;refine SR.then (rD _ (.agg rfl (fun i v v' hv=>by simp at hv))) fun τ M r r' _ _ hr=>?_;exact iM (.iface _ (.ptr hr))
theorem Fi{x x':Value}(h:VR ρ x x'):SR P VR ρ K (Instr.panic x) (Instr.panic x'):=by
 unfold Instr.panic;cases h with
 |iface t h=>exact iM (.iface t h)
 |nilIface=>
  refine SR.then CI fun σ L n n' _ _ hn=>?_;obtain rfl:n'=n:=hn;split
  ·exact iM .nilIface
  ·exact rE
 |_=>exact .lost (by simp)
theorem Mi{x x':Value}(h:VR ρ x x')(ts:Array TypeId)(t:TypeId):SR P VR ρ K (Builtin.close_ ts t #[x]) (Builtin.close_ ts t #[x']):=by
 unfold Builtin.close_;cases h with
 |jd=>exact gz _
 |@chan r r' hr=>
  refine .getObj hr (fun o o' ho=>?_) ⟨_,rfl,by simp⟩;have known:(K.and r) r:=.inr rfl;refine SR.then (Q:=OR) (.pure ho) fun τ M o o' g2 k2 ho=>?_;cases ho with
  |chan cap cl s rr tm=>
   dsimp only;split
   ·exact SR.then (Q:=fun _ _ _=>False) (gz _) fun _ _ _ _ _ _ h=>h.elim
   ·exact .setObj (g2 _ _ hr) (k2 _ known) (.chan _ _ _ _ _) (.pure (.tuple rfl (fun i v v' hv=>by simp at hv)))
  |_=>exact .lost (by simp)
 |_=>exact .lost (by simp)
def Flat:TypeDesc->Prop
 |.interface _=>False
 |.struct _=>False
 |.array _ _=>False
 |_=>True
theorem lA(c:Bool){s s':Sem Unit}(h:SR P cq ρ K s s'):SR P cq ρ K (if c=true then pure ()else s) (if c=true then pure ()else s'):=by
 cases c
 ·exact h
 ·exact .pure rfl
theorem gl(op:BinOp){t:TypeId}{d:TypeDesc}(ht:P.underlying t=some d)(hd:Flat d)(x y:Operand){a a' b b':Value}(ha:VR ρ a a')(hb:VR ρ b b'):SR P cq ρ K (eqGuard op t x y a b) (eqGuard op t x y a' b'):=by
 have fl:∀(σ:Ren) (L:Kn) (a a' b b':Value),SR P (fun _ x y=>x=false/\y=false) σ L (Op.eqGuardIn Op.maxDepth t a b) (Op.eqGuardIn Op.maxDepth t a' b'):=by intro σ L a a' b b';unfold Op.maxDepth;rw[show(10000:Nat)=9999+1 from rfl];unfold Op.eqGuardIn;refine SR.then (ah ht) fun _ _ x x' _ _ hx=>?_;obtain⟨rfl,rfl⟩:=hx;cases x'<;>first|exact hd.elim|exact .pure ⟨rfl,rfl⟩
 unfold eqGuard;refine lA _ ?_
 ·cases ha with
  |nilIface=>
   cases hb with
   |nilIface=>
    dsimp only;refine lA _ ?_
    ·refine SR.then (fl _ _ _ _ _ _) fun _ _ u u' _ _ hu=>?_;rw[hu.1,hu.2];exact .pure rfl
   |_=>exact .pure rfl
  |agg h1 h2=>
   cases hb with
   |agg h3 h4=>
    dsimp only;refine SR.then bB fun σ L p p' _ _ h=>?_;refine SR.then bB fun σ2 L2 q q' _ _ h'=>?_;rw[h.1,h.2,h'.1,h'.2];refine lA _ ?_
    ·refine SR.then (fl _ _ _ _ _ _) fun _ _ u u' _ _ hu=>?_;rw[hu.1,hu.2];exact .pure rfl
   |_=>exact .pure rfl
  |_=>exact .pure rfl
theorem xh(op:BinOp)(t:TypeId)(x:Operand){a a':Value}(ha:VR ρ a a'):SR P cq ρ K (eqGuard op t x (.const .nilIface) a .nilIface) (eqGuard op t x (.const .nilIface) a' .nilIface):=by
 unfold eqGuard;refine lA _ ?_
 ·cases ha with
  |nilIface=>
   dsimp only;simp only[Bool.or_true,if_true];exact .pure rfl
  |_=>exact .pure rfl
theorem vR{s d e:TypeId}(hs:P.underlying s=some (.slice e))(hd:P.underlying d=some .string)(he:P.underlying e=some (.int .u8)){v v':Value}(h:VR ρ v v'):SR P VR ρ K (convert s d v) (convert s d v'):=by
 by_cases h1:(∃b,v=.string b)\/∃k n,v=.int k n
 ·unfold convert;refine SR.then (ah hs) fun _ _ x x' g1 _ hx=>?_;obtain⟨rfl,rfl⟩:=hx;refine SR.then (ah hd) fun _ _ y y' g2 _ hy=>?_;obtain⟨rfl,rfl⟩:=hy;rcases h1 with⟨b,rfl⟩|⟨k,n,rfl⟩
  ·cases h;exact .pure (.string _)
  ·cases h;exact .pure (.string _)
 ·exact Aj hs hd he h (fun b e=>h1 (.inl ⟨b,e⟩)) (fun k n e=>h1 (.inr ⟨k,n,e⟩))
theorem IF(κ:IntKind){k k' v v':Value}(hk:VR ρ k k')(h:VR ρ v v'):Instr.sameNow (.int κ) k' v'=Instr.sameNow (.int κ) k v:=by cases hk<;>cases h<;>rfl
theorem GL(κ:IntKind){k k':Value}(hk:VR ρ k k'){x x':List MapEntry}(h:Qf ρ x x'):∀i,(Instr.findNow (.int κ) k x i=none/\Instr.findNow (.int κ) k' x' i=none)\/∃y y',Instr.findNow (.int κ) k x i=some y/\Instr.findNow (.int κ) k' x' i=some y'/\Found ρ y y':=by
 unfold Qf at h;induction h with
 |nil=>exact fun i=>.inr ⟨_,_,rfl,rfl,.none⟩
 |@cons e e' _ _ hv _ ih=>
  intro i;unfold Instr.findNow;rw[IF κ hk hv.1];cases Instr.sameNow (.int κ) k e.key with
  |none=>exact .inl ⟨rfl,rfl⟩
  |some b=>
   cases b with
   |true=>exact .inr ⟨_,_,rfl,rfl,.some i hv.2.1⟩
   |false=>exact ih (i+1)
section
variable {k:TypeId} {κ:IntKind} {ki:TypeInfo}
theorem tr(hk:P.underlying k=some (.int κ))(hi:P.info? k=some ki)(hn:∀u,ki.desc≠.named "sync.copyChecker" u){y y':Value}{x x':List MapEntry}(h:Qf ρ x x'):∀i (σ:Ren) (L:Kn),ρ.le σ->VR σ y y'->SR P Found σ L (Instr.findAsking k y x i) (Instr.findAsking k y' x' i):=by
 unfold Qf at h;induction h with
 |nil=>exact fun i σ L _ _=>.pure .none
 |@cons e e' _ _ hv _ ih=>
  intro i σ L g hy;unfold Instr.findAsking;refine SR.then (vS hk hi hn hy (hv.1.mono g)) fun τ M b b' g2 _ hb=>?_;obtain rfl:b'=b:=hb;split
  ·exact .pure (.some i (hv.2.1.mono (Ren.le_trans g g2)))
  ·exact ih (i+1) τ M (Ren.le_trans g g2) (hy.mono g2)
theorem ig(hk:P.underlying k=some (.int κ))(hi:P.info? k=some ki)(hn:∀u,ki.desc≠.named "sync.copyChecker" u){y y':Value}(hy:VR ρ y y'){x x':List MapEntry}(h:Qf ρ x x'):SR P Found ρ K (Instr.findKey k y x) (Instr.findKey k y' x'):=by
 unfold Instr.findKey;refine SR.then (ah hk) fun σ L u u' g _ hu=>?_;obtain⟨rfl,rfl⟩:=hu;rcases GL κ hy h 0 with⟨e,e'⟩|⟨z,z',e,e',hz⟩
 ·rw[e,e'];exact tr hk hi hn h 0 σ L g (hy.mono g)
 ·rw[e,e'];exact .pure (hz.mono g)
theorem CC(hk:P.underlying k=some (.int κ))(hi:P.info? k=some ki)(hn:∀u,ki.desc≠.named "sync.copyChecker" u)(hZ:iy P){t e:TypeId}(ht:P.underlying t=some (.map k e)){v v' q q':Value}(h:VR ρ v v')(hq:VR ρ q q')(ok:Bool):SR P VR ρ K (Instr.lookup t v q ok) (Instr.lookup t v' q' ok):=by
 have pair:∀{σ:Ren} {x x':Value} (b:Bool),VR σ x x'->VR σ (if ok=true then .tuple #[x,.bool b]else x) (if ok=true then .tuple #[x',.bool b]else x'):=fun b hx=>by
  split
  ·refine .tuple rfl fun i u u' hu fu=>?_
   match i,hu,fu with
   |0,hu,fu=>cases hu;cases fu;exact hx
   |1,hu,fu=>cases hu;cases fu;exact .bool _
   |i+2,hu,_=>simp at hu
  ·exact hx
 unfold Instr.lookup;refine SR.then (ah ht) fun σ L y y' g _ hy=>?_;obtain⟨rfl,rfl⟩:=hy;dsimp only;cases h with
 |nM=>
  refine SR.then (lJ _) fun τ M es es' g2 _ hes=>?_;obtain⟨rfl,rfl⟩:=hes;refine SR.then (gI hk _ _ _ _) fun oY M2 _ _ g3 _ _=>?_;refine SR.then (ig hk hi hn (((hq.mono g).mono g2).mono g3) (x:=[]) (x':=[]) .nil) fun Dh M3 f f' g4 _ hf=>?_;cases hf with
  |some i hv=>exact .pure (pair _ hv)
  |none=>exact SR.then (dy hZ e) fun _ _ _ _ _ _ hz=>.pure (pair _ hz)
 |map hr=>
  refine .getObj (g _ _ hr) (fun o o' ho=>?_) ⟨_,rfl,by simp⟩;refine SR.then (Q:=OR) (.pure ho) fun τ M o o' g2 _ ho=>?_;cases ho with
  |map c hm=>
   refine SR.then (Q:=AL) (.pure hm) fun Gt M1 es es' g25 _ hm=>?_;refine SR.then (gI hk _ _ _ _) fun oY M2 _ _ g3 _ _=>?_;refine SR.then (ig hk hi hn ((((hq.mono g).mono g2).mono g25).mono g3) (hm.mono g3).list) fun Dh M3 f f' g4 _ hf=>?_;cases hf with
   |some i hv=>exact .pure (pair _ hv)
   |none=>exact SR.then (dy hZ e) fun _ _ _ _ _ _ hz=>.pure (pair _ hz)
  |_=>exact .lost (by simp)
 |_=>exact .lost (by simp)
end
end
end
section
open Go
variable [aR]
section
variable {P:Program} {ρ:Ren} {K:Kn}
theorem vT{t e:TypeId}(ht:P.underlying t=some (.pointer e)){x x':Value}(hx:VR ρ x x'):SR P cq ρ K (Op.equal t x (.pointer none)) (Op.equal t x' (.pointer none)):=by unfold Op.equal Op.maxDepth;rw[show(10000:Nat)=9999+1 from rfl];unfold Op.equalIn;refine SR.then (ah ht) fun σ L d d' g _ hd=>?_;obtain⟨rfl,rfl⟩:=hd;cases hx<;>first|exact .pure rfl|exact .lost (by simp)
theorem rA{t e:TypeId}(ht:P.underlying t=some (.slice e))(n c:Nat){x x':Value}(hx:VR ρ x x'):SR P cq ρ K (Op.equal t x (.slice none n c)) (Op.equal t x' (.slice none n c)):=by unfold Op.equal Op.maxDepth;rw[show(10000:Nat)=9999+1 from rfl];unfold Op.equalIn;refine SR.then (ah ht) fun σ L d d' g _ hd=>?_;obtain⟨rfl,rfl⟩:=hd;cases hx<;>first|exact .pure rfl|exact .lost (by simp)
theorem yu{op:BinOp}(hop:op=.eql\/op=.neq){t:TypeId}{y:Value}(hy:y=.pointer none\/∃n c,y=.slice none n c){x x':Value}(hx:VR ρ x x')(eq:SR P cq ρ K (Op.equal t x y) (Op.equal t x' y)):SR P VR ρ K (binOp op t x y) (binOp op t x' y):=by
 have pos:SR P VR ρ K (do pure (.bool (<-Op.equal t x y))) (do pure (.bool (<-Op.equal t x' y))):=SR.then eq fun _ _ b b' _ _ hb=>by(obtain rfl:b'=b:=hb;exact .pure (.bool _))
 have neg:SR P VR ρ K (do pure (.bool (!(<-Op.equal t x y)))) (do pure (.bool (!(<-Op.equal t x' y)))):=SR.then eq fun _ _ b b' _ _ hb=>by(obtain rfl:b'=b:=hb;exact .pure (.bool _))
 rcases hop with rfl|rfl
 ·rcases hy with rfl|⟨n,c,rfl⟩<;>cases hx<;>simp only[binOp]<;>exact pos
 ·rcases hy with rfl|⟨n,c,rfl⟩<;>cases hx<;>simp only[binOp]<;>exact neg
theorem Am{t:TypeId}(ht:P.underlying t=some .bool){x x' y y':Value}(hx:VR ρ x x')(hy:VR ρ y y'):SR P cq ρ K (Op.equal t x y) (Op.equal t x' y'):=by
 unfold Op.equal Op.maxDepth;rw[show(10000:Nat)=9999+1 from rfl];unfold Op.equalIn;refine SR.then (ah ht) fun σ L d d' g _ hd=>?_;obtain⟨rfl,rfl⟩:=hd;cases hx with
 |bool s=>cases hy<;>first|exact .pure rfl|exact .lost (by simp)
 |_=>cases hy<;>exact .lost (by simp)
theorem Cq{op:BinOp}(hop:op=.eql\/op=.neq){t:TypeId}{x x' y y':Value}(hx:VR ρ x x')(hy:VR ρ y y')(eq:SR P cq ρ K (Op.equal t x y) (Op.equal t x' y')):SR P VR ρ K (binOp op t x y) (binOp op t x' y'):=by
 have pos:SR P VR ρ K (do pure (.bool (<-Op.equal t x y))) (do pure (.bool (<-Op.equal t x' y'))):=SR.then eq fun _ _ b b' _ _ hb=>by(obtain rfl:b'=b:=hb;exact .pure (.bool _))
 have neg:SR P VR ρ K (do pure (.bool (!(<-Op.equal t x y)))) (do pure (.bool (!(<-Op.equal t x' y')))):=SR.then eq fun _ _ b b' _ _ hb=>by(obtain rfl:b'=b:=hb;exact .pure (.bool _))
 rcases hop with rfl|rfl
 ·cases hx<;>cases hy<;>first|(simp only[binOp];exact pos)|exact ry _ _ _ _ _ _|exact rz _ _ _ _
 ·cases hx<;>cases hy<;>first|(simp only[binOp];exact neg)|exact ry _ _ _ _ _ _|exact rz _ _ _ _
theorem AR.Ck(h1:ρ.one){a a' b b':Addr}(h:AR ρ a a')(k:AR ρ b b'):(a'=b')↔(a=b):=by
 obtain⟨x1,x2,x3⟩:=h;obtain⟨y1,y2,y3⟩:=k;constructor
 ·rintro rfl;rcases a with⟨a1,a2,a3⟩;rcases b with⟨b1,b2,b3⟩;have:=h1.2 _ _ _ x1 y1
  simp_all
 ·rintro rfl;rcases a' with⟨a1,a2,a3⟩;rcases b' with⟨b1,b2,b3⟩;have:=h1.1 _ _ _ x1 y1
  simp_all
theorem AR.Qb(h1:ρ.one){a a' b b':Addr}(h:AR ρ a a')(k:AR ρ b b'):(a'==b')=(a==b):=by
 have:=AR.Ck h1 h k
 by_cases e:a=b
 ·simp[e,this.2 e]
 ·have e':a'≠b':=fun x=>e (this.1 x);rw[beq_eq_false_iff_ne.2 e,beq_eq_false_iff_ne.2 e']
def VC(a b:Addr):Sem Bool:=noView a >>= fun _=>noView b >>= fun _=>mayBeOne a b >>= fun z=>if z then choose (.extern "sameAddr.stringBytes" 2) >>= fun n=>pure (n==1)else pure false
theorem CK{a a' b b':Addr}(ha:AR ρ a a')(hb:AR ρ b b'):SR P cq ρ K (sameAddr a b) (sameAddr a' b'):=by
 refine .assume fun hg=>?_
 have sY:(a'.block==b'.block)=(a.block==b.block):=by
  by_cases h:a.block=b.block
  ·have:a'.block=b'.block:=hg.1.1 _ _ _ ha.1 (h▸hb.1);simp[h,this]
  ·have h':a'.block≠b'.block:=fun e=>h (hg.1.2 _ _ _ ha.1 (e▸hb.1));rw[beq_eq_false_iff_ne.2 h,beq_eq_false_iff_ne.2 h']
 have hsame:=AR.Qb hg.1 ha hb;unfold sameAddr;rw[sY];cases h:(a.block==b.block)with
 |true=>
  simp only[if_true,hsame];exact .pure rfl
 |false=>
  simp only[Bool.false_eq_true,if_false];refine .Ts ha fun x=>?_;refine .Ts hb fun y=>?_
  have rest:∀(σ:Ren) (L:Kn),ρ.le σ->SR P cq σ L (VC a b) (VC a' b'):=fun σ L g=>by
   have nv:∀{c c':Addr},AR σ c c'->SR P cq σ L (noView c) (noView c'):=fun hc=>.view hc.1 (.pure rfl);refine SR.then (nv (ha.mono g)) fun σ1 L1 _ _ g1 _ _=>?_;refine SR.then (.view ((hb.mono g).mono g1).1 (.pure rfl):SR P cq σ1 L1 (noView b) (noView b')) fun σ2 L2 _ _ g2 _ _=>?_;refine .VB (((ha.mono g).mono g1).mono g2) (((hb.mono g).mono g1).mono g2) fun z=>?_;cases z with
   |true=>exact .choose fun n=>.pure rfl
   |false=>exact .pure rfl
  cases x<;>cases y<;>first|exact rest ρ K (Ren.le_refl _)|exact SR.lost (x:=.unsupported .addressObserved) trivial
theorem Cx{t e:TypeId}(ht:P.underlying t=some (.pointer e)){x x' y y':Value}(hx:VR ρ x x')(hy:VR ρ y y'):SR P cq ρ K (Op.equal t x y) (Op.equal t x' y'):=by
 unfold Op.equal Op.maxDepth;rw[show(10000:Nat)=9999+1 from rfl];unfold Op.equalIn;refine SR.then (ah ht) fun σ L d d' g _ hd=>?_;obtain⟨rfl,rfl⟩:=hd;cases hx with
 |jF=>cases hy<;>first|exact .pure rfl|exact .lost (by simp)
 |ptr ha=>
  cases hy with
  |jF=>exact .pure rfl
  |ptr hb=>
   refine SR.then (bQ e) fun σ1 L1 n n' g1 _ hn=>?_;obtain rfl:n'=n:=hn;split
   ·exact CK ((ha.mono g).mono g1) ((hb.mono g).mono g1)
   ·refine .assume fun hg=>?_;rw[AR.Qb hg.1 ((ha.mono g).mono g1) ((hb.mono g).mono g1)];split
    ·exact .pure rfl
    ·exact .choose fun n=>.pure rfl
  |_=>exact .lost (by simp)
 |_=>cases hy<;>exact .lost (by simp)
theorem Ml{x x':Value}(h:VR ρ x x'):SR P VR ρ K (Op.unary .neg x) (Op.unary .neg x'):=by
 cases h with
 |int k n=>exact sN .sub k 0 n
 |_=>simp only[Op.unary];exact .lost (by simp)
theorem CG(t:TypeId):SR P VR ρ K (Instr.makeMap t none) (Instr.makeMap t none):=by show SR P VR ρ K (Sem.new (.map #[] 0) fun n=>pure (.map (some n))) (Sem.new (.map #[] 0) fun n=>pure (.map (some n)));exact .new (.map 0 ⟨rfl,fun i e e' h=>by simp at h⟩) fun n n'=>.pure (.map (.inr ⟨rfl,rfl⟩))
theorem CE{t e:TypeId}{d:ChanDir}(ht:P.underlying t=some (.chan d e)){x x':Value}(hx:VR ρ x x'):SR P VR ρ K (Instr.makeChan t x) (Instr.makeChan t x'):=by
 unfold Instr.makeChan;refine SR.then (iK hx) fun σ L n n' g _ hn=>?_;obtain rfl:n'=n:=hn;refine SR.then (ah ht) fun σ2 L2 y y' g2 _ hy=>?_;obtain⟨rfl,rfl⟩:=hy;dsimp only;refine SR.then (bD e) fun σ3 L3 i i' g3 _ hi=>?_;obtain⟨rfl,_⟩:=hi;split
 ·exact SR.then (Q:=fun _ _ _=>False) (gz _) fun _ _ _ _ _ _ h=>h.elim
 ·show SR P VR σ3 L3 (Sem.new (.chan n'.toNat #[] false 0 0 false) fun n=>pure (.chan (some n))) (Sem.new (.chan n'.toNat #[] false 0 0 false) fun n=>pure (.chan (some n)));exact .new (.chan _ _ _ _ _) fun m m'=>.pure (.chan (.inr ⟨rfl,rfl⟩))
theorem Cu{v v':Value}(h:VR ρ v v'){t e:TypeId}(ht:P.underlying t=some (.slice e))(ty:TypeId):SR P VR ρ K (Builtin.cap_ #[t] ty #[v]) (Builtin.cap_ #[t] ty #[v']):=by unfold Builtin.cap_;simp only[List.getElem?_toArray,List.getElem?_cons_zero];refine SR.then (ah ht) fun σ L a b g1 _ hab=>?_;obtain⟨rfl,rfl⟩:=hab;cases h<;>first|exact .pure (.int _ _)|exact .lost (by simp)
theorem OG{x x' y y' z z':Value}(h:VR ρ x x')(k:VR ρ y y')(m:VR ρ z z')(ts:Array TypeId)(t:TypeId):SR P VR ρ K (Builtin.min_ ts t #[x,y,z]) (Builtin.min_ ts t #[x',y',z']):=by show SR P VR ρ K (Builtin.min2 x y >>= fun a=>Builtin.min2 a z >>= pure) (Builtin.min2 x' y' >>= fun a=>Builtin.min2 a z' >>= pure);exact SR.then (At h k) fun _ _ _ _ g _ hv=>SR.then (At hv (m.mono g)) fun _ _ _ _ _ _ hw=>.pure hw
theorem ED{z z':Array Value}(h:cF ρ z z')(n:Nat):(∀(j:Nat) v v',(Builtin.zeroCells z n).toList[j]? =some v->(Builtin.zeroCells z' n).toList[j]? =some v'->VR ρ v v')/\(Builtin.zeroCells z' n).toList.length=(Builtin.zeroCells z n).toList.length:=by
 unfold Builtin.zeroCells;constructor
 ·intro j v v' h1 h2;simp only[Array.getElem?_toList,Array.getElem?_map]at h1 h2;obtain⟨i,hi,rfl⟩:=Option.map_eq_some_iff.1 h1;obtain⟨i',hi',rfl⟩:=Option.map_eq_some_iff.1 h2
  have hlt:j<n*z.size:=by have:=(Array.getElem?_eq_some_iff.1 hi).1;simpa using this
  have e1:i=j:=by have:=(Array.getElem?_eq_some_iff.1 hi).2;simpa using this.symm
  have e2:i'=j:=by have:=(Array.getElem?_eq_some_iff.1 hi').2;simpa using this.symm
  rw[e1]at hi⊢;rw[e2]at hi'⊢
  have hz:0<z.size:=by
   rcases Nat.eq_zero_or_pos z.size with h0|h0
   ·rw[h0]at hlt;simp at hlt
   ·exact h0
  have hm:j %z.size<z.size:=Nat.mod_lt _ hz;have hm':j %z'.size<z'.size:=by rw[h.1];exact hm
  rw[getElem!_pos z _ hm,getElem!_pos z' _ hm'];exact h.2 (j %z.size) _ _ (Array.getElem?_eq_getElem hm) (by rw[<-h.1];exact Array.getElem?_eq_getElem hm')
 ·simp[h.1]
theorem Mh(hZ:iy P){v v':Value}(h:VR ρ v v'){t e:TypeId}(ht:P.underlying t=some (.slice e))(ty:TypeId):SR P VR ρ K (Builtin.clear_ #[t] ty #[v]) (Builtin.clear_ #[t] ty #[v']):=by
 have fin:∀(σ:Ren) (L:Kn),SR P VR σ L (pure (.tuple #[])) (pure (.tuple #[])):=fun σ L=>.pure (.tuple rfl fun i v v' hv=>by simp at hv);unfold Builtin.clear_;simp only[List.getElem?_toArray,List.getElem?_cons_zero];refine SR.then (ah ht) fun σ L a b g1 _ hab=>?_;obtain⟨rfl,rfl⟩:=hab;cases h with
 |nM=>exact fin _ _
 |@map r r' hr=>
  refine .getObj (g1 _ _ hr) (fun o o' ho=>?_) ⟨_,rfl,by simp⟩;refine SR.then (Q:=OR) (.pure ho) fun τ M o o' g2 k2 ho=>?_;cases ho with
  |map c hm=>exact .setObj (g2 _ _ (g1 _ _ hr)) (k2 _ (.inr rfl)) (.map _ ⟨rfl,fun i e e' h=>by simp at h⟩) (fin _ _)
  |_=>exact .lost (by simp)
 |bP l c=>exact fin _ _
 |slice l c ha=>
  cases l with
  |zero=>exact fin _ _
  |succ l=>
   refine SR.then (dy hZ e) fun τ M z z' g2 _ hz=>?_;obtain⟨p1,p2⟩:=ED hz.cells (l+1);refine SR.then (gA ((ha.mono g1).mono g2) _ _ 0 _ p2 p1) fun _ _ _ _ _ _ _=>fin _ _
 |_=>exact .lost (by simp)
theorem lK(VA:Bool)(len cap:Nat){lo lo':Option Value}{hi hi' mx VG:Value}(h1:VO ρ lo lo')(h2:VR ρ hi hi')(h3:VR ρ mx VG):SR P cq ρ K (Instr.sliceBounds VA len cap lo (some hi) (some mx)) (Instr.sliceBounds VA len cap lo' (some hi') (some VG)):=by
 unfold Instr.sliceBounds;dsimp only;refine SR.then (dJ h3 _ _) fun σ L m m' g1 _ e1=>?_;obtain rfl:m'=m:=e1;refine SR.then (dJ (h2.mono g1) _ _) fun τ M y y' g2 _ e=>?_;obtain rfl:y'=y:=e;have k1:=(h1.mono g1).mono g2;cases lo with
 |none=>cases lo' with
  |none=>exact .pure rfl
  |some v=>exact k1.elim
 |some v=>cases lo' with
  |none=>exact k1.elim
  |some v'=>exact SR.then (dJ k1 _ _) fun _ _ x x' _ _ e=>by(obtain rfl:x'=x:=e;exact .pure rfl)
theorem Jb{v v':Value}(h:VR ρ v v'){lo lo':Option Value}{hi hi' mx VG:Value}(h1:VO ρ lo lo')(h2:VR ρ hi hi')(h3:VR ρ mx VG){t e:TypeId}(ht:P.underlying t=some (.slice e)):SR P VR ρ K (Instr.sliceAt t v lo (some hi) (some mx)) (Instr.sliceAt t v' lo' (some hi') (some VG)):=by
 unfold Instr.sliceAt;refine SR.then (ah ht) fun σ0 L0 a b g0 _ hab=>?_;obtain⟨rfl,rfl⟩:=hab;dsimp only;unfold Instr.slice;refine SR.then (ah ht) fun σ L a b SQ _ hab=>?_;obtain⟨rfl,rfl⟩:=hab;have g1:=Ren.le_trans g0 SQ;cases h.mono g1 with
 |bP l c=>
  refine SR.then (lK true _ _ (h1.mono g1) (h2.mono g1) (h3.mono g1)) fun τ M x x' _ _ ex=>?_;obtain rfl:x'=x:=ex;refine SR.then (bQ e) fun υ N n n' _ _ en=>?_;obtain rfl:n'=n:=en;obtain⟨Xu,hi1,Xv⟩:=x';simp only[Option.map_none,ite_self];exact .pure (.bP _ _)
 |@slice c c' l k ha=>
  refine SR.then (lK true _ _ (h1.mono g1) (h2.mono g1) (h3.mono g1)) fun τ M x x' g2 _ ex=>?_;obtain rfl:x'=x:=ex;refine SR.then (bQ e) fun υ N n n' g3 _ en=>?_;obtain rfl:n'=n:=en;have ha':=(ha.mono g2).mono g3;obtain⟨Xu,hi1,Xv⟩:=x';split
  ·exact .pure (.slice _ _ ha')
  ·exact .pure (.slice _ _ (ha'.add _))
 |_=>exact .lost (by simp)
theorem CL{v v':Value}(h:VR ρ v v'){lo lo' hi hi':Option Value}(h1:VO ρ lo lo')(h2:VO ρ hi hi'){t e:TypeId}{n:Nat}(ht:P.underlying t=some (.array n e)):SR P VR ρ K (Instr.sliceAt t v lo hi none) (Instr.sliceAt t v' lo' hi' none):=by
 unfold Instr.sliceAt;refine SR.then (ah ht) fun σ L a b g1 _ hab=>?_;obtain⟨rfl,rfl⟩:=hab;dsimp only;refine SR.then (ju (h.mono g1)) fun σ2 L2 a a' g2 _ ha=>?_;refine SR.then (fI false n n ((h1.mono g1).mono g2) ((h2.mono g1).mono g2)) fun τ M x x' g3 _ ex=>?_;obtain rfl:x'=x:=ex;refine SR.then (bQ e) fun υ N m m' g4 _ en=>?_;obtain rfl:m'=m:=en;have ha':=(ha.mono g3).mono g4;obtain⟨Xu,hi1,Xv⟩:=x';dsimp only;split
 ·exact .pure (.slice _ _ ha')
 ·exact .pure (.slice _ _ (ha'.add _))
theorem AL.erase{x x':Array MapEntry}(h:AL ρ x x')(i:Nat):AL ρ (x.eraseIdxIfInBounds i) (x'.eraseIdxIfInBounds i):=by
 have hs:∀y:Array MapEntry,(y.eraseIdxIfInBounds i).toList=y.toList.eraseIdx i:=fun y=>by simp
 refine⟨?_,fun j e e' h1 h2=>?_⟩
 ·rw[<-Array.length_toList,<-Array.length_toList,hs,hs,List.length_eraseIdx,List.length_eraseIdx];simp[h.1]
 ·rw[<-Array.getElem?_toList,hs,List.getElem?_eraseIdx]at h1 h2;split at h1
  ·rename_i hj;rw[if_pos hj]at h2;exact h.2 j e e' (by simpa using h1) (by simpa using h2)
  ·rename_i hj;rw[if_neg hj]at h2;exact h.2 (j+1) e e' (by simpa using h1) (by simpa using h2)
theorem IU{t k e t2 ty:TypeId}{κ:IntKind}{ki:TypeInfo}(hk:P.underlying k=some (.int κ))(hi:P.info? k=some ki)(hn:∀u,ki.desc≠.named "sync.copyChecker" u)(ht:P.underlying t=some (.map k e)){v v' q q':Value}(h:VR ρ v v')(hq:VR ρ q q'):SR P VR ρ K (Builtin.delete_ #[t,t2] ty #[v,q]) (Builtin.delete_ #[t,t2] ty #[v',q']):=by
 have fin:∀(σ:Ren) (L:Kn),SR P VR σ L (pure (.tuple #[])) (pure (.tuple #[])):=fun σ L=>.pure (.tuple rfl fun i v v' hv=>by simp at hv);unfold Builtin.delete_;simp only[List.getElem?_toArray,List.getElem?_cons_zero,List.getElem?_cons_succ];refine SR.then (ah ht) fun σ L y y' g _ hy=>?_;obtain⟨rfl,rfl⟩:=hy;dsimp only;cases h with
 |nM=>exact SR.then (gI hk _ _ _ _) fun _ _ _ _ _ _ _=>fin _ _
 |@map r r' hr=>
  refine .getObj (g _ _ hr) (fun o o' ho=>?_) ⟨_,rfl,by simp⟩;have known:(L.and r) r:=.inr rfl;refine SR.then (Q:=OR) (.pure ho) fun τ M o o' g2 k2 ho=>?_;cases ho with
  |map c hm=>
   refine SR.then (gI hk _ _ _ _) fun oY M2 _ _ g3 k3 _=>?_;refine SR.then (ig hk hi hn (((hq.mono g).mono g2).mono g3) (hm.mono g3).list) fun Dh M3 f f' g4 k4 hf=>?_;have g5:=Ren.le_trans (Ren.le_trans (Ren.le_trans g g2) g3) g4;have MP:=(hm.mono g3).mono g4;have kn:=k4 _ (k3 _ (k2 _ known));cases hf with
   |some i hv=>exact .setObj (g5 _ _ hr) kn (.map _ (MP.erase i)) (fin _ _)
   |none=>exact .setObj (g5 _ _ hr) kn (.map _ MP) (fin _ _)
  |_=>exact .lost (by simp)
 |_=>exact .lost (by simp)
end
end
end Go.Proofs.YtpobhljcainmdaaGreat
