/- Proved here: a part of what Doors keeps (Mir17, MirM, Mir18, Mir19). -/
import Derived.Test.YtpobhljcainmdaaGreatJ19
set_option maxRecDepth 100000
set_option maxHeartbeats 8000000
set_option linter.all false
namespace Go.Proofs.YtpobhljcainmdaaGreat
section
open Go
variable [aR]
section
variable {P:Program} {ρ:Ren} {K:Kn}
theorem AR.beq(h1:ρ.one){a a' b b':Addr}(h:AR ρ a a')(k:AR ρ b b'):(some a'==some b')=(some a==some b):=by
 have:=AR.Ck h1 h k
 by_cases e:a=b
 ·have e':=this.2 e;subst e;subst e';simp
 ·have e':¬a'=b':=fun x=>e (this.1 x);rw[beq_eq_false_iff_ne.2 (fun x=>e (Option.some.inj x)),beq_eq_false_iff_ne.2 (fun x=>e' (Option.some.inj x))]
theorem Ren.beq(h1:ρ.one){a a' b b':Nat}(h:ρ a a')(k:ρ b b'):(some a'==some b')=(some a==some b):=by
 by_cases e:a=b
 ·subst e;have:=h1.1 _ _ _ h k;subst this;simp
 ·have e':¬a'=b':=fun x=>e (by subst x;exact h1.2 _ _ _ h k);rw[beq_eq_false_iff_ne.2 (fun x=>e (Option.some.inj x)),beq_eq_false_iff_ne.2 (fun x=>e' (Option.some.inj x))]
theorem AZ{f:Value->Value->Bool}(hf:∀{a a' b b':Value},VR ρ a a'->VR ρ b b'->f a' b'=f a b){x x':List Value}(hx:JK ρ x x'):∀{y y':List Value},JK ρ y y'->((x'.zip y').all fun(p:Value×Value)=>f p.1 p.2)=((x.zip y).all fun(p:Value×Value)=>f p.1 p.2):=by
 unfold JK at hx;induction hx with
 |nil=>intro y y' _;simp
 |cons hv _ ih=>
  intro y y' hy;unfold JK at hy;cases hy with
  |nil=>simp
  |cons hw hy=>simp only[List.zip_cons_cons,List.all_cons];rw[hf hv hw,ih hy]
theorem Ah(h1:ρ.one):∀(n:Nat) {a a' b b':Value},VR ρ a a'->VR ρ b b'->Instr.sameBits n a' b'=Instr.sameBits n a b:=by
 intro n;induction n with
 |zero=>
  intro a a' b b' ha hb;cases ha<;>cases hb<;>first|rfl|exact AR.beq h1 ‹_› ‹_›|exact Ren.beq h1 ‹_› ‹_›
 |succ n ih=>
  intro a a' b b' ha hb;cases ha with
  |ptr h=>cases hb<;>first|rfl|exact AR.beq h1 h ‹_›
  |chan h=>cases hb<;>first|rfl|exact Ren.beq h1 h ‹_›
  |iface t h=>
   cases hb with
   |iface u k=>simp only[Instr.sameBits];rw[ih h k]
   |_=>rfl
  |@agg x x' h1 h2=>
   cases hb with
   |@agg y y' k1 k2=>
    simp only[Instr.sameBits];rw[h1,k1];have:=AZ (f:=Instr.sameBits n) ih (cF.list ⟨h1,h2⟩) (cF.list ⟨k1,k2⟩);rw[this]
   |_=>rfl
  |_=>cases hb<;>rfl
theorem qB{v v' q q':Value}(h:VR ρ v v')(hq:VR ρ q q'):SR P VR ρ K (Instr.keyThatStays v q) (Instr.keyThatStays v' q'):=by
 refine .assume fun g=>?_;unfold Instr.keyThatStays;rw[Ah g.1 10000 h hq];split
 ·exact .pure hq
 ·refine SR.then (ir _) fun _ _ c c' g _ hc=>?_;obtain rfl:c'=c:=hc;split
  ·exact .pure (hq.mono g)
  ·exact .pure (h.mono g)
theorem vX{t k e:TypeId}{κ:IntKind}{ki:TypeInfo}(hk:P.underlying k=some (.int κ))(hi:P.info? k=some ki)(hn:∀u,ki.desc≠.named "sync.copyChecker" u)(ht:P.underlying t=some (.map k e)){v v' q q' x x':Value}(h:VR ρ v v')(hq:VR ρ q q')(hx:VR ρ x x'):SR P cq ρ K (Instr.mapUpdate t v q x) (Instr.mapUpdate t v' q' x'):=by
 unfold Instr.mapUpdate;refine SR.then (ah ht) fun σ L y y' g _ hy=>?_;obtain⟨rfl,rfl⟩:=hy;dsimp only;cases h with
 |nM=>exact gz _
 |@map r r' hr=>
  refine .getObj (g _ _ hr) (fun o o' ho=>?_) ⟨_,rfl,by simp⟩;have known:(L.and r) r:=.inr rfl;refine SR.then (Q:=OR) (.pure ho) fun τ M o o' g2 k2 ho=>?_;cases ho with
  |map c hm=>
   refine SR.then (gI hk _ _ _ _) fun oY M2 _ _ g3 k3 _=>?_;refine SR.then (ig hk hi hn (((hq.mono g).mono g2).mono g3) (hm.mono g3).list) fun Dh M3 f f' g4 k4 hf=>?_;have g5:=Ren.le_trans (Ren.le_trans (Ren.le_trans g g2) g3) g4;have MP:=(hm.mono g3).mono g4;have kn:=k4 _ (k3 _ (k2 _ known));cases hf with
   |some i hv=>
    refine SR.then (qB (RJ MP i (hq.mono g5)) (hq.mono g5)) fun Qe M4 z z' g6 k6 hz=>?_;exact .setObj (g6 _ _ (g5 _ _ hr)) (k6 _ kn) (.map _ ((MP.mono g6).modify hz ((hx.mono g5).mono g6) i)) (.pure rfl)
   |none=>exact .setObj (g5 _ _ hr) kn (.map _ (MP.push ⟨hq.mono g5,hx.mono g5,rfl⟩)) (.pure rfl)
  |_=>exact .lost (by simp)
 |_=>exact .lost (by simp)
def qM(P:Program):Prop:=∀f,aR.ok f->∃fn,P.funcs[f]? =some fn/\(fn.name== "runtime.NumGoroutine")=false/\fn.body.isNone=false
inductive Gu(P:Program):Builtin->Array TypeId->Prop
 |append {t u e:TypeId} {d:TypeDesc} (ht:P.underlying t=some (.slice e)) (hu:P.underlying u=some d) (hd:d=.string\/∃e',d=.slice e'):Gu P .append #[t,u]
 |close (ts:Array TypeId):Gu P .close ts
 |copy {t u e:TypeId} (ht:P.underlying t=some (.slice e)):Gu P .copy #[t,u]
 |BQ {t e:TypeId} (ht:P.underlying t=some (.slice e)):Gu P .len #[t]
 |Lk {t:TypeId} (ht:P.underlying t=some .string):Gu P .len #[t]
 |min (ts:Array TypeId) (h:ts.size=2\/ts.size=3):Gu P .min ts
 |cap {t e:TypeId} (ht:P.underlying t=some (.slice e)):Gu P .cap #[t]
 |clear {t e:TypeId} (ht:P.underlying t=some (.slice e)):Gu P .clear #[t]
 |delete {t t2 k e:TypeId} {κ:IntKind} {ki:TypeInfo} (hk:P.underlying k=some (.int κ)) (hi:P.info? k=some ki) (hn:∀u,ki.desc≠.named "sync.copyChecker" u) (ht:P.underlying t=some (.map k e)):Gu P .delete #[t,t2]
 |recover (ts:Array TypeId):Gu P .recover ts
 |unsafeString (t u:TypeId):Gu P .unsafeString #[t,u]
theorem MC{x x':Array Value}(h:cF ρ x x')(hs:x.size=1):∃a a',x=#[a]/\x'=#[a']/\VR ρ a a':=by
 obtain⟨a,rfl⟩:∃a,x=#[a]:=by
  rcases x with⟨x⟩
  match x,hs with
  |[a],_=>exact⟨a,rfl⟩
 obtain⟨a',rfl⟩:∃a,x'=#[a]:=by
  have:=h.1;rcases x' with⟨x'⟩
  match x',this with
  |[a],_=>exact⟨a,rfl⟩
 exact⟨a,a',rfl,rfl,h.2 0 a a' rfl rfl⟩
theorem MD{x x':Array Value}(h:cF ρ x x')(hs:x.size=2):∃a a' b b',x=#[a,b]/\x'=#[a',b']/\VR ρ a a'/\VR ρ b b':=by
 obtain⟨a,b,rfl⟩:∃a b,x=#[a,b]:=by
  rcases x with⟨x⟩
  match x,hs with
  |[a,b],_=>exact⟨a,b,rfl⟩
 obtain⟨a',b',rfl⟩:∃a b,x'=#[a,b]:=by
  have:=h.1;rcases x' with⟨x'⟩
  match x',this with
  |[a,b],_=>exact⟨a,b,rfl⟩
 exact⟨a,a',b,b',rfl,rfl,h.2 0 a a' rfl rfl,h.2 1 b b' rfl rfl⟩
theorem aab{x x':Array Value}(h:cF ρ x x')(hs:x.size=3):∃a a' b b' c c',x=#[a,b,c]/\x'=#[a',b',c']/\VR ρ a a'/\VR ρ b b'/\VR ρ c c':=by
 obtain⟨a,b,c,rfl⟩:∃a b c,x=#[a,b,c]:=by
  rcases x with⟨x⟩
  match x,hs with
  |[a,b,c],_=>exact⟨a,b,c,rfl⟩
 obtain⟨a',b',c',rfl⟩:∃a b c,x'=#[a,b,c]:=by
  have:=h.1;rcases x' with⟨x'⟩
  match x',this with
  |[a,b,c],_=>exact⟨a,b,c,rfl⟩
 exact⟨a,a',b,b',c,c',rfl,rfl,h.2 0 a a' rfl rfl,h.2 1 b b' rfl rfl,h.2 2 c c' rfl rfl⟩
def Pc(b:Builtin)(ts:Array TypeId):Nat:=match b with
 |.append|.copy|.unsafeString|.delete=>2
 |.min=>ts.size
 |.close|.len|.cap|.clear=>1
 |_=>0
theorem Fb(hZ:iy P){b:Builtin}{ts:Array TypeId}(h:Gu P b ts)(t:TypeId)(cs:Array Bool){x x':Array Value}(hx:cF ρ x x')(hs:x.size=Pc b ts):SR P NR ρ K (builtin b ts t cs x) (builtin b ts t cs x'):=by
 cases h with
 |append ht hu hd=>
  obtain⟨a,a',c,c',rfl,rfl,ha,hc⟩:=MD hx hs;exact dc (IP hZ ha hc ht hu hd)
 |close=>
  obtain⟨a,a',rfl,rfl,ha⟩:=MC hx hs;exact dc (Mi ha _ _)
 |copy ht=>
  obtain⟨a,a',c,c',rfl,rfl,ha,hc⟩:=MD hx hs;exact dc (OD ha hc ht)
 |BQ ht=>
  obtain⟨a,a',rfl,rfl,ha⟩:=MC hx hs;exact dc (CB ha ht _)
 |Lk ht=>
  obtain⟨a,a',rfl,rfl,ha⟩:=MC hx hs;exact dc (IX ha ht _)
 |min ts h=>
  rcases h with h|h
  ·obtain⟨a,a',c,c',rfl,rfl,ha,hc⟩:=MD hx (hs.trans h);exact dc (Mk ha hc _ _)
  ·obtain⟨a,a',c,c',d,d',rfl,rfl,ha,hc,hd⟩:=aab hx (hs.trans h);exact dc (OG ha hc hd _ _)
 |cap ht=>
  obtain⟨a,a',rfl,rfl,ha⟩:=MC hx hs;exact dc (Cu ha ht _)
 |clear ht=>
  obtain⟨a,a',rfl,rfl,ha⟩:=MC hx hs;exact dc (Mh hZ ha ht _)
 |delete hk hi hn ht=>
  obtain⟨a,a',c,c',rfl,rfl,ha,hc⟩:=MD hx hs;exact dc (IU hk hi hn ht ha hc)
 |recover=>exact .pure .recover
 |unsafeString t u=>
  obtain⟨a,a',c,c',rfl,rfl,ha,hc⟩:=MD hx hs;exact dc (tA ha hc _ _ _)
theorem yy(hF:qM P){t t':Target}(h:TR ρ t t'){x x':Array Value}(hx:cF ρ x x'):SR P NR ρ K (invoke t x) (invoke t' x'):=by
 cases h with
 |fn hf hc=>
  cases hf with
  |func f hok=>
   obtain⟨fn,h1,h2,h3⟩:=hF f hok;exact sM hok h1 h2 h3 (hx.append hc)
  |yield hl=>exact Mq hl hx
 |nil=>exact fc
 |collected h=>exact .lost (by simp)
theorem qA(hF:qM P){f f':Value}(h:VR ρ f f'){x x':Array Value}(hx:cF ρ x x'):SR P NR ρ K (do let d <-Deferred.ofValue f x;invoke d.target d.args) (do let d <-Deferred.ofValue f' x';invoke d.target d.args):=
 SR.then (vY h hx) fun _ _ _ _ _ _ hd=>yy hF hd.1 hd.2
def tE(P:Program)(name:String):Prop:=∀t i m,P.info? t=some i->i.methods.find? (·.name==name)=some m->∃f e,m.path=#[]/\m.func=some (f,true)/\aR.ok f/\P.underlying t=some (.pointer e)
theorem IZ{name:String}(hm:tE P name)(n:Nat)(t:TypeId){v v':Value}(h:VR ρ v v'):SR P (fun σ x x'=>x'.1=x.1/\aR.ok x.1/\VR σ x.2 x'.2) ρ K (method n t v name) (method n t v' name):=by
 cases n with
 |zero=>exact .lost (by simp)
 |succ n=>
  unfold method;refine SR.then (bD t) fun σ L i i' g _ hi=>?_;obtain⟨rfl,hi⟩:=hi;cases hf:i'.methods.find? (·.name==name)with
  |none=>exact .lost (by simp)
  |some m=>
   obtain⟨f,e,h1,h2,h3,h4⟩:=hm t i' m hi hf;obtain⟨m1,m2,m3,m4⟩:=m;simp only at h1 h2;subst h1 h2;dsimp only;refine SR.then (Q:=fun _ a b=>a=(t,.val v)/\b=(t,.val v')) (by unfold follow;exact .pure ⟨rfl,rfl⟩) fun σ1 L1 a b g1 _ hab=>?_;rw[hab.1,hab.2];dsimp only;refine SR.then (Q:=VR) ?_ fun _ _ x x' _ _ hx=>.pure ⟨rfl,h3,hx⟩;unfold receiverAt;refine SR.then (ah h4) fun σ2 L2 y y' g2 _ hy=>?_;obtain⟨rfl,rfl⟩:=hy;exact .pure (((h.mono g).mono g1).mono g2)
theorem xg(hF:qM P){name:String}(hm:tE P name){r r':Value}(h:VR ρ r r'){x x':Array Value}(hx:cF ρ x x'):SR P NR ρ K (callMethod r name x) (callMethod r' name x'):=by
 unfold callMethod;cases h with
 |iface t hv=>
  refine SR.then bB fun σ L p p' g _ hp=>?_;rw[hp.1,hp.2];refine SR.then (IZ hm _ t (hv.mono g)) fun σ2 L2 y y' g2 _ hy=>?_;obtain⟨f,w⟩:=y;obtain⟨f',w'⟩:=y';obtain⟨e,h1,h2⟩:=hy;simp only at e h1 h2;subst e;obtain⟨fn,k1,k2,k3⟩:=hF f' h1
  exact sM h1 k1 k2 k3 (cF.append ⟨rfl,fun i v v' a b=>by
   match i,a,b with
   |0,a,b=>cases a;cases b;exact h2
   |i+1,a,_=>simp at a⟩ ((hx.mono g).mono g2))
 |nilIface=>exact fc
 |_=>exact .lost (by simp)
theorem tu(hF:qM P){name:String}(hm:tE P name){r r':Value}(h:VR ρ r r'){x x':Array Value}(hx:cF ρ x x'):SR P NR ρ K (invoke (.fn (.method name) #[]) (#[r]++x)) (invoke (.fn (.method name) #[]) (#[r']++x')):=by
 have e:∀(a:Value) (y:Array Value),invoke (.fn (.method name) #[]) (#[a]++y)=callMethod a name y:=fun a y=>by
  unfold invoke;have h1:(#[a]++y)[0]? =some a:=by rw[Array.getElem?_append_left (by simp)];rfl
  have h2:(#[a]++y).extract 1 (#[a]++y).size=y:=by
   apply Array.ext
   ·simp
   ·intro i h1 h2;simp
  simp only[h1,h2]
 rw[e,e];exact xg hF hm h hx
end
end
section
open Go
theorem Ce{info:TypeId->Option TypeInfo}{d:TypeDesc}{i:TypeInfo}(h:Made.reckon info d=some i):i.methods=#[]:=by
 unfold Made.reckon at h;cases d with
 |pointer e=>
  obtain⟨j,_,h⟩:=Option.bind_eq_some_iff.1 h;split at h
  ·cases h
  ·split at h
   ·cases h
   ·obtain⟨s,_,h⟩:=Option.bind_eq_some_iff.1 h;cases h;rfl
  ·obtain⟨s,_,h⟩:=Option.bind_eq_some_iff.1 h;cases h;rfl
 |slice e=>
  obtain⟨j,_,h⟩:=Option.bind_eq_some_iff.1 h;obtain⟨s,_,h⟩:=Option.bind_eq_some_iff.1 h;cases h;rfl
 |map k e=>
  obtain⟨j,_,h⟩:=Option.bind_eq_some_iff.1 h;obtain⟨s,_,h⟩:=Option.bind_eq_some_iff.1 h;obtain⟨j,_,h⟩:=Option.bind_eq_some_iff.1 h;obtain⟨s,_,h⟩:=Option.bind_eq_some_iff.1 h;cases h;rfl
 |chan dir e=>
  obtain⟨j,_,h⟩:=Option.bind_eq_some_iff.1 h;obtain⟨s,_,h⟩:=Option.bind_eq_some_iff.1 h;cases h;rfl
 |func ps rs v=>
  obtain⟨s,_,h⟩:=Option.bind_eq_some_iff.1 h;cases h;rfl
 |array n e=>
  obtain⟨j,_,h⟩:=Option.bind_eq_some_iff.1 h;obtain⟨s,_,h⟩:=Option.bind_eq_some_iff.1 h;cases h;rfl
 |struct fs=>
  unfold Made.reckonStruct at h;obtain⟨s,_,h⟩:=Option.bind_eq_some_iff.1 h;dsimp only at h;split at h<;>(cases h;rfl)
 |_=>cases h
def PX(P:Program)(l:List FuncId)(name:String):Bool:=(List.range P.types.size).all fun t=>match P.types[t]? with
 |some i=>(match i.methods.find? (·.name==name)with
  |some m=>m.path.isEmpty&&(match m.func with|some (f,p)=>p&&l.contains f|none=>false)&&(match P.underlying t with|some (.pointer _)=>true|_=>false)
  |none=>true)
 |none=>true
theorem Oa[aR]{P:Program}{l:List FuncId}{name:String}(hl:∀f,l.contains f=true->aR.ok f)(h:PX P l name=true):tE P name:=by
 intro t i m hi hf;unfold Tables.info? at hi
 by_cases ht:t<P.types.size
 ·rw[if_pos ht]at hi;have:=List.all_eq_true.1 h t (List.mem_range.2 ht);simp only[hi,hf,Bool.and_eq_true]at this;obtain⟨⟨h1,h2⟩,h3⟩:=this;split at h2
  ·rename_i f p hfp;simp only[Bool.and_eq_true]at h2;split at h3
   ·rename_i e he;refine⟨f,e,by simpa using h1,?_,hl f h2.2,he⟩;rw[hfp,h2.1]
   ·cases h3
  ·cases h2
 ·rw[if_neg ht]at hi;unfold Made.depth at hi;rw[show(100:Nat)=99+1 from rfl]at hi;unfold Made.infoAt at hi;rw[if_neg ht]at hi;obtain⟨d,_,hd⟩:=Option.bind_eq_some_iff.1 hi;rw[Ce hd]at hf;simp at hf
end
section
open Go
def EB:Value->Bool
 |.bool _|.int _ _|.string _|.pointer none|.slice none _ _|.map none|.chan none|.nilFunc|.nilIface=>true
 |_=>false
def bF(l:List FuncId):Operand->Bool
 |.tmp _=>true
 |.const v=>EB v
 |.global _=>false
 |.func f=>l.contains f
def cQ(P:Program)(t:TypeId):Bool:=match P.underlying t with|some (.slice _)=>true|_=>false
def kZ(P:Program)(t:TypeId):Bool:=match P.underlying t with|some .string=>true|_=>false
def qU(P:Program)(t:TypeId):Bool:=match P.underlying t with
 |some (.int _)=>(match P.info? t with|some i=>(match i.desc with|.named n _=>n != "sync.copyChecker" |_=>true)|none=>false)
 |_=>false
def uR(P:Program)(t:TypeId):Bool:=match P.underlying t with
 |some (.slice e)=>(match P.underlying e with|some (.int .u8)=>true|_=>false)
 |_=>false
def uT(P:Program)(t:TypeId):Bool:=match P.underlying t with|some (.map k _)=>qU P k|_=>false
def qV(P:Program)(t:TypeId):Bool:=match P.underlying t with|some (.struct _)=>true|_=>false
def uS(P:Program)(t:TypeId):Bool:=match P.underlying t with|some (.interface _)=>true|_=>false
def DN(P:Program)(t:TypeId)(n:Nat):Bool:=match P.underlying t with
 |some (.struct fs)=>(match fs[n]? with|some f=>(match P.info? f.type with|some i=>i.size !=0|none=>false)|none=>false)
 |_=>false
def Pg(P:Program)(s d:TypeId):Bool:=(match P.underlying s,P.underlying d with|some (.int _),some (.int _)=>true|_,_=>false)||(uR P s&&kZ P d)
def Ka(P:Program)(t:TypeId):Bool:=match P.underlying t with|some (.interface _)=>false|some _=>true|none=>false
def Qu(P:Program)(b:Builtin)(ts:Array TypeId):Bool:=match b,ts.toList with
 |.append,[t,u]=>cQ P t&&(cQ P u||kZ P u)
 |.close,_=>true
 |.copy,[t,_]=>cQ P t
 |.len,[t]=>cQ P t||kZ P t
 |.min,ts=>ts.length==2||ts.length==3
 |.cap,[t]=>cQ P t
 |.clear,[t]=>cQ P t
 |.delete,[t,_]=>uT P t
 |.recover,_=>true
 |.unsafeString,[_,_]=>true
 |_,_=>false
def Pe(P:Program)(l:List FuncId)(c:Call):Bool:=c.args.all (bF l)&&(match c.callee with
 |.value f=>bF l f
 |.builtin b=>Qu P b c.argTypes&&c.args.size==Pc b c.argTypes
 |.invoke r name=>bF l r&&PX P l name)
def JV(l:List FuncId)(c:Call):Bool:=c.args.all (bF l)&&(match c.callee with
 |.value f=>bF l f
 |_=>false)
def Oi(l:List FuncId):Option Operand->Bool
 |none=>true
 |some x=>bF l x
def zB(P:Program)(t:TypeId):Bool:=match P.underlying t with|some (.pointer _)=>true|_=>false
def Ei(P:Program)(t:TypeId):Bool:=match P.underlying t with|some (.array _ _)=>true|_=>false
def zy(P:Program)(t:TypeId):Bool:=match P.underlying t with|some .bool=>true|_=>false
def zA(P:Program)(t:TypeId):Bool:=match P.underlying t with|some (.chan _ _)=>true|_=>false
def Uc:BinOp->Bool
 |.eql|.neq=>true
 |_=>false
def VJ(P:Program)(op:BinOp)(t:TypeId):Operand->Bool
 |.const .nilIface=>uS P t
 |.const (.pointer none)=>zB P t&&Uc op
 |.const (.slice none _ _)=>cQ P t&&Uc op
 |_=>false
def okB(P:Program)(l:List FuncId)(o:Op):Bool:=match o with
 |.move x|.assign x=>bF l x
 |.pick c a b=>bF l c&&bF l a&&bF l b
 |.alloc _=>true
 |.box _ x=>bF l x
 |.build t ps=>qV P t&&ps.all fun p=>bF l p.2
 |.buildSlice t _ ps=>cQ P t&&ps.all fun p=>bF l p.2
 |.load _ a=>bF l a
 |.store _ a x=>bF l a&&bF l x
 |.nilCheck x=>bF l x
 |.binOp op t x y _=>bF l x&&bF l y&&(qU P t||kZ P t||(zy P t&&Uc op)||(zB P t&&Uc op)||VJ P op t y)
 |.unOp .not _ x=>bF l x
 |.unOp .neg _ x=>bF l x
 |.makeMap _ none=>true
 |.makeChan t x=>zA P t&&bF l x
 |.slice t x lo (some hi) (some mx)=>cQ P t&&bF l x&&Oi l lo&&bF l hi&&bF l mx
 |.convert s d x=>Pg P s d&&bF l x
 |.makeInterface _ x=>bF l x
 |.makeFunc (.func f) xs ys=>l.contains f&&xs.all (bF l)&&ys.all (bF l)
 |.makeSlice t a b=>cQ P t&&bF l a&&bF l b
 |.slice t x lo hi none=>(cQ P t||kZ P t||Ei P t)&&bF l x&&Oi l lo&&Oi l hi
 |.fieldAddr t x n=>DN P t n&&bF l x
 |.indexAddr t x i=>cQ P t&&bF l x&&bF l i
 |.index t x i=>kZ P t&&bF l x&&bF l i
 |.lookup t x i _=>uT P t&&bF l x&&bF l i
 |.mapUpdate t m k x=>uT P t&&bF l m&&bF l k&&bF l x
 |.typeAssert x _ t true=>Ka P t&&bF l x
 |.extract x _=>bF l x
 |.call c=>Pe P l c
 |.defer c=>JV l c
 |.panic x=>bF l x
 |.select cs bl=>!bl&&(match cs.toList with|[s]=>s.send.isNone&&bF l s.chan|_=>false)
 |_=>false
abbrev Ul(l:List FuncId)(c:Code->Prop)(k:FuncId->Prop)(d:Nat)(t:Nat->Option Obj):aR:=⟨fun f=>l.contains f=true,c,k,d,t⟩
theorem dH{P:Program}{t:TypeId}(h:cQ P t=true):∃e,P.underlying t=some (.slice e):=by
 unfold cQ at h;split at h
 ·rename_i e he;exact⟨e,he⟩
 ·cases h
theorem oT{P:Program}{t:TypeId}(h:kZ P t=true):P.underlying t=some .string:=by
 unfold kZ at h;split at h
 ·assumption
 ·cases h
theorem zx{P:Program}{t:TypeId}(h:qU P t=true):∃κ i,P.underlying t=some (.int κ)/\P.info? t=some i/\∀u,i.desc≠.named "sync.copyChecker" u:=by
 unfold qU at h;split at h
 ·rename_i κ hκ;split at h
  ·rename_i i hi;refine⟨κ,i,hκ,hi,fun u hu=>?_⟩;rw[hu]at h;simp at h
  ·cases h
 ·cases h
theorem JU{P:Program}{t:TypeId}(h:uR P t=true):∃e,P.underlying t=some (.slice e)/\P.underlying e=some (.int .u8):=by
 unfold uR at h;split at h
 ·rename_i e he;split at h
  ·exact⟨e,he,by assumption⟩
  ·cases h
 ·cases h
theorem Et{P:Program}{t:TypeId}(h:uT P t=true):∃k e,P.underlying t=some (.map k e)/\qU P k=true:=by
 unfold uT at h;split at h
 ·rename_i k e he;exact⟨k,e,he,h⟩
 ·cases h
theorem Je{P:Program}{t:TypeId}(h:qV P t=true):∃fs,P.underlying t=some (.struct fs):=by
 unfold qV at h;split at h
 ·rename_i e he;exact⟨e,he⟩
 ·cases h
theorem Le{P:Program}{t:TypeId}(h:uS P t=true):∃m,P.underlying t=some (.interface m):=by
 unfold uS at h;split at h
 ·rename_i e he;exact⟨e,he⟩
 ·cases h
theorem Nm{P:Program}{t:TypeId}(h:Ka P t=true):∃d,P.underlying t=some d/\∀m,d≠.interface m:=by
 unfold Ka at h;split at h
 ·cases h
 ·rename_i d hd he;exact⟨d,he,fun m hm=>hd m (by rw[<-hm])⟩
 ·cases h
theorem LI{P:Program}{t:TypeId}(h:zB P t=true):∃e,P.underlying t=some (.pointer e):=by
 unfold zB at h;split at h
 ·rename_i e he;exact⟨e,he⟩
 ·cases h
theorem Qp{P:Program}{t:TypeId}(h:Ei P t=true):∃n e,P.underlying t=some (.array n e):=by
 unfold Ei at h;split at h
 ·rename_i n e he;exact⟨n,e,he⟩
 ·cases h
theorem Ng{P:Program}{t:TypeId}(h:zy P t=true):P.underlying t=some .bool:=by
 unfold zy at h;split at h
 ·assumption
 ·cases h
theorem Nk{P:Program}{t:TypeId}(h:zA P t=true):∃d e,P.underlying t=some (.chan d e):=by
 unfold zA at h;split at h
 ·rename_i d e he;exact⟨d,e,he⟩
 ·cases h
theorem FK{op:BinOp}(h:Uc op=true):op=.eql\/op=.neq:=by cases op<;>first|exact .inl rfl|exact .inr rfl|cases h
theorem Ko{P:Program}{t:TypeId}{n:Nat}(h:DN P t n=true):∃fs f i,P.underlying t=some (.struct fs)/\fs[n]? =some f/\P.info? f.type=some i/\i.size≠0:=by
 unfold DN at h;split at h
 ·rename_i fs hfs;split at h
  ·rename_i f hf;split at h
   ·rename_i i hi;exact⟨fs,f,i,hfs,hf,hi,by simpa using h⟩
   ·cases h
  ·cases h
 ·cases h
theorem Qw{P:Program}{b:Builtin}{ts:Array TypeId}(h:Qu P b ts=true):Gu P b ts:=by
 rcases ts with⟨ts⟩;unfold Qu at h;dsimp only at h;split at h
 ·simp only[Bool.and_eq_true,Bool.or_eq_true]at h;obtain⟨e,he⟩:=dH h.1;rcases h.2 with h2|h2
  ·obtain⟨e',he'⟩:=dH h2;exact .append he he' (.inr ⟨e',rfl⟩)
  ·exact .append he (oT h2) (.inl rfl)
 ·exact .close _
 ·obtain⟨e,he⟩:=dH h;exact .copy he
 ·rw[Bool.or_eq_true]at h;rcases h with h|h
  ·obtain⟨e,he⟩:=dH h;exact .BQ he
  ·exact .Lk (oT h)
 ·refine .min _ ?_;simpa[Bool.or_eq_true,beq_iff_eq]using h
 ·obtain⟨e,he⟩:=dH h;exact .cap he
 ·obtain⟨e,he⟩:=dH h;exact .clear he
 ·obtain⟨k,e,h1,h2⟩:=Et h;obtain⟨κ,ki,h3,h4,h5⟩:=zx h2;exact .delete h3 h4 h5 h1
 ·exact .recover _
 ·exact .unsafeString _ _
 ·cases h
variable [aR]
def Reads(l:List FuncId)(ρ:Ren)(η qJ:Operand->Value):Prop:=∀x,bF l x=true->VR ρ (η x) (qJ x)
theorem ya{v:Value}(h:EB v=true)(ρ:Ren):VR ρ v v:=by
 unfold EB at h;split at h
 ·exact .bool _
 ·exact .int _ _
 ·exact .string _
 ·exact .jF
 ·exact .bP _ _
 ·exact .nM
 ·exact .jd
 ·exact .nilFunc
 ·exact .nilIface
 ·cases h
theorem Reads.args{l:List FuncId}{ρ:Ren}{η qJ:Operand->Value}(h:Reads l ρ η qJ){xs:Array Operand}(hx:xs.all (bF l)=true):cF ρ (xs.map η) (xs.map qJ):=by
 refine⟨by simp,fun i v v' hv hv'=>?_⟩;rw[Array.getElem?_map]at hv hv';cases hi:xs[i]? with
 |none=>rw[hi]at hv;cases hv
 |some x=>
  rw[hi]at hv hv';cases hv;cases hv';refine h x ?_;rw[Array.all_eq_true_iff_forall_mem]at hx;exact hx x (Array.mem_of_getElem? hi)
theorem Reads.parts{l:List FuncId}{ρ:Ren}{η qJ:Operand->Value}(h:Reads l ρ η qJ){ps:Array (Nat×Operand)}(hx:(ps.all fun p=>bF l p.2)=true):ML ρ (ps.map fun(i,x)=>(i,η x)).toList (ps.map fun(i,x)=>(i,qJ x)).toList:=by
 rw[Array.all_eq_true_iff_forall_mem]at hx;rcases ps with⟨ps⟩;simp only[List.map_toArray];have hx':∀p∈ps,bF l p.2=true:=fun p hp=>hx p (by simpa using hp);clear hx;unfold ML;induction ps with
 |nil=>exact .nil
 |cons p ps ih=>exact .cons ⟨rfl,h _ (hx' p (by simp))⟩ (ih fun q hq=>hx' q (by simp[hq]))
theorem Reads.opt{l:List FuncId}{ρ:Ren}{η qJ:Operand->Value}(h:Reads l ρ η qJ){x:Option Operand}(hx:Oi l x=true):VO ρ (x.map η) (x.map qJ):=by
 cases x with
 |none=>trivial
 |some x=>exact h x hx
end
section
open Go
variable [aR]
section
variable {P:Program} {ρ:Ren} {K:Kn} {l:List FuncId} {η qJ:Operand->Value}
theorem Fa{t:TypeId}(op:BinOp){x y:Operand}(ht:qU P t=true\/kZ P t=true)(hx:VR ρ (η x) (qJ x))(hy:VR ρ (η y) (qJ y)):SR P VR ρ K (do eqGuard op t x y (η x) (η y);binOp op t (η x) (η y)) (do eqGuard op t x y (qJ x) (qJ y);binOp op t (qJ x) (qJ y)):=by
 rcases ht with h|h
 ·obtain⟨κ,i,h1,h2,h3⟩:=zx h;exact SR.then (gl op h1 trivial x y hx hy) fun _ _ _ _ g _ _=>Cr op h1 h2 h3 (hx.mono g) (hy.mono g)
 ·have h1:=oT h;exact SR.then (gl op h1 trivial x y hx hy) fun _ _ _ _ g _ _=>Ct op h1 (hx.mono g) (hy.mono g)
theorem Fc{s:SelectCase}(hZ:iy P)(hn:s.send=none)(hc:VR ρ (η s.chan) (qJ s.chan)):SR P NR ρ K (do
   let cases <-#[s].mapM fun s=>do pure {chan:=η s.chan,send:=s.send.map η,zero:=<-zeroValue s.elem:CommCase}
   pure (.comm cases false .select)) (do
   let cases <-#[s].mapM fun s=>do pure {chan:=qJ s.chan,send:=s.send.map qJ,zero:=<-zeroValue s.elem:CommCase}
   pure (.comm cases false .select)):=by
 refine SR.then (Q:=fun σ y y'=>∃c c',y=#[c]/\y'=#[c']/\CR σ c c') ?_ fun _ _ y y' _ _ hy=>?_
 ·rw[Array.mapM_eq_mapM_toList,Array.mapM_eq_mapM_toList];refine Ar _ _ (Q:=fun σ y y'=>∃c c',y=[c]/\y'=[c']/\CR σ c c') ?_ fun _ a b _ hab=>?_
  ·simp only[List.mapM_cons,List.mapM_nil];refine SR.then (Q:=CR) ?_ fun _ _ c c' _ _ hc=>?_
   ·refine SR.then (dy hZ s.elem) fun _ _ z z' g _ hz=>?_;exact .pure ⟨hc.mono g,by simp[hn],by simp[hn],hz⟩
   ·exact .pure ⟨c,c',rfl,rfl,hc⟩
  ·obtain⟨c,c',rfl,rfl,hc⟩:=hab;exact⟨c,c',rfl,rfl,hc⟩
 ·obtain⟨c,c',rfl,rfl,hc⟩:=hy;exact .pure (.comm hc)
theorem nF(hZ:iy P)(hF:qM P)(hl:∀f,l.contains f=true->aR.ok f)(hR:Reads l ρ η qJ)(hN:∀ζ:Operand->Value,ζ=η->∀v,ζ (.const v)=v)(hN':∀ζ:Operand->Value,ζ=qJ->∀v,ζ (.const v)=v){o:Oper}(ho:okB P l o.op=true):SR P NR ρ K (execOp η o) (execOp qJ o):=by
 obtain⟨dst,op,ty,pos,Wz,gd⟩:=o
 have dead:∀{α:Prop},okB P l op=false->α:=fun h=>by have h2:okB P l op=true:=ho;rw[h]at h2;cases h2
 replace ho:okB P l op=true:=ho
 unfold execOp;cases op with
 |move x=>exact .pure (.value (hR x ho))
 |assign x=>exact .pure (.value (hR x ho))
 |pick c a b=>
  simp only[okB,Bool.and_eq_true]at ho;exact OH (hR _ ho.1.1) (hR _ ho.1.2) (hR _ ho.2)
 |alloc t=>exact dc (Mf hZ t)
 |box t x=>exact dc (Sj (hR x ho) t)
 |build t ps=>
  simp only[okB,Bool.and_eq_true]at ho;obtain⟨fs,hfs⟩:=Je ho.1;exact dc (Mg hZ hfs (hR.parts ho.2))
 |buildSlice t n ps=>
  simp only[okB,Bool.and_eq_true]at ho;obtain⟨e,he⟩:=dH ho.1;exact dc (xe hZ he n (hR.parts ho.2))
 |load t a=>exact dc (IY (hR a ho) t)
 |store t a x=>
  simp only[okB,Bool.and_eq_true]at ho;exact Wd (Fj (hR _ ho.1) (hR _ ho.2) t)
 |nilCheck x=>exact CH (hR x ho) (op:=⟨dst,.nilCheck x,ty,pos,Wz,gd⟩) rfl rfl rfl
 |binOp op t x y yt=>
  simp only[okB,Bool.and_eq_true,Bool.or_eq_true]at ho;obtain⟨⟨hx,hy⟩,h⟩:=ho;rcases h with((h|h)|h)|h
  ·exact dc (Fa op h (hR _ hx) (hR _ hy))
  ·have ht:=Ng h.1;exact dc (SR.then (gl op ht trivial x y (hR _ hx) (hR _ hy)) fun _ _ _ _ g _ _=>Cq (FK h.2) ((hR _ hx).mono g) ((hR _ hy).mono g) (Am ht ((hR _ hx).mono g) ((hR _ hy).mono g)))
  ·obtain⟨e,ht⟩:=LI h.1;exact dc (SR.then (gl op ht trivial x y (hR _ hx) (hR _ hy)) fun _ _ _ _ g _ _=>Cq (FK h.2) ((hR _ hx).mono g) ((hR _ hy).mono g) (Cx ht ((hR _ hx).mono g) ((hR _ hy).mono g)))
  ·have h1:=hR x hx;have hC:=hN η rfl;have Yx:=hN' qJ rfl;have hyR:=hR y hy;dsimp only;unfold VJ at h;split at h
   ·obtain⟨m,hm⟩:=Le h;rw[hC,Yx];exact dc (SR.then (xh op t x h1) fun _ _ _ _ g _ _=>Cs op hm (h1.mono g))
   ·simp only[Bool.and_eq_true]at h;obtain⟨e,he⟩:=LI h.1;rw[hC,Yx];exact dc (SR.then (gl op he trivial x _ h1 .jF) fun _ _ _ _ g _ _=>yu (FK h.2) (.inl rfl) (h1.mono g) (vT he (h1.mono g)))
   ·simp only[Bool.and_eq_true]at h;obtain⟨e,he⟩:=dH h.1;rw[hC,Yx];exact dc (SR.then (gl op he trivial x _ h1 (.bP _ _)) fun _ _ _ _ g _ _=>yu (FK h.2) (.inr ⟨_,_,rfl⟩) (h1.mono g) (rA he _ _ (h1.mono g)))
   ·cases h
 |unOp op t x=>
  cases op
  case not=>exact dc (Mm (hR x ho))
  case neg=>exact dc (Ml (hR x ho))
  all_goals exact dead rfl
 |convert s d x=>
  simp only[okB,Pg,Bool.and_eq_true,Bool.or_eq_true]at ho;rcases ho.1 with h|h
  ·split at h
   ·rename_i h1 h2;exact dc (Ak h1 h2 (hR x ho.2))
   ·cases h
  ·obtain⟨e,he,hu⟩:=JU h.1;exact dc (vR he (oT h.2) hu (hR x ho.2))
 |makeInterface t x=>exact dc (rC (hR x ho) t)
 |makeFunc fn xs ys=>
  cases fn
  case func f=>
   simp only[okB,Bool.and_eq_true]at ho;exact dc (CF (.func f (hl f ho.1.1)) (hR.args ho.1.2) (hR.args ho.2))
  all_goals exact dead rfl
 |makeSlice t a b=>
  simp only[okB,Bool.and_eq_true]at ho;obtain⟨e,he⟩:=dH ho.1.1;exact dc (Aq hZ he (hR _ ho.1.2) (hR _ ho.2))
 |slice t x lo hi mx=>
  cases mx with
  |some m=>
   cases hi with
   |none=>exact dead rfl
   |some hi=>
    simp only[okB,Bool.and_eq_true]at ho;obtain⟨e,he⟩:=dH ho.1.1.1.1;exact dc (Jb (hR _ ho.1.1.1.2) (hR.opt ho.1.1.2) (hR _ ho.1.2) (hR _ ho.2) he)
  |none=>
   simp only[okB,Bool.and_eq_true,Bool.or_eq_true]at ho;have hx:=hR _ ho.1.1.2;have h1:=hR.opt ho.1.2;have h2:=hR.opt ho.2;rcases ho.1.1.1 with(h|h)|h
   ·obtain⟨e,he⟩:=dH h;exact dc (vZ he (by simp) fun σ L g=>xj (hx.mono g) (h1.mono g) (h2.mono g) he)
   ·exact dc (vZ (oT h) (by simp) fun σ L g=>CM (hx.mono g) (h1.mono g) (h2.mono g) (oT h))
   ·obtain⟨n,e,he⟩:=Qp h;exact dc (CL hx h1 h2 he)
 |makeMap t r=>
  cases r with
  |none=>exact dc (CG t)
  |some r=>exact dead rfl
 |makeChan t x=>
  simp only[okB,Bool.and_eq_true]at ho;obtain⟨d,e,he⟩:=Nk ho.1;exact dc (CE he (hR _ ho.2))
 |fieldAddr t x n=>
  simp only[okB,Bool.and_eq_true]at ho;obtain⟨fs,f,i,h1,h2,h3,h4⟩:=Ko ho.1;exact dc (Ff (hR _ ho.2) h1 h2 h3 h4)
 |indexAddr t x i=>
  simp only[okB,Bool.and_eq_true]at ho;obtain⟨e,he⟩:=dH ho.1.1;exact dc (Fg (hR _ ho.1.2) (hR _ ho.2) he)
 |index t x i=>
  simp only[okB,Bool.and_eq_true]at ho;exact dc (Cz (hR _ ho.1.2) (hR _ ho.2) (oT ho.1.1))
 |lookup t x i ok=>
  simp only[okB,Bool.and_eq_true]at ho;obtain⟨k,e,h1,h2⟩:=Et ho.1.1;obtain⟨κ,ki,h3,h4,h5⟩:=zx h2;exact dc (CC h3 h4 h5 hZ h1 (hR _ ho.1.2) (hR _ ho.2) ok)
 |mapUpdate t m k x=>
  simp only[okB,Bool.and_eq_true]at ho;obtain⟨kt,e,h1,h2⟩:=Et ho.1.1.1;obtain⟨κ,ki,h3,h4,h5⟩:=zx h2;exact Wd (vX h3 h4 h5 h1 (hR _ ho.1.1.2) (hR _ ho.1.2) (hR _ ho.2))
 |typeAssert x xt t ok=>
  cases ok with
  |false=>exact dead rfl
  |true=>
   simp only[okB,Bool.and_eq_true]at ho;obtain⟨d,h1,h2⟩:=Nm ho.1;exact dc (xk hZ (hR _ ho.2) h1 h2)
 |extract x n=>exact dc (Fe (hR x ho) n)
 |call c=>
  obtain⟨callee,args,ats⟩:=c;simp only[okB,Pe,Bool.and_eq_true]at ho;cases callee with
  |value f=>exact qA hF (hR f ho.2) (hR.args ho.1)
  |builtin b=>
   simp only[Bool.and_eq_true,beq_iff_eq]at ho;exact Fb hZ (Qw ho.2.1) _ _ (hR.args ho.1) (by rw[Array.size_map];exact ho.2.2)
  |invoke r m=>
   simp only[Bool.and_eq_true]at ho;show SR P NR ρ K (invoke (.fn (.method m) #[]) (#[η r]++args.map η)) (invoke (.fn (.method m) #[]) (#[qJ r]++args.map qJ));exact tu hF (Oa hl ho.2.2) (hR _ ho.2.1) (hR.args ho.1)
 |defer c=>
  obtain⟨callee,args,ats⟩:=c;simp only[okB,JV,Bool.and_eq_true]at ho;cases callee with
  |value f=>exact SR.then (vY (hR f ho.2) (hR.args ho.1)) fun _ _ _ _ _ _ hd=>.pure (.defer hd)
  |builtin b=>cases ho.2
  |invoke r m=>cases ho.2
 |panic x=>exact dc (Fi (hR x ho))
 |select cs bl=>
  cases bl with
  |true=>exact dead rfl
  |false=>
   rcases cs with⟨cs⟩
   match cs,ho with
   |[s],ho=>
    have ho:(s.send.isNone&&bF l s.chan)=true:=ho;simp only[Bool.and_eq_true,Option.isNone_iff_eq_none]at ho;exact Fc hZ ho.1 (hR _ ho.2)
 |_=>exact dead rfl
end
end
end Go.Proofs.YtpobhljcainmdaaGreat
