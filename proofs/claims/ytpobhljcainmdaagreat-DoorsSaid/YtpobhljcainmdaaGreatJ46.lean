/- Proved here: a part of what Doors keeps (MirZ, MirF, Ft1, Wx10, Wx11). -/
import Derived.Conc.LeavingOf
import Derived.JoinedCond
import Derived.Test.YtpobhljcainmdaaGreatJ20
import Derived.Test.YtpobhljcainmdaaGreatJ21
import Derived.Test.YtpobhljcainmdaaGreatJ34
import Derived.Test.YtpobhljcainmdaaGreatJ38
set_option maxRecDepth 100000
set_option maxHeartbeats 8000000
set_option linter.all false
namespace Go.Proofs.YtpobhljcainmdaaGreat
section
open Go
variable [aR]
def tU(v:Value):Prop:=∀ρ:Ren,VR ρ v v
def qZ:Nat->Value->Bool
 |_,.bool _|_,.int _ _|_,.string _|_,.pointer none|_,.slice none _ _|_,.map none|_,.chan none|_,.nilFunc|_,.nilIface=>true
 |n+1,.agg xs=>xs.all (qZ n)
 |n+1,.tuple xs=>xs.all (qZ n)
 |_,_=>false
theorem pF{xs:Array Value}(h:∀v∈xs,tU v):tU (.agg xs):=fun ρ=>.agg rfl fun i v v' h1 h2=>by rw[h1]at h2;cases h2;exact h v (Array.mem_of_getElem? h1) ρ
theorem Dp{xs:Array Value}(h:∀v∈xs,tU v):tU (.tuple xs):=fun ρ=>.tuple rfl fun i v v' h1 h2=>by rw[h1]at h2;cases h2;exact h v (Array.mem_of_getElem? h1) ρ
theorem EC:∀(n:Nat) (v:Value),qZ n v=true->tU v:=by
 intro n;induction n with
 |zero=>
  intro v h ρ;unfold qZ at h;split at h<;>first|exact .bool _|exact .int _ _|exact .string _|exact .jF|exact .bP _ _|exact .nM|exact .jd|exact .nilFunc|exact .nilIface|cases h|contradiction
 |succ n ih=>
  intro v h;unfold qZ at h;split at h
  all_goals first
   |exact fun ρ=>.bool _
   |exact fun ρ=>.int _ _
   |exact fun ρ=>.string _
   |exact fun ρ=>.jF
   |exact fun ρ=>.bP _ _
   |exact fun ρ=>.nM
   |exact fun ρ=>.jd
   |exact fun ρ=>.nilFunc
   |exact fun ρ=>.nilIface
   |(rename_i e;cases e;exact pF fun v hv=>ih v (Array.all_eq_true_iff_forall_mem.1 h v hv))
   |(rename_i e;cases e;exact Dp fun v hv=>ih v (Array.all_eq_true_iff_forall_mem.1 h v hv))
   |cases h
theorem uk{v:Value}(h:tU v):∀x∈v.cells,tU x:=fun x hx ρ=>by obtain⟨i,hi⟩:=Array.mem_iff_getElem?.1 hx;exact(h ρ).cells.2 i x x hi hi
def oq(i:TypeInfo):Prop:=∀z,i.zero=some z->tU z
theorem nG(d:TypeDesc)(s:String)(c:Bool)(n:Nat){z:Value}(h:tU z):oq (Made.word d s z c n):=fun z' e=>by cases e;exact h
theorem xF{α σ:Type}{Inv:σ->Prop}{f:α->σ->Option (ForInStep σ)}(hf:∀a s r,Inv s->f a s=some r->Inv r.value):∀(xs:List α) (s r:σ),Inv s->forIn xs s f=some r->Inv r
 |[],s,r,hs,h=>by simp only[List.forIn_nil]at h;cases h;exact hs
 |a::xs,s,r,hs,h=>by
  rw[List.forIn_cons]at h;obtain⟨x,h1,h2⟩:=Option.bind_eq_some_iff.1 h;have:=hf a s x hs h1;cases x with
  |done b=>cases h2;exact this
  |yield b=>exact xF hf xs b r this h2
theorem Jf{info:TypeId->Option TypeInfo}{fs:Array Field}{i:TypeInfo}(hi:∀t j,info t=some j->oq j)(h:Made.reckonStruct info fs=some i):oq i:=by
 unfold Made.reckonStruct at h;obtain⟨s,hs,h⟩:=Option.bind_eq_some_iff.1 h;rw[<-Array.forIn_toList]at hs;have inv:=xF (Inv:=fun s=>∀zs:Array Value,s.2.2.2.2.2.2.2.1=some zs->∀v∈zs,tU v) (fun a s r hI h1=>?_) fs.toList _ s (fun zs e v hv=>by cases e;simp at hv) hs
 ·dsimp only at h;split at h
  all_goals
   cases h;intro z e;obtain⟨zs,h1,rfl⟩:=Option.map_eq_some_iff.1 e;exact pF (inv zs h1)
 ·obtain⟨j,hj,h1⟩:=Option.bind_eq_some_iff.1 h1
  have fin:∀{c:Nat} {zs:Array Value},(if c>Made.mostCells then none else do pure ((<-s.2.2.2.2.2.2.2.1)++(<-j.zero).cells))=some zs->∀v∈zs,tU v:=fun{c zs} e v hv=>by
   split at e
   ·cases e
   ·obtain⟨z0,h0,e⟩:=Option.bind_eq_some_iff.1 e;obtain⟨z1,h2,e⟩:=Option.bind_eq_some_iff.1 e;cases e;rcases Array.mem_append.1 hv with hv|hv
    ·exact hI z0 h0 v hv
    ·exact uk (hi _ _ hj z1 h2) v hv
  dsimp only at h1;split at h1
  ·cases h1
  ·split at h1
   ·cases h1
   ·split at h1
    ·obtain⟨tag,_,h1⟩:=Option.bind_eq_some_iff.1 h1;split at h1<;>(cases h1;exact fun zs e=>fin e)
    ·obtain⟨tag,_,h1⟩:=Option.bind_eq_some_iff.1 h1;split at h1<;>(cases h1;exact fun zs e=>fin e)
theorem Iy{info:TypeId->Option TypeInfo}(hi:∀t j,info t=some j->oq j){d:TypeDesc}{i:TypeInfo}(h:Made.reckon info d=some i):oq i:=by
 unfold Made.reckon at h;cases d with
 |pointer e=>
  obtain⟨j,_,h⟩:=Option.bind_eq_some_iff.1 h;split at h
  ·cases h
  ·split at h
   ·cases h
   ·obtain⟨s,_,h⟩:=Option.bind_eq_some_iff.1 h;cases h;exact nG _ _ _ _ fun _=>.jF
  ·obtain⟨s,_,h⟩:=Option.bind_eq_some_iff.1 h;cases h;exact nG _ _ _ _ fun _=>.jF
 |slice e=>
  obtain⟨j,_,h⟩:=Option.bind_eq_some_iff.1 h;obtain⟨s,_,h⟩:=Option.bind_eq_some_iff.1 h;cases h;exact nG _ _ _ _ fun _=>.bP _ _
 |map k e=>
  obtain⟨j,_,h⟩:=Option.bind_eq_some_iff.1 h;obtain⟨s,_,h⟩:=Option.bind_eq_some_iff.1 h;obtain⟨j,_,h⟩:=Option.bind_eq_some_iff.1 h;obtain⟨s,_,h⟩:=Option.bind_eq_some_iff.1 h;cases h;exact nG _ _ _ _ fun _=>.nM
 |chan dir e=>
  obtain⟨j,_,h⟩:=Option.bind_eq_some_iff.1 h;obtain⟨s,_,h⟩:=Option.bind_eq_some_iff.1 h;cases h;exact nG _ _ _ _ fun _=>.jd
 |func ps rs v=>
  obtain⟨s,_,h⟩:=Option.bind_eq_some_iff.1 h;cases h;exact nG _ _ _ _ fun _=>.nilFunc
 |array n e=>
  obtain⟨j,hj,h⟩:=Option.bind_eq_some_iff.1 h;obtain⟨s,_,h⟩:=Option.bind_eq_some_iff.1 h;cases h;intro z hz;dsimp only at hz;split at hz
  ·cases hz
  ·split at hz
   ·cases hz;exact pF fun v hv=>by simp at hv
   ·obtain⟨z0,h0,rfl⟩:=Option.map_eq_some_iff.1 hz;refine pF fun v hv=>?_;obtain⟨x,hx,hv⟩:=Array.mem_flatten.1 hv;obtain rfl:=Array.eq_of_mem_replicate hx;exact uk (hi _ _ hj z0 h0) v hv
 |struct fs=>exact Jf hi h
 |_=>cases h
def Fw(P:Program):Bool:=P.types.all fun i=>match i.zero with|some z=>qZ 16 z|none=>true
theorem MJ{P:Program}(h:Fw P=true):iy P:=by
 have table:∀{t:TypeId} {i:TypeInfo},P.types[t]? =some i->oq i:=fun{t i} ht z hz=>by have:=Array.all_eq_true_iff_forall_mem.1 h i (Array.mem_of_getElem? ht);rw[hz]at this;exact EC 16 z this
 have made:∀(n:Nat) (t:TypeId) (i:TypeInfo),Made.infoAt P.toTables n t=some i->oq i:=by
  intro n;induction n with
  |zero=>intro t i h;cases h
  |succ n ih=>
   intro t i h;unfold Made.infoAt at h;split at h
   ·exact table h
   ·obtain⟨d,_,hd⟩:=Option.bind_eq_some_iff.1 h;exact Iy (fun t j hj=>ih t j hj) hd
 intro t i z hi hz ρ;unfold Tables.info? at hi;split at hi
 ·exact table hi z hz ρ
 ·exact made _ _ _ hi z hz ρ
end
section
open Go
abbrev Ks(P:Program)(l k:List FuncId)(d:Nat)(t:Nat->Option Obj):aR:=Ul l (fun c=>dM P l true c=true) (fun f=>l.contains f=true\/k.contains f=true) d t
def VD(P:Program)(f:FuncId):Bool:=match P.funcs[f]? with
 |some fn=>fn.body.isSome&&(P.inits.idxOf? f).isNone
 |none=>false
def okF(P:Program)(l:List FuncId)(f:FuncId):Bool:=match P.funcs[f]? with
 |some fn=>(match fn.body with|some c=>dM P l false c|none=>false)&&!(fn.name== "runtime.NumGoroutine")&&(P.inits.idxOf? f).isNone
 |none=>false
theorem Ew{P:Program}{l:List FuncId}{f:FuncId}(h:okF P l f=true):∃fn c,P.funcs[f]? =some fn/\fn.body=some c/\dM P l false c=true/\(fn.name== "runtime.NumGoroutine")=false/\P.inits.idxOf? f=none:=by
 unfold okF at h;split at h
 ·rename_i fn hfn;simp only[Bool.and_eq_true,Bool.not_eq_true',Option.isNone_iff_eq_none]at h;obtain⟨⟨h1,h2⟩,h3⟩:=h;split at h1
  ·rename_i c hc;exact⟨fn,c,hfn,hc,h1,h2,h3⟩
  ·cases h1
 ·cases h
theorem Ru{P:Program}{f:FuncId}(h:VD P f=true):(∃fn c,P.funcs[f]? =some fn/\fn.body=some c)/\P.inits.idxOf? f=none:=by
 unfold VD at h;split at h
 ·rename_i fn hfn;simp only[Bool.and_eq_true,Option.isNone_iff_eq_none,Option.isSome_iff_exists]at h;obtain⟨⟨c,hc⟩,h2⟩:=h;exact⟨⟨fn,c,hfn,hc⟩,h2⟩
 ·cases h
theorem QL{P:Program}{l k:List FuncId}{d:Nat}{t:Nat->Option Obj}(hz:Fw P=true)(hl:l.all (okF P l)=true)(hk:k.all (VD P)=true):@Fit (Ks P l k d t) P l:=by
 letI:aR:=Ks P l k d t
 have ok:∀f,l.contains f=true->okF P l f=true:=fun f hf=>List.all_eq_true.1 hl f (by simpa using hf);have kn:∀f,k.contains f=true->VD P f=true:=fun f hf=>List.all_eq_true.1 hk f (by simpa using hf)
 have all:∀f,aR.known f->(∃fn c,P.funcs[f]? =some fn/\fn.body=some c)/\P.inits.idxOf? f=none:=fun f hf=>by
  rcases hf with hf|hf
  ·obtain⟨fn,c,h1,h2,_,_,h5⟩:=Ew (ok f hf);exact⟨⟨fn,c,h1,h2⟩,h5⟩
  ·exact Ru (kn f hf)
 refine⟨MJ hz,fun f hf=>?_,fun f=>Iff.rfl,fun c=>Iff.rfl,fun f hf=>?_,fun f hf=>(all f hf).2,fun f hf=>(all f hf).1,fun f hf=>.inl hf⟩
 ·obtain⟨fn,c,h1,h2,_,h4,_⟩:=Ew (ok f hf);exact⟨fn,h1,h4,by rw[h2];rfl⟩
 ·obtain⟨fn,c,h1,h2,h3,_,_⟩:=Ew (ok f hf);exact⟨fn,c,h1,h2,h3⟩
end
section
open Go.Proofs.Tryz
open Go Go.Conc
def NA:List FuncId:=[44,33,34,36,37,39,42,45,48,59,60,63,64,66,68,69,70,71,72,73,74,75,77,78,79,80,81,84,87,88,89,96,100,102,103,104,107,108,109,111,112,113,114,115,116,117,118,119,120,124,125,126,127,128,130,135,136,151,152,153,165,166,167,168,169,170,171,172,173,174,175,176,177,178,179,180,181,188,189,190,191,192,193,195,196,201,202,204,205,206,207,208,209,210,211,212,213,214,215,216,217,218,219,220,221,222,225,226,227,228,229,230,231,232,233,237,238,239,240,241,242,243,244,245,246,247,248,249,250,251,252,253,254,255,256,257,258,259,260,261,266,267,268,269,270,271,272,273,274,275,281,282,304]
def knD:List FuncId:=[61,62,26,98,14,46,85,47,5]
theorem SC:Fw prog=true:=by kernel_rfl
theorem okD:NA.all (okF prog NA)=true:=by kernel_rfl
theorem Rv:knD.all (VD prog)=true:=by kernel_rfl
abbrev sV(d:Nat)(t:Nat->Option Obj):aR:=Ks prog NA knD d t
theorem yT(d:Nat)(t:Nat->Option Obj):@Fit (sV d t) prog NA:=QL SC okD Rv
theorem Up(d:Nat)(t:Nat->Option Obj):@MX (sV d t) NA:=by
 letI:aR:=sV d t
 exact⟨yT d t,by kernel_rfl,((yT d t).ok _).2 (by kernel_rfl),((yT d t).ok _).2 (by kernel_rfl),.inr (by kernel_rfl),.inr (by kernel_rfl),by kernel_rfl,by kernel_rfl,by kernel_rfl,by kernel_rfl,by kernel_rfl,by kernel_rfl⟩
end
section
open Go Go.Conc
section
variable [aR] {P:Program} {f:FuncId} {fn:Func} {c:Code} {args:Array Value} {W:World} {A:Nat->Prop} {R:Ending->World->Prop} {Post:Value->World->Prop}
end
section
variable {H:Type} {enc:TypeId×Value->H}
end
end
section
open Go Go.Conc
open Go.ConcN (sumTo upd sumTo_upd upd_ne upd_same)
section
variable [aR] {P:Program} {l:List FuncId} {Post wI:Frame->List Frame->World->Prop} {fr:Frame} {cs:List Frame} {u u1:World} {Shun:Loc->Prop} {S:Nat->Prop} {ρ σ:Ren} {gs:Array Goroutine} {w w1:World} {t:Trace} {q:Nat->Nat} {sl:Option (Nat×Nat)}
def MW(Shun:Loc->Prop)(B:Nat)(e:Event):Prop:=(∀x,(MemAct.ofEvent e).touch?=some x->¬Shun x.loc)/\(MemAct.ofEvent e≠.mark .disable/\MemAct.ofEvent e≠.mark .enable)/\(MemAct.ofEvent e).low B
theorem BA{e:Event}(dw:Clear Shun S σ w1)(hl:∀y b,σ y b->b<w1.heap.size)(h:dz S σ e):MW Shun w1.heap.size e:=by
 haveI:aB:=aC []
 have ho:kG S σ (.ofEvent e):=.inl ⟨e,rfl,h⟩;refine⟨fun x hx hs=>?_,qX ho,zS ho hl⟩;obtain⟨a,h1,h2,h3⟩:=dw _ hs;rcases qY ho hx with⟨ad,y,e,hy⟩|⟨r,y,e,hy⟩|e
 ·rw[e]at h1;cases h1;exact absurd (h3 y hy.1) hy.2
 ·rw[e]at h1;cases h1
 ·rw[e]at h1;cases h1
theorem step0{K:Frame->List Frame->World->Prop}:
  ∀(n:Nat) (gs:Array Goroutine) (w:World) (sl:Option (Nat×Nat)) (t:Trace) (q:Nat->Nat),sumTo gs.size q<n->gs[0]? =some (G fr cs)->Leavers P t gs q->Past Shun w.heap.size t->(∀i j,t.g? i=some j->j<gs.size)->
   (∀d,∃bT bV w1 es,stepG P true (G fr cs) (w.at d)=.go (G bT bV) w1 es/\w.heap.size<=w1.heap.size/\(∀e∈es,MW Shun w1.heap.size e)/\K bT bV w1)->
   ∃N bT bV w1 gX Gm t1 q1,K bT bV w1/\runNT P N (crowd gs w sl) t=(.next (crowd gX w1 Gm),t1)/\gX[0]? =some (G bT bV)/\Leavers P t1 gX q1/\Past Shun w1.heap.size t1/\(∀i j,t1.g? i=some j->j<gX.size):=by
 haveI:aB:=aC []
 intro n;induction n with
 |zero=>exact fun gs w sl t q hS=>absurd hS (by omega)
 |succ n ih=>
  intro gs w sl t q hS h0 hL hP hN h;have hlt:0<gs.size:=(Array.getElem?_eq_some_iff.1 h0).1
  have Ra:∀g∈gs,awake g:=by
   intro g hg;obtain⟨i,hi,rfl⟩:=Array.mem_iff_getElem.1 hg;rcases Nat.eq_zero_or_pos i with rfl|hpos
   ·have:gs[0]=G fr cs:=by simpa[Array.getElem?_eq_getElem hi]using h0
    rw[this];exact awake_of (.inl rfl)
   ·exact awake_of ((hL.old i _ hpos (Array.getElem?_eq_getElem hi)).status.elim .inl fun x=>.inr (.inr x))
  obtain⟨i,g,d,sl',hi,hg,hst⟩:=crowd_pick (P:=P) (w:=w) (sl:=sl) Ra ⟨0,_,h0,rfl⟩;rcases Nat.eq_zero_or_pos i with rfl|hpos
  ·obtain rfl:g=G fr cs:=by rw[h0]at hi;exact(Option.some.inj hi).symm
   obtain⟨bT,bV,w1,es,hs,hz,hf,hK⟩:=h d;have jT:=runT_crowd_go (P:=P) (sl:=sl') (i:=0) hi (show stepG P (0==0) (G fr cs) (w.at d)=_ from hs);have hop:=MemOp.ofEvents_g 0 (G fr cs).frame.fn (G fr cs).frame.place es;have hact:(MemOp.ofEvents 0 (G fr cs).frame.fn (G fr cs).frame.place es).map (·.act)=es.map .ofEvent:=by rw[ofEvents_eq];simp[Array.map_map,Function.comp_def]
   have hsz:((gs.map (woken P (G fr cs) (G bT bV) w1)).setIfInBounds 0 (G bT bV)).size=gs.size:=by simp
   have hfo:∀op∈MemOp.ofEvents 0 (G fr cs).frame.fn (G fr cs).frame.place es,∃e,op.act=.ofEvent e/\MW Shun w1.heap.size e:=fun op ho=>by
    have:op.act∈es.map MemAct.ofEvent:=by rw[<-hact];exact Array.mem_map.2 ⟨op,ho,rfl⟩
    obtain⟨e,he,h1⟩:=Array.mem_map.1 this;exact⟨e,h1.symm,hf e he⟩
   refine⟨1,bT,bV,w1,(gs.map (woken P (G fr cs) (G bT bV) w1)).setIfInBounds 0 (G bT bV),sl',t++MemOp.ofEvents 0 (G fr cs).frame.fn (G fr cs).frame.place es,q,hK,by simp only[runNT,hst,jT],by simp[hlt],⟨fun j x hj hx=>?_,fun j hj=>?_⟩,?_,kO (by rw[hsz];exact hN) (by rw[hsz];exact hlt) hop⟩
   ·rw[Array.getElem?_setIfInBounds_ne (by omega),Array.getElem?_map]at hx;obtain⟨y,hy,rfl⟩:=Option.map_eq_some_iff.1 hx;have hq:=hL.old j y hj hy;rw[woken_quitsD hq,Deaf_other t (g':=0) (by omega) _ hop];exact hq
   ·rw[Deaf_other t (g':=0) (by rw[hsz]at hj;omega) _ hop];exact hL.above j (by rw[hsz]at hj;exact hj)
   ·refine(hP.mono hz).app0 hop (fun op ho b hb hs=>?_) (Go.ConcN.Deaf_still t 0 _ fun op ho=>?_) (fun op ho=>?_)
    ·obtain⟨e,h1,h2⟩:=hfo op ho;rw[h1]at hb;exact absurd hs (h2.1 b hb)
    ·obtain⟨e,h1,h2⟩:=hfo op ho;rw[h1];exact h2.2.1
    ·obtain⟨e,h1,h2⟩:=hfo op ho;rw[h1];exact h2.2.2
  ·have hq:=hL.old i g hpos hi;have hi0:(i==0)=false:=by simp;omega
   have hlt':i<gs.size:=(Array.getElem?_eq_some_iff.1 hi).1;cases Jy:q i with
   |zero=>rw[Jy]at hq;rw[hq.1]at hg;cases hg
   |succ k=>
    rw[Jy]at hq;rcases hq with⟨hf,_⟩|⟨_,g',es,hm,uQ,kY⟩
    ·rw[hf]at hg;cases hg
    have jT:=runT_crowd_go (P:=P) (sl:=sl') (i:=i) hi (by rw[hi0];exact uQ (w.at d));have hsz:((gs.map (woken P g g' (w.at d))).setIfInBounds i g').size=gs.size:=by simp
    have hsum:sumTo gs.size (upd q i k)+q i=sumTo gs.size q+k:=sumTo_upd q k id hlt'
    obtain⟨N,bT,bV,w1,gX,Gm,t1,q1,r0,r1,r2,r3,r4,r5⟩:=ih ((gs.map (woken P g g' (w.at d))).setIfInBounds i g') (w.at d) sl' (t++MemOp.ofEvents i g.frame.fn g.frame.place es) (upd q i k) (by rw[hsz];omega)
     (by
      have hne:i≠0:=by omega
      rw[Array.getElem?_setIfInBounds_ne hne,Array.getElem?_map,h0];simp[woken_running (show(G fr cs).status=.running from rfl)]) ⟨fun j x hj hx=>by
      by_cases hji:i=j
      ·subst hji;rw[Array.getElem?_setIfInBounds_self_of_lt (by simpa using hlt')]at hx;obtain rfl:=Option.some.inj hx;rw[upd_same,Deaf_own];exact kY
      ·rw[Array.getElem?_setIfInBounds_ne hji,Array.getElem?_map]at hx;obtain⟨y,hy,rfl⟩:=Option.map_eq_some_iff.1 hx;have Hs:=hL.old j y hj hy;rw[woken_quitsD Hs,upd_ne q k (Ne.symm hji),Deaf_other t hji _ (MemOp.ofEvents_g _ _ _ _)];exact Hs,fun j hj=>by
      rw[Deaf_other t (g':=i) (by simp at hj;omega) _ (MemOp.ofEvents_g _ _ _ _)];exact hL.above j (by simpa using hj)⟩ (hP.mute (by omega) hm) (kO (by rw[hsz];exact hN) (by rw[hsz];exact hlt') (MemOp.ofEvents_g _ _ _ _)) (fun d'=>h d')
    exact⟨N+1,bT,bV,w1,gX,Gm,t1,q1,r0,by simp only[runNT,hst,jT];exact r1,r2,r3,r4,r5⟩
structure De(ρ:Ren)(L:List Nat)(fr:Frame):Prop where
 tmps:∀(i:Nat) v,fr.tmps[i]? =some v->i∉L->VR ρ v v
 kind:fr.kind=.normal
 known:aR.known fr.fn
theorem De.mono{L:List Nat}(g:ρ.le σ)(h:De ρ L fr):De σ L fr:=⟨fun i v hv hi=>(h.tmps i v hv hi).mono g,h.kind,h.known⟩
structure pg(Lf:FuncId->List Nat)(P:Program)(Shun:Loc->Prop)(S:Nat->Prop)(fr:Frame)(cs:List Frame)(u:World)(ρ:Ren)(gs:Array Goroutine)(w:World)(t:Trace)(q:Nat->Nat):Prop where
 Bb:gs[0]? =some (G fr cs)
 top:De ρ (Lf fr.fn) fr
 low:∀f∈cs,De ρ (Lf f.fn) f/\f.mode=.run
 world:nK P ρ u w
 whole:Whole S ρ u
 bK:Leavers P t gs q
 past:Past Shun w.heap.size t
 clear:Clear Shun S ρ w
 same:∀a b,ρ a b->a=b
 size:u.heap.size=w.heap.size
 wL:∀i j,t.g? i=some j->j<gs.size
 full:Full ρ u
def cC(Lf:FuncId->List Nat)(P:Program)(Post:Frame->List Frame->World->Prop)(fr:Frame)(cs:List Frame)(u:World):Prop:=
 ∀(Shun:Loc->Prop) (S:Nat->Prop) (ρ:Ren) (gs:Array Goroutine) (w:World) (sl:Option (Nat×Nat)) (t:Trace) (q:Nat->Nat),pg Lf P Shun S fr cs u ρ gs w t q->Gy ρ Shun w->
  ∃N cO S' ρ' fr' cs' u' gs' w' sl' t' q',runNT P N (crowd gs w sl) t=(.next (crowd gs' w' sl'),t')/\Post fr' cs' u'/\pg Lf P cO S' fr' cs' u' ρ' gs' w' t' q'/\eR ρ ρ' w w'/\gL Shun cO w
variable {Lf:FuncId->List Nat}
theorem cC.here(h:Post fr cs u):cC Lf P Post fr cs u:=fun Shun S ρ gs w sl t q hB _=>
 haveI:aB:=aC []
 ⟨0,Shun,S,ρ,fr,cs,u,gs,w,sl,t,q,rfl,h,hB,.refl ρ w,.refl Shun w⟩
theorem cC.bind(h:cC Lf P wI fr cs u)(k:∀fr cs u,wI fr cs u->cC Lf P Post fr cs u):cC Lf P Post fr cs u:=fun Shun S ρ gs w sl t q hB hV=>by
 haveI:aB:=aC []
 obtain⟨N,JH,S1,ρ1,bT,bV,u1,gX,w1,Gm,t1,q1,r1,r2,r3,r4,r5⟩:=h Shun S ρ gs w sl t q hB hV;obtain⟨K,rN,S2,MK,uF,AA,u2,Pn,w2,Sf,t2,q2,k1,k2,k3,k4,k5⟩:=k _ _ _ r2 JH S1 ρ1 gX w1 Gm t1 q1 r3 (hV.went r4 r5);exact⟨N+K,rN,S2,MK,uF,AA,u2,Pn,w2,Sf,t2,q2,(gH r1).trans k1,k2,k3,r4.trans k4,r5.trans r4.size k5⟩
theorem cC.mono(h:cC Lf P wI fr cs u)(k:∀fr cs u,wI fr cs u->Post fr cs u):cC Lf P Post fr cs u:=h.bind fun fr cs u hm=>.here (k fr cs u hm)
structure OY(Lf:FuncId->List Nat)(P:Program)(Shun:Loc->Prop)(S:Nat->Prop)(ρ σ:Ren)(u1 w w1:World)(bT:Frame)(bV:List Frame)(es:Array Event):Prop where
 went:eR ρ σ w w1
 world:nK P σ u1 w1
 whole:Whole S σ u1
 same:∀a b,σ a b->a=b
 size:u1.heap.size=w1.heap.size
 fine:∀e∈es,MW Shun w1.heap.size e
 top:De σ (Lf bT.fn) bT
 low:∀f∈bV,De σ (Lf f.fn) f/\f.mode=.run
 full:Full σ u1
theorem pg.at (h:pg Lf P Shun S fr cs u ρ gs w t q)(d:Nat):pg Lf P Shun S fr cs u ρ gs (w.at d) t q:=
 haveI:aB:=aC []
 ⟨h.Bb,h.top,h.low,h.world.at d,h.whole,h.bK,h.past,h.clear,h.same,h.size,h.wL,h.full⟩
theorem cC.one(h:∀Shun S ρ gs w t q,pg Lf P Shun S fr cs u ρ gs w t q->Gy ρ Shun w->∃bT bV u1 σ w1 es,stepG P true (G fr cs) w=.go (G bT bV) w1 es/\OY Lf P Shun S ρ σ u1 w w1 bT bV es/\cC Lf P Post bT bV u1):cC Lf P Post fr cs u:=fun Shun S ρ gs w sl t q hB hV=>by
 haveI:aB:=aC []
 obtain⟨N,bT,bV,w1,gX,Gm,t1,q1,⟨u1,σ,d,hd,hr⟩,r1,r2,r3,r4,r5⟩:=step0 (K:=fun bT bV w1=>∃u1 σ d,(∃es,OY Lf P Shun S ρ σ u1 (w.at d) w1 bT bV es)/\cC Lf P Post bT bV u1) (Shun:=Shun) (sumTo gs.size q+1) gs w sl t q (by omega) hB.Bb hB.bK hB.past hB.wL fun d=>by obtain⟨bT,bV,u1,σ,w1,es,hs,hd,hr⟩:=h Shun S ρ gs (w.at d) t q (hB.at d) (hV.at d);exact⟨bT,bV,w1,es,hs,hd.went.size,hd.fine,u1,σ,d,⟨es,hd⟩,hr⟩
 obtain⟨es,hd⟩:=hd;obtain⟨N2,rN,S2,MK,uF,AA,u2,Pn,w2,Sf,t2,q2,k1,k2,k3,k4,k5⟩:=hr Shun S σ gX w1 Gm t1 q1 ⟨r2,hd.top,hd.low,hd.world,hd.whole,r3,r4,(hB.at d).clear.went hd.went,hd.same,hd.size,r5,hd.full⟩ ((hV.at d).went hd.went (.refl Shun _));exact⟨N+N2,rN,S2,MK,uF,AA,u2,Pn,w2,Sf,t2,q2,(gH r1).trans k1,k2,k3,(((eR.refl ρ w).at d).trans hd.went).trans k4,fun a ha=>(k5 a ha).imp id fun e=>Nat.le_trans hd.went.size e⟩
theorem cC.ctl{bT:Frame}(h:∀w,stepG P true (G fr cs) w=.go (G bT cs) w)(hx:∀ρ,De ρ (Lf fr.fn) fr->De ρ (Lf bT.fn) bT)(k:cC Lf P Post bT cs u):cC Lf P Post fr cs u:=
 haveI:aB:=aC []
 .one fun Shun S ρ gs w t q hB _=>⟨bT,cs,u,ρ,w,#[],h w,⟨.refl ρ w,hB.world,hB.whole,hB.same,hB.size,by simp,hx ρ hB.top,hB.low,hB.full⟩,k⟩
end
end
end Go.Proofs.YtpobhljcainmdaaGreat
