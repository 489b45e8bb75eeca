/- Proved here: a part of what Doors keeps (Cw1, Rd0, Lk1, Rd1, Rd2). -/
import Derived.Conc.WgGenN3
import Derived.Test.YtpobhljcainmdaaGreatChecked
import Derived.Test.YtpobhljcainmdaaGreatJ29
set_option maxRecDepth 100000
set_option maxHeartbeats 8000000
set_option linter.all false
namespace Go.Proofs.YtpobhljcainmdaaGreat
section
open Go Go.Conc
open Go.ConcN (ShN WgLive)
section
variable [aR] [aB] {P:Program} {main:Bool} {ty:TypeId} {Wg:Nat} {Stop:(Nat->Prop)->Goroutine->World->Prop} {O:Nat->Prop} {g g':Goroutine} {w:World} {b:Frame} {a:Act} {k:List Item} {cs:List Frame}
theorem MV.refl(O:Nat->Prop)(w:World):MV O w w:=⟨fun _ _ _=>rfl,Nat.le_refl _,rfl,rfl,rfl⟩
theorem gV.more{O':Nat->Prop}{B B':Nat}{x:MemAct}(h:gV Wg O B x)(hO:∀c,O c->O' c)(hB:B<=B'):gV Wg O' B' x:=
 ⟨fun y hy=>(h.touch y hy).imp (fun⟨ad,e,ho⟩=>⟨ad,e,hO _ ho⟩) fun h=>h.imp (fun⟨r,e,ho⟩=>⟨r,e,hO _ ho⟩) id,h.marks,MemAct.low_mono hB h.low,h.rel,h.RO⟩
theorem CJ.quiet(hg:g.status=.running)(h:∀w₁,Rel ty Wg O w w₁->∃es,stepG P main g w₁=.go g' w₁ es/\∀e∈es,gV Wg O w₁.heap.size (.ofEvent e))(c:CJ P main ty Wg Stop O g' w):CJ P main ty Wg Stop O g w:=
 .one hg fun w₁ r=>by obtain⟨es,h1,h2⟩:=h w₁ r;refine⟨g',w₁,_,.go h1,.refl O w₁,fun x hx=>?_,by rw[qT];exact c.rely r⟩;obtain⟨e,he,rfl⟩:=Array.mem_map.1 hx;rw[qT];exact h2 e he
theorem CJ.ctl(hg:g.status=.running)(h:∀w₁,Rel ty Wg O w w₁->stepG P main g w₁=.go g' w₁)(c:CJ P main ty Wg Stop O g' w):CJ P main ty Wg Stop O g w:=
 .quiet hg (fun w₁ r=>⟨#[],h w₁ r,by simp⟩) c
theorem CJ.seq{x y:Code}(c:CJ P main ty Wg Stop O (G (b.at a (.code x::.code y::k)) cs) w):CJ P main ty Wg Stop O (G (b.at a (.code (.seq x y)::k)) cs) w:=.ctl rfl (fun _ _=>stepG_seq) c
theorem CJ.skip(c:CJ P main ty Wg Stop O (G (b.at a k) cs) w):CJ P main ty Wg Stop O (G (b.at a (.code .skip::k)) cs) w:=.ctl rfl (fun _ _=>stepG_skip) c
theorem CJ.cond{x:Operand}{y z:Code}{v:Bool}(hc:a.eval x=.bool v)(c:CJ P main ty Wg Stop O (G (b.at a (.code (if v then y else z)::k)) cs) w):CJ P main ty Wg Stop O (G (b.at a (.code (.cond x y z)::k)) cs) w:=.ctl rfl (fun _ _=>stepG_cond hc) c
theorem CJ.block{id:Nat}{x:Code}(c:CJ P main ty Wg Stop O (G (b.at a (.code x::.inBlock id::k)) cs) w):CJ P main ty Wg Stop O (G (b.at a (.code (.block id x)::k)) cs) w:=.ctl rfl (fun _ _=>stepG_block) c
theorem CJ.inBlock{id:Nat}(c:CJ P main ty Wg Stop O (G (b.at a k) cs) w):CJ P main ty Wg Stop O (G (b.at a (.inBlock id::k)) cs) w:=.ctl rfl (fun _ _=>stepG_inBlock) c
theorem CJ.loop{x:Code}(c:CJ P main ty Wg Stop O (G (b.at a (.code x::.inLoop x::k)) cs) w):CJ P main ty Wg Stop O (G (b.at a (.code (.loop x)::k)) cs) w:=.ctl rfl (fun _ _=>stepG_loop) c
theorem CJ.inLoop{x:Code}(c:CJ P main ty Wg Stop O (G (b.at a (.code x::.inLoop x::k)) cs) w):CJ P main ty Wg Stop O (G (b.at a (.inLoop x::k)) cs) w:=.ctl rfl (fun _ _=>stepG_inLoop) c
theorem CJ.exit{id:Nat}{k':List Item}(hk:exitTo id k=some k')(c:CJ P main ty Wg Stop O (G (b.at a k') cs) w):CJ P main ty Wg Stop O (G (b.at a (.code (.exit id)::k)) cs) w:=.ctl rfl (fun _ _=>stepG_exit hk) c
theorem CJ.region{id:Nat}{ops:Array Oper}(c:CJ P main ty Wg Stop O (G (b.at a (.inRegion ops (List.range ops.size)::k)) cs) w):CJ P main ty Wg Stop O (G (b.at a (.code (.region id ops false)::k)) cs) w:=.ctl rfl (fun _ _=>stepG_region) c
theorem CJ.regionEnd{ops:Array Oper}(c:CJ P main ty Wg Stop O (G (b.at a k) cs) w):CJ P main ty Wg Stop O (G (b.at a (.inRegion ops []::k)) cs) w:=.ctl rfl (fun _ _=>stepG_region_end) c
theorem CJ.ret(c:CJ P main ty Wg Stop O (G {b.at a (.code .ret::k)with mode:=.returning} cs) w):CJ P main ty Wg Stop O (G (b.at a (.code .ret::k)) cs) w:=.ctl rfl (fun _ _=>stepG_ret') c
theorem CJ.end_(c:CJ P main ty Wg Stop O (G {b.at a []with mode:=.returning} cs) w):CJ P main ty Wg Stop O (G (b.at a []) cs) w:=.ctl rfl (fun _ _=>stepG_end) c
theorem CJ.unwanted{ops:Array Oper}{i:Nat}{rest:List Nat}{o:Oper}(ho:ops[i]? =some o)(hw:Region.wanted o (yielded ops a.tmps)=false)(c:CJ P main ty Wg Stop O (G (b.at (a.put o.dst undef) (.inRegion ops rest::k)) cs) w):CJ P main ty Wg Stop O (G (b.at a (.inRegion ops (i::rest)::k)) cs) w:=.ctl rfl (fun _ _=>stepG_unwanted ho hw) c
theorem eX{fn:FuncId}{o:Oper}{e:Event}(h:e∈listed P fn a o w):e∈(execOp a.eval o).events P w #[]:=mem_seen h
theorem CJ.op{ops:Array Oper}{i:Nat}{rest:List Nat}{o:Oper}(v:Value)(ho:ops[i]? =some o)(hw:Region.wanted o (yielded ops a.tmps)=true)(hk:b.kind≠.early)
  (hr:∀w₁,Rel ty Wg O w w₁->(execOp a.eval o).run P w₁=.ok (.value v) w₁) (he:∀w₁,Rel ty Wg O w w₁->∀e∈(execOp a.eval o).events P w₁ #[],gV Wg O w₁.heap.size (.ofEvent e))
  (c:CJ P main ty Wg Stop O (G (b.at (a.put o.dst v) (.inRegion ops rest::k)) cs) w):CJ P main ty Wg Stop O (G (b.at a (.inRegion ops (i::rest)::k)) cs) w:=
 .quiet rfl (fun w₁ r=>⟨_,stepG_value ho hw hk (hr w₁ r),fun e h=>he w₁ r e (eX h)⟩) c
theorem CJ.make{ops:Array Oper}{i:Nat}{rest:List Nat}{o:Oper}(v:Nat->Value)(x:Obj)(ho:ops[i]? =some o)(hw:Region.wanted o (yielded ops a.tmps)=true)(hk:b.kind≠.early)
  (hr:∀w₁,Rel ty Wg O w w₁->(execOp a.eval o).run P w₁=.ok (.value (v w₁.heap.size)) {w₁ with heap:=w₁.heap.push x}) (he:∀w₁,Rel ty Wg O w w₁->∀e∈(execOp a.eval o).events P w₁ #[],gV Wg (fun c=>O c\/c=w₁.heap.size) (w₁.heap.size+1) (.ofEvent e))
  (c:∀w₁,Rel ty Wg O w w₁->CJ P main ty Wg Stop (fun c=>O c\/c=w₁.heap.size) (G (b.at (a.put o.dst (v w₁.heap.size)) (.inRegion ops rest::k)) cs) {w₁ with heap:=w₁.heap.push x}):CJ P main ty Wg Stop O (G (b.at a (.inRegion ops (i::rest)::k)) cs) w:=
 .one rfl fun w₁ r=>by
  have hG:dQ O w₁ {w₁ with heap:=w₁.heap.push x}=fun c=>O c\/c=w₁.heap.size:=by
   funext y
   apply propext;show(O y\/(w₁.heap.size<=y/\y<(w₁.heap.push x).size))↔_;rw[Array.size_push];constructor
   ·rintro(h|h)
    ·exact .inl h
    ·exact .inr (by omega)
   ·rintro(h|h)
    ·exact .inl h
    ·exact .inr (by omega)
  refine⟨_,_,_,.go (stepG_value ho hw hk (hr w₁ r)),⟨fun y hy _=>?_,by simp,rfl,rfl,rfl⟩,fun y hy=>?_,by rw[hG];exact c w₁ r⟩
  ·show(w₁.heap.push x)[y]? =_;rw[Array.getElem?_push,if_neg (by omega)]
  ·obtain⟨e,h,rfl⟩:=Array.mem_map.1 hy;rw[hG];have:=he w₁ r e (eX h);simpa using this
theorem CJ.enter{ops:Array Oper}{i:Nat}{rest:List Nat}{o:Oper}{f:FuncId}{args:Array Value}(ho:ops[i]? =some o)(hw:Region.wanted o (yielded ops a.tmps)=true)(hk:b.kind≠.early)
  (hr:∀w₁,Rel ty Wg O w w₁->(execOp a.eval o).run P w₁=.ok (.enter f args) w₁) (he:∀w₁,Rel ty Wg O w w₁->∀e∈(execOp a.eval o).events P w₁ #[],gV Wg O w₁.heap.size (.ofEvent e))
  (c:CJ P main ty Wg Stop O (G (Frame.enter P f args .normal) (b.at a (.inRegion ops (i::rest)::k)::cs)) w):CJ P main ty Wg Stop O (G (b.at a (.inRegion ops (i::rest)::k)) cs) w:=
 .quiet rfl (fun w₁ r=>⟨_,stepG_enter ho hw hk (hr w₁ r),fun e h=>he w₁ r e (eX h)⟩) c
theorem CJ.call{ops:Array Oper}{i:Nat}{rest:List Nat}{o:Oper}{f:FuncId}{fn:Func}{args:Array Operand}{ats:Array TypeId}(ho:ops[i]? =some o)(hw:Region.wanted o (yielded ops a.tmps)=true)(hk:b.kind≠.early)
  (hop:o.op=.call {callee:=.value (.func f),args,argTypes:=ats}) (hf:P.funcs[f]? =some fn) (hname:(fn.name== "runtime.NumGoroutine")=false) (hb:fn.body.isNone=false)
  (c:CJ P main ty Wg Stop O (G (Frame.enter P f (args.map a.eval) .normal) (b.at a (.inRegion ops (i::rest)::k)::cs)) w):CJ P main ty Wg Stop O (G (b.at a (.inRegion ops (i::rest)::k)) cs) w:=
 .enter ho hw hk (fun _ _=>run_call_body hop hf hname hb) (fun _ _ e he=>by rw[events_call_body hop hf hname hb]at he;simp at he) c
theorem tB{fr:Frame}{c:Frame}{fn:Func}(hm:fr.mode=.returning)(hd:fr.defers=[])(hk:fr.kind=.normal)(hf:P.funcs[fr.fn]? =some fn)(hr:fn.results=#[])(w:World):
  stepG P main (G fr (c::cs)) w=.go (G (c.finish (.tuple #[])) cs) w:=by
 have h1:(results fn fr.tmps).run P w=.ok (.tuple #[]) w:=by simp[results,hr]
 have h2:(results fn fr.tmps).events P w #[]=#[]:=events_results_none hr _ _;simp[G,stepG,unwind,doReturn,hm,hd,hk,hf,h1,h2,seen,GStep.after]
theorem CJ.leave{fr c:Frame}{fn:Func}(hm:fr.mode=.returning)(hd:fr.defers=[])(hk:fr.kind=.normal)(hf:P.funcs[fr.fn]? =some fn)(hr:fn.results=#[])(k:CJ P main ty Wg Stop O (G (c.finish (.tuple #[])) cs) w):CJ P main ty Wg Stop O (G fr (c::cs)) w:=
 .ctl rfl (fun w₁ _=>tB hm hd hk hf hr w₁) k
theorem CJ.frame{X:Nat->Prop}{w0:World}(h:CJ P main ty Wg Stop O g w):(∀b,X b->b<w.heap.size/\¬O b/\w.heap[b]? =w0.heap[b]?)->¬O Wg->WgLive ty Wg w->
  CJ P main ty Wg (fun O' g w=>∃O1,Stop O1 g w/\O'=(fun b=>O1 b\/X b)/\(∀b,X b->w.heap[b]? =w0.heap[b]?)/\¬O1 Wg/\WgLive ty Wg w) (fun b=>O b\/X b) g w:=by
 have weak:∀{O:Nat->Prop} {w w₁:World},Rel ty Wg (fun b=>O b\/X b) w w₁->Rel ty Wg O w w₁:=fun r=>⟨fun b hb=>r.own b (.inl hb),r.size,r.live,r.os⟩;induction h with
 |@stop O g w h=>
  intro hX hW hl;exact .stop fun w₁ r=>⟨O,h w₁ (weak r),rfl,fun b hb=>(r.own b (.inr hb)).trans (hX b hb).2.2,hW,r.live hl⟩
 |@step O g w hg h k ih=>
  intro hX hW hl;refine .one hg fun w₁ r=>?_;obtain⟨g',w',aD,h1,h2,h3⟩:=h w₁ (weak r);have Tl:=r.live hl
  have hlt:Wg<w₁.heap.size:=by obtain⟨st,sm,hh⟩:=Tl;unfold Go.ConcR.WgAt at hh;exact(Array.getElem?_eq_some_iff.1 hh).1
  have hG:dQ (fun b=>O b\/X b) w₁ w'=fun b=>dQ O w₁ w' b\/X b:=by
   funext b
   apply propext;constructor
   ·rintro((h|h)|h)
    ·exact .inl (.inl h)
    ·exact .inr h
    ·exact .inl (.inr h)
   ·rintro((h|h)|h)
    ·exact .inl (.inl h)
    ·exact .inr h
    ·exact .inl (.inr h)
  refine⟨g',w',aD,h1,⟨fun b hb hn=>h2.cG b hb fun ho=>hn (.inl ho),h2.size,h2.os,h2.output,h2.tape⟩,fun a ha=>?_,?_⟩
  ·rw[hG];exact(h3 a ha).more (fun c hc=>.inl hc) (Nat.le_refl _)
  ·rw[hG];refine ih w₁ g' w' aD (weak r) h1 (fun b hb=>?_) ?_ ?_
   ·obtain⟨x1,x2,x3⟩:=hX b hb;have bz:b<w₁.heap.size:=Nat.lt_of_lt_of_le x1 r.size;refine⟨Nat.lt_of_lt_of_le bz h2.size,?_,(h2.cG b bz x2).trans ((r.own b (.inr hb)).trans x3)⟩;rintro(h|h)
    ·exact x2 h
    ·omega
   ·rintro(h|h)
    ·exact hW h
    ·omega
   ·obtain⟨st,sm,hh⟩:=Tl;exact⟨st,sm,(h2.cG Wg hlt hW).trans hh⟩
end
end
section
open Go Go.Conc
open Go.ConcN (WgLive)
section
variable [aR] [aB] {P:Program} {ρ:Ren} {A:Nat->Prop} {w:World}
def cP(A:Nat->Prop):Ren:=fun a b=>a=b/\A b
def mask(A:Nat->Prop)[DecidablePred A](w:World):World:={w with heap:=Array.ofFn fun i:Fin w.heap.size=>if A i.1 then w.heap[i.1]else aV}
theorem eY[DecidablePred A]:(mask A w).heap.size=w.heap.size:=by simp[mask]
theorem ef[DecidablePred A]{b:Nat}(h:A b):(mask A w).heap[b]? =w.heap[b]? :=by
 unfold mask
 by_cases hb:b<w.heap.size
 ·simp[hb,h]
 ·simp[hb]
theorem qm[DecidablePred A]{b:Nat}(h:¬A b)(hb:b<w.heap.size):(mask A w).heap[b]? =some aV:=by unfold mask;simp[hb,h]
def Closed(A:Nat->Prop)(w:World):Prop:=∀b,A b->∃o,w.heap[b]? =some o/\OR (cP A) o o
theorem Db[DecidablePred A](hc:Closed A w)(hb:P.globals.size<=w.heap.size):nK P (cP A) (mask A w) w:=by
 refine⟨⟨fun a b b' h h'=>h.1.symm.trans h'.1,fun a a' b h h'=>h.1.trans h'.1.symm⟩,?_,?_,?_,by rw[eY];exact hb,?_,rfl⟩
 ·rintro a b ⟨rfl,h⟩;obtain⟨o,ho,_⟩:=hc a h;have:=(Array.getElem?_eq_some_iff.1 ho).1;rw[eY];exact⟨this,this⟩
 ·rintro a b o ⟨rfl,h⟩ ho;rw[ef h]at ho;obtain⟨o',ho',dP⟩:=hc a h;rw[ho']at ho;obtain rfl:=Option.some.inj ho;exact .inr ⟨_,ho',dP⟩
 ·rintro a b ⟨rfl,_⟩ h;exact h
 ·rintro a b ⟨rfl,h⟩ hp;rw[ef h]at hp;obtain⟨o',ho',dP⟩:=hc a h;rw[ho']at hp;cases hp;exact absurd rfl (bp dP)
theorem wC[DecidablePred A](hc:Closed A w):Whole (fun _=>False) (cP A) (mask A w):=by refine⟨?_,fun b h=>h.elim⟩;rintro a b ⟨rfl,h⟩;obtain⟨o',ho',dP⟩:=hc a h;exact .inl ⟨id,o',by rw[ef h];exact ho',bp dP⟩
theorem uj{x x':Array Value}(hs:x'.size=x.size)(h:∀(i:Nat) v v',x[i]? =some v->x'[i]? =some v'->v=v'):x=x':=by apply Array.ext hs.symm;intro i h1 h2;exact h i _ _ (Array.getElem?_eq_getElem h1) (Array.getElem?_eq_getElem h2)
theorem VR.eq(hρ:∀a b,ρ a b->a=b){v v':Value}(h:VR ρ v v'):v=v':=by
 have addr:∀{a a':Addr},AR ρ a a'->a=a':=fun{a a'} h=>by obtain⟨h1,h2,h3⟩:=h;obtain⟨x,y,z⟩:=a;obtain⟨x',y',z'⟩:=a';have h4:=hρ _ _ h1;simp only at h2 h3 h4;rw[h2,h3,h4]
 induction h with
 |ptr h=>rw[addr h]
 |slice l c h=>rw[addr h]
 |map h=>rw[hρ _ _ h]
 |chan h=>rw[hρ _ _ h]
 |func h hx _ hy _ ZL ZM=>
  have e:∀{f f':Fn},FR ρ f f'->f=f':=fun h=>by
   cases h with
   |func f _=>rfl
   |yield h=>rw[hρ _ _ h]
  rw[e h,uj hx ZL,uj hy ZM]
 |iface t _ ih=>rw[ih]
 |agg hx _ ih=>rw[uj hx ih]
 |tuple hx _ ih=>rw[uj hx ih]
 |_=>rfl
theorem cF.eq(hρ:∀a b,ρ a b->a=b){x x':Array Value}(h:cF ρ x x'):x=x':=uj h.1 fun i v v' a b=>(h.2 i v v' a b).eq hρ
def Ren.im(ρ:Ren):Nat->Prop:=fun b=>∃a,ρ a b
theorem AR.right{a a':Addr}(h:AR ρ a a'):AR (cP ρ.im) a' a':=⟨⟨rfl,_,h.1⟩,rfl,rfl⟩
theorem FR.right{f f':Fn}(h:FR ρ f f'):FR (cP ρ.im) f' f':=by
 cases h with
 |func f hf=>exact .func f hf
 |yield h=>exact .yield ⟨rfl,_,h⟩
theorem jX{x x':Array Value}(hs:x'.size=x.size)(h:∀(i:Nat) v v',x[i]? =some v->x'[i]? =some v'->VR (cP ρ.im) v' v'):∀(i:Nat) v v',x'[i]? =some v->x'[i]? =some v'->VR (cP ρ.im) v v':=fun i v v' h1 h2=>by rw[h1]at h2;cases h2;have hlt:i<x.size:=hs▸(Array.getElem?_eq_some_iff.1 h1).1;exact h i _ _ (Array.getElem?_eq_getElem hlt) h1
theorem VR.right{v v':Value}(h:VR ρ v v'):VR (cP ρ.im) v' v':=by
 induction h with
 |bool b=>exact .bool b
 |int k n=>exact .int k n
 |string s=>exact .string s
 |jF=>exact .jF
 |ptr h=>exact .ptr h.right
 |bP l c=>exact .bP l c
 |slice l c h=>exact .slice l c h.right
 |nM=>exact .nM
 |map h=>exact .map ⟨rfl,_,h⟩
 |jd=>exact .jd
 |chan h=>exact .chan ⟨rfl,_,h⟩
 |func h hx _ hy _ ZL ZM=>exact .func h.right rfl (jX hx ZL) rfl (jX hy ZM)
 |nilFunc=>exact .nilFunc
 |iface t _ ih=>exact .iface t ih
 |nilIface=>exact .nilIface
 |agg hx _ ih=>exact .agg rfl (jX hx ih)
 |tuple hx _ ih=>exact .tuple rfl (jX hx ih)
theorem cF.right{x x':Array Value}(h:cF ρ x x'):cF (cP ρ.im) x' x':=⟨rfl,jX h.1 fun i v v' a b=>(h.2 i v v' a b).right⟩
theorem OR.right{o o':Obj}(h:OR ρ o o'):OR (cP ρ.im) o' o':=by
 cases h with
 |cells t fz h=>exact .cells t fz h.right
 |@map x x' c h=>
  refine .map c ⟨rfl,fun i e e' h1 h2=>?_⟩;rw[h1]at h2;cases h2;have hlt:i<x.size:=h.1▸(Array.getElem?_eq_some_iff.1 h1).1;obtain⟨k1,k2,_⟩:=h.2 i _ _ (Array.getElem?_eq_getElem hlt) h1;exact⟨k1.right,k2.right,rfl⟩
 |chan cap cl s r t=>exact .chan cap cl s r t
 |loop h0 h1 h2 h3 h4 h5 h6 h7 h8=>
  obtain⟨a,b,c,d⟩:=h0;exact .loop ⟨h3▸a,h6▸b,h7▸c,fun x hx=>d x (h2▸hx)⟩ rfl rfl rfl h4.right rfl rfl rfl ⟨rfl,_,h8⟩
 |eV=>exact .eV
 |cy=>exact .cy
 |number l h=>exact .number l h.right
theorem xQ{A B:Nat->Prop}(h:∀b,A b->B b):(cP A).le (cP B):=fun a b hab=>⟨hab.1,h b hab.2⟩
theorem nK.closed{u:World}(h:nK P ρ u w)(hW:Whole (fun _=>False) ρ u):Closed ρ.im w:=by
 rintro b ⟨a,hab⟩;rcases hW.all a b hab with⟨_,o,ho,hn⟩|⟨hf,_⟩
 ·rcases h.obj a b o hab ho with e|⟨o',ho',dP⟩
  ·exact absurd e hn
  ·exact⟨o',ho',dP.right⟩
 ·exact hf.elim
end
end
section
open Go.Proofs.Tryz
open Go
abbrev link:Go.Conc.Lib.WgLink:={add:=97,done:=99,wait:=101,relMerge:=138,disable:=139,enable:=140,inBubble:=141,associate:=142,fatal:=143,uOr:=144,uAdd:=145,raceRead:=146,uLoad:=147,uStore:=148,disassociate:=149,semrelease:=150,acquire:=154,isAssociated:=155,uCas:=156,raceWrite:=157,semacquire:=158,orU64:=184,addU64:=185,loadU64:=186,storeU64:=187,casU64:=194,tWgP:=196,tUP:=198,tAssoc:=199,tWg:=178,tAU:=175,tU64:=173,tUint:=203,tU32:=176,tPU32:=204,tPAU:=244,tPU64:=246,tNoCopy:=170,tANoCopy:=171,tAlign64:=172}
theorem wB:Go.Conc.Lib.WgLib prog link:=
 ⟨func97,func99,func101,func138,func139,func140,func141,func142,func143,func144,func145,func146,func147,func148,func149,func150,func154,func155,func156,func157,func158,func184,func185,func186,func187,func194,underlying196,runUnderlying196,sizeOf196,isAgg196,zeroValue196,underlying198,runUnderlying198,sizeOf198,isAgg198,zeroValue198,underlying199,runUnderlying199,sizeOf199,isAgg199,zeroValue199,underlying178,runUnderlying178,sizeOf178,isAgg178,zeroValue178,underlying175,runUnderlying175,sizeOf175,isAgg175,zeroValue175,underlying173,runUnderlying173,sizeOf173,isAgg173,zeroValue173,underlying203,runUnderlying203,sizeOf203,isAgg203,zeroValue203,underlying176,runUnderlying176,sizeOf176,isAgg176,zeroValue176,underlying204,runUnderlying204,sizeOf204,isAgg204,zeroValue204,underlying244,runUnderlying244,sizeOf244,isAgg244,zeroValue244,underlying246,runUnderlying246,sizeOf246,isAgg246,zeroValue246,underlying0,runUnderlying0,sizeOf0,isAgg0,zeroValue0,underlying3,runUnderlying3,sizeOf3,isAgg3,zeroValue3,underlying4,runUnderlying4,sizeOf4,isAgg4,zeroValue4,underlying9,runUnderlying9,sizeOf9,isAgg9,zeroValue9,underlying20,runUnderlying20,sizeOf20,isAgg20,zeroValue20,underlying21,runUnderlying21,sizeOf21,isAgg21,zeroValue21,(by kernel_rfl),(by kernel_rfl)⟩
end
section
open Go.Proofs.Tryz
open Go Go.Conc Go.RowKit Go.Conc.Lib Go.ConcR.Gen Go.ConcN.Gen
open Go.ConcN (ShN WgLive Has)
abbrev pt(b:Nat):Value:=.pointer (some ⟨b,0,none⟩)
def rQ(Wg B:Nat):Deferred:={target:=.fn (.func 98) #[pt Wg,pt B],args:=#[]}
def eO(P:Program):Frame:={(default:Frame)with fn:=P.funcs.size,defers:=[],mode:=.panicking [goexitEntry]}
def Dx(fn:Func):Code:=fn.body.getD .skip
theorem RI:(f98.name== "runtime.NumGoroutine")=false:=by kernel_rfl
theorem Dr(Wg B:Nat)(w:World):stepG prog false (born prog (rQ Wg B)) w=.go (G ((baseD 98).at ⟨#[pt Wg,pt B,undef,undef],[]⟩ [.code (Dx f98)]) [eO prog]) w:=by
 have h1:¬f98.name= "runtime.NumGoroutine" :=by simpa using RI
 have hb:f98.body=some (Dx f98):=rfl;have e:=enter_atD #[pt Wg,pt B] func98 hb;have e2:(#[pt Wg,pt B]++Array.replicate (f98.ntmps - #[pt Wg,pt B].size) undef)=#[pt Wg,pt B,undef,undef]:=rfl;rw[e2]at e;rw[<-e];simp[born,rQ,eO,G,stepG,unwind,callDeferred,invoke,callFunc,func98,h1,hb,GStep.after,seen_none]
end
section
open Go.Proofs.Tryz
open Go Go.Conc Go.RowKit Go.Conc.Lib Go.ConcR.Gen Go.ConcN.Gen
open Classical
open Go.ConcN (ShN WgLive Has)
open Go.ConcR (Payload)
section
variable [aR] [aB] {l:List FuncId} {C:Nat->Prop} {R:Ending->World->Prop} {Wg B c:Nat} {w:World}
def Qr(C:Nat->Prop)(R:Ending->World->Prop)(O:Nat->Prop)(w:World):Prop:=∃u ρ v,R (.returned v) u/\(cP C).le ρ/\nK prog ρ u w/\Whole (fun _=>False) ρ u/\∀a b,ρ a b->O b
theorem Qr.rel{O:Nat->Prop}{ty:TypeId}{w₁:World}(h:Qr C R O w)(r:Rel ty Wg O w w₁):Qr C R O w₁:=by obtain⟨u,ρ,v,h1,h2,h3,h4,h5⟩:=h;exact⟨u,ρ,v,h1,h2,h3.rel h4 (fun b hb=>hb.elim) (fun a b hab _=>h5 a b hab) r,h4,h5⟩
def JA(C:Nat->Prop)(R:Ending->World->Prop)(Wg B:Nat)(O:Nat->Prop)(g:Goroutine)(w:World):Prop:=
 (∃k,k.mode=.returning/\(∃qt,QuitsD prog qt 0 (G k [eO prog]))/\g=G ((baseD link.done).at ⟨#[pt Wg,undef,undef,undef],[]⟩ [.code (body_done link)]) [k,eO prog])/\O B/\¬O Wg/\WgLive link.tWg Wg w/\(∃v,Has B 0 v w)/\Qr C R O w
theorem Jj[Payload]{O:Nat->Prop}{g:Goroutine}(h:∀w₁,Rel link.tWg Wg O w w₁->JA C R Wg B O g w₁):WS prog link.tWg Wg (Qr C R) .work O g w:=by obtain⟨⟨k,h1,⟨qt,h2⟩,rfl⟩,h3,h4,h5,⟨v,h6⟩,h7⟩:=h w (.refl ..);exact MF wB h3 h4 h1 h2 h5 h6 fun w₁ r=>h7.rel r
theorem Rel.cell{O:Nat->Prop}{ty:TypeId}{w₁:World}(r:Rel ty Wg O w w₁){ad:Addr}(h:O ad.block):w₁.cell? ad=w.cell? ad:=by unfold World.cell?;rw[r.own _ h]
theorem fU{O:Nat->Prop}{ad:Addr}{n:Nat}(h:O ad.block)(hlt:ad.block<n)(wr:Bool):gV Wg O n (.ofEvent ⟨.cell ad,wr,false⟩):=by refine⟨fun x hx=>?_,by simp[MemAct.ofEvent],hlt,fun _=>by simp[MemAct.ofEvent],fun _=>by simp[MemAct.ofEvent]⟩;simp[MemAct.ofEvent,MemAct.touch?]at hx;subst hx;exact .inl ⟨ad,rfl,h⟩
theorem zU(k:Frame)(hm:k.mode=.returning)(hd:k.defers=[])(hk:k.kind=.deferred)(hf:k.fn=98):QuitsD prog 2 0 (G k [eO prog]):=by
 refine .inr ⟨rfl,G (eO prog) [],#[],by simp,fun w=>?_,.inr ⟨rfl,{frame:=eO prog,callers:=[],status:=.finished,dying:=none},#[],by simp,fun w=>?_,⟨rfl,rfl⟩⟩⟩
 ·have hr:f98.results=#[]:=rfl;have h1:(results f98 k.tmps).run prog w=.ok (.tuple #[]) w:=by simp[results,hr]
  have h2:(results f98 k.tmps).events prog w #[]=#[]:=events_results_none hr _ _;simp[G,stepG,unwind,doReturn,hm,hd,hk,hf,func98,h1,h2,seen,GStep.after,eO,goexitEntry]
 ·have hn:prog.funcs[prog.funcs.size]? =none:=by simp
  simp[G,stepG,unwind,eO,goexitEntry,Frame.catches,hn];rfl
theorem Jk[Payload](hT:Fit prog l)(hok:aR.ok 100)(hg:prog.globals.size<=w.heap.size)(hC:Closed C w)(hcC:C c)(hBC:¬C B)(hWC:¬C Wg)(hBW:B≠Wg)(Vg:WgLive link.tWg Wg w)(dX:w.cell? ⟨B,0,none⟩=some (pt c))
  (hR:∀e u τ,R e u->R e (World.tp u τ)) (qd:∀e u,R e u->∃v,e=.returned v) (hcall:∀τ,Calls prog 100 #[pt c] ((mask C w).tp τ) R):
  WS prog link.tWg Wg (Qr C R) .work (fun b=>C b\/b=B) (born prog (rQ Wg B)) w:=by
 refine MG (Stop:=JA C R Wg B) ?_ fun O g w h=>Jj h
 have Us:B<w.heap.size:=by
  unfold World.cell? at dX;split at dX
  ·rename_i h;exact(Array.getElem?_eq_some_iff.1 h).1
  ·cases dX
 refine .ctl rfl (fun w₁ _=>Dr Wg B w₁) ?_;simp only[Dx,f98,Option.getD_some];refine .seq (.region ?_);simp only[List.size_toArray,List.length_cons,List.length_nil,Nat.reduceAdd,Nat.zero_add,List.range,List.range.loop];refine .ctl rfl (fun w₁ _=>stepG_defer rfl rfl (by simp[baseD]) rfl) (.regionEnd (.region ?_));simp only[List.size_toArray,List.length_cons,List.length_nil,Nat.reduceAdd,Nat.zero_add,List.range,List.range.loop];refine .op (pt c) rfl rfl (by simp[baseD]) (fun w₁ r=>?_) (fun w₁ r e he=>?_) ?_
 ·have hc:w₁.cell? ⟨B,0,none⟩=some (pt c):=(r.cell (ad:=⟨B,0,none⟩) (.inr rfl)).trans dX;unfold execOp;simp[go_sem,hc,Act.put,Act.eval]
 ·have hc:w₁.cell? ⟨B,0,none⟩=some (pt c):=(r.cell (ad:=⟨B,0,none⟩) (.inr rfl)).trans dX;unfold execOp at he;simp[go_sem,hc,Act.put,Act.eval]at he;subst he;exact fU (.inr rfl) (Nat.lt_of_lt_of_le Us r.size) false
 refine .call rfl rfl (by simp[baseD]) rfl func100 (by kernel_rfl) rfl ?_
 walk_nrm
 generalize hkf:(baseD 98).at _ _=kf;have hkm:kf.mode=.run:=by rw[<-hkf];rfl
 have hbase:Still [kf,eO prog]:=fun b hb=>by
  simp only[List.mem_cons,List.not_mem_nil,or_false]at hb;rcases hb with rfl|rfl
  ·exact .inl hkm
  ·exact .inr rfl
 have hfr:dZ prog l (cP C) (Frame.enter prog 100 #[pt c] .normal) (Frame.enter prog 100 #[pt c] .normal):=
  ni hT hok ⟨rfl,fun i v v' h1 h2=>by
   rw[h1]at h2;cases h2
   match i,h1 with
   |0,h1=>simp at h1;subst h1;exact .ptr ⟨⟨rfl,hcC⟩,rfl,rfl⟩
   |n+1,h1=>simp at h1⟩ (.inl rfl)
 have hL:gU prog l (Frame.enter prog 100 #[pt c] .normal) [] (mask C w):=by have:gU prog l (Frame.enter prog 100 #[pt c] .normal) [] ((mask C w).tp (laid (mask C w) w)):=⟨fun _=>False,cP C,[],_,w,Jd,⟨_,[],rfl,hfr,.nil⟩,(Db hC hg).lay,wC hC⟩;exact this.tp (mask C w).tape
 have mG:=wD hT hL hR (fun u hu=>by obtain⟨v,e⟩:=qd _ _ hu;cases e) hcall
 have hcj:CJ prog false link.tWg Wg (fun O g w=>Qr C R O w/\∃fr:Frame,fr.mode=.returning/\fr.defers=[]/\fr.kind=.normal/\fr.fn=100/\g=G fr [kf,eO prog]) C (G (Frame.enter prog 100 #[pt c] .normal) [kf,eO prog]) w:=by
  refine Dv hT (S:=fun _=>False) (ρ0:=cP C) hbase mG ?_ (cP C) C _ w (Ren.le_refl _) ⟨_,[],rfl,hfr,.nil⟩ (Db hC hg) (wC hC) (fun b h=>h.elim) (fun a b hab _=>hab.2);rintro fr cs u ρ O g w' ⟨rfl,hfn,e,_,Pv,hlv⟩ hle hGR hW sX _ hO;obtain⟨v,rfl⟩:=qd e u Pv;obtain⟨fr',cs',rfl,hf,hcs⟩:=hGR.of;cases hcs;obtain⟨l1,l2,l3,fn,l4,_⟩:=hlv;refine .stop fun w₁ r=>⟨Qr.rel ⟨u,ρ,v,Pv,hle,hW,sX,fun a b hab=>hO a b hab id⟩ r,fr',?_,?_,hf.kind.trans l3,hf.fn.trans hfn,rfl⟩
  ·have:=hf.mode;rw[l1]at this;generalize fr'.mode=md at this;cases this;rfl
  ·have:=hf.defers;rw[l2]at this;generalize fr'.defers=ds at this;cases this;rfl
 have aaw:c<w.heap.size:=by obtain⟨o,ho,_⟩:=hC c hcC;exact(Array.getElem?_eq_some_iff.1 ho).1
 have hO:(fun b=>C b\/b=B)=fun b=>C b\/(fun x=>x=B) b:=rfl;rw[hO];refine(hcj.frame (X:=fun x=>x=B) (w0:=w) (fun b hb=>by subst hb;exact⟨Us,hBC,rfl⟩) hWC Vg).bind ?_;intro O g w' h;obtain⟨O1,⟨hq,fr,f1,f2,f3,f4,rfl⟩,rfl,hx,Xe,Tl⟩:=h w' (.refl ..);subst hkf;refine .leave f1 f2 f3 (by rw[f4];exact func100) rfl ?_;rw[Frame.finish_at]
 walk_nrm
 refine .regionEnd (.end_ (.ctl rfl (fun w₁ _=>stepG_unwind_enter rfl wB.f_done (by kernel_rfl) rfl) ?_));refine .stop fun w₁ r=>⟨⟨_,rfl,⟨2,zU _ rfl rfl rfl rfl⟩,rfl⟩,.inr rfl,?_,r.live Tl,⟨pt c,?_⟩,?_⟩
 ·rintro(h|h)
  ·exact Xe h
  ·exact hBW h.symm
 ·show w₁.cell? ⟨B,0,none⟩=_;rw[r.cell (ad:=⟨B,0,none⟩) (.inr rfl)];unfold World.cell? at dX⊢;rw[hx B rfl];exact dX
 ·obtain⟨u,ρ,v,q1,q2,q3,q4,q5⟩:=hq;exact Qr.rel ⟨u,ρ,v,q1,q2,q3,q4,fun a b hab=>.inl (q5 a b hab)⟩ r
end
end
end Go.Proofs.YtpobhljcainmdaaGreat
