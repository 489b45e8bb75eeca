/- Proved here: a part of what Doors keeps (Mir23, Mir24, Mir25). -/
import Derived.Conc.Beside
import Derived.Conc.CrowdComm
import Derived.Test.YtpobhljcainmdaaGreatJ22
set_option maxRecDepth 100000
set_option maxHeartbeats 8000000
set_option linter.all false
namespace Go.Proofs.YtpobhljcainmdaaGreat
section
open Go Go.Conc
variable [aR] [aB] {S:Nat->Prop}
section
variable {P:Program} {l:List FuncId} {ρ σ:Ren} {bl base:List Frame} {u w u1 w1:World} {main:Bool}
theorem lu{α β:Type}{Q:Ren->α->β->Prop}{s:Sem α}{s':Sem β}{K:Kn}(hs:SR P Q ρ K s s')(hK:Own K u)(hw:WR P ρ u w)(hW:Whole S ρ u){a:α}{u1:World}(h:s.run P u=.ok a u1):
  (dK u u1/\∀τ,fO τ u.tape u.drawn u1.drawn->s.runT P (u.tp τ) #[]=(.ok a (u1.tp τ),(s.runT P u #[]).2))/\
  ∃σ b w1 x,s'.runT P w #[]=(.ok b w1,x)/\Q σ a b/\aW P ρ σ u u1 w w1/\Whole S σ u1/\∀e∈x,dz S σ e:=by
 refine⟨qx hs hK hw hW h (fun x v e=>by cases e),?_⟩;have hr:=hs.Gk u w #[] hw hK hW;unfold bM at hr;rw[h]at hr;obtain⟨σ,b,w1,x,h1,h2,h3,h4,h5⟩:=hr;exact⟨σ,b,w1,x,h1,h2,h3,h4,fZ h5⟩
theorem bW(u:World):Own (fun _=>False) u:=fun _ h=>h.elim
theorem DJ{r:Bool}(id:Nat){x y:List Item}(h:bU (IR P l ρ r) x y):(exitTo id x=none/\exitTo id y=none)\/∃k k',exitTo id x=some k/\exitTo id y=some k'/\bU (IR P l ρ r) k k':=by
 induction h with
 |nil=>exact .inl ⟨rfl,rfl⟩
 |cons h1 t ih=>
  cases h1 with
  |inBlock i=>
   unfold exitTo;split
   ·exact .inr ⟨_,_,rfl,rfl,t⟩
   ·exact ih
  |stop s=>rcases aB.good s with⟨c,e⟩|⟨c,e⟩<;>(rw[e];exact ih)
  |_=>exact ih
theorem Dc{x x':Array Value}(h:cF ρ x x')(ops:Array Oper):yielded ops x'=yielded ops x:=by
 funext j
 unfold yielded;cases (ops[j]?).bind (·.dst)with
 |none=>rfl
 |some d=>
  simp only[Option.bind_some];cases hx:x[d]? with
  |none=>
   have:x'[d]? =none:=by rw[Array.getElem?_eq_none_iff]at hx⊢;rw[h.1];exact hx
   rw[this]
  |some v=>
   obtain⟨hlt,_⟩:=Array.getElem?_eq_some_iff.1 hx;have hlt':d<x'.size:=by rw[h.1];exact hlt
   have hx':x'[d]? =some x'[d]:=Array.getElem?_eq_getElem hlt';rw[hx'];have hv:=h.2 d v _ hx hx';generalize x'[d]=v' at hv;cases hv<;>rfl
theorem vN(sY:bl≠[])(ha:Still bl)(hw:WR P ρ u w)(hW:Whole S ρ u){fr fr':Frame}{cs cs':List Frame}(h:dZ P l ρ fr fr')(hcs:bU (dZ P l ρ) cs cs')(jump:Option Code)(hj:∀c,jump=some c->aR.code c)(q:Bool){td td':List Item}(Tn:bU (IR P l ρ fr.roundOf.isSome) td td')(why SA:String)(p p' p2 p2':String):
  SG S P l ρ bl base u w
   (match fr.roundOf with
    |none=>if q=true then .go {frame:={fr with todo:=td,mode:=.returning},callers:=cs++bl,status:=.running,dying:=none} u else .ended (.stuck why p) u
    |some n=>match(Instr.endRound n jump).runT P u #[]with
     |(r,es)=>GStep.after (seen P fr.fn es) (match r with
      |.ok v w=>doReturn P true fr (cs++bl) none v w
      |.halt _ w=>.ended (.stuck SA p2) w))
   (fun τ=>match fr.roundOf with
    |none=>if q=true then .go {frame:={fr with todo:=td,mode:=.returning},callers:=cs++bl,status:=.running,dying:=none} (u.tp τ)else .ended (.stuck why p) (u.tp τ)
    |some n=>match(Instr.endRound n jump).runT P (u.tp τ) #[]with
     |(r,es)=>GStep.after (seen P fr.fn es) (match r with
      |.ok v w=>doReturn P true fr (cs++bl) none v w
      |.halt _ w=>.ended (.stuck SA p2) w))
   (match fr'.roundOf with
    |none=>if q=true then .go {frame:={fr' with todo:=td',mode:=.returning},callers:=cs'++base,status:=.running,dying:=none} w else .ended (.stuck why p') w
    |some n=>match(Instr.endRound n jump).runT P w #[]with
     |(r,es)=>GStep.after (seen P fr'.fn es) (match r with
      |.ok v w=>doReturn P main fr' (cs'++base) none v w
      |.halt _ w=>.ended (.stuck SA p2') w)):=by
 have hro:=h.round;revert hro;cases KZ:fr.roundOf with
 |none=>
  intro hro;cases hq:fr'.roundOf with
  |some _=>rw[hq]at hro;cases hro
  |none=>
   cases q with
   |true=>
    refine aQ hw hW ⟨h.fn,h.ok,h.tmps,?_,h.defers,.returning,h.kind,h.kinds,.none⟩ hcs fun _=>rfl;rw[KZ]at Tn;exact Tn
   |false=>trivial
 |some n=>
  intro hro;cases hq:fr'.roundOf with
  |none=>rw[hq]at hro;cases hro
  |some n'=>
   rw[hq]at hro;cases hro with
   |some hn=>
    simp only;rw[cA (Instr.endRound n jump) u];cases hr:(Instr.endRound n jump).run P u with
    |halt x v=>trivial
    |ok v u1=>
     obtain⟨⟨ho,fD⟩,σ,v',w1,x,h1,h2,h3,h4,h5⟩:=lu (Cv (K:=fun _=>False) hn jump hj) (bW u) hw hW hr;rw[h1];exact bh h3 ho _ _ (fun τ hA=>by rw[fD τ hA]) (qy _ h5) (yp sY ha h3.rel h4 (h.mono h3.le) (hcs.mono fun _ _=>dZ.mono h3.le) h2)
theorem kA{fr:Frame}{cs:List Frame}(h:fr.mode=.run):stepG P main (G fr cs) w=stepG.exec P main true fr cs none w:=by unfold stepG G;simp only[h]
theorem ij{fr:Frame}{cs:List Frame}(h:fr.mode≠.run):stepG P main (G fr cs) w=unwind P main fr cs none w:=by
 unfold stepG G;cases hm:fr.mode with
 |run=>exact absurd hm h
 |returning=>simp only[hm]
 |panicking c=>simp only[hm]
theorem OA(hT:Fit P l)(sY:bl≠[])(ha:Still bl)(hb:Still base)(hw:WR P ρ u w)(hW:Whole S ρ u){fr fr':Frame}{cs cs':List Frame}(h:dZ P l ρ fr fr')(hcs:bU (dZ P l ρ) cs cs'):
  SG S P l ρ bl base u w (stepG.exec P true true fr (cs++bl) none u) (fun τ=>stepG.exec P true true fr (cs++bl) none (u.tp τ)) (stepG.exec P main true fr' (cs'++base) none w):=by
 have hl:∀f,l.contains f=true->aR.ok f:=fun f hf=>(hT.ok f).2 hf;have hev:=h.eval hl;have Tn:=h.todo;have hfn:=h.fn;have still:∀{k k':List Item},bU (IR P l ρ fr.roundOf.isSome) k k'->dZ P l ρ {fr with todo:=k} {fr' with todo:=k'}:=fun hk=>⟨h.fn,h.ok,h.tmps,hk,h.defers,h.mode,h.kind,h.kinds,h.round⟩;unfold stepG.exec;revert Tn;generalize hx:fr.todo=x;generalize hy:fr'.todo=y;intro Tn;cases Tn with
 |nil=>exact vN sY ha hw hW h hcs none (by simp) _ .nil _ _ _ _ _ _
 |@cons i i' k k' hi hk=>
  cases hi with
  |stop s=>trivial
  |inBlock id=>exact aQ hw hW (still hk) hcs fun _=>rfl
  |inLoop hc=>exact aQ hw hW (still (.cons (.code hc) (.cons (.inLoop hc) hk))) hcs fun _=>rfl
  |inRangeFunc hn=>trivial
  |@endRangeFunc n n' hn=>
   simp only;rw[cA (Instr.endLoop n) u];have hr:=(oP (P:=P) (K:=fun _=>False) hn).Gk u w #[] hw (bW u) hW;unfold bM at hr;cases hrun:(Instr.endLoop n).run P u with
   |ok j u1=>
    rw[hrun]at hr;obtain⟨σ,j',w1,x,h1,⟨h2,h2c⟩,h3,h4,h5⟩:=hr;obtain⟨ho,fD⟩:=qx (oP (P:=P) (K:=fun _=>False) hn) (bW u) hw hW hrun (fun x v e=>by cases e);subst h2;rw[h1];refine bh h3 ho _ _ (fun τ hA=>by rw[fD τ hA];rfl) (qy _ (fZ h5)) (aQ h3.rel h4 ?_ (hcs.mono fun _ _=>dZ.mono h3.le) fun _=>rfl);have hm:=h.mono h3.le;refine⟨hm.fn,hm.ok,hm.tmps,?_,hm.defers,hm.mode,hm.kind,hm.kinds,hm.round⟩;refine bU.append ?_ (hk.mono fun _ _=>IR.mono h3.le);cases j' with
    |none=>exact .nil
    |some c=>exact .cons (.code (iG ((hT.code c).1 (h2c c rfl)))) .nil
   |halt z u1=>
    rw[hrun]at hr;cases z with
    |panic v=>
     obtain⟨σ,v',w1,y,h1,h2,h3,h4,h5⟩:=hr;obtain⟨ho,fD⟩:=qx (oP (P:=P) (K:=fun _=>False) hn) (bW u) hw hW hrun (fun x v e=>by cases e;exact id);rw[h1];exact bh h3 ho _ _ (fun τ hA=>by rw[fD τ hA];rfl) (qy _ (fZ h5)) (aQ h3.rel h4 ((h.mono h3.le).raise (.cons ⟨h2,rfl,rfl,rfl⟩ .nil)) (hcs.mono fun _ _=>dZ.mono h3.le) fun _=>rfl)
    |_=>trivial
  |beginRound=>
   simp only;refine vM hT ha hb (K:=fun _=>False) ?_ (bW u) hw hW h hcs;have hro:=h.round;revert hro;cases fr.roundOf with
   |none=>
    intro hro;cases hq:fr'.roundOf with
    |some _=>rw[hq]at hro;cases hro
    |none=>exact SR.then (Q:=cq) (bJ _ _) fun _ _ _ _ _ _ _=>.pure .skip
   |some n=>
    intro hro;cases hq:fr'.roundOf with
    |none=>rw[hq]at hro;cases hro
    |some n'=>
     rw[hq]at hro;cases hro with
     |some hn=>exact SR.then (xd hn) fun _ _ _ _ _ _ _=>.pure .skip
  |@inRegion ops todo hop=>
   cases todo with
   |nil=>exact aQ hw hW (still hk) hcs fun _=>rfl
   |cons j rest=>
    simp only;rw[Dc h.tmps];generalize ((ops[j]?).map (Region.wanted · (yielded ops fr.tmps))).getD false=cnd;cases cnd with
    |true=>
     simp only[if_true];unfold stepG.oper Frame.oper?;rw[hx,hy];simp only;cases ho:ops[j]? with
     |none=>trivial
     |some o=>
      have BN:Oh P l fr.roundOf.isSome o.op=true:=Array.all_eq_true_iff_forall_mem.1 hop o (Array.mem_of_getElem? ho);simp only[Oh,Bool.and_eq_true]at BN
      have main:SG S P l ρ bl base u w (stepG.apply P true fr (cs++bl) none (execOp fr.eval o) u) (fun τ=>stepG.apply P true fr (cs++bl) none (execOp fr.eval o) (u.tp τ)) (stepG.apply P true fr' (cs'++base) none (execOp fr'.eval o) w):=
       vM hT ha hb (K:=fun _=>False) (nF hT.zeros hT.fns hl hev (fun ζ hz v=>by(subst hz;rfl)) (fun ζ hz v=>by(subst hz;rfl)) BN.1) (bW u) hw hW h hcs
      have hro:=h.round;revert hro;cases Zs:fr.roundOf with
      |none=>
       intro hro;cases hq:fr'.roundOf with
       |some _=>rw[hq]at hro;cases hro
       |none=>exact main
      |some n=>
       intro hro;cases hq:fr'.roundOf with
       |none=>rw[hq]at hro;cases hro
       |some n'=>
        have hkeep:PV o.op=true:=by have:=BN.2;rw[Zs]at this;simpa using this
        simp only;split
        ·rename_i Zb UT;rw[UT]at hkeep;cases hkeep
        ·split
         ·rename_i Zb UT;rw[UT]at hkeep;cases hkeep
         ·exact main
    |false=>exact aQ hw hW (h.finish (cK ρ)) hcs fun _=>rfl
  |@code c hc=>
   cases c with
   |skip=>exact aQ hw hW (still hk) hcs fun _=>rfl
   |region id ops draw=>
    simp only;cases draw with
    |false=>exact aQ hw hW (still (.cons (.inRegion _ hc) hk)) hcs fun _=>rfl
    |true=>
     simp only[Bool.not_true,Bool.false_eq_true,if_false];rw[hfn];cases hr:(choose (.order fr.fn id)).run P u with
     |halt z v=>trivial
     |ok t u1=>
      obtain⟨⟨ho,fD⟩,σ,t',w1,x,h1,h2,h3,h4,h5⟩:=lu (ir (P:=P) (K:=fun _=>False) (.order fr.fn id)) (bW u) hw hW hr;have h1':(choose (.order fr.fn id)).run P w=.ok t' w1:=by rw[<-Sem.runT_fst P _ w #[],h1]
      obtain rfl:t'=t:=h2;rw[h1'];have hm:=h.mono h3.le;refine Qc _ _ (by simp) ⟨rfl,hm.ok,hm.tmps,.cons (.inRegion _ hc) (hk.mono fun _ _=>IR.mono h3.le),hm.defers,hm.mode,hm.kind,hm.kinds,hm.round⟩ (hcs.mono fun _ _=>dZ.mono h3.le) h3 h4 ho fun τ hA=>?_;have hL:(choose (.order fr.fn id)).run P (u.tp τ)=.ok t' (u1.tp τ):=by rw[<-Sem.runT_fst P _ (u.tp τ) #[],fD τ hA]
      rw[hL];rfl
   |seq a b=>
    simp only[dM,Bool.and_eq_true]at hc;exact aQ hw hW (still (.cons (.code hc.1) (.cons (.code hc.2) hk))) hcs fun _=>rfl
   |cond c a b=>
    simp only[dM,Bool.and_eq_true]at hc;have hv:=hev c hc.1.1;simp only;generalize fr.eval c=v at hv;generalize fr'.eval c=v' at hv;cases hv with
    |bool t=>
     refine aQ hw hW (still (.cons (.code ?_) hk)) hcs fun _=>rfl;cases t
     ·exact hc.2
     ·exact hc.1.2
    |_=>trivial
   |block id b=>exact aQ hw hW (still (.cons (.code hc) (.cons (.inBlock id) hk))) hcs fun _=>rfl
   |loop b=>exact aQ hw hW (still (.cons (.code hc) (.cons (.inLoop hc) hk))) hcs fun _=>rfl
   |rangeFunc f ps a b=>
    simp only[dM,Bool.and_eq_true]at hc;simp only;rw[cA (Instr.enterLoop fr.fn fr.tmps ps a b fr.roundOf) u,hfn];cases hr:(Instr.enterLoop fr.fn fr.tmps ps a b fr.roundOf).run P u with
    |halt z v=>trivial
    |ok y u1=>
     obtain⟨⟨ho,fD⟩,σ,y',w1,x,h1,h2,h3,h4,h5⟩:=lu (Al (P:=P) (K:=fun _=>False) h.ok h.tmps ps ((hT.code a).2 hc.1.2) ((hT.code b).2 hc.2) h.round) (bW u) hw hW hr;rw[h1];obtain⟨n,ds⟩:=y;obtain⟨n',ds'⟩:=y';have hm:=h.mono h3.le
     have hfr:dZ P l σ {fr with todo:=.inRangeFunc n::k,defers:=ds++fr.defers} {fr' with fn:=fr.fn,todo:=.inRangeFunc n'::k',defers:=ds'++fr'.defers}:=
      ⟨rfl,hm.ok,hm.tmps,.cons (.inRangeFunc h2.1) (hk.mono fun _ _=>IR.mono h3.le),h2.2.append hm.defers,hm.mode,hm.kind,hm.kinds,hm.round⟩
     refine bh h3 ho _ _ (fun τ hA=>by rw[fD τ hA]) (qy _ h5) (vM hT ha hb (K:=fun _=>False) ?_ (bW u1) h3.rel h4 hfr (hcs.mono fun _ _=>dZ.mono h3.le));have hv:VR σ (fr.eval f) (fr'.eval f):=(hev f hc.1.1).mono h3.le
     exact qA hT.fns hv ⟨by simp,fun i v v' hv hv'=>by
      cases i with
      |zero=>
       simp[Frame.eval]at hv hv';subst hv hv';exact .func (.yield h2.1) rfl (fun i v v' hv=>by simp at hv) rfl (fun i v v' hv=>by simp at hv)
      |succ i=>simp at hv⟩
   |exit id=>
    simp only;rcases DJ id hk with⟨e1,e2⟩|⟨m,m',e1,e2,hm⟩
    ·rw[e1,e2];exact vN sY ha hw hW h hcs (some (.exit id)) (fun c e=>by cases e;exact(hT.code _).2 rfl) _ (.cons (.code hc) hk) _ _ _ _ _ _
    ·rw[e1,e2];exact aQ hw hW (still hm) hcs fun _=>rfl
   |scope b=>simp[dM]at hc
   |label n=>simp[dM]at hc
   |goto n=>simp[dM]at hc
   |ret=>exact vN sY ha hw hW h hcs (some .ret) (fun c e=>by cases e;exact(hT.code _).2 rfl) _ (.cons (.code hc) hk) _ _ _ _ _ _
   |refuse why=>trivial
end
end
section
open Go Go.Conc
variable [aR] [aB] {S:Nat->Prop}
section
variable {P:Program} {l:List FuncId} {ρ σ:Ren} {bl base:List Frame} {u w u1 w1:World} {main:Bool}
theorem pN{x:Array Event}(f:FuncId)(h:∀e∈x,dz S σ e):∀e∈seen P f x,dz S σ e:=fun e he=>h e (mem_seen he)
theorem Lu:∀{t t':Target} {m m':FrameMode},TR ρ t t'->Jo ρ m m'->((t' matches .nil)&&(m' matches .panicking _))=((t matches .nil)&&(m matches .panicking _)):=by intro t t' m m' ht hm;cases ht<;>cases hm<;>rfl
theorem Wb{b b':Bool}(hb:b'=b){x x' s s':GStep}{xL sL:(Nat->Question->Nat)->GStep}(hx:SG S P l ρ bl base u w x xL x')(hs:SG S P l ρ bl base u w s sL s'):SG S P l ρ bl base u w (if b=true then x else s) (fun τ=>if b=true then xL τ else sL τ) (if b'=true then x' else s'):=by
 subst hb;cases b'
 ·exact hs
 ·exact hx
theorem sK(hT:Fit P l)(ha:Still bl)(hb:Still base)(hw:WR P ρ u w)(hW:Whole S ρ u){fr fr':Frame}{cs cs':List Frame}(h:dZ P l ρ fr fr')(hcs:bU (dZ P l ρ) cs cs'){d d':Deferred}(hd:DR ρ d d'):
  SG S P l ρ bl base u w (callDeferred P fr (cs++bl) none d u) (fun τ=>callDeferred P fr (cs++bl) none d (u.tp τ)) (callDeferred P fr' (cs'++base) none d' w):=by
 have hs:=yy (P:=P) (K:=fun _=>False) hT.fns hd.1 hd.2;have hr:=hs.Gk u w #[] hw (bW u) hW;have hlo:=fun{r:Result Next}=>qx hs (bW u) hw hW (r:=r);unfold callDeferred;refine Wb (xL:=fun τ=>.ended (.unsupported (.noEntry "machine/Return: a deferred call of a nil function value, made while the frame is unwinding") (fr.pos P)) (u.tp τ)) (Lu hd.1 h.mode) trivial ?_;unfold bM at hr;cases hrun:(invoke d.target d.args).run P u with
 |ok n u1=>
  obtain⟨ho,fD⟩:=hlo hrun (fun x v e=>by cases e);rw[cA (invoke d.target d.args) u,hrun];generalize ((invoke d.target d.args).runT P u #[]).2=e0 at fD;have hq:∀τ,fO τ u.tape u.drawn u1.drawn->(invoke d.target d.args).runT P (u.tp τ) #[]=(.ok n (u1.tp τ),e0):=fD;rw[hrun]at hr;obtain⟨σ,n',w1,x,h',hn,hm,sX,Rj⟩:=hr;rw[h'];have hown:=pN (P:=P) fr'.fn (fZ Rj);have hfr:=h.mono hm.le;have jC:=hcs.mono fun _ _=>dZ.mono hm.le;cases hn with
  |enter f hf hx=>exact bh hm ho _ _ (fun τ hA=>by rw[hq τ hA]<;>rfl) hown (aQ (bV:=_::_) (gD:=_::_) hm.rel sX (ni hT hf hx (.inr rfl)) (.cons hfr jC) fun _=>rfl)
  |round f a b h0 hl hx=>exact bh hm ho _ _ (fun τ hA=>by rw[hq τ hA]<;>rfl) hown (aQ (bV:=_::_) (gD:=_::_) hm.rel sX (yl hT hl h0 hx (.inr rfl)) (.cons hfr jC) fun _=>rfl)
  |value hv=>exact bh hm ho _ _ (fun τ hA=>by rw[hq τ hA]<;>rfl) hown (aQ hm.rel sX hfr jC fun _=>rfl)
  |skip=>exact bh hm ho _ _ (fun τ hA=>by rw[hq τ hA]<;>rfl) hown (aQ hm.rel sX hfr jC fun _=>rfl)
  |defer _=>exact bh hm ho _ _ (fun τ hA=>by rw[hq τ hA]<;>rfl) hown (aQ hm.rel sX hfr jC fun _=>rfl)
  |comm _=>exact bh hm ho _ _ (fun τ hA=>by rw[hq τ hA]<;>rfl) hown (aQ hm.rel sX hfr jC fun _=>rfl)
  |recover=>
   have hmo:=hfr.mode;have key:=jo hfr jC ha hb;refine bh hm ho _ _ (fun τ hA=>by rw[hq τ hA]<;>rfl) hown ?_;simp only;revert hmo;generalize fr.mode=mo;generalize fr'.mode=mo';intro hmo;cases hmo with
   |returning=>
    rcases key with⟨e1,e2⟩|⟨v,v',c,c',e1,e2,_,hc⟩
    ·rw[e1,e2];exact aQ hm.rel sX hfr jC fun _=>rfl
    ·rw[e1,e2];exact aQ hm.rel sX hfr hc fun _=>rfl
   |run=>exact aQ hm.rel sX hfr jC fun _=>rfl
   |panicking _=>exact aQ hm.rel sX hfr jC fun _=>rfl
 |halt x u1=>
  rw[hrun]at hr;cases x with
  |panic v=>
   obtain⟨ho,fD⟩:=hlo hrun (fun x v e=>by cases e;exact id);rw[cA (invoke d.target d.args) u,hrun];generalize ((invoke d.target d.args).runT P u #[]).2=e0 at fD;have hq:∀τ,fO τ u.tape u.drawn u1.drawn->(invoke d.target d.args).runT P (u.tp τ) #[]=(.halt (.panic v) (u1.tp τ),e0):=fD;obtain⟨σ,v',w1,y,h',hv,hm,sX,Rj⟩:=hr;rw[h'];exact bh hm ho _ _ (fun τ hA=>by rw[hq τ hA]<;>rfl) (pN (P:=P) fr'.fn (fZ Rj)) (aQ hm.rel sX ((h.mono hm.le).raise (.cons ⟨hv,rfl,rfl,rfl⟩ .nil)) (hcs.mono fun _ _=>dZ.mono hm.le) fun _=>rfl)
  |stuck _=>rw[cA (invoke d.target d.args) u,hrun];trivial
  |unsupported q=>rw[cA (invoke d.target d.args) u,hrun];trivial
  |_=>exact hr.elim
theorem II(hT:Fit P l)(sY:bl≠[])(ha:Still bl)(hb:Still base)(hw:WR P ρ u w)(hW:Whole S ρ u){fr fr':Frame}{cs cs':List Frame}(h:dZ P l ρ fr fr')(hcs:bU (dZ P l ρ) cs cs'):
  SG S P l ρ bl base u w (unwind P true fr (cs++bl) none u) (fun τ=>unwind P true fr (cs++bl) none (u.tp τ)) (unwind P main fr' (cs'++base) none w):=by
 have hdf:=h.defers;have shrink:∀{x x':List Deferred},bU (DR ρ) x x'->dZ P l ρ {fr with defers:=x} {fr' with defers:=x'}:=fun hx=>⟨h.fn,h.ok,h.tmps,h.todo,hx,h.mode,h.kind,h.kinds,h.round⟩;unfold unwind;revert hdf;generalize hx:fr.defers=x;generalize hy:fr'.defers=y;intro hdf;cases hdf with
 |@cons d d' ds ds' hd hds=>
  obtain⟨t,args⟩:=d;obtain⟨t',args'⟩:=d';obtain⟨ht,Df⟩:=hd;simp only at ht Df;cases ht with
  |@fn f f' c c' hf hc=>exact sK hT ha hb hw hW (shrink hds) hcs ⟨.fn hf hc,Df⟩
  |nil=>exact sK hT ha hb hw hW (shrink hds) hcs ⟨.nil,Df⟩
  |@collected r r' hr=>
   simp only;rw[cA (Instr.takeDeferred r) u];cases hrun:(Instr.takeDeferred r).run P u with
   |halt z v=>trivial
   |ok cl u1=>
    obtain⟨⟨ho,fD⟩,σ,cl',w1,z,h1,h2,h3,h4,h5⟩:=lu (tv (P:=P) (K:=fun _=>False) hr) (bW u) hw hW hrun;rw[h1];obtain⟨rfl,rfl⟩:=h2;have hm:=h.mono h3.le;exact bh h3 ho _ _ (fun τ hA=>by rw[fD τ hA]<;>rfl) (pN _ h5) (aQ h3.rel h4 ⟨hm.fn,hm.ok,hm.tmps,hm.todo,hds.mono fun _ _=>DR.mono h3.le,hm.mode,hm.kind,hm.kinds,hm.round⟩ (hcs.mono fun _ _=>dZ.mono h3.le) fun _=>rfl)
 |nil=>
  simp only;obtain⟨fn,c,h1,h2⟩:=hT.known _ h.ok;have h1':P.funcs[fr'.fn]? =some fn:=by rw[h.fn];exact h1
  have c1:fr.catches P=false:=by unfold Frame.catches;rw[h1]
  have c2:fr'.catches P=false:=by unfold Frame.catches;rw[h1']
  have hmo:=h.mode;revert hmo;generalize hq:fr.mode=mo;generalize fr'.mode=mo';intro hmo;cases hmo with
  |run=>trivial
  |panicking hc=>
   simp only[c1,c2,Bool.false_eq_true,if_false];cases hcs with
   |nil=>
    cases bl with
    |nil=>exact absurd rfl sY
    |cons b rest=>exact .inl ⟨b,rest,rfl,.inr (.inr ⟨_,rfl⟩)⟩
   |cons hab hxy=>exact aQ hw hW (hab.raise hc) hxy fun _=>rfl
  |returning=>
   simp only[h1,h1'];rw[cA (results fn fr.tmps) u];cases hrun:(results fn fr.tmps).run P u with
   |halt z v=>
    cases z<;>trivial
   |ok v u1=>
    obtain⟨⟨ho,fD⟩,σ,v',w1,z,k1,k2,k3,k4,k5⟩:=lu (lC (P:=P) (K:=fun _=>False) fn h.tmps) (bW u) hw hW hrun;rw[k1];exact bh k3 ho _ _ (fun τ hA=>by rw[fD τ hA]<;>rfl) (pN _ k5) (yp sY ha k3.rel k4 (h.mono k3.le) (hcs.mono fun _ _=>dZ.mono k3.le) k2)
theorem OB(hT:Fit P l)(sY:bl≠[])(ha:Still bl)(hb:Still base)(hw:WR P ρ u w)(hW:Whole S ρ u){fr fr':Frame}{cs cs':List Frame}(h:dZ P l ρ fr fr')(hcs:bU (dZ P l ρ) cs cs'):
  SG S P l ρ bl base u w (stepG P true (G fr (cs++bl)) u) (fun τ=>stepG P true (G fr (cs++bl)) (u.tp τ)) (stepG P main (G fr' (cs'++base)) w):=by
 by_cases hr:fr.mode=.run
 ·have hr':fr'.mode=.run:=by
   have:=h.mode;rw[hr]at this;generalize fr'.mode=m at this;cases this;rfl
  rw[kA hr,kA hr',show(fun τ=>stepG P true (G fr (cs++bl)) (u.tp τ))=fun τ=>stepG.exec P true true fr (cs++bl) none (u.tp τ) from funext fun τ=>kA hr];exact OA hT sY ha hb hw hW h hcs
 ·have hr':fr'.mode≠.run:=by
   intro e;have:=h.mode;rw[e]at this;generalize hm:fr.mode=m at this;cases this;exact hr hm
  rw[ij hr,ij hr',show(fun τ=>stepG P true (G fr (cs++bl)) (u.tp τ))=fun τ=>unwind P true fr (cs++bl) none (u.tp τ) from funext fun τ=>ij hr];exact II hT sY ha hb hw hW h hcs
end
end
section
open Go Go.Conc
inductive iU(P:Program)(main:Bool)(g:Goroutine)(w:World):Goroutine->World->Array MemAct->Prop
 |go {g1:Goroutine} {w1:World} {es:Array Event} (h:stepG P main g w=.go g1 w1 es):iU P main g w g1 w1 (es.map .ofEvent)
 |shut {fr:Frame} {cs:List Frame} {r:Nat} {z:Value} {w1:World} {es:Array Event} {cap s rc:Nat} {tm:Bool} (h:stepG P main g w=.comm (G fr cs) #[rcase r z] false .select w1 es) (hc:w1.heap[r]? =some (.chan cap #[] true s rc tm)):
   iU P main g w (G (fr.finish (.tuple #[goInt 0,.bool false,z])) cs) w1 ((es.map .ofEvent).push (.recvClosed r))
 |uz {fr:Frame} {cs:List Frame} {r:Nat} {z:Value} {w1:World} {es:Array Event} {cap s rc:Nat} {tm:Bool} (h:stepG P main g w=.comm (G fr cs) #[rcase r z] false .select w1 es) (hc:w1.heap[r]? =some (.chan cap #[] false s rc tm)):
   iU P main g w (G (fr.finish (.tuple #[goInt (-1),.bool false,z])) cs) w1 (es.map .ofEvent)
 |fC {fr:Frame} {cs:List Frame} {z:Value} {w1:World} {es:Array Event} (h:stepG P main g w=.comm (G fr cs) #[rcaseNil z] false .select w1 es):
   iU P main g w (G (fr.finish (.tuple #[goInt (-1),.bool false,z])) cs) w1 (es.map .ofEvent)
section
variable {P:Program} {l:List FuncId} {S:Nat->Prop}
theorem fj{g g1:Goroutine}{w w1:World}{aD:Array MemAct}(hg:g.status=.running)(h:iU P true g w g1 w1 aD):step P (solo g w)=.next (solo g1 w1):=by
 cases h with
 |go h=>exact step_solo_go hg h
 |@shut fr cs r z w1 es cap s rc tm h hc=>
  have hp:=partners_alone (c:=r) true;rw[step,stepT_solo hg];simp[runT,solo,G,Array.swapAt!,Array.swapAt,h,GStep.es,communicate,ways,rcase,hc,hp,choose,Sem.run,Question.forced,bind,Sem.bind,pure,Goroutine.finishComm,commResult]at h⊢
 |@uz fr cs r z w1 es cap s rc tm h hc=>
  have hp:=partners_alone (c:=r) true;rw[step,stepT_solo hg];simp[runT,solo,G,Array.swapAt!,Array.swapAt,h,GStep.es,communicate,ways,rcase,hc,hp,Goroutine.finishComm,commResult]at h⊢
 |@fC fr cs z w1 es h=>
  rw[step,stepT_solo hg];simp[runT,solo,G,Array.swapAt!,Array.swapAt,h,GStep.es,communicate,ways,rcaseNil,Goroutine.finishComm,commResult]at h⊢
theorem wm{gs:Array Goroutine}{i:Nat}{g g1:Goroutine}{w w1:World}{sl:Option (Nat×Nat)}{aD:Array MemAct}(hi:gs[i]? =some g)(hno:∀(j:Nat) h,gs[j]? =some h->h.status=.blocked->h.offers=none)(h:iU P (i==0) g w g1 w1 aD):
  ∃f ops,runT P (crowd gs w sl) i=(.next (crowd ((gs.map f).setIfInBounds i g1) w1 sl),ops)/\(f=woken P g g1 w1\/f=id)/\ops.map (·.act)=aD/\∀op∈ops,op.g=i:=by
 have hp:∀r,partners (gs.setIfInBounds i ph) r true=[]:=fun r=>partners_nil fun j x hx=>by
  have hx0:x.status=.blocked->x.offers=none:=by
   by_cases hk:i=j
   ·subst hk;rw[Array.getElem?_setIfInBounds]at hx;simp only[if_true]at hx;split at hx
    ·cases hx;exact fun _=>rfl
    ·cases hx
   ·rw[Array.getElem?_setIfInBounds_ne hk]at hx;exact hno j x hx
  unfold offersAt;cases hst:x.status with
  |blocked=>rw[hx0 hst]
  |_=>rfl
 have hm:∀(es:Array Event) (fn:FuncId) (pos:String),(MemOp.ofEvents i fn pos es).map (·.act)=es.map .ofEvent/\∀op∈MemOp.ofEvents i fn pos es,op.g=i:=fun es fn pos=>by exact⟨by rw[ofEvents_eq];simp[Array.map_map,Function.comp_def],MemOp.ofEvents_g i fn pos es⟩
 cases h with
 |go h=>exact⟨_,_,runT_crowd_go hi h,.inl rfl,(hm _ _ _).1,(hm _ _ _).2⟩
 |@shut fr cs r z w1 es cap s rc tm h hc=>
  refine⟨id,MemOp.ofEvents i g.frame.fn g.frame.place es++#[{g:=i,fn:=fr.fn,pos:=fr.place,act:=.recvClosed r}],?_,.inr rfl,?_,fun op hop=>?_⟩
  ·rw[runT_crowd_comm hi h,Array.map_id];simp[communicate,ways,rcase,hc,hp,choose,Sem.run,Question.forced,bind,Sem.bind,pure,Goroutine.finishComm,commResult,G,crowd]
  ·rw[Array.map_append,(hm _ _ _).1];simp
  ·rcases Array.mem_append.1 hop with hop|hop
   ·exact(hm _ _ _).2 op hop
   ·simp at hop;subst hop;rfl
 |@uz fr cs r z w1 es cap s rc tm h hc=>
  refine⟨id,MemOp.ofEvents i g.frame.fn g.frame.place es,?_,.inr rfl,(hm _ _ _).1,(hm _ _ _).2⟩;rw[runT_crowd_comm hi h,Array.map_id];simp[communicate,ways,rcase,hc,hp,Goroutine.finishComm,commResult,G,crowd]
 |@fC fr cs z w1 es h=>
  refine⟨id,MemOp.ofEvents i g.frame.fn g.frame.place es,?_,.inr rfl,(hm _ _ _).1,(hm _ _ _).2⟩;rw[runT_crowd_comm hi h,Array.map_id];simp[communicate,ways,rcaseNil,Goroutine.finishComm,commResult,G,crowd]
theorem Mt{g g1:Goroutine}{w w1:World}{c:CommCase}{es:Array Event}(hg:g.status=.running)(h:stepG P true g w=.comm g1 #[c] false .select w1 es)(hc:illMade w1 c=true):∃o w2,step P (solo g w)=.ended o w2:=by
 refine⟨.stuck "a communication at a channel whose block is no channel's" (g1.frame.pos P),w1,?_⟩;rw[step,stepT_solo hg,solo_eq_crowd,runT_crowd_comm (i:=0) rfl h];show(communicate P _ _ 0 g1 #[c] false .select w1).1=_;unfold communicate;have ha:(#[c].any (illMade w1))=true:=by simp[hc]
 show(if(#[c].any (illMade w1))=true then _ else _:Stepped×Array MemOp).1=_;rw[if_pos ha]
theorem Ai[aR]{σ:Ren}{z z':Value}(hz:VR σ z z')(n:Int):∀(i:Nat) v v',(#[goInt n,.bool false,z]:Array Value)[i]? =some v->(#[goInt n,.bool false,z']:Array Value)[i]? =some v'->VR σ v v':=by
 intro i v v' h1 h2
 match i with
 |0=>simp at h1 h2;subst h1 h2;exact .int _ _
 |1=>simp at h1 h2;subst h1 h2;exact .bool _
 |2=>simp at h1 h2;subst h1 h2;exact hz
 |n+3=>simp at h1
def kG(S:Nat->Prop)(σ:Ren)(a:MemAct):Prop:=(∃e,a=.ofEvent e/\dz S σ e)\/∃r x,a=.recvClosed r/\σ x r/\¬S r
theorem lX{σ:Ren}{es:Array Event}(h:∀e∈es,dz S σ e):∀a∈es.map MemAct.ofEvent,kG S σ a:=fun a ha=>by obtain⟨e,he,rfl⟩:=Array.mem_map.1 ha;exact .inl ⟨e,rfl,h e he⟩
variable [aR] [aB]
structure GR(P:Program)(l:List FuncId)(ρ:Ren)(base:List Frame)(fr:Frame)(cs:List Frame)(g':Goroutine):Prop where
 of:∃fr' cs',g'=G fr' (cs'++base)/\dZ P l ρ fr fr'/\bU (dZ P l ρ) cs cs'
theorem Eu(hT:Fit P l){bl base:List Frame}(sY:bl≠[])(ha:Still bl)(hb:Still base){ρ:Ren}{u w:World}(hw:WR P ρ u w)(hW:Whole S ρ u){fr:Frame}{cs:List Frame}{g':Goroutine}(h:GR P l ρ base fr cs g')
  {m:Machine} (hs:step P (lone fr (cs++bl) u)=.next m) (main:Bool):
  (∃g1 u1,m=solo g1 u1/\Dm bl g1)\/∃bT bV u1 σ SQ w1 aD,m=lone bT (bV++bl) u1/\iU P main g' w SQ w1 aD/\GR P l σ base bT bV SQ/\aW P ρ σ u u1 w w1/\Whole S σ u1/\(∀a∈aD,kG S σ a)/\
   dK u u1/\∀τ,fO τ u.tape u.drawn u1.drawn->step P (lone fr (cs++bl) (u.tp τ))=.next (lone bT (bV++bl) (u1.tp τ)):=by
 obtain⟨fr',cs',rfl,hfr,hcs⟩:=h.of;have Tm:=OB (main:=main) hT sY ha hb hw hW hfr hcs;rw[lone_eq_solo]at hs;cases hq:stepG P true (G fr (cs++bl)) u with
 |go g1 u1 es=>
  rw[hq]at Tm;have hgo:=fj rfl (.go hq);rw[hgo]at hs;cases hs;rcases Tm with hp|⟨bT,bV,σ,iW,gD,w1,es',rfl,h2,h3,h4,h5,h6,h7,h8⟩
  ·exact .inl ⟨g1,u1,rfl,hp⟩
  exact .inr ⟨bT,bV,u1,σ,_,w1,_,rfl,.go h2,⟨_,_,rfl,h3,h4⟩,h5,h6,lX h7,h8.1,fun τ hA=>fj rfl (.go (h8.2 τ hA))⟩
 |comm g1 XS b sh u1 es=>
  rw[hq]at Tm;obtain⟨bT,bV,σ,iW,gD,c,c',w1,es',rfl,rfl,rfl,rfl,h2,hc,h3,h4,h5,h6,h7,h8⟩:=Tm;obtain⟨c1,c2,c3⟩:=c;obtain⟨d1,d2,d3⟩:=c';obtain⟨k1,k2,k3,k4⟩:=hc;simp only at k1 k2 k3 k4;subst k2 k3
  have bad:illMade u1 ⟨c1,none,c3⟩=true->False:=fun kX=>by have:=Mt (P:=P) rfl hq kX;obtain⟨o,u2,e⟩:=this;rw[e]at hs;cases hs
  cases k1 with
  |jd=>
   have:=fj rfl (.fC hq);rw[this]at hs;cases hs;exact .inr ⟨_,bV,u1,σ,_,w1,_,rfl,.fC h2,⟨_,_,rfl,h3.finish (.tuple rfl (Ai k4 _)),h4⟩,h5,h6,lX h7,h8.1,fun τ hA=>fj rfl (.fC (h8.2 τ hA))⟩
  |@chan r r' hr=>
   obtain⟨o,ho⟩:∃o,u1.heap[r]? =some o:=⟨_,Array.getElem?_eq_getElem (h5.rel.lt _ _ hr).1⟩;rcases h5.rel.obj _ _ _ hr ho with hp|⟨o',ho',dP⟩
   ·subst hp;exact(bad (by simp[illMade,ho,aV])).elim
   ·cases dP with
    |chan cap cl s rc tm=>
     cases cl with
     |true=>
      have:=fj rfl (.shut (r:=r) (z:=c3) hq ho);rw[this]at hs;cases hs;refine .inr ⟨_,bV,u1,σ,_,w1,_,rfl,.shut (r:=r') (z:=d3) h2 ho',⟨_,_,rfl,h3.finish (.tuple rfl (Ai k4 _)),h4⟩,h5,h6,fun a ha=>?_,h8.1,fun τ hA=>fj rfl (.shut (r:=r) (z:=c3) (h8.2 τ hA) ho)⟩;rcases Array.mem_push.1 ha with ha|rfl
      ·exact lX h7 a ha
      ·exact .inr ⟨r',r,rfl,hr,h6.own hr ho (by intro e;cases e)⟩
     |false=>
      have:=fj rfl (.uz (r:=r) (z:=c3) hq ho);rw[this]at hs;cases hs;exact .inr ⟨_,bV,u1,σ,_,w1,_,rfl,.uz (r:=r') (z:=d3) h2 ho',⟨_,_,rfl,h3.finish (.tuple rfl (Ai k4 _)),h4⟩,h5,h6,lX h7,h8.1,fun τ hA=>fj rfl (.uz (r:=r) (z:=c3) (h8.2 τ hA) ho)⟩
    |_=>exact(bad (by simp[illMade,ho])).elim
  |_=>exact(bad rfl).elim
 |ended o u1 es=>
  have:step P (solo (G fr (cs++bl)) u)=.ended o u1:=by rw[step,stepT_solo rfl];simp[runT,solo,G,Array.swapAt!,Array.swapAt,hq]at hq⊢
  rw[this]at hs;cases hs
 |_=>rw[hq]at Tm;exact Tm.elim
end
end
end Go.Proofs.YtpobhljcainmdaaGreat
