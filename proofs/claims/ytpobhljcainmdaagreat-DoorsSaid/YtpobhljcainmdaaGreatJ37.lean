/- Proved here: a part of what Doors keeps (Rt4, Rt5, Fe18, Rt6). -/
import Derived.Laws.MakeOwn
import Derived.Laws.OwnMore
import Derived.Test.YtpobhljcainmdaaGreatJ01
import Derived.Test.YtpobhljcainmdaaGreatJ15
import Derived.Test.YtpobhljcainmdaaGreatJ36
set_option maxRecDepth 100000
set_option maxHeartbeats 8000000
set_option linter.all false
namespace Go.Proofs.YtpobhljcainmdaaGreat
section
open Go.Proofs.Tryz
open Go Go.Conc Go.RowKit
open Classical
open Go.ConcR (Payload)
section
variable {W W':World} {c rb mb ch:Nat} {sz cl qu mx qn rt bu wk ou de:Int} {k:Cl} {C X:Nat->Prop}
theorem aU.keep(h:aU W c rb mb ch sz cl qu mx qn rt bu wk ou de k)(ho:lT C W c rb mb ch)(hk:∀b,C b->W'.heap[b]? =W.heap[b]?):aU W' c rb mb ch sz cl qu mx qn rt bu wk ou de k:=by
 obtain⟨v,h1,h2⟩:=h.box;obtain⟨rp,h3,h4⟩:=h.rd;refine⟨⟨v,(hk _ ho.dO.1).trans h1,h2.1,?_⟩,⟨rp,⟨(hk _ ho.dO.2.1).trans h3.box,?_⟩,h4⟩,(hk _ ho.dO.2.2.2).trans h.chan⟩
 ·rcases h2.2 with h|⟨g,cap,cur,e1,e2,e3,e4⟩
  ·exact .inl h
  ·exact .inr ⟨g,cap,cur,e1,e2,(hk _ (ho.out v (aa h1 rfl) g (by rw[e1];rfl))).trans e3,e4⟩
 ·obtain⟨es,ck,e1,e2⟩:=h3.uses;exact⟨es,ck,(hk _ ho.dO.2.2.1).trans e1,e2⟩
theorem aU.tp(h:aU W c rb mb ch sz cl qu mx qn rt bu wk ou de k)(τ:Tape):aU (W.tp τ) c rb mb ch sz cl qu mx qn rt bu wk ou de k:=⟨h.box,⟨h.rd.choose,⟨h.rd.choose_spec.1.box,h.rd.choose_spec.1.uses⟩,h.rd.choose_spec.2⟩,h.chan⟩
theorem Closed.apart[aR](h:Closed C W)(ht:aF X W W')(hX:∀b,C b->¬X b):Closed C W':=fun b hb=>by obtain⟨o,ho,dP⟩:=h b hb;exact⟨o,aN ht ho (hX b hb),dP⟩
end
theorem qz{cs:List (Option Nat)}{c:Nat}:c∈ay cs↔∃j:Nat,cs[j]? =some (some c):=by
 unfold ay;rw[List.mem_filterMap];constructor
 ·rintro⟨x,hx,e⟩;obtain rfl:x=some c:=e;exact List.mem_iff_getElem?.1 hx
 ·rintro⟨j,hj⟩;exact⟨some c,List.mem_iff_getElem?.2 ⟨j,hj⟩,rfl⟩
theorem IL{cs:List (Option Nat)}(h:(ay cs).Nodup){i j c:Nat}(hi:cs[i]? =some (some c))(hj:cs[j]? =some (some c)):i=j:=by
 induction cs generalizing i j with
 |nil=>simp at hi
 |cons a r ih=>
  have hr:(ay r).Nodup:=by
   cases a with
   |none=>exact h
   |some a=>exact(List.nodup_cons.1 (show(a::ay r).Nodup from h)).2
  match i,j with
  |0,0=>rfl
  |0,j+1=>
   have e:a=some c:=by simpa using hi
   subst e;exact absurd (qz.2 ⟨j,by simpa using hj⟩) (List.nodup_cons.1 (show(c::ay r).Nodup from h)).1
  |i+1,0=>
   have e:a=some c:=by simpa using hj
   subst e;exact absurd (qz.2 ⟨i,by simpa using hi⟩) (List.nodup_cons.1 (show(c::ay r).Nodup from h)).1
  |i+1,j+1=>
   have:i=j:=ih hr (by simpa using hi) (by simpa using hj);rw[this]
def aK.read(p:aK)(sz mx ou:Int):aK:={p with k:=fun c=>Cl.read sz mx ou ((p.k c).aO.size+1) (p.k c)}
structure MU(k:Cl):Prop where
 ph:0<=k.ph/\k.ph<=2
 jU:fT k.aO
 aO:k.aO.size<=1048576
 out:k.out.size<=1048576
section
variable [aR] [Payload] {l:List FuncId} {u:World} {xb sb N:Nat} {cs:List (Option Nat)} {p:aK} {C:Nat->Nat->Prop} {sz qu mx qn rt bu wk ou av clock:Int} {stop:Bool} {j:Nat} {db:Option Addr}
def Dn(p:aK)(sz cl qu mx qn rt bu wk ou:Int)(c:Nat)(e:Ending)(u:World):Prop:=
 e=.returned (.tuple #[])/\aU u c (p.rb c) (p.mb c) (p.ch c) sz cl qu mx qn rt bu wk ou 0 ((p.read sz mx ou).k c)
theorem bf.enters(h:bf u xb sb N cs p C sz qu mx qn rt bu wk ou av clock stop j db)(hfit:Fit prog l)(Zo:aR.ok 100)(Zp:aR.ok 96)(hkn:aR.known 61)(hN:N<=65535)(hA:∀c∈ay cs,MU (p.k c))(hC:∀c∈ay cs,Closed (C c) u)
  (hsz:0<=sz/\sz<=65535) (hmx:0<=mx/\mx<=65535) (Ht:1<=qu) (KY:ou<=65535):Enters l C (Dn p sz N qu mx qn rt bu wk ou) u cs xb sb N:=by
 letI:aB:=aC []
 have hS:=h.sJ hN;have aO:∀{j:Nat} {c},cs[j]? =some (some c)->c∈ay cs:=fun hj=>qz.2 ⟨_,hj⟩;refine⟨hfit,Zo,Zp,hkn,h.len,by omega,hS.sl,hS.at_,⟨_,h.row,by simp[aV]⟩,fun j c hj=>⟨hC c (aO hj),(h.owns c (aO hj)).dO.1⟩,fun j j' c c' hj hj' hne=>h.apart c (aO hj) c' (aO hj') fun e=>hne (IL h.nodup hj (e▸hj')),fun j c hj=>h.cG c (aO hj),fun c e u τ hr=>⟨hr.1,hr.2.tp τ⟩,fun c e u hr=>⟨_,hr.1⟩,fun j c hj w hw _ _ τ=>?_⟩;have hc:=aO hj;have QM:=hA c hc;have hat:aU (mask (C c) w) c (p.rb c) (p.mb c) (p.ch c) sz N qu mx qn rt bu wk ou 0 (p.k c):=(h.all c hc).keep (h.owns c hc) fun b hb=>(ef hb).trans (hw b hb);exact callsIn_wide.1 ((Bh c _ _ _ sz N qu mx qn rt bu wk ou 0 (p.k c) _ ⟨hat.tp τ,QM.ph,QM.jU,QM.aO,QM.out,hsz,hmx,Ht,KY⟩).mono fun e w' hh=>hh)
structure yD(u u':World)(xb sb N:Nat)(cs:List (Option Nat))(p:aK)(C:Nat->Nat->Prop)(sz qu mx qn rt bu wk ou av clock:Int)(stop:Bool)(j:Nat)(db:Option Addr)(C':Nat->Nat->Prop):Prop where
 fe:bf u' xb sb N cs (p.read sz mx ou) C' sz qu mx qn rt bu wk ou av clock stop j db
 closed:∀c∈ay cs,Closed (C' c) u'
 size:u.heap.size<=u'.heap.size
 os:u'.os=u.os
 kept:∀b,b<u.heap.size->(∀c∈ay cs,¬C c b)->u'.heap[b]? =u.heap[b]?
 old:∀c∈ay cs,∀b,C' c b->b<u.heap.size->C c b
theorem bf.FQ{u' Qd:World}{B1 Wg B2 D:Nat}(h:bf u xb sb N cs p C sz qu mx qn rt bu wk ou av clock stop j db)(hA:After C (Dn p sz N qu mx qn rt bu wk ou) cs u u' xb B1 Wg B2 D)(ht:aF (fun i=>i=D) u' Qd):
  ∃C',yD u Qd xb sb N cs p C sz qu mx qn rt bu wk ou av clock stop j db C':=by
 letI:aB:=aC []
 obtain⟨Im,i1,i2,i3⟩:=hA.reads
 obtain⟨f,hf⟩:=Classical.axiomOfChoice (r:=fun(c:Nat) (nN:Ren)=>c∈ay cs->∃uc v,Dn p sz N qu mx qn rt bu wk ou c (.returned v) uc/\(cP (C c)).le nN/\nK prog nN uc u'/\Whole (fun _=>False) nN uc/\∀a b,nN a b->Im c b) fun c=>by
  by_cases hc:c∈ay cs
  ·obtain⟨uc,nN,v,h1⟩:=i3 c hc;exact⟨nN,fun _=>⟨uc,v,h1⟩⟩
  ·exact⟨fun _ _=>False,fun h=>absurd h hc⟩
 have hin:∀c∈ay cs,∀b,(f c).im b->Im c b/\b<u'.heap.size/\b≠D/\(b<u.heap.size->C c b):=fun c hc b ⟨a,hab⟩=>by obtain⟨uc,v,_,_,h3,_,h5⟩:=hf c hc;have:=i2 c b hc (h5 a b hab);exact⟨h5 a b hab,(h3.lt a b hab).2,this.2.2.1,this.2.2.2⟩
 have hst:∀c∈ay cs,aU u' c (p.rb c) (p.mb c) (p.ch c) sz N qu mx qn rt bu wk ou 0 ((p.read sz mx ou).k c)/\lT (f c).im u' c (p.rb c) (p.mb c) (p.ch c)/\Closed (f c).im u':=fun c hc=>by obtain⟨uc,v,h1,h2,h3,h4,_⟩:=hf c hc;have ho:=h.owns c hc;obtain⟨a1,a2⟩:=aU.BU h3 (h2 _ _ ⟨rfl,ho.dO.1⟩) (h2 _ _ ⟨rfl,ho.dO.2.1⟩) (h2 _ _ ⟨rfl,ho.dO.2.2.1⟩) (h2 _ _ ⟨rfl,ho.dO.2.2.2⟩) h1.2;exact⟨a1,a2,h3.closed h4⟩
 have hx:xb<u.heap.size:=(Array.getElem?_eq_some_iff.1 h.box).1;have hs:sb<u.heap.size:=(Array.getElem?_eq_some_iff.1 h.row).1;have hDn:=hA.news.2.2.2
 have hk:∀b,b<u.heap.size->(∀c∈ay cs,¬C c b)->Qd.heap[b]? =u.heap[b]? :=fun b hb hc=>
  (ht.block b (Nat.lt_of_lt_of_le hb hA.size) (by omega)).trans (hA.kept b hb fun j c hj=>hc c (qz.2 ⟨j,hj⟩))
 have hne:∀c∈ay cs,∀b,(f c).im b->¬b=D:=fun c hc b hb=>(hin c hc b hb).2.2.1;refine⟨fun c=>(f c).im,⟨(hk xb hx fun c hc=>(h.cG c hc).1).trans h.box,(hk sb hs fun c hc=>(h.cG c hc).2).trans h.row,h.len,fun c hc=>?_,h.nodup,fun c hc=>?_,fun c hc c' fN hn b hb hb'=>?_,fun c hc=>⟨fun hb=>?_,fun hb=>?_⟩,fun c hc b hb=>?_⟩,fun c hc=>?_,Nat.le_trans hA.size ht.size,ht.os.trans hA.os,hk,fun c hc b hb=>(hin c hc b hb).2.2.2⟩
 ·exact(hst c hc).1.apart (hst c hc).2.1 ht (hne c hc)
 ·exact(hst c hc).2.1.apart (hst c hc).1 ht (hne c hc)
 ·exact i1 c c' b hc fN hn (hin c hc b hb).1 (hin c' fN b hb').1
 ·exact(h.cG c hc).1 ((hin c hc _ hb).2.2.2 hx)
 ·exact(h.cG c hc).2 ((hin c hc _ hb).2.2.2 hs)
 ·exact Nat.lt_of_lt_of_le (hin c hc b hb).2.1 ht.size
 ·exact(hst c hc).2.2.apart ht (hne c hc)
theorem bf.GD(h:bf u xb sb N cs p C sz qu mx qn rt bu wk ou av clock stop j db)(hfit:Fit prog l)(hok:dM prog l false (mS f61)=true)(Zo:aR.ok 100)(Zp:aR.ok 96)(hkn:aR.known 61)(hN:N<=65535)(hA:∀c∈ay cs,MU (p.k c))(hC:∀c∈ay cs,Closed (C c) u)
  (hsz:0<=sz/\sz<=65535) (hmx:0<=mx/\mx<=65535) (Ht:1<=qu) (KY:ou<=65535):
  bG prog 61 #[pt xb] u fun e u'=>e=.returned (.tuple #[])/\∃C',yD u u' xb sb N cs p C sz qu mx qn rt bu wk ou av clock stop j db C':=by
 refine Bc (h.enters hfit Zo Zp hkn hN hA hC hsz hmx Ht KY) hok ?_ (fun e u hr=>⟨_,hr.1⟩) fun u' B1 Wg B2 D ha τ=>?_
 ·rintro e u' τ ⟨h1,C',h2⟩;exact⟨h1,C',⟨h2.fe.box,h2.fe.row,h2.fe.len,fun c hc=>(h2.fe.all c hc).tp τ,h2.fe.nodup,fun c hc=>⟨(h2.fe.owns c hc).dO,(h2.fe.owns c hc).out⟩,h2.fe.apart,h2.fe.cG,h2.fe.lt⟩,h2.closed,h2.size,h2.os,h2.kept,h2.old⟩
 ·obtain⟨C1,h1⟩:=h.FQ ha (aF.refl _ _)
  have hq:∀c∈ay cs,(u'.tp τ).cell? ⟨c,13,none⟩=some (.slice none 0 0):=fun c hc=>by obtain⟨v,b1,_⟩:=(h1.fe.all c hc).box;exact aa (w:=u'.tp τ) (i:=13) b1 rfl
  have hw:=OK xb sb N B1 Wg B2 D cs sz N qu mx qn rt bu wk ou av clock j stop db (u'.tp τ) h1.fe.box h1.fe.row h.len hN hq ha.b1 ha.df;obtain⟨e,w',fr',⟨e1,e2⟩,e3,e4,e5⟩:=Bj (b:=jz) func61 rfl rfl rfl hw [bot prog];obtain⟨C',h2⟩:=h.FQ ha (Qd:=w') ⟨e2.os,e2.size,e2.block⟩;exact⟨e,w',fr',⟨e1,C',h2⟩,e3,e4,e5⟩
end
end
section
open Go.Proofs.Tryz
open Go Go.Conc Go.RowKit
attribute [local go_sem ↓] Go.wp_at_zero Go.wp_at_succ
theorem sS{P:Program}{f:FuncId}{fn:Func}{a:Act}{w:World}{R:Ending->World->Prop}{n:Nat}{b:Frame}(hf:P.funcs[f]? =some fn)(hfn:b.fn=f)(hk:b.kind=.normal)(hro:b.roundOf=none)(h:LeavesInM Fence.wide n P fn a.tmps R a.defers .returning w)(cs:List Frame):
  ∃e w' fr',R e w'/\Comes P (lone (b.at a []) cs w) (lone fr' cs w') e/\fr'.fn=f/\fr'.leaving P w' e:=by
 have hr:Fence.wide.room (cs.length+1+n):=room_wide _;have XZ:b.atR a []=b.at a []:=Frame.atR_of_none hro _ _;obtain⟨e',w'',fr',hR,hs',KP,hl'⟩:=leaves_stepsInM a.defers .returning w {b.atR a []with mode:=.returning} cs rfl rfl rfl (by rw[<-hfn]at hf;exact hf) hk trivial hr h;have hs:StepsIn (Machine.fenced P Fence.wide) P (lone (b.atR a []) cs w) (lone {b.atR a []with mode:=.returning} cs w):=.one (fenced_calm (fr:=b.atR a []) trivial hr rfl) (stepR_end hro);exact⟨e',w'',fr',hR,by rw[<-XZ];exact comesIn_wide.1 (ComesIn.of_steps hs hs'),KP.trans hfn,hl'⟩
section
variable [aR] {P:Program} {l:List FuncId} {u:World}
theorem bG.Il(hT:Fit P l){f:FuncId}{fn:Func}{c:Code}{args:Array Value}{R:Ending->World->Prop}{n:Nat}(hf:P.funcs[f]? =some fn)(hb:fn.body=some c)(hR:∀e u τ,R e u->R e (World.tp u τ))(qd:∀e u,R e u->∃v,e=.returned v)
  (h:WX P c (fun e a u=>e=.normal/\∀τ,LeavesInM Fence.wide n P fn a.tmps R a.defers .returning (World.tp u τ)) {tmps:=args++Array.replicate (fn.ntmps-args.size) undef,defers:=[]} u):bG P f args u R:=fun cs=>by
 letI:aB:=aC []
 rw[enter_at args hf hb];refine(h (base f) [] cs trivial fun id ⟨a,u,hq,_⟩=>by cases hq).bind ?_;rintro fr cs' u' ⟨e,a',⟨rfl,hl⟩,h2⟩;obtain⟨rfl,rfl⟩:=h2;exact Reach.left (l:=l) hT (fun ρ=>.nil) rfl hR qd fun τ=>sS (b:=base f) hf rfl rfl rfl (hl τ) _
theorem qQ{W':World}{c rb mb ch:Nat}{sz cl qu mx qn rt bu wk ou de:Int}{k:Cl}{C:Nat->Prop}(hA:aU W' c rb mb ch sz cl qu mx qn rt bu wk ou de k)(ho:lT C W' c rb mb ch)(h:∀b,C b->b≠c->∃o,W'.heap[b]? =some o/\OR (cP C) o o):Closed C W':=fun b hb=>by
 by_cases e:b=c
 ·subst e;obtain⟨v,h1,h2⟩:=hA.box;refine⟨_,h1,.cells _ _ ⟨rfl,fun i x y hx hy=>?_⟩⟩;rw[hx]at hy;cases hy
  have hv:VR (cP C) v v:=by
   rcases h2.2 with⟨e,_⟩|⟨g,cap,cur,e,_⟩
   ·subst e;exact .bP _ _
   ·subst e;exact .slice _ _ ⟨⟨rfl,ho.out _ (aa h1 rfl) g rfl⟩,rfl,rfl⟩
  match i,hx with
  |0,hx=>cases hx;exact .int _ _
  |1,hx=>cases hx;exact .int _ _
  |2,hx=>cases hx;exact .int _ _
  |3,hx=>cases hx;exact .int _ _
  |4,hx=>cases hx;exact .int _ _
  |5,hx=>cases hx;exact .int _ _
  |6,hx=>cases hx;exact .int _ _
  |7,hx=>cases hx;exact .int _ _
  |8,hx=>cases hx;exact .int _ _
  |9,hx=>cases hx;exact .int _ _
  |10,hx=>cases hx;exact .int _ _
  |11,hx=>cases hx;exact .ptr ⟨⟨rfl,ho.dO.2.1⟩,rfl,rfl⟩
  |12,hx=>cases hx;exact .string _
  |13,hx=>cases hx;exact .bP _ _
  |14,hx=>cases hx;exact .int _ _
  |15,hx=>cases hx;exact .int _ _
  |16,hx=>cases hx;exact hv
  |17,hx=>cases hx;exact .int _ _
  |18,hx=>cases hx;exact .int _ _
  |19,hx=>cases hx;exact .int _ _
  |20,hx=>cases hx;exact .chan ⟨rfl,ho.dO.2.2.2⟩
  |n+21,hx=>simp at hx
 ·exact h b hb e
theorem Closed.box{W W':World}{c rb mb ch:Nat}{sz cl qu mx qn rt bu wk ou de:Int}{k:Cl}{C:Nat->Prop}(h:Closed C W)(hA:aU W' c rb mb ch sz cl qu mx qn rt bu wk ou de k)(ho:lT C W' c rb mb ch)(hk:∀b,C b->b≠c->W'.heap[b]? =W.heap[b]?):Closed C W':=qQ hA ho fun b hb e=>by obtain⟨o,h1,h2⟩:=h b hb;exact⟨o,(hk b hb e).trans h1,h2⟩
def cr:Code->Code|.seq x _=>x|_=>.skip
def bR:Code->Code|.seq _ y=>y|_=>.skip
def kN:Code->Code|.block _ x=>x|.loop x=>x|_=>.skip
def Nx(fn:Func):Code:=cr (kN (kN (kN (fn.body.getD .skip))))
def Ny(fn:Func):Code:=cr (cr (bR (kN (kN (kN (fn.body.getD .skip))))))
def wM(fn:Func):Code:=bR (bR (kN (kN (kN (fn.body.getD .skip)))))
theorem BB(hT:Fit prog l)(h0:dM prog l false (Nx f62)=true)(h1:dM prog l false (Ny f62)=true)(xb:Nat)(hc:∀i,i=17\/i=18->u.cell? ⟨xb,i,none⟩=some (.slice none 0 0)):
  bG prog 62 #[pt xb] u fun e u'=>e=.returned (.tuple #[])/\∃τ,u'=u.tp τ:=by
 have hact:(⟨#[pt xb]++Array.replicate (f62.ntmps - #[pt xb].size) undef,[]⟩:Act)=⟨#[pt xb,undef,undef,undef,undef,undef,undef,undef,undef,undef,undef,undef,undef,undef,undef,undef,undef,undef,undef,undef,undef,undef,undef,undef,undef,undef,undef,undef,undef,undef,undef,undef,undef,undef,undef,undef,undef,undef,undef,undef],[]⟩:=by kernel_rfl
 refine bG.Gh func62 (c:=.block 0 (.loop (.block 1 (.seq (Nx f62) (.seq (.seq (Ny f62) (.cond (.tmp 21) .ret .skip)) (wM f62)))))) rfl ?_;refine WX.block (WX.loop (fun a u'=>a=⟨#[pt xb,undef,undef,undef,undef,undef,undef,undef,undef,undef,undef,undef,undef,undef,undef,undef,undef,undef,undef,undef,undef,undef,undef,undef,undef,undef,undef,undef,undef,undef,undef,undef,undef,undef,undef,undef,undef,undef,undef,undef],[]⟩/\u'=u) (fun _ _=>0) ⟨hact,rfl⟩ ?_);rintro a u1 ⟨rfl,Tp⟩;subst u1;refine WX.block (WX.seq ?_);refine(WX.lift (Q:=fun e a u'=>e=.normal/\a=⟨#[pt xb,undef,.pointer none,.bool false,.tuple #[.pointer none,.bool false],pt xb,pt xb,.pointer (some ⟨xb,18,none⟩),.tuple #[.pointer none,.bool false],.pointer none,.bool false,undef,undef,undef,undef,undef,undef,undef,undef,undef,undef,undef,undef,undef,undef,undef,undef,undef,undef,undef,undef,undef,undef,undef,undef,undef,undef,undef,undef,undef],[]⟩/\∃τ,u'=u.tp τ) hT h0 ?_ ?_ ?_ fun τ=>?_).mono ?_
 ·rintro e a u' τ ⟨h1,h2,Gs,rfl⟩;exact⟨h1,h2,τ,rfl⟩
 ·rintro x a u' ⟨h,_⟩;cases h
 ·rintro a u' ⟨h,_⟩;cases h
 ·have fN:∀i,i=17\/i=18->(u.tp τ).cell? ⟨xb,i,none⟩=some (.slice none 0 0):=hc;generalize hu:u.tp τ=W at*;simp only[Nx,cr,kN,Option.getD_some,f62];go_wp2_with (go_at_call 103;refine(zm xb _ _ (fN _ (.inr rfl))).mono ?_;rintro e w1 ⟨rfl,rfl⟩);exact⟨τ,hu.symm⟩
 ·rintro e a u' ⟨rfl,rfl,τ,rfl⟩;refine WX.seq (WX.seq ?_);refine(WX.lift (Q:=fun e a u'=>e=.normal/\a.eval (.tmp 21)=.bool true/\a.defers=[]/\∃τ,u'=u.tp τ) hT h1 ?_ ?_ ?_ fun Gt=>?_).mono ?_
  ·rintro e a u' τ ⟨h1,h2,h3,Gs,rfl⟩;exact⟨h1,h2,h3,τ,rfl⟩
  ·rintro x a u' ⟨h,_⟩;cases h
  ·rintro a u' ⟨h,_⟩;cases h
  ·show Code.wp _ _ _ _ (u.tp Gt);generalize hu:u.tp Gt=W at*;simp only[Ny,cr,bR,kN,Option.getD_some,f62];go_wp2;exact⟨Gt,hu.symm⟩
  ·rintro e a u' ⟨rfl,h2,h3,oY,rfl⟩;refine WX.cond h2 (WX.ret ?_);exact⟨.inr rfl,h3,.tuple #[],by simp[results,results62],rfl,oY,rfl⟩
end
end
section
open Go.Proofs.Tryz
open Go.RowKit
attribute [local go_sem ↓] Go.wp_at_zero Go.wp_at_succ
attribute [local go_sem] au aj
theorem Ls(n:Nat)(hn:n<=65535):∃M:Array Value,∀W:World,(Instr.makeSlice 158 (.int .i64 (n:Int)) (.int .i64 (n:Int))).run prog W=.ok (.slice (some ⟨W.heap.size,0,none⟩) n n) (W.alloc (.cells M 5)):=by obtain⟨i0,hi,AH,iC,wS⟩:=info_parts mH;refine⟨madeCells (Value.int .u8 0).cells (((n:Nat):Int).toNat*i0.size),fun W=>?_⟩;have h:=run_make (P:=prog) W 158 5 i0 (.int .u8 0) underlying158 hi AH .i64 .i64 (n:Int) (n:Int) (by omega) (by omega) (by rw[wS];omega) (by omega);simpa using h
theorem rR(n:Nat)(hn:n<=65535)(w:World):
  Calls prog 111 #[.int .i64 (n:Int)] w fun e w'=>∃b,e=.returned (.pointer (some ⟨b,0,none⟩))/\Below w.heap.size w w':=by
 obtain⟨M,hM⟩:=Ls n hn;go_enter func111,ntmps111
 go_upto_region 1 with fail
 refine wp_region_noPanic ?_;refine wp_region_held_drew (S:=fun _=>True) (by kernel_rfl) trivial ?_;intro hHeld;refine tk 0 ?_;refine tk 2 ?_;refine aH [1,3] (.cons rfl (fun K hK=>?_) ?_)
 ·go_simp;refine hK.out _ _ (trivial) (fun GV=>?_);clear hK K;refine rH 3 fun K hK=>?_;go_simp;refine hK.out _ _ (trivial) (fun aah=>?_);clear hK K;refine tk 4 ?_;refine rH 5 fun K hK=>?_;go_simp;refine hK.out _ _ (trivial) (fun WU=>?_);clear hK K;refine tk 6 ?_;refine wpAnyH_done (by kernel_rfl) ?_ _
  (refine NoPanic.normal ?_;go_wp2_with fail;go_ret;exact⟨_,rfl,((((Below.refl _ w).alloc (Nat.le_refl _) _).alloc (by simp) _).alloc (by simp;omega) _).drew⟩)
 refine .cons rfl (fun K hK=>?_) .nil;go_simp;refine hK.out _ _ (trivial) (fun AB=>?_);clear hK K;refine rH 1 fun K hK=>?_;go_simp;refine hK.out _ _ (trivial) (fun aai=>?_);clear hK K;refine tk 4 ?_;refine rH 5 fun K hK=>?_;go_simp;refine hK.out _ _ (trivial) (fun WV=>?_);clear hK K;refine tk 6 ?_;refine wpAnyH_done (by kernel_rfl) ?_ _
 (refine NoPanic.normal ?_;go_wp2_with fail;go_ret;exact⟨_,rfl,((((Below.refl _ w).alloc (Nat.le_refl _) _).alloc (by simp) _).alloc (by simp;omega) _).drew⟩)
theorem Rq:(prog.info? 119).map (fun i=>(i.zero,i.size,i.bytes))=some (some (.pointer none),1,8):=by kernel_rfl
theorem Lq(N:Nat):madeCells (Value.pointer none).cells N=tq (List.replicate N none):=by apply Array.ext';rw[show(Value.pointer none).cells=#[.pointer none] from rfl,toList_madeCells_one];simp[tq,eu]
theorem Lt(N:Nat)(hn:N<=65535)(W:World):(Instr.makeSlice 103 (.int .i64 (N:Int)) (.int .i64 (N:Int))).run prog W=.ok (.slice (some ⟨W.heap.size,0,none⟩) N N) (W.alloc (.cells (tq (List.replicate N none)) 119)):=by obtain⟨i0,hi,AH,iC,wS⟩:=info_parts Rq;have h:=run_make (P:=prog) W 103 119 i0 (.pointer none) underlying103 hi AH .i64 .i64 (N:Int) (N:Int) (by omega) (by omega) (by rw[wS];omega) (by omega);rw[iC]at h;simp only[Int.toNat_natCast,Nat.mul_one]at h;rw[Lq]at h;exact h
theorem Oe(sz cl qu mx qn rt bu wk ou:Int)(w:World)(hc:iV sz cl qu mx qn rt bu wk ou=false):
  Calls prog 66 #[.agg (dr sz cl qu mx qn rt bu wk ou)] w fun e w'=>e=.returned (.tuple #[.pointer none,.int .i64 1])/\Below w.heap.size w w':=by
 go_enter func66,ntmps66;go_wp2_with (go_at_call 81;refine(xA sz cl qu mx qn rt bu wk ou _).mono ?_;rw[hc];rintro e w1 ⟨rfl,hb⟩)
 go_ret2
 exact⟨rfl,((Below.refl _ w).alloc (Nat.le_refl _) _).trans (hb.mono (by simp))⟩
def JF(w:World)(S0 N:Nat)(qu mx qn rt bu wk ou:Int)(e:Ending)(w':World):Prop:=
 ∃xb sb db,e=.returned (.tuple #[.pointer (some ⟨xb,0,none⟩),.int .i64 0])/\cY w' xb S0 N qu mx qn rt bu wk ou sb N 0 0 false 0 db/\cM w' sb (List.replicate N none)/\Below w.heap.size w w'/\w.heap.size<=xb/\w.heap.size<=sb
theorem RF{w w1 w2:World}{S0 N b:Nat}{qu mx qn rt bu wk ou:Int}(h1:Below w.heap.size w w1)(h2:Below (w1.alloc (.cells (tq (List.replicate N none)) 119)).drew.heap.size (w1.alloc (.cells (tq (List.replicate N none)) 119)).drew w2):
  JF w S0 N qu mx qn rt bu wk ou (.returned (.tuple #[.pointer (some ⟨w2.heap.size,0,none⟩),.int .i64 0])) (w2.alloc (.cells (Nv S0 N qu mx qn rt bu wk ou w1.heap.size N 0 0 false 0 (some ⟨b,0,none⟩)) 112)):=by
 have hs:=h1.size;have h3:Below w.heap.size w w2:=((h1.alloc hs _).drew).trans (h2.mono (by simp;omega));exact⟨w2.heap.size,w1.heap.size,some ⟨b,0,none⟩,rfl,new1 rfl,mM (aM h2 (new1 (W:=w1) rfl)),h3.alloc h3.size _,h3.size,hs⟩
theorem RG{w w1 w2:World}{S0 N b:Nat}{qu mx qn rt bu wk ou:Int}(h1:Below w.heap.size w w1)(h2:Below w1.drew.heap.size w1.drew w2):
  JF w S0 N qu mx qn rt bu wk ou (.returned (.tuple #[.pointer (some ⟨w2.heap.size+1,0,none⟩),.int .i64 0])) ((w2.alloc (.cells (tq (List.replicate N none)) 119)).alloc (.cells (Nv S0 N qu mx qn rt bu wk ou w2.heap.size N 0 0 false 0 (some ⟨b,0,none⟩)) 112)):=by
 have hs:=h1.size;have h3:Below w.heap.size w w2:=(h1.drew).trans (h2.mono hs);have h4:=h3.size;exact⟨w2.heap.size+1,w2.heap.size,some ⟨b,0,none⟩,rfl,new1 (by simp),mM (new1 rfl),(h3.alloc h4 _).alloc (by simp;omega) _,by omega,h4⟩
theorem RH(S0 N:Nat)(qu mx qn rt bu wk ou:Int)(w:World)(hS0:S0<=65535)(hN:N<=65535)(hc:iV S0 N qu mx qn rt bu wk ou=true):
  Calls prog 66 #[.agg (dr S0 N qu mx qn rt bu wk ou)] w (JF w S0 N qu mx qn rt bu wk ou):=by
 have hmk:=Lt N hN;go_enter func66,ntmps66
 go_upto_region 4 with(go_at_call 81;refine(xA S0 N qu mx qn rt bu wk ou _).mono ?_;rw[hc];rintro e w1 ⟨rfl,hb⟩)
 have oX:Below w.heap.size w w1:=((Below.refl _ w).alloc (Nat.le_refl _) _).trans (hb.mono (by simp));have eD:w1.heap[w.heap.size]? =some (.cells (dr S0 N qu mx qn rt bu wk ou) 35 (0,0)):=(hb.block _ (by simp)).trans (heap_alloc_new w _);have HB:Hid (Below w.heap.size w w1):=oX;clear hb oX;refine wp_region_noPanic ?_;refine wp_region_held_drew (S:=qK w.heap.size S0 N qu mx qn rt bu wk ou) (by kernel_rfl) ⟨aa eD rfl,aa eD rfl,aa eD rfl,aa eD rfl,aa eD rfl,aa eD rfl,aa eD rfl,aa eD rfl,aa eD rfl⟩ ?_;intro hHeld;refine tk 0 ?_;refine tk 1 ?_;refine tk 2 ?_;refine tk 4 ?_;refine tk 5 ?_;refine aH [3,6] (.cons rfl (fun K hK=>?_) ?_)
 ·go_simp;refine hK.out _ _ (qK.a1 hHeld) (fun AB=>?_);clear hK K;refine rH 6 fun K hK=>?_;go_simp
  (refine(rR S0 hS0 _).mono ?_;rintro e w2 ⟨b,rfl,bE⟩)
  go_wp2_with fail;refine hK.out _ _ (qK.later AB bE) (fun Ux=>?_);clear hK K;refine tk 7 ?_;refine rH 8 fun K hK=>?_;go_simp;refine hK.out _ _ (qK.a1 Ux) (fun WY=>?_);clear hK K;refine tk 9 ?_;refine tk 10 ?_;refine wpAnyH_done (by kernel_rfl) ?_ _
  (refine NoPanic.normal ?_;go_wp2_with fail;go_ret2;exact RF HB.out bE)
 refine .cons rfl (fun K hK=>?_) .nil;go_simp
 (refine(rR S0 hS0 _).mono ?_;rintro e w2 ⟨b,rfl,bE⟩)
 go_wp2_with fail;refine hK.out _ _ (qK.later hHeld bE) (fun SZ=>?_);clear hK K;refine rH 3 fun K hK=>?_;go_simp;refine hK.out _ _ (qK.a1 SZ) (fun UA=>?_);clear hK K;refine tk 7 ?_;refine rH 8 fun K hK=>?_;go_simp;refine hK.out _ _ (qK.a1 UA) (fun Xb=>?_);clear hK K;refine tk 9 ?_;refine tk 10 ?_;refine wpAnyH_done (by kernel_rfl) ?_ _
 (refine NoPanic.normal ?_;go_wp2_with fail;go_ret2;exact RG HB.out bE)
end
section
open Go.Proofs.Tryz
open Go Go.Conc Go.RowKit Go.Shelf
attribute [local go_sem ↓] Go.wp_at_zero Go.wp_at_succ
attribute [local go_sem] Oper.semAt_some
attribute [local go_sem] au aj
def XA(fn:Func):Code:=cr (fn.body.getD .skip)
def We(fn:Func):Code:=cr (bR (fn.body.getD .skip))
def XB(fn:Func):Code:=cr (cr (bR (bR (fn.body.getD .skip))))
def tkc:Code->Code|.cond _ x _=>x|_=>.skip
def XC(fn:Func):Code:=tkc (bR (cr (bR (bR (fn.body.getD .skip)))))
def XD(fn:Func):Code:=cr (bR (bR (bR (fn.body.getD .skip))))
def Wf(fn:Func):Code:=bR (bR (bR (bR (fn.body.getD .skip))))
abbrev OM(xb:Nat)(rP:Int):Act:=⟨#[pt xb,undef,undef,pt xb,pt xb,.pointer (some ⟨xb,13,none⟩),.int .i64 rP,.int .i64 (rP+1),pt xb,.pointer (some ⟨xb,13,none⟩),undef,undef,undef,undef,undef,undef,undef,undef,undef,undef,undef,undef,undef,undef,undef,undef,undef,undef],[]⟩
abbrev OO(xb:Nat)(rP:Int)(N0 D:Nat):Act:=⟨#[pt xb,undef,undef,pt xb,pt xb,.pointer (some ⟨xb,13,none⟩),.int .i64 rP,.int .i64 (rP+1),pt xb,.pointer (some ⟨xb,13,none⟩),pt xb,.func (.func 96) #[] #[pt N0],undef,undef,undef,undef,undef,undef,undef,undef,undef,undef,undef,undef,undef,undef,undef,undef],[{target:=.collected D,args:=#[]}]⟩
abbrev tkE(xb:Nat)(rP:Int)(N0 c:Nat):Act:=⟨#[pt xb,undef,pt c,pt xb,pt xb,.pointer (some ⟨xb,13,none⟩),.int .i64 rP,.int .i64 (rP+1),pt xb,.pointer (some ⟨xb,13,none⟩),pt xb,.func (.func 96) #[] #[pt N0],pt c,undef,undef,undef,undef,undef,undef,undef,undef,undef,undef,undef,undef,undef,undef,undef],[]⟩
def aK.oz(p:aK)(rt bu:Int):aK:={p with k:=fun c=>(p.k c).eC rt bu}
def aK.rS(p:aK)(rt bu:Int)(pre:List Nat):aK:={p with k:=fun c=>if c∈pre then(p.k c).eC rt bu else p.k c}
theorem Kj(xb sb N:Nat)(cs:List (Option Nat))(p:aK)(C:Nat->Nat->Prop)(sz qu mx qn rt bu wk ou av clock rP:Int)(stop:Bool)(j:Nat)(db:Option Addr)(w:World)(h:bf w xb sb N cs p C sz qu mx qn rt bu wk ou av clock stop j db)(hN:N<=65535)(hr:0<=rt/\rt<=65535)(ht:∀c∈ay cs,0<=(p.k c).tok/\(p.k c).tok<=65535):
  (We f26).wp prog (fun e a w'=>e=.normal/\∃N0 D,a=OO xb rP N0 D/\w.heap.size<=D/\w'.heap[D]? =some (.deferred (some []))/\bf w' xb sb N cs (p.oz rt bu) C sz qu mx qn rt bu wk ou av clock stop j db/\aF (fun i=>i∈ay cs) w w') (OM xb rP) w:=by
 refine(wpIn_wide (n:=3)).1 ?_;simp only[We,cr,bR,Option.getD_some,f26]
 gi_wp2_with (first|(refine⟨trivial,?_⟩;gi_at_call 59;refine(callsIn_wide.2 (oK xb _)).mono ?_;rintro e w1 ⟨rfl,rfl⟩))
 have hb0:Below w.heap.size w (w.alloc (.cells #[pt xb] 36)):=(Below.refl _ w).alloc (Nat.le_refl _) _;have hsz:(w.alloc (.cells #[pt xb] 36)).heap.size=w.heap.size+1:=by simp
 have e3:(w.alloc (.cells #[pt xb] 36)).heap[w.heap.size]? =some (.cells #[pt xb] 36 (0,0)):=heap_alloc_new w _;have hS:=h.sJ hN;show Code.wpIn Fence.wide 3 prog _ _ _ (w.alloc (.cells #[pt xb] 36));generalize w.alloc (.cells #[pt xb] 36)=W0 at*;have hxl:xb<w.heap.size:=(Array.getElem?_eq_some_iff.1 h.box).1;have hsl:sb<w.heap.size:=(Array.getElem?_eq_some_iff.1 h.row).1;have dw:∀c∈ay cs,c<w.heap.size:=fun c hc=>h.lt c hc c (h.owns c hc).dO.1;have h00:bf W0 xb sb N cs (p.rS rt bu []) C sz qu mx qn rt bu wk ou av clock stop j db:=(h.old hb0).parts fun c _=>⟨rfl,rfl,rfl,by simp[aK.rS]⟩
 have bI:Bears (fun r=>False\/r=W0.heap.size+1) (fun pre W=>bf W xb sb N cs (p.rS rt bu pre) C sz qu mx qn rt bu wk ou av clock stop j db/\aF (fun i=>i∈ay cs) w W):=by
  rintro pre W W' row ⟨h1,h2⟩ hg hr;have hrow:∀r,row=some r->r=w.heap.size+2:=fun r e=>by rcases hr r e with h|h;cases h;omega
  have PN:aF (fun i=>i=w.heap.size+2) W W':=⟨hg.os,hg.size,fun k hk hne=>hg.block k hk fun e=>hne (hrow k e.symm)⟩;refine⟨h1.later PN (fun c hc b hb e=>?_) (aN PN h1.box (by omega)) (aN PN h1.row (by omega)),?_⟩
  ·have:=h.lt c hc b hb;omega
  ·exact⟨PN.os.trans h2.os,Nat.le_trans h2.size PN.size,fun k hk hx=>(PN.block k (Nat.lt_of_lt_of_le hk h2.size) (by omega)).trans (h2.block k hk hx)⟩
 have HH:Hid (bf w xb sb N cs p C sz qu mx qn rt bu wk ou av clock stop j db):=h;have HT:Hid (∀c∈ay cs,0<=(p.k c).tok/\(p.k c).tok<=65535):=ht;clear h ht
 refine nC (w:=W0) rfl (by decide) (gf:=96) (lb:=#[.pointer (some ⟨w.heap.size,0,none⟩)]) rfl trivial (enters_of func96 (by kernel_rfl) rfl) (encs:=tP) (fun _=>rfl)
  (R:=fun _=>False) (Kp:=fun A B=>B.heap[sb]? =A.heap[sb]?) (V:=fun xs=>∃r,ay cs=xs++r) (S:=fun xs _=>xs=ay cs) (Sp:=fun pre _=>∃r,ay cs=pre++r)
  (fun W hW=>?seq) (fun r h=>h.elim) (fun h k=>k.trans h) (fun W o=>World.putObj_heap_other (by omega)) (fun xs W W' row h _ _=>h) (fun xs W W' row h _ _=>h)
  (fun pre W=>bf W xb sb N cs (p.rS rt bu pre) C sz qu mx qn rt bu wk ou av clock stop j db/\aF (fun i=>i∈ay cs) w W) (fun _ _=>False) bI (fun _ _ _ _ h _ _=>h) ⟨h00,.below hb0⟩ (fun c a _=>a=tkE xb rP w.heap.size c) (fun c a W W' row h _ _=>h) ?assign ?body ?done ?stop
 case seq=>
  have hbW:Below w.heap.size w W:=hb0.grown hW hb0.size (fun k e=>by cases e);have jA:=dF e3 hW (by simp);have FP:=hS.old hbW;exact oN 2 (by decide) w.heap.size xb sb N cs W (aa jA rfl) FP.sl FP.len FP.small FP.at_
 case assign=>
  rintro l pre c W K hi hv xP hK
  gi_wp2
  exact hK _ W ⟨rfl,rfl⟩ rfl hi rfl
 case body=>
  rintro l pre c a' W ⟨hi,hi2⟩ rfl ⟨r,hv⟩ xP;have hc:c∈ay cs:=by rw[hv];simp
  have PC:c∉pre:=fun hp=>by have:=HH.out.nodup;rw[hv,List.append_assoc]at this;exact(List.nodup_append.1 this).2.2 c hp c (by simp) rfl
  have HE:Hid (Calls prog 60 #[.pointer (some ⟨c,0,none⟩)] W fun e w'=>e=.returned (.tuple #[])/\bf w' xb sb N cs (p.rS rt bu (pre++[c])) C sz qu mx qn rt bu wk ou av clock stop j db/\aF (fun i=>i=c) W w'):=by
   have hA:=hi.all c hc;have ek:(p.rS rt bu pre).k c=p.k c:=if_neg PC;refine(Nt c _ _ _ sz N qu mx qn rt bu wk ou 0 _ W hA hr (by rw[ek];exact HT.out c hc)).mono ?_;rintro e w' ⟨e1,e2,e4,e5⟩;refine⟨e1,?_,e4⟩;refine(hi.client hc e2 ((hi.owns c hc).box e5) (e4.mono fun k _ e=>by rw[e];exact(hi.owns c hc).dO.1)).parts fun x _=>⟨rfl,rfl,rfl,?_⟩;simp only[aK.rS,aK.upd]
   by_cases ex:x=c
   ·subst ex;simp[PC]
   ·simp[ex]
  have HI2:Hid (aF (fun i=>i∈ay cs) w W):=hi2;have aav:=dw c hc;have hcs:c≠sb:=fun e=>(hi.cG c hc).2 (e▸(hi.owns c hc).dO.1);have hsW:sb<W.heap.size:=(Array.getElem?_eq_some_iff.1 hi.row).1;clear hi hi2
  gi_wp2_with (first|(refine⟨trivial,?_⟩;gi_at_call 60;refine(CallsIn.inRound l (callsIn_wide.2 HE.out)).mono ?_;rintro e w1 ⟨rfl,g1,g2⟩))
  exact⟨⟨g2.block _ (by omega) (by omega),g2.block _ (by omega) (by omega)⟩,g2.block _ hsW (fun e=>hcs e.symm),g1,HI2.out.trans (g2.mono fun k _ e=>by rw[e];exact hc)⟩
 case done=>
  rintro xs W rfl ⟨hi,hi2⟩ hD;refine⟨rfl,w.heap.size,W0.heap.size,rfl,by omega,hD,hi.parts fun x hx=>⟨rfl,rfl,rfl,?_⟩,hi2⟩;simp[aK.rS,aK.oz,hx]
 case stop=>exact fun _ _ _ h _=>h.elim
end
end Go.Proofs.YtpobhljcainmdaaGreat
