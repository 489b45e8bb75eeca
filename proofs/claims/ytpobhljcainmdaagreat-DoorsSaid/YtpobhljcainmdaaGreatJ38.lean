/- Proved here: a part of what Doors keeps (Rt7, Rt8, Ab2, Rt9). -/
import Derived.Test.YtpobhljcainmdaaGreatJ15
import Derived.Test.YtpobhljcainmdaaGreatJ37
set_option maxRecDepth 100000
set_option maxHeartbeats 8000000
set_option linter.all false
namespace Go.Proofs.YtpobhljcainmdaaGreat
section
open Go.Proofs.Tryz
open Go Go.Conc Go.RowKit
open Go.ConcR (Payload)
attribute [local go_sem ↓] Go.wp_at_zero Go.wp_at_succ
attribute [local go_sem] au aj
abbrev Wh(xb:Nat)(rP:Int)(N0 D:Nat)(stop:Bool):Act:=⟨#[pt xb,undef,undef,pt xb,pt xb,.pointer (some ⟨xb,13,none⟩),.int .i64 rP,.int .i64 (rP+1),pt xb,.pointer (some ⟨xb,13,none⟩),pt xb,.func (.func 96) #[] #[pt N0],undef,undef,undef,pt xb,pt xb,.pointer (some ⟨xb,14,none⟩),.bool stop,.bool !stop,undef,undef,undef,undef,undef,undef,undef,undef],[{target:=.collected D,args:=#[]}]⟩
abbrev Sr(xb:Nat)(rP:Int)(N0 D:Nat)(stop:Bool)(v20 v21 v22 v23:Value):Act:=⟨#[pt xb,undef,undef,pt xb,pt xb,.pointer (some ⟨xb,13,none⟩),.int .i64 rP,.int .i64 (rP+1),pt xb,.pointer (some ⟨xb,13,none⟩),pt xb,.func (.func 96) #[] #[pt N0],undef,undef,undef,pt xb,pt xb,.pointer (some ⟨xb,14,none⟩),.bool stop,.bool !stop,v20,v21,v22,v23,undef,undef,undef,undef],[{target:=.collected D,args:=#[]}]⟩
section
variable [aR] {l:List FuncId} {W W' u0 u:World} {xb sb N:Nat} {cs:List (Option Nat)} {p:aK} {C0 C:Nat->Nat->Prop} {sz qu mx qn rt bu wk ou av clock rP:Int} {stop:Bool} {j:Nat} {db:Option Addr}
theorem bf.tp(h:bf W xb sb N cs p C sz qu mx qn rt bu wk ou av clock stop j db)(τ:Tape):bf (W.tp τ) xb sb N cs p C sz qu mx qn rt bu wk ou av clock stop j db:=
 ⟨h.box,h.row,h.len,fun c hc=>(h.all c hc).tp τ,h.nodup,fun c hc=>⟨(h.owns c hc).dO,(h.owns c hc).out⟩,h.apart,h.cG,h.lt⟩
structure wI(u0 u:World)(xb sb N:Nat)(cs:List (Option Nat))(p:aK)(C0 C:Nat->Nat->Prop)(sz qu mx qn rt bu wk ou av clock:Int)(stop:Bool)(j:Nat)(db:Option Addr):Prop where
 fe:bf u xb sb N cs p C sz qu mx qn rt bu wk ou av clock stop j db
 closed:∀c∈ay cs,Closed (C c) u
 fK:aF (fun b=>b=xb\/b=sb\/∃c∈ay cs,C0 c b) u0 u
 old:∀c∈ay cs,∀b,C c b->b<u0.heap.size->C0 c b
structure oh(u0 u:World)(xb sb N:Nat)(cs:List (Option Nat))(p:aK)(C0 C:Nat->Nat->Prop)(sz qu mx qn rt bu wk ou av clock:Int)(stop:Bool)(j:Nat)(db:Option Addr)(D:Nat):Prop extends wI u0 u xb sb N cs p C0 C sz qu mx qn rt bu wk ou av clock stop j db where
 df:u.heap[D]? =some (.deferred (some []))
 dn:u0.heap.size<=D
 cut:∀c∈ay cs,¬C c D
theorem wI.tp(h:wI u0 u xb sb N cs p C0 C sz qu mx qn rt bu wk ou av clock stop j db)(τ:Tape):wI u0 (u.tp τ) xb sb N cs p C0 C sz qu mx qn rt bu wk ou av clock stop j db:=
 ⟨h.fe.tp τ,h.closed,⟨h.fK.os,h.fK.size,h.fK.block⟩,h.old⟩
theorem oh.tp{D:Nat}(h:oh u0 u xb sb N cs p C0 C sz qu mx qn rt bu wk ou av clock stop j db D)(τ:Tape):oh u0 (u.tp τ) xb sb N cs p C0 C sz qu mx qn rt bu wk ou av clock stop j db D:=
 ⟨h.towI.tp τ,h.df,h.dn,h.cut⟩
theorem Sm(h:bf u xb sb N cs p C sz qu mx qn rt bu wk ou av clock stop j db)(dw:∀c∈ay cs,Closed (C c) u)(zl:0<=clock/\clock<=281474976710656):
  (XA f26).wp prog (fun e a u'=>e=.normal/\a=OM xb clock/\wI u u' xb sb N cs p C C sz qu mx qn rt bu wk ou av (clock+1) stop j db) ⟨#[pt xb,undef,undef,undef,undef,undef,undef,undef,undef,undef,undef,undef,undef,undef,undef,undef,undef,undef,undef,undef,undef,undef,undef,undef,undef,undef,undef,undef],[]⟩ u:=by
 have fL:u.cell? ⟨xb,13,none⟩=some (.int .i64 clock):=aa h.box rfl;have f13:=aG h.box 13;have hw:wrap64 (clock+1)=clock+1:=by unfold wrap64;omega
 have ht:aF (fun i=>i=xb) u (u.setCell ⟨xb,13,none⟩ (.int .i64 (wrap64 (clock+1)))):=(aF.refl (fun i=>i=xb) u).set (p:=⟨xb,13,none⟩) rfl _;have hX:∀c∈ay cs,∀b,C c b->¬b=xb:=fun c hc b hb e=>(h.cG c hc).1 (e▸hb)
 have HQ:Hid (wrap64 (clock+1)=clock+1/\wI u (u.setCell ⟨xb,13,none⟩ (.int .i64 (wrap64 (clock+1)))) xb sb N cs p C C sz qu mx qn rt bu wk ou av (clock+1) stop j db):=
  ⟨hw,h.later ht hX (by rw[hw];exact aX h.box 13 _) (aS h.row (aJ h.row h.box (by simp)) _ _),fun c hc=>(dw c hc).apart ht (hX c hc),ht.mono fun k _ e=>.inl e,fun c hc b hb _=>hb⟩
 clear h ht hw zl hX;simp only[XA,cr,Option.getD_some,f26];go_wp2;exact HQ.out
theorem Sn(h:wI u0 u xb sb N cs p C0 C sz qu mx qn rt bu wk ou av clock stop j db)(hN:N<=65535)(hr:0<=rt/\rt<=65535)(ht:∀c∈ay cs,0<=(p.k c).tok/\(p.k c).tok<=65535)(h0:∀c∈ay cs,C0 c c):
  (We f26).wp prog (fun e a u'=>e=.normal/\∃N0 D,a=OO xb rP N0 D/\oh u0 u' xb sb N cs (p.oz rt bu) C0 C sz qu mx qn rt bu wk ou av clock stop j db D) (OM xb rP) u:=by
 refine wp_mono (Kj xb sb N cs p C sz qu mx qn rt bu wk ou av clock rP stop j db u h.fe hN hr ht) ?_;rintro e a u' ⟨he,N0,D,ha,hD,hd,hf,ht'⟩;have hu0:=h.fK.size;refine⟨he,N0,D,ha,⟨⟨hf,fun c hc=>?_,h.fK.trans (ht'.mono fun k _ hk=>.inr (.inr ⟨k,hk,h0 k hk⟩)),h.old⟩,hd,by omega,fun c hc hb=>?_⟩⟩
 ·refine(h.closed c hc).box (hf.all c hc) (hf.owns c hc) fun b hb hne=>ht'.block b (h.fe.lt c hc b hb) fun hs=>?_;exact h.fe.apart c hc b hs (fun e=>hne e.symm) b hb (h.fe.owns b hs).dO.1
 ·have:=h.fe.lt c hc D hb;omega
theorem So{N0 D:Nat}(h:cY u xb sz N qu mx qn rt bu wk ou sb N av clock stop j db):
  (XB f26).wp prog (fun e a u'=>e=.normal/\a=Wh xb rP N0 D stop/\u'=u) (OO xb rP N0 D) u:=by
 have pI:u.cell? ⟨xb,14,none⟩=some (.bool stop):=aa h rfl;clear h;simp only[XB,cr,bR,Option.getD_some,f26];go_wp2
structure tV(u0 u:World)(xb sb N:Nat)(cs cs':List (Option Nat))(p:aK)(C0 C:Nat->Nat->Prop)(sz qu mx qn rt bu wk ou av clock:Int)(stop:Bool)(j:Nat)(db:Option Addr):Prop where
 fe:bf u xb sb N cs' p C sz qu mx qn rt bu wk ou av clock stop j db
 closed:∀c∈ay cs,Closed (C c) u
 fK:aF (fun b=>b=xb\/b=sb\/∃c∈ay cs,C0 c b) u0 u
 old:∀c∈ay cs,∀b,C c b->b<u0.heap.size->C0 c b
theorem oh.turned{u1:World}{D:Nat}{Bd:Int}{j':Nat}(h:oh u0 u xb sb N cs p C0 C sz qu mx qn rt bu wk ou av clock stop j db D)(h0:∀c∈ay cs,C c c->c<u0.heap.size->C0 c c)(Tr:xb<u0.heap.size)(h1:cY u1 xb sz N qu mx qn rt bu wk ou sb N Bd clock stop j' db)(h2:cM u1 sb cs)(h3:rM u1 cs p sz N qu mx qn rt bu wk ou)(h4:aF (fun i=>i=xb\/i∈ay cs) u u1)(h5:∀c∈ay cs,u1.cell? ⟨c,16,none⟩=u.cell? ⟨c,16,none⟩):
  oh u0 u1 xb sb N cs p C0 C sz qu mx qn rt bu wk ou Bd clock stop j' db D:=by
 have ho:∀c∈ay cs,lT (C c) u1 c (p.rb c) (p.mb c) (p.ch c):=fun c hc=>(h.fe.owns c hc).box (h5 c hc);refine⟨⟨⟨h1,h2,h.fe.len,h3,h.fe.nodup,ho,h.fe.apart,h.fe.cG,fun c hc b hb=>Nat.lt_of_lt_of_le (h.fe.lt c hc b hb) h4.size⟩,fun c hc=>?_,?_,h.old⟩,?_,h.dn,h.cut⟩
 ·refine(h.closed c hc).box (h3 c hc) (ho c hc) fun b hb hne=>h4.block b (h.fe.lt c hc b hb) ?_;rintro(e|hs)
  ·exact(h.fe.cG c hc).1 (e▸hb)
  ·exact h.fe.apart c hc b hs (fun e=>hne e.symm) b hb (h.fe.owns b hs).dO.1
 ·exact⟨h4.os.trans h.fK.os,Nat.le_trans h.fK.size h4.size,fun k hk hx=>(h4.block k (Nat.lt_of_lt_of_le hk h.fK.size) (by
   rintro(e|hs)
   ·exact hx (.inl e)
   ·exact hx (.inr (.inr ⟨k,hs,h0 k hs (h.fe.owns k hs).dO.1 hk⟩)))).trans (h.fK.block k hk hx)⟩
 ·refine aN h4 h.df ?_;rintro(e|hs)
  ·have:=h.dn;omega
  ·exact h.cut D hs (h.fe.owns D hs).dO.1
theorem Sq{N0 D:Nat}{v20 v21 v22 v23:Value}(h:oh u0 u xb sb N cs p C0 C sz qu mx qn rt bu wk ou av clock stop j db D)(Tr:xb<u0.heap.size)(hsb:sb<u0.heap.size)
  (hN:1<=N) (zi:N<=65535) (hj:j<N) (hq:0<=qn/\qn<=65535) (hw:∀c∈ay cs,0<=(p.k c).wt/\(p.k c).wt<=65535) (hwk:1<=wk):
  (Wf f26).wp prog (fun e a u'=>e=.normal/\a.defers=[{target:=.collected D,args:=#[]}]/\tV u0 u' xb sb N cs (lets (fun c=>(p.k c).gone) cs) p C0 C sz qu mx qn rt bu wk ou av clock stop ((j+(N+1))%N) db/\u'.heap[D]? =some (.deferred (some []))) (Sr xb rP N0 D stop v20 v21 v22 v23) u:=by
 have HT:Hid (Calls prog 63 #[.pointer (some ⟨xb,0,none⟩)] u fun e u1=>e=.returned (.tuple #[])/\oh u0 u1 xb sb N cs p C0 C sz qu mx qn rt bu wk ou av clock stop ((j+(N+1))%N) db D):=
  (xm xb sb N j cs p sz qu mx qn rt bu wk ou av clock stop db u h.fe.box h.fe.row h.fe.len h.fe.all hN zi hj hq hw hwk).mono fun e u1 ⟨e1,e2,e3,e4,e5,e6⟩=>⟨e1,h.turned (fun c hc hb hlt=>h.old c hc c hb hlt) Tr e2 e3 e4 e5 e6⟩
 have HL:Hid (∀u1,oh u0 u1 xb sb N cs p C0 C sz qu mx qn rt bu wk ou av clock stop ((j+(N+1))%N) db D->Calls prog 64 #[.pointer (some ⟨xb,0,none⟩)] u1 fun e u'=>e=.returned (.tuple #[])/\tV u0 u' xb sb N cs (lets (fun c=>(p.k c).gone) cs) p C0 C sz qu mx qn rt bu wk ou av clock stop ((j+(N+1))%N) db/\u'.heap[D]? =some (.deferred (some []))):=fun u1 h1=>by
  refine(DO xb sb N cs p C sz qu mx qn rt bu wk ou av clock stop _ db u1 h1.fe zi).mono ?_;rintro e u' ⟨e1,e2,e3⟩;refine⟨e1,⟨e2,fun c hc=>(h1.closed c hc).apart e3 ?_,h1.fK.trans (e3.mono ?_),h1.old⟩,aN e3 h1.df ?_⟩
  ·rintro b hb (e|e)
   ·exact(h1.fe.cG c hc).2 (e▸hb)
   ·exact(h1.fe.cG c hc).1 (e▸hb)
  ·rintro k _ (e|e)
   ·exact .inr (.inl e)
   ·exact .inl e
  ·have:=h1.dn;rintro(e|e)<;>omega
 clear h Tr hsb hN hj hq hw hwk;simp only[Wf,cr,bR,Option.getD_some,f26];go_wp2_with (first|(go_at_call 63;refine HT.out.mono ?_;rintro e u1 ⟨rfl,h1⟩)|(go_at_call 64;refine(HL.out _ h1).mono ?_;rintro e u2 ⟨rfl,h2,h3⟩))
end
end
section
open Go.Proofs.Tryz
open Go Go.Conc Go.RowKit
open Go.ConcR (Payload)
def opsOf:Code->Array Oper|.region _ ops _=>ops|_=>#[]
section
variable [aR] {l:List FuncId}
theorem WX.Pd{P:Program}{Q:Exit->Act->World->Prop}{a:Act}{u:World}{ops:Array Oper}{id d f:Nat}{o0 o1:Oper}{ats:Array TypeId}{fn:Func}{body:Code}{v:Value}(hT:Fit P l)(hr:List.range ops.size=[0,1])(h0:ops[0]? =some o0)(hm:o0.op=.move (.tmp 0))(hd:o0.dst=some d)(hg0:o0.guard=none)(h1:ops[1]? =some o1)(hop:o1.op=.call {callee:=.value (.func f),args:=#[.tmp d],argTypes:=ats}) (Xl:o1.guard=none)
  (hfn:P.funcs[f]? =some fn) (hname:(fn.name== "runtime.NumGoroutine")=false) (hb:fn.body=some body) (hkn:aR.known f) (hv:a.eval (.tmp 0)=v) (hv':(a.put (some d) v).eval (.tmp d)=v)
  (c:bG P f #[v] u fun e u'=>∃r,e=.returned r/\Q .normal ((a.put (some d) v).put o1.dst r) u'):WX P (.region id ops false) Q a u:=by
 refine WX.region ?_;rw[hr];refine OX.value (v:=v) (u1:=u) hT h0 (by simp[Region.wanted,hg0]) (by rw[hm];rfl) (fun τ=>?_) ?_
 ·unfold execOp;rw[hm];simp[hv]
 ·rw[hd];refine OX.call hT h1 (by simp[Region.wanted,Xl]) hop hfn hname hb hkn (by simp[bF]) ?_;have:(#[Operand.tmp d].map (a.put (some d) v).eval)=#[v]:=by rw[List.map_toArray];simp only[List.map_cons,List.map_nil,hv']
  rw[this];refine c.mono fun e u' ⟨r,e1,e2⟩=>⟨r,e1,OX.nil e2⟩
structure MX(l:List FuncId):Prop where
 fit:Fit prog l
 tail:dM prog l false (mS f61)=true
 oR:aR.ok 100
 oS:aR.ok 96
 kR:aR.known 61
 kF:aR.known 62
 f0:dM prog l false (Nx f62)=true
 f1:dM prog l false (Ny f62)=true
 t0:dM prog l false (XA f26)=true
 t1:dM prog l false (We f26)=true
 t4:dM prog l false (XB f26)=true
 t7:dM prog l false (Wf f26)=true
variable [Payload] {u0 u:World} {xb sb N:Nat} {cs:List (Option Nat)} {p:aK} {C0 C:Nat->Nat->Prop} {sz qu mx qn rt bu wk ou av clock rP:Int} {stop:Bool} {j:Nat} {db:Option Addr}
theorem wI.base{τ:Tape}(h:wI (u0.tp τ) u xb sb N cs p C0 C sz qu mx qn rt bu wk ou av clock stop j db):wI u0 u xb sb N cs p C0 C sz qu mx qn rt bu wk ou av clock stop j db:=
 ⟨h.fe,h.closed,⟨h.fK.os,h.fK.size,h.fK.block⟩,h.old⟩
theorem oh.read{u1:World}{C1:Nat->Nat->Prop}{D:Nat}(h:oh u0 u xb sb N cs p C0 C sz qu mx qn rt bu wk ou av clock stop j db D)(hr:yD u u1 xb sb N cs p C sz qu mx qn rt bu wk ou av clock stop j db C1):oh u0 u1 xb sb N cs (p.read sz mx ou) C0 C1 sz qu mx qn rt bu wk ou av clock stop j db D:=by have hD:D<u.heap.size:=(Array.getElem?_eq_some_iff.1 h.df).1;refine⟨⟨hr.fe,hr.closed,⟨hr.os.trans h.fK.os,Nat.le_trans h.fK.size hr.size,fun k hk hx=>?_⟩,fun c hc b hb hlt=>h.old c hc b (hr.old c hc b hb (Nat.lt_of_lt_of_le hlt h.fK.size)) hlt⟩,(hr.kept D hD h.cut).trans h.df,h.dn,fun c hc hb=>h.cut c hc (hr.old c hc D hb hD)⟩;exact(hr.kept k (Nat.lt_of_lt_of_le hk h.fK.size) fun c hc hb=>hx (.inr (.inr ⟨c,hc,h.old c hc k hb hk⟩))).trans (h.fK.block k hk hx)
theorem EF(sz mx ou:Int)(f:Nat)(k:Cl):(Cl.read sz mx ou f k).no=k.no/\(Cl.read sz mx ou f k).wt=k.wt/\(Cl.read sz mx ou f k).tok=k.tok:=by
 induction f generalizing k with
 |zero=>exact⟨rfl,rfl,rfl⟩
 |succ f ih=>
  unfold Cl.read;split
  ·dsimp only;split
   ·exact⟨rfl,rfl,rfl⟩
   ·split
    ·exact⟨rfl,rfl,rfl⟩
    ·exact ih _
  ·exact⟨rfl,rfl,rfl⟩
theorem tV.put{cs':List (Option Nat)}{D:Nat}(h:tV u0 u xb sb N cs cs' p C0 C sz qu mx qn rt bu wk ou av clock stop j db)(hs:∀c∈ay cs',c∈ay cs)(hx:xb<u0.heap.size)(hsb:sb<u0.heap.size)(hD:u0.heap.size<=D)(hc:∀c∈ay cs,¬C c D)(o:Obj):tV u0 (u.putObj D o) xb sb N cs cs' p C0 C sz qu mx qn rt bu wk ou av clock stop j db:=by have ht:aF (fun i=>i=D) u (u.putObj D o):=⟨rfl,by simp,fun k _ hne=>World.putObj_heap_other hne⟩;have hn:∀c∈ay cs,∀b,C c b->¬b=D:=fun c fN b hb e=>hc c fN (e▸hb);refine⟨h.fe.later ht (fun c fN=>hn c (hs c fN)) (aN ht h.fe.box (by omega)) (aN ht h.fe.row (by omega)),fun c fN=>(h.closed c fN).apart ht (hn c fN),⟨h.fK.os,Nat.le_trans h.fK.size ht.size,fun k hk hx=>(ht.block k (Nat.lt_of_lt_of_le hk h.fK.size) (by omega)).trans (h.fK.block k hk hx)⟩,h.old⟩
def aK.gq(p:aK)(sz mx rt bu ou:Int)(stop:Bool):aK:=if stop then p.oz rt bu else(p.oz rt bu).read sz mx ou
theorem tV.tp{cs':List (Option Nat)}(h:tV u0 u xb sb N cs cs' p C0 C sz qu mx qn rt bu wk ou av clock stop j db)(τ:Tape):tV u0 (u.tp τ) xb sb N cs cs' p C0 C sz qu mx qn rt bu wk ou av clock stop j db:=
 ⟨h.fe.tp τ,h.closed,⟨h.fK.os,h.fK.size,h.fK.block⟩,h.old⟩
theorem bf.GF(h:bf u xb sb N cs p C sz qu mx qn rt bu wk ou av clock stop j db)(G:MX l)(hN:1<=N)(zi:N<=65535)(hj:j<N)(hA:∀c∈ay cs,MU (p.k c))(hC:∀c∈ay cs,Closed (C c) u)
  (hsz:0<=sz/\sz<=65535) (hmx:0<=mx/\mx<=65535) (Ht:1<=qu) (KY:ou<=65535) (hq:0<=qn/\qn<=65535) (hr:0<=rt/\rt<=65535) (hwk:1<=wk) (zl:0<=clock/\clock<=281474976710656)
  (hw:∀c∈ay cs,0<=(p.k c).wt/\(p.k c).wt<=65535) (ht:∀c∈ay cs,0<=(p.k c).tok/\(p.k c).tok<=65535):
  bG prog 26 #[pt xb] u fun e u'=>e=.returned (.tuple #[])/\∃C',tV u u' xb sb N cs (lets (fun c=>((p.gq sz mx rt bu ou stop).k c).gone) cs) (p.gq sz mx rt bu ou stop) C C' sz qu mx qn rt bu wk ou av (clock+1) stop ((j+(N+1))%N) db:=by
 have Tr:xb<u.heap.size:=(Array.getElem?_eq_some_iff.1 h.box).1;have hsb:sb<u.heap.size:=(Array.getElem?_eq_some_iff.1 h.row).1;have hact:(⟨#[pt xb]++Array.replicate (f26.ntmps - #[pt xb].size) undef,[]⟩:Act)=⟨#[pt xb,undef,undef,undef,undef,undef,undef,undef,undef,undef,undef,undef,undef,undef,undef,undef,undef,undef,undef,undef,undef,undef,undef,undef,undef,undef,undef,undef],[]⟩:=by kernel_rfl
 have e5:XC f26=.region 5 (opsOf (XC f26)) false:=by kernel_rfl
 have e6:XD f26=.region 6 (opsOf (XD f26)) false:=by kernel_rfl
 refine bG.Il (n:=1) G.fit func26 (c:=.seq (XA f26) (.seq (We f26) (.seq (.seq (XB f26) (.cond (.tmp 19) (XC f26) .skip)) (.seq (XD f26) (Wf f26))))) rfl ?_ (fun e u hr=>⟨_,hr.1⟩) ?_
 ·rintro e u' τ ⟨h1,C',h2⟩;exact⟨h1,C',h2.tp τ⟩
 rw[hact];refine WX.seq ((WX.lift (Q:=fun e a u'=>e=.normal/\a=OM xb clock/\wI u u' xb sb N cs p C C sz qu mx qn rt bu wk ou av (clock+1) stop j db) G.fit G.t0 ?_ ?_ ?_ fun τ=>?_).mono ?_)
 ·rintro e a u' τ ⟨h1,h2,h3⟩;exact⟨h1,h2,h3.tp τ⟩
 ·rintro x a u' ⟨h,_⟩;cases h
 ·rintro a u' ⟨h,_⟩;cases h
 ·exact wp_mono (Sm (h.tp τ) hC zl) fun e a u' ⟨h1,h2,h3⟩=>⟨h1,h2,h3.base⟩
 rintro e a u1 ⟨rfl,rfl,m1⟩;refine WX.seq ((WX.lift (Q:=fun e a u'=>e=.normal/\∃N0 D,a=OO xb clock N0 D/\oh u u' xb sb N cs (p.oz rt bu) C C sz qu mx qn rt bu wk ou av (clock+1) stop j db D) G.fit G.t1 ?_ ?_ ?_ fun τ=>?_).mono ?_)
 ·rintro e a u' τ ⟨h1,N0,D,h2,h3⟩;exact⟨h1,N0,D,h2,h3.tp τ⟩
 ·rintro x a u' ⟨h,_⟩;cases h
 ·rintro a u' ⟨h,_⟩;cases h
 ·exact Sn (m1.tp τ) zi hr ht fun c hc=>(h.owns c hc).dO.1
 rintro e a u2 ⟨rfl,N0,D,rfl,m2⟩;refine WX.seq (WX.seq ((WX.lift (Q:=fun e a u'=>e=.normal/\a=Wh xb clock N0 D stop/\∃τ,u'=u2.tp τ) G.fit G.t4 ?_ ?_ ?_ fun τ=>?_).mono ?_))
 ·rintro e a u' τ ⟨h1,h2,Gs,rfl⟩;exact⟨h1,h2,τ,rfl⟩
 ·rintro x a u' ⟨h,_⟩;cases h
 ·rintro a u' ⟨h,_⟩;cases h
 ·exact wp_mono (So (m2.tp τ).fe.box) fun e a u' ⟨h1,h2,h3⟩=>⟨h1,h2,τ,h3⟩
 rintro e a u3 ⟨rfl,rfl,τ,rfl⟩;have m3:=m2.tp τ;have UF:∀c∈ay cs,MU ((p.oz rt bu).k c):=fun c hc=>⟨(hA c hc).ph,(hA c hc).jU,(hA c hc).aO,(hA c hc).out⟩
 have rest:∀(v20 v21:Value) (u4:World) (C4:Nat->Nat->Prop),oh u u4 xb sb N cs (p.gq sz mx rt bu ou stop) C C4 sz qu mx qn rt bu wk ou av (clock+1) stop j db D->WX prog (.seq (XD f26) (Wf f26)) (fun e a u'=>e=.normal/\∀τ,LeavesInM Fence.wide 1 prog f26 a.tmps (fun e u'=>e=.returned (.tuple #[])/\∃C',tV u u' xb sb N cs (lets (fun c=>((p.gq sz mx rt bu ou stop).k c).gone) cs) (p.gq sz mx rt bu ou stop) C C' sz qu mx qn rt bu wk ou av (clock+1) stop ((j+(N+1))%N) db) a.defers .returning (World.tp u' τ)) (Sr xb clock N0 D stop v20 v21 undef undef) u4:=fun v20 v21 u4 C4 m4=>by
  refine WX.seq ?_;rw[e6];refine WX.Pd (f:=62) (v:=pt xb) G.fit rfl rfl rfl rfl rfl rfl rfl rfl func62 rfl rfl G.kF rfl rfl ?_;refine(BB G.fit G.f0 G.f1 xb fun i hi=>?_).mono ?_
  ·rcases hi with rfl|rfl<;>exact aa m4.fe.box rfl
  rintro e u5 ⟨rfl,τ,rfl⟩;refine⟨_,rfl,?_⟩;have m5:=m4.tp τ
  have hw5:∀c∈ay cs,0<=((p.gq sz mx rt bu ou stop).k c).wt/\((p.gq sz mx rt bu ou stop).k c).wt<=65535:=fun c hc=>by
   have e:((p.gq sz mx rt bu ou stop).k c).wt=(p.k c).wt:=by
    unfold aK.gq;split
    ·rfl
    ·exact(EF _ _ _ _ _).2.1
   rw[e];exact hw c hc
  refine(WX.lift (a:=Sr xb clock N0 D stop v20 v21 (pt xb) (.tuple #[])) (Q:=fun e a u'=>e=.normal/\a.defers=[{target:=.collected D,args:=#[]}]/\tV u u' xb sb N cs (lets (fun c=>((p.gq sz mx rt bu ou stop).k c).gone) cs) (p.gq sz mx rt bu ou stop) C C4 sz qu mx qn rt bu wk ou av (clock+1) stop ((j+(N+1))%N) db/\u'.heap[D]? =some (.deferred (some []))) G.fit G.t7 ?_ ?_ ?_ fun Gs=>?_).mono ?_
  ·rintro e a u' τ ⟨h1,h2,h3,h4⟩;exact⟨h1,h2,h3.tp τ,h4⟩
  ·rintro x a u' ⟨h,_⟩;cases h
  ·rintro a u' ⟨h,_⟩;cases h
  ·exact Sq (m5.tp Gs) Tr hsb hN zi hj hq hw5 hwk
  ·rintro e a u6 ⟨rfl,hd,hdn,hdf⟩;refine⟨rfl,fun SE=>?_⟩;rw[hd];have YZ:(u6.tp SE).heap[D]? =some (.deferred (some [])):=hdf;refine⟨by simp,.inl ⟨_,_,rfl,run_takeDeferred YZ,.tuple #[],by simp[results,results26],rfl,C4,(hdn.tp SE).put (fun c hc=>?_) Tr hsb m4.dn m4.cut _⟩⟩;rw[eZ]at hc;exact(List.mem_filter.1 hc).1
 refine WX.cond (v:=!stop) rfl ?_;cases stop with
 |true=>
  refine WX.skip ?_;exact rest undef undef _ C m3
 |false=>
  show WX _ (XC f26) _ _ _;rw[e5];refine WX.Pd (f:=61) (v:=pt xb) G.fit rfl rfl rfl rfl rfl rfl rfl rfl func61 rfl rfl G.kR rfl rfl ?_;refine(m3.fe.GD G.fit G.tail G.oR G.oS G.kR zi UF m3.closed hsz hmx Ht KY).mono ?_;rintro e u4 ⟨rfl,C4,hr4⟩;exact⟨_,rfl,rest (pt xb) (.tuple #[]) u4 C4 (m3.read hr4)⟩
end
end
section
open Go.Proofs.Tryz
structure Fy where
 sz:Int
 qu:Int
 mx:Int
 qn:Int
 rt:Int
 bu:Int
 wk:Int
 ou:Int
 N:Nat
 K:List (Option Cl)
 av:Int
 clock:Int
 stop:Bool
structure Fy.Ok(f:Fy)(n:Nat):Prop where
 cfg:iV f.sz f.N f.qu f.mx f.qn f.rt f.bu f.wk f.ou=true
 len:f.K.length=f.N
 vO:∀k∈iH f.K,Gx k
 av:0<=f.av/\f.av<=n
 clock:0<=f.clock/\f.clock<=n
theorem bk{sz cl qu mx qn rt bu wk ou:Int}(h:iV sz cl qu mx qn rt bu wk ou=true):(4<=sz/\sz<=256)/\(1<=cl/\cl<=8)/\(1<=qu/\qu<=8)/\(4<=mx/\mx<=32)/\(mx<=qn/\qn<=64)/\(1<=rt/\rt<=16)/\(1<=bu/\bu<=32)/\(1<=wk/\wk<=8)/\(mx+4<=ou/\ou<=256):=by unfold iV Nf Qy EV gu at h;simp only[Bool.and_eq_true,decide_eq_true_eq]at h;omega
def gN:List (Option Cl)->Option Nat
 |[]=>none
 |none::_=>some 0
 |some _::r=>(gN r).map (·+1)
theorem rW{K:List (Option Cl)}{j:Nat}(h:gN K=some j):Pj K j:=by
 induction K generalizing j with
 |nil=>cases h
 |cons a r ih=>
  cases a with
  |none=>cases h;exact⟨rfl,fun i hi=>absurd hi (Nat.not_lt_zero i)⟩
  |some k=>
   unfold gN at h;cases e:gN r with
   |none=>rw[e]at h;cases h
   |some i=>
    rw[e]at h;cases h;obtain⟨h1,h2⟩:=ih e;refine⟨by simpa using h1,fun x hi=>?_⟩;cases x with
    |zero=>simp
    |succ i'=>simpa using h2 i' (by have hi:i'+1<i+1:=hi;omega)
theorem rV{K:List (Option Cl)}(h:gN K=none)(i:Nat):K[i]? ≠some none:=by
 induction K generalizing i with
 |nil=>simp
 |cons a r ih=>
  cases a with
  |none=>cases h
  |some k=>
   unfold gN at h;cases e:gN r with
   |some i=>rw[e]at h;cases h
   |none=>
    cases i with
    |zero=>simp
    |succ i=>simpa using ih e i
def Fy.jr(f:Fy)(u:Int)(s:ByteArray):Int:=match cH f.K u with|none=>2|some k=>if 1024<k.aO.size+s.size then 6 else 0
def Fy.send(f:Fy)(u:Int)(s:ByteArray):Fy:={f with K:=match cH f.K u with|none=>f.K|some k=>if 1024<k.aO.size+s.size then f.K else iZ u (Cl.send s) f.K}
def Fy.jw(f:Fy)(u n:Int):ByteArray:=match cH f.K u with|none=>⟨#[]⟩|some k=>if n<0 then⟨#[]⟩else k.out.extract 0 (min n k.out.size).toNat
def Fy.jv(f:Fy)(u n:Int):Int:=match cH f.K u with|none=>2|some _=>if n<0 then 5 else 0
def Fy.take(f:Fy)(u n:Int):Fy:={f with K:=match cH f.K u with|none=>f.K|some k=>if n<0 then f.K else iZ u (Cl.take (min n k.out.size).toNat) f.K}
def Fy.nP(f:Fy)(u:Int):Int:=match cH f.K u with|none=>2|some _=>0
def Fy.jB(f:Fy)(u:Int):Fy:={f with K:=match cH f.K u with|none=>f.K|some _=>mj u f.K}
def Fy.fQ(f:Fy)(wt:Int):Int:=if f.stop then 0 else if gu wt 1 4=false then 0 else match gN f.K with|none=>0|some _=>f.av
def Fy.fP(f:Fy)(wt:Int):Int:=if f.stop then 4 else if gu wt 1 4=false then 5 else match gN f.K with|none=>3|some _=>0
def Fy.conn(f:Fy)(wt:Int):Fy:=if f.stop then f else if gu wt 1 4=false then f else match gN f.K with|none=>f|some j=>{f with K:=f.K.set j (some (Cl.fresh f.av wt f.bu)),av:=f.av+1}
def Fy.halt(f:Fy):Fy:={f with stop:=true}
def Fy.tells(f:Fy)(u:Int):Value:=match cH f.K u with|none=>.agg tR|some k=>MT k 0
def Fy.gp(f:Fy)(u:Int):Int:=match cH f.K u with|none=>2|some _=>0
def Cl.tick(f:Fy)(k:Cl):Cl:=if f.stop then k.eC f.rt f.bu else Cl.read f.sz f.mx f.ou (k.aO.size+1) (k.eC f.rt f.bu)
def Fy.tick(f:Fy):Fy:={f with K:=(f.K.map (Option.map (Cl.tick f))).map (Ek Cl.gone),clock:=f.clock+1}
theorem yJ(a b:ByteArray)(i:Nat)(h:i<a.size):bt (a++b) i=bt a i:=by
 have h1:i<(a++b).size:=by rw[ByteArray.size_append];omega
 rw[<-ep _ i h1,<-ep _ i h]
 congr 2
 exact ByteArray.getElem_append_left h
theorem yI(a b:ByteArray)(i:Nat)(h:a.size<=i)(h2:i<a.size+b.size):bt (a++b) i=bt b (i-a.size):=by
 have h1:i<(a++b).size:=by rw[ByteArray.size_append];omega
 rw[<-ep _ i h1,<-ep _ (i-a.size) (by omega)]
 congr 2
 exact ByteArray.getElem_append_right h
theorem fT.append{a b:ByteArray}(ha:fT a)(hb:fT b):fT (a++b):=fun i hi=>by
 rw[ByteArray.size_append]at hi
 by_cases h:i<a.size
 ·rw[yJ a b i h];exact ha i h
 ·rw[yI a b i (by omega) hi];exact hb _ (by omega)
section
variable {f:Fy} {n:Nat}
theorem Fy.Ok.mono(h:f.Ok n){m:Nat}(hm:n<=m):f.Ok m:=⟨h.cfg,h.len,h.vO,by have:=h.av;omega,by have:=h.clock;omega⟩
theorem Fy.Ok.send(h:f.Ok n)(u:Int){s:ByteArray}(hs:fT s):(f.send u s).Ok n:=by
 unfold Fy.send;cases hf:cH f.K u with
 |none=>exact⟨h.cfg,h.len,h.vO,h.av,h.clock⟩
 |some k=>
  dsimp only;split
  ·exact⟨h.cfg,h.len,h.vO,h.av,h.clock⟩
  ·rename_i hl;refine⟨h.cfg,(Gq ..).trans h.len,fun x hx=>?_,h.av,h.clock⟩;rcases Bz hx with hx|⟨k',h1,rfl⟩
   ·exact h.vO x hx
   ·rw[hf]at h1;cases h1;obtain⟨g1,g2,g3,g4,g5,g6⟩:=h.vO k (jK hf);refine⟨g1,g2.append hs,?_,g4,g5,g6⟩;show(k.aO++s).size<=1024;rw[ByteArray.size_append];omega
theorem Fy.Ok.take(h:f.Ok n)(u m:Int):(f.take u m).Ok n:=by
 unfold Fy.take;cases hf:cH f.K u with
 |none=>exact⟨h.cfg,h.len,h.vO,h.av,h.clock⟩
 |some k=>
  dsimp only;split
  ·exact⟨h.cfg,h.len,h.vO,h.av,h.clock⟩
  ·refine⟨h.cfg,(Gq ..).trans h.len,fun x hx=>?_,h.av,h.clock⟩;rcases Bz hx with hx|⟨k',h1,rfl⟩
   ·exact h.vO x hx
   ·obtain⟨g1,g2,g3,g4,g5,g6⟩:=h.vO k' (jK h1);refine⟨g1,g2,g3,?_,g5,g6⟩;show(k'.out.extract _ k'.out.size).size<=256;simp only[ByteArray.size_extract];omega
theorem Fy.Ok.jB(h:f.Ok n)(u:Int):(f.jB u).Ok n:=by
 unfold Fy.jB;cases hf:cH f.K u with
 |none=>exact⟨h.cfg,h.len,h.vO,h.av,h.clock⟩
 |some k=>exact⟨h.cfg,(Nn ..).trans h.len,fun x hx=>h.vO x (LA hx),h.av,h.clock⟩
theorem Fy.Ok.halt(h:f.Ok n):f.halt.Ok n:=⟨h.cfg,h.len,h.vO,h.av,h.clock⟩
theorem Fy.Ok.conn(h:f.Ok n)(wt:Int):(f.conn wt).Ok (n+1):=by
 unfold Fy.conn;split
 ·exact h.mono (Nat.le_succ _)
 ·split
  ·exact h.mono (Nat.le_succ _)
  ·rename_i hw;split
   ·exact h.mono (Nat.le_succ _)
   ·refine⟨h.cfg,by simpa using h.len,fun x hx=>?_,?_,?_⟩
    ·rcases LB hx with hx|rfl
     ·exact h.vO x hx
     ·have hb:=(bk h.cfg).2.2.2.2.2.2.1;unfold gu at hw;refine⟨⟨Int.le_refl 0,(by decide:(0:Int)<=2)⟩,fun i hi=>absurd hi (Nat.not_lt_zero i),Nat.zero_le _,Nat.zero_le _,?_,?_⟩
      ·show 1<=wt/\wt<=4;simpa using hw
      ·show 0<=f.bu/\f.bu<=32;omega
    ·have:=h.av;show 0<=f.av+1/\f.av+1<=((n+1:Nat):Int);omega
    ·have:=h.clock;show 0<=f.clock/\f.clock<=((n+1:Nat):Int);omega
theorem Gx.eC{k:Cl}(h:Gx k){rt bu:Int}(hr:1<=rt)(hb:1<=bu/\bu<=32):Gx (k.eC rt bu):=by refine⟨h.ph,h.jU,h.aO,h.out,h.wt,?_⟩;have:=h.tok;show 0<=(if k.tok+rt<=bu then k.tok+rt else bu)/\(if k.tok+rt<=bu then k.tok+rt else bu)<=32;split<;>omega
theorem Gx.tick{k:Cl}(h:Gx k)(hc:iV f.sz f.N f.qu f.mx f.qn f.rt f.bu f.wk f.ou=true):Gx (k.tick f)\/((k.tick f).ph=4/\(k.tick f).out.size=0):=by
 obtain⟨_,_,_,_,_,hr,hb,_,ho⟩:=bk hc;have he:=h.eC hr.1 hb;unfold Cl.tick;split
 ·exact .inl he
 ·obtain⟨g1,g2,g3,g4⟩:=sD f.sz f.mx f.ou (k.aO.size+1) (k.eC f.rt f.bu) he.ph he.jU;obtain⟨r1,r2,r3⟩:=Iv f.sz f.mx f.ou (k.aO.size+1) (k.eC f.rt f.bu);rcases g1 with g1|g1
  ·have:=he.aO;have:=he.out;exact .inl ⟨g1,g2,by omega,by omega,by rw[r2];exact he.wt,by rw[r3];exact he.tok⟩
  ·exact .inr g1
theorem Fy.Ok.tick(h:f.Ok n):f.tick.Ok (n+1):=by
 refine⟨h.cfg,by simpa[Fy.tick]using h.len,fun x hx=>?_,?_,?_⟩
 ·have hx:x∈iH ((f.K.map (Option.map (Cl.tick f))).map (Ek Cl.gone)):=hx;rw[qo,List.map_map]at hx;obtain⟨a,h1,h2⟩:=List.mem_map.1 hx;cases a with
  |none=>cases h2
  |some k=>
   have h2:(if(k.tick f).gone=true then none else some (k.tick f))=some x:=h2;split at h2
   ·cases h2
   ·rename_i hg;cases h2;rcases(h.vO k (qo.2 h1)).tick h.cfg with h3|⟨h3,h4⟩
    ·exact h3
    ·exact absurd (decide_eq_true ⟨by omega,h4⟩) hg
 ·have:=h.av;show 0<=f.av/\f.av<=((n+1:Nat):Int);omega
 ·have:=h.clock;show 0<=f.clock+1/\f.clock+1<=((n+1:Nat):Int);omega
theorem GP{k:Cl}(h:Gx k)(hc:iV f.sz f.N f.qu f.mx f.qn f.rt f.bu f.wk f.ou=true):(k.tick f).gone=decide ((k.tick f).ph=4):=by
 unfold Cl.gone;rcases h.tick hc with h1|⟨h1,h2⟩
 ·have:=h1.ph;rw[decide_eq_false (by omega),decide_eq_false (by omega)]
 ·rw[decide_eq_true ⟨by omega,h2⟩,decide_eq_true h1]
end
end
section
open Go.Proofs.Tryz
open Go Go.Conc Go.RowKit
section
variable [aR] {W W':World} {c rb mb ch:Nat} {sz cl qu mx qn rt bu wk ou de:Int} {k:Cl} {C:Nat->Prop}
theorem Closed.Ry(h:Closed C W)(hm:iR C c W W')(hA:aU W' c rb mb ch sz cl qu mx qn rt bu wk ou de k)(ho:lT C W' c rb mb ch):Closed C W':=qQ hA ho fun b hb hne=>by
 obtain⟨o,h1,h2⟩:=h b hb;rcases hm b hb hne with e|⟨x,y,T,e1,e2,e3⟩
 ·exact⟨o,e.trans h1,h2⟩
 ·rw[e1]at h1;cases h1;cases h2 with
  |@cells _ _ _ _ hx=>
   refine⟨_,e2,.cells _ _ ⟨rfl,fun i v v' hv hv'=>?_⟩⟩;rw[hv]at hv';cases hv';rcases e3 i v hv with⟨j,hj⟩|rfl
   ·exact hx.2 j v v hj hj
   ·exact .int _ _
theorem Dw(hA:aU W' c rb mb ch sz cl qu mx qn rt bu wk ou de k)(ho:lT C W' c rb mb ch)(hC:∀b,C b->b=c\/b=rb\/b=mb\/b=ch):Closed C W':=qQ hA ho fun b hb hne=>by
 obtain⟨rp,r1,_⟩:=hA.rd;rcases hC b hb with e|e|e|e
 ·exact absurd e hne
 ·subst e;refine⟨_,r1.box,.cells _ _ ⟨rfl,fun i v v' hv hv'=>?_⟩⟩;rw[hv]at hv';cases hv'
  match i,hv with
  |0,hv=>cases hv;exact .int _ _
  |1,hv=>cases hv;exact .int _ _
  |2,hv=>cases hv;exact .int _ _
  |3,hv=>cases hv;exact .map ⟨rfl,ho.dO.2.2.1⟩
  |n+4,hv=>simp at hv
 ·subst e;obtain⟨es,ck,e1,e2,e3,e4⟩:=r1.uses;have hes:es=#[]:=Array.eq_empty_of_size_eq_zero (Nat.le_zero.1 e3);subst hes;refine⟨_,e1,.map _ ⟨rfl,fun i v v' hv hv'=>?_⟩⟩;simp at hv
 ·subst e;exact⟨_,hA.chan,.chan _ _ _ _ _⟩
end
end
end Go.Proofs.YtpobhljcainmdaaGreat
