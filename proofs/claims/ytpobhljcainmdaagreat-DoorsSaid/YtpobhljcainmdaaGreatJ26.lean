/- Proved here: a part of what Doors keeps (Wk2, Wk3, Wz2). -/
import Derived.Test.YtpobhljcainmdaaGreatJ25
set_option maxRecDepth 100000
set_option maxHeartbeats 8000000
set_option linter.all false
namespace Go.Proofs.YtpobhljcainmdaaGreat
section
open Go Go.Conc Go.Conc.Lib Go.ConcR.Gen Go.ConcN.Gen
open Go.ConcN (ShN WgLive RW PayAt Has AtR0 AtK1 AtD1 AtD2 AtD3 AtD4 DWs EvW)
open Go.ConcR (KK WgAt stA smA rd wr mk Payload DC0)
section
variable [aR] [aB] [Payload] {P:Program} {ty:TypeId} {Wg C n:Nat} {O:Nat->Prop} {Q:(Nat->Prop)->World->Prop}
theorem dh(hC:O C){i:Nat}{w w₁:World}(r:Rel ty Wg O w w₁):RW ty Wg C n 0 i w w₁:=
 ⟨fun b hb=>absurd hb (Nat.not_lt_zero _),r.live,fun⟨cs,h1,h2⟩=>⟨cs,(r.own C hC).trans h1,h2⟩,by unfold World.cell?;simp only[r.own C hC]⟩
theorem ia(Low i:Nat)(w:World):RW ty Wg C n Low i w w:=⟨fun _ _ _ _=>rfl,id,id,rfl⟩
theorem GS{w w':World}(h:w'.heap.size=w.heap.size):dQ O w w'=O:=by
 funext b
 apply propext;constructor
 ·rintro(h1|⟨h1,h2⟩)
  ·exact h1
  ·omega
 ·exact .inl
theorem RB:#[MemAct.mark .disable]=#[mk .disable].map MemAct.ofEvent:=by simp[mk,MemAct.ofEvent]
theorem RD(Wg:Nat):#[MemAct.mark (.releaseMerge (stA Wg))]=#[mk (.releaseMerge (stA Wg))].map MemAct.ofEvent:=by simp[mk,MemAct.ofEvent]
theorem oU{p:Ph}{g:Goroutine}{w:World}(hp:p≠.quit)(hg:g.status=.running)(q:World->Ph)(Wk:p=.gF->mayWake P g=true)
  (h:∀w₁,Rel ty Wg O w w₁->yC ty Wg p w₁->∃g' w' es,stepG P false g w₁=.go g' w' es/\eE ty Wg O w₁ p w' (es.map .ofEvent) (q w₁)/\w'.heap.size=w₁.heap.size/\WS P ty Wg Q (q w₁) O g' w'):WS P ty Wg Q p O g w:=by
 refine .step hp hg q (fun w₁ r e=>?_) (fun w₁ r e el _=>⟨Wk el,by obtain⟨g',w',es,h1,_⟩:=h w₁ r e;exact⟨g',w',es,h1⟩⟩) fun w₁ g' w' aD r e ht=>?_
 ·obtain⟨g',w',es,h1,h2,_,_⟩:=h w₁ r e;exact⟨g',w',_,.go h1,h2⟩
 ·obtain⟨g2,w2,es,h1,_,h3,h4⟩:=h w₁ r e;obtain⟨rfl,rfl,rfl⟩:=mU h1 ht;rw[GS h3];exact h4
theorem Wo(hW:¬O Wg){wb:World}(hQ:∀w₁,Rel ty Wg O wb w₁->Q O w₁){g:Goroutine}{w:World}(hb:Rel ty Wg O wb w)(h:∀w₁,Rel ty Wg O w w₁->AtD4 P ty Wg g w₁):WS P ty Wg Q .gF O g w:=by obtain⟨hg,hm,_⟩:=h w (.refl ..);refine oU (by simp) hg (fun _=>.quit) (fun _=>hm) fun w₁ r e=>?_;obtain⟨g',h1,q,h2⟩:=(h w₁ r).2.2 e;exact⟨g',_,_,h1,.post,by simp,.quit h2 fun w₂ h₂=>hQ w₂ ((hb.trans r).trans ((gy rfl hW ⟨_,_,e.setSm _⟩).trans h₂))⟩
theorem Wn(hC:O C)(hW:¬O Wg){wb:World}(hQ:∀w₁,Rel ty Wg O wb w₁->Q O w₁){g:Goroutine}{w:World}(hb:Rel ty Wg O wb w)(h:∀w₁,Rel ty Wg O w w₁->AtD3 P ty Wg C n 0 1 g w₁):WS P ty Wg Q .nS O g w:=by refine oU (by simp) (h w (.refl ..)).1 (fun _=>.gF) (fun e=>by cases e) fun w₁ r e=>?_;obtain⟨g',h1,m,h2⟩:=(h w₁ r).2 e;exact⟨g',_,_,h1,.zero,by simp,gv (by simp) (by simp) (fun _ _ r=>dh hC r) (fun g w hb h=>Wo hW hQ hb h) m g' _ ((hb.trans r).trans (gy rfl hW ⟨_,_,e.setSt _⟩)) h2⟩
theorem Wm(hC:O C)(hW:¬O Wg){wb:World}(hQ:∀w₁,Rel ty Wg O wb w₁->Q O w₁){g:Goroutine}{w:World}(hb:Rel ty Wg O wb w)(h:∀w₁,Rel ty Wg O w w₁->AtD2 P ty Wg C n 0 1 g w₁):WS P ty Wg Q .jV O g w:=by refine oU (by simp) (h w (.refl ..)).1 (fun _=>.nS) (fun e=>by cases e) fun w₁ r e=>?_;obtain⟨g',h1,m,h2⟩:=(h w₁ r).2 e;exact⟨g',_,_,h1,.look,rfl,gv (by simp) (by simp) (fun _ _ r=>dh hC r) (fun g w hb h=>Wn hC hW hQ hb h) m g' _ (hb.trans r) h2⟩
open Classical in
theorem Wl(hC:O C)(hW:¬O Wg){wb:World}(hQ:∀w₁,Rel ty Wg O wb w₁->Q O w₁){g:Goroutine}{w:World}(hb:Rel ty Wg O wb w)(h:∀w₁,Rel ty Wg O w w₁->AtD1 P ty Wg C n 0 1 g w₁):WS P ty Wg Q .deaf O g w:=by
 refine oU (by simp) (h w (.refl ..)).1 (fun w₁=>if WgAt ty Wg w₁ (KK+1) 0 then .jV else .quit) (fun e=>by cases e) fun w₁ r e=>?_;obtain⟨v,wt,hw,hv,hat⟩:=e;obtain⟨g',h1,h2,h3⟩:=(h w₁ r).2 v wt hw hv hat
 by_cases qc:v=0/\wt=1
 ·have hh:WgAt ty Wg w₁ (KK+1) 0:=by obtain⟨rfl,rfl⟩:=qc;simpa using hat
  refine⟨g',_,_,h1,?_,by simp,?_⟩
  ·rw[if_pos hh];exact .add hat hw hv (.inl ⟨qc.1,qc.2,rfl⟩)
  ·rw[if_pos hh];obtain⟨m,h4⟩:=h2 qc;exact gv (by simp) (by simp) (fun _ _ r=>dh hC r) (fun g w hb h=>Wm hC hW hQ hb h) m g' _ ((hb.trans r).trans (gy rfl hW ⟨_,_,hat.setSt _⟩)) h4
 ·have hh:¬WgAt ty Wg w₁ (KK+1) 0:=fun hh=>qc (by
   have:=(hat.unique hh).1;simp only[KK]at this;omega)
  refine⟨g',_,_,h1,?_,by simp,?_⟩
  ·rw[if_neg hh];exact .add hat hw hv (.inr ⟨qc,rfl⟩)
  ·rw[if_neg hh];obtain⟨q,h4⟩:=h3 qc;exact .quit h4 fun w₂ h₂=>hQ w₂ ((hb.trans r).trans ((gy rfl hW ⟨_,_,hat.setSt _⟩).trans h₂))
theorem Wp(hC:O C)(hW:¬O Wg){wb:World}(hQ:∀w₁,Rel ty Wg O wb w₁->Q O w₁){g:Goroutine}{w:World}(hb:Rel ty Wg O wb w)(h:∀w₁,Rel ty Wg O w w₁->AtK1 P ty Wg C n 0 1 g w₁):WS P ty Wg Q .said O g w:=by refine oU (by simp) (h w (.refl ..)).1 (fun _=>.deaf) (fun e=>by cases e) fun w₁ r _=>?_;obtain⟨_,g',h1,m,h2⟩:=h w₁ r;exact⟨g',_,_,h1,RB▸.DC,rfl,gv (by simp) (by simp) (fun _ _ r=>dh hC r) (fun g w hb h=>Wl hC hW hQ hb h) m g' _ (hb.trans r) h2⟩
variable {val:Value}
theorem Ij:∀(a m:Nat) (g:Goroutine) (w:World),Goes P false (Rel ty Wg O) DC0 (ZR2 P) a g w->Goes P false (RW ty Wg C n 0 (1-1)) (DWs Wg (fun _ _=>False) (fun _ _=>False) C n 1) (AtR0 P ty Wg C n 0 1 val) m g w->False:=by
 intro a;induction a with
 |zero=>
  intro m g w h k;obtain⟨hg,g',h1⟩:=h w (.refl ..);cases m with
  |zero=>
   obtain⟨_,_,g2,h2,_⟩:=k w (ia ..);rw[h1]at h2;cases h2
  |succ m=>
   rcases k with k|⟨_,k⟩
   ·obtain⟨_,_,g2,h2,_⟩:=k w (ia ..);rw[h1]at h2;cases h2
   ·have:=k w (ia ..);rw[h1]at this;exact(this.1.2 (mk .disable) (by simp)).2.1 rfl
 |succ a ih=>
  intro m g w h k;rcases h with h|⟨hg,h⟩
  ·obtain⟨hg,g',h1⟩:=h w (.refl ..);cases m with
   |zero=>
    obtain⟨_,_,g2,h2,_⟩:=k w (ia ..);rw[h1]at h2;cases h2
   |succ m=>
    rcases k with k|⟨_,k⟩
    ·obtain⟨_,_,g2,h2,_⟩:=k w (ia ..);rw[h1]at h2;cases h2
    ·have:=k w (ia ..);rw[h1]at this;exact(this.1.2 (mk .disable) (by simp)).2.1 rfl
  ·have h0:=h w (.refl ..);cases hst:stepG P false g w with
   |go g' w' es=>
    rw[hst]at h0;obtain⟨⟨rfl,rfl⟩,h2⟩:=h0;cases m with
    |zero=>
     obtain⟨_,_,g2,h3,_⟩:=k w' (ia ..);rw[hst]at h3;cases h3
    |succ m=>
     rcases k with k|⟨_,k⟩
     ·obtain⟨_,_,g2,h3,_⟩:=k w' (ia ..);rw[hst]at h3;cases h3
     ·have:=k w' (ia ..);rw[hst]at this;exact ih m g' w' h2 this.2
   |_=>rw[hst]at h0;exact h0.elim
theorem OU(hC:O C)(hW:¬O Wg){wb:World}(hQ:∀w₁,Rel ty Wg O wb w₁->Q O w₁):∀(a m:Nat) (g:Goroutine) (w:World),Rel ty Wg O wb w->Goes P false (Rel ty Wg O) DC0 (XM P ty Wg O) a g w->Goes P false (RW ty Wg C n 0 (1-1)) (DWs Wg (fun _ _=>False) (fun _ _=>False) C n 1) (AtR0 P ty Wg C n 0 1 val) m g w->WS P ty Wg Q .work O g w:=by
 have stop:∀(m:Nat) (g:Goroutine) (w:World),Rel ty Wg O wb w->(∀w₁,Rel ty Wg O w w₁->XM P ty Wg O g w₁)->Goes P false (RW ty Wg C n 0 (1-1)) (DWs Wg (fun _ _=>False) (fun _ _=>False) C n 1) (AtR0 P ty Wg C n 0 1 val) m g w->WS P ty Wg Q .work O g w:=by
  intro m g w hb h k;refine oU (by simp) (h w (.refl ..)).1 (fun _=>.said) (fun e=>by cases e) fun w₁ r _=>?_;obtain⟨_,g',h1,a,h2⟩:=h w₁ r
  have hR:AtR0 P ty Wg C n 0 1 val g w₁:=by
   cases m with
   |zero=>exact k w₁ (dh hC r)
   |succ m=>
    rcases k with k|⟨_,k⟩
    ·exact k w₁ (dh hC r)
    ·have:=k w₁ (dh hC r);rw[h1]at this;exact(Ij a m g' w₁ h2 this.2).elim
  obtain⟨_,_,g2,h3,m2,h4⟩:=hR;exact⟨g2,_,_,h3,(RD Wg)▸.rel,rfl,gv (by simp) (by simp) (fun _ _ r=>dh hC r) (fun g w hb h=>Wp hC hW hQ hb h) m2 g2 _ (hb.trans r) h4⟩
 intro a;induction a with
 |zero=>exact fun m g w hb h k=>stop m g w hb h k
 |succ a ih=>
  intro m g w hb h k;rcases h with h|⟨hg,h⟩
  ·exact stop m g w hb h k
  refine oU (by simp) hg (fun _=>.work) (fun e=>by cases e) fun w₁ r _=>?_;have h0:=h w₁ r;cases hst:stepG P false g w₁ with
  |go g' w' es=>
   rw[hst]at h0;obtain⟨⟨rfl,rfl⟩,h2⟩:=h0;refine⟨g',w',#[],rfl,.own ⟨fun _ _ _=>rfl,Nat.le_refl _,rfl,rfl,rfl⟩ (fun a ha=>by simp at ha),rfl,?_⟩;cases m with
   |zero=>
    obtain⟨_,_,g2,h3,_⟩:=k w' (dh hC r);rw[hst]at h3;cases h3
   |succ m=>
    rcases k with k|⟨_,k⟩
    ·obtain⟨_,_,g2,h3,_⟩:=k w' (dh hC r);rw[hst]at h3;cases h3
    ·have:=k w' (dh hC r);rw[hst]at this;exact ih m g' w' (hb.trans r) h2 this.2
  |_=>rw[hst]at h0;exact h0.elim
theorem MF{L:WgLink}(H:WgLib P L)(hC:O C)(hW:¬O Wg){c:Frame}{cs:List Frame}{qt:Nat}(hcm:c.mode=.returning)(hT:QuitsD P qt 0 (G c cs)){w:World}(hK:WgLive L.tWg Wg w)(hv:Has C 0 val w)(hQ:∀w₁,Rel L.tWg Wg O w w₁->Q O w₁):
  WS P L.tWg Wg Q .work O (G ((baseD L.done).at ⟨#[.pointer (some ⟨Wg,0,none⟩),undef,undef,undef],[]⟩ [.code (body_done L)]) (c::cs)) w:=
 OU (n:=0) hC hW hQ _ _ _ _ (.refl ..) (yL H w hK) (doneN (k:=1) (Low:=0) (val:=val) H hcm hT w ⟨hK,hv⟩)
end
end
section
open Go Go.Conc
open Go.ConcN (ShN WgLive)
open Go.ConcR (KK WgAt stA smA rd wr mk)
section
variable [aR] [aB] {P:Program} {ty:TypeId} {Wg:Nat} {O:Nat->Prop} {Q:(Nat->Prop)->World->Prop}
theorem eE.det{w w':World}{p q q':Ph}{aD:Array MemAct}(h:eE ty Wg O w p w' aD q)(k:eE ty Wg O w p w' aD q'):q=q':=by
 generalize hw:w'=w2 at k;generalize ha:aD=Pb at k;cases h with
 |own h1 h2=>
  cases k with
  |own=>rfl
  |rel=>subst ha;exact absurd rfl ((h2 _ (by simp)).RO (stA Wg))
  |idle hp=>exact absurd rfl hp
 |rel=>
  cases k with
  |own h1 h2=>subst ha;exact absurd rfl ((h2 _ (by simp)).RO (stA Wg))
  |rel=>rfl
  |idle hp=>exact absurd rfl hp
 |idle hp hq=>
  cases k with
  |own=>exact absurd rfl hp
  |rel=>exact absurd rfl hp
  |idle=>rfl
  |DC=>simp at ha
  |add=>simp at ha
  |look=>simp at ha
  |zero=>simp at ha
  |post=>simp[semEvents]at ha
 |DC=>
  cases k with
  |idle=>simp at ha
  |DC=>rfl
 |@add v wt h1 h2 h3 _ hq=>
  cases k with
  |idle=>simp at ha
  |@add v' wt' k1 k2 k3 _ kq=>
   have e:=(h1.unique k1).1;simp only[KK]at e;have e1:v=v':=by omega
   have e2:wt=wt':=by omega
   subst e1 e2;rcases hq with⟨a,b,rfl⟩|⟨a,rfl⟩<;>rcases kq with⟨c,d,rfl⟩|⟨c,rfl⟩
   ·rfl
   ·exact absurd ⟨a,b⟩ c
   ·exact absurd ⟨c,d⟩ a
   ·rfl
 |look=>
  cases k with
  |idle=>simp at ha
  |look=>rfl
 |zero=>
  cases k with
  |idle=>simp at ha
  |zero=>rfl
 |post=>
  cases k with
  |idle=>simp[semEvents]at ha
  |post=>rfl
structure xw where
 p:Ph
 O:Nat->Prop
 g:Goroutine
 w:World
 n:Nat
def lV(P:Program)(ty:TypeId)(Wg:Nat)(s' s:xw):Prop:=
 (s.p≠.quit/\∃w₁ aD,Rel ty Wg s.O s.w w₁/\yC ty Wg s.p w₁/\iU P false s.g w₁ s'.g s'.w aD/\eE ty Wg s.O w₁ s.p s'.w aD s'.p/\s'.O=dQ s.O w₁ s'.w)\/
 (s.p=.quit/\s'.p=.quit/\s'.n<s.n)
def Gz(ty:TypeId)(Wg:Nat)(s s':xw):Prop:=s'.p=s.p/\s'.O=s.O/\s'.g=s.g/\s'.n=s.n/\Rel ty Wg s.O s.w s'.w
theorem Ji(s s' x:xw)(h:Gz ty Wg s s')(k:lV P ty Wg x s'):lV P ty Wg x s:=by
 obtain⟨h1,h2,h3,h4,h5⟩:=h;rcases k with⟨k1,w₁,aD,k2,k3,k4,k5,k6⟩|⟨k1,k2,k3⟩
 ·rw[h2]at k2 k5 k6;rw[h1]at k1 k3 k5;rw[h3]at k4;exact .inl ⟨k1,w₁,aD,h5.trans k2,k3,k4,k5,k6⟩
 ·exact .inr ⟨h1▸k1,k2,h4▸k3⟩
theorem ue:∀(n:Nat) (s:xw),s.p=.quit->s.n<=n->Acc (lV P ty Wg) s
 |0,s,h,hn=>.intro _ fun s' hd=>by
  rcases hd with⟨k1,_⟩|⟨_,_,k3⟩
  ·exact absurd h k1
  ·omega
 |n+1,s,h,hn=>.intro _ fun s' hd=>by
  rcases hd with⟨k1,_⟩|⟨_,k2,k3⟩
  ·exact absurd h k1
  ·exact ue n s' k2 (by omega)
theorem SB{p:Ph}{g:Goroutine}{w:World}(h:WS P ty Wg Q p O g w):∀n,Acc (lV P ty Wg) ⟨p,O,g,w,n⟩:=by
 induction h with
 |quit h hq=>exact fun n=>ue n _ rfl (Nat.le_refl _)
 |@step p O g w hp hg q h _ _ ih=>
  refine fun n=>.intro _ fun s' hd=>?_;rcases hd with⟨_,w₁,aD,r,e,ht,ho,hO⟩|⟨k1,_⟩
  ·obtain⟨g2,w2,Pb,h1,h2⟩:=h w₁ r e;obtain⟨e1,e2,e3⟩:=wo ht h1;obtain⟨p',O',g',w',n'⟩:=s';simp only at ht ho hO e1 e2;subst e1 e2 e3;have:=ho.det h2;subst this hO;exact ih w₁ _ _ _ r e ht n'
  ·exact absurd k1 hp
theorem Da{Q:Nat->(Nat->Prop)->World->Prop}(n:Nat)(f:Nat->xw)(h:∀i,i<n->(f i).p=.quit\/WS P ty Wg (Q i) (f i).p (f i).O (f i).g (f i).w):Acc (Down (lV P ty Wg) (Gz ty Wg) n) f:=
 yP Ji n f fun i hi=>(h i hi).elim (fun e=>ue _ _ e (Nat.le_refl _)) fun e=>SB e _
end
end
section
open Go Go.Conc Go.ConcN Go.RowKit Go.Conc.Lib Go.ConcR.Gen Go.ConcN.Gen
open Go.ConcR (KK wgBlock WgAt stA smA rd wr mk Payload Aside2 DC0)
section
variable (P:Program) (ty:TypeId) (Wg:Nat) (O:Nat->Prop) (Fin Anch:Goroutine->World->Prop)
def ZAq(g:Goroutine)(w:World):Prop:=g.status=.running/\∃g',stepG P true g w=.go g' w #[mk (.acquire (stA Wg))]/\∃m,Goes P true (Rel ty Wg O) (DZ Wg) Fin m g' w
def XL(g:Goroutine)(w:World):Prop:=g.status=.running/\∃g',stepG P true g w=.go g' w #[mk .enable]/\∃m,Goes P true (Rel ty Wg O) (DZ Wg) (ZAq P ty Wg O Fin) m g' w
def ZW4(g:Goroutine)(w:World):Prop:=g.status=.running/\(WgAt ty Wg w 0 0->∃g',stepG P true g w=.go g' w #[rd (stA Wg)]/\∃m,Goes P true (Rel ty Wg O) (DZ Wg) (XL P ty Wg O Fin) m g' w)
def ZW3(g:Goroutine)(w:World):Prop:=g.status=.running/\g.offers=none/\
 ((∃st,WgAt ty Wg w st 0)->stepG P true g w=.go {g with status:=.blocked} w #[])/\
 (WgAt ty Wg w 0 1->∃g',stepG P true g w=.go g' (w.setCell (smA Wg) (.int .u32 0)) (semEvents (smA Wg))/\∃m,Goes P true (Rel ty Wg O) (DZ Wg) (ZW4 P ty Wg O Fin) m g' (w.setCell (smA Wg) (.int .u32 0)))
def ZW2(vs:Nat)(g:Goroutine)(w:World):Prop:=g.status=.running/\∀v:Nat,v<2147483648->WgAt ty Wg w (v*KK) 0->
 (v=vs->∃g',stepG P true g w=.go g' (w.setCell (stA Wg) (.int .u64 (v*KK+1))) #[rd (stA Wg),wr (stA Wg)]/\∃m,Goes P true (Rel ty Wg O) (DZ Wg) (ZW3 P ty Wg O Fin) m g' (w.setCell (stA Wg) (.int .u64 (v*KK+1))))/\
 (v≠vs->∃g',stepG P true g w=.go g' w #[rd (stA Wg)]/\∃m,Goes P true (Rel ty Wg O) (DZ Wg) Anch m g' w)
def Wy(g:Goroutine)(w:World):Prop:=g.status=.running/\∀v:Nat,v<2147483648->WgAt ty Wg w (v*KK) 0->∃g',stepG P true g w=.go g' w #[rd (stA Wg)]/\
 (v=0->∃m,Goes P true (Rel ty Wg O) (DZ Wg) (XL P ty Wg O Fin) m g' w)/\(v≠0->∃m,Goes P true (Rel ty Wg O) (DZ Wg) (ZW2 P ty Wg O Fin Anch v) m g' w)
def ZDi(g:Goroutine)(w:World):Prop:=g.status=.running/\∃g',stepG P true g w=.go g' w #[mk .disable]/\∃m,Goes P true (Rel ty Wg O) (DZ Wg) Anch m g' w
end
def JL(L:WgLink)(Wg:Nat)(c:Frame)(cs:List Frame)(g:Goroutine)(w:World):Prop:=
 ∃T:Array Value,g=G ((base L.wait).at ⟨T,[]⟩ [.code (L7 L),.inLoop (L7 L),.inBlock 0]) (c::cs)/\T.size=84/\T[0]? =some (.pointer (some ⟨Wg,0,none⟩))/\WgLive L.tWg Wg w
section
variable {L:WgLink} {Wg:Nat} {O:Nat->Prop} {b₀:Frame} {a₀:Act} {ops₀:Array Oper} {i₀:Nat} {rest₀:List Nat} {k₀:List Item} {cs:List Frame} {Fin:Goroutine->World->Prop}
theorem Ay{P:Program}(H:WgLib P L)(w:World)(hK:WgLive L.tWg Wg w):
  Goes P true (Rel L.tWg Wg O) (DZ Wg) (ZDi P L.tWg Wg O (JL L Wg (b₀.at a₀ (.inRegion ops₀ (i₀::rest₀)::k₀)) cs)) 40 (G ((base L.wait).at ⟨#[.pointer (some ⟨Wg,0,none⟩),undef,undef,undef,undef,undef,undef,undef,undef,undef,undef,undef,undef,undef,undef,undef,undef,undef,undef,undef,undef,undef,undef,undef,undef,undef,undef,undef,undef,undef,undef,undef,undef,undef,undef,undef,undef,undef,undef,undef,undef,undef,undef,undef,undef,undef,undef,undef,undef,undef,undef,undef,undef,undef,undef,undef,undef,undef,undef,undef,undef,undef,undef,undef,undef,undef,undef,undef,undef,undef,undef,undef,undef,undef,undef,undef,undef,undef,undef,undef,undef,undef,undef,undef],[]⟩ [.code (body_wait L)]) (b₀.at a₀ (.inRegion ops₀ (i₀::rest₀)::k₀)::cs)) w:=by
 lib_facts
 simp only[body_wait,waitFn,Option.getD_some];refine cg ?_;u_c stepG_seq lr hK;u_cond true lr hK;u_reg lr hK;refine Goes.stop (fun _ hr=>?_);replace hK:=lr hK hr;clear hr;refine⟨rfl,_,stepG_mark0 .disable (by simp) rfl rfl (by k_ne) rfl H.f_disable (x_disable_n L) (x_disable_b L) (x_disable_x L) (x_disable_f L),40,?_⟩;refine cg ?_
 walk_nrm
 u_c stepG_region_end lr hK;u_c stepG_block lr hK;u_c stepG_loop lr hK;exact Goes.stop fun w₂ r=>⟨_,rfl,by simp,by simp,lr hK r⟩
theorem Fu{P:Program}(H:WgLib P L)(hT:∀w,WgLive L.tWg Wg w->Fin (G (b₀.at (a₀.put ((ops₀[i₀]?).bind (·.dst)) (.tuple #[])) (.inRegion ops₀ rest₀::k₀)) cs) w)
  (g:Goroutine) (w:World) (h:JL L Wg (b₀.at a₀ (.inRegion ops₀ (i₀::rest₀)::k₀)) cs g w):
  ∃m,Goes P true (Rel L.tWg Wg O) (DZ Wg) (Wy P L.tWg Wg O Fin (JL L Wg (b₀.at a₀ (.inRegion ops₀ (i₀::rest₀)::k₀)) cs)) m g w:=by
 lib_facts
 obtain⟨T,rfl,YP,t0,hK⟩:=h;obtain⟨v0,v1,v2,v3,v4,v5,v6,v7,v8,v9,v10,v11,v12,v13,v14,v15,v16,v17,v18,v19,v20,v21,v22,v23,v24,v25,v26,v27,v28,v29,v30,v31,v32,v33,v34,v35,v36,v37,v38,v39,v40,v41,v42,v43,v44,v45,v46,v47,v48,v49,v50,v51,v52,v53,v54,v55,v56,v57,v58,v59,v60,v61,v62,v63,v64,v65,v66,v67,v68,v69,v70,v71,v72,v73,v74,v75,v76,v77,v78,v79,v80,v81,v82,v83,rfl⟩:=array84 T YP;simp only[List.getElem?_toArray,List.getElem?_cons_zero,Option.some.injEq]at t0;subst t0;refine⟨60,?_⟩;simp only[L7,body_wait,waitFn,Option.getD_some];refine cg ?_;u_c stepG_block lr hK;u_c stepG_seq lr hK;u_reg lr hK;u_op lr hK;u_op lr hK;u_op lr hK;u_call H.f_uLoad (nm_uLoad L) uLoadFn lr hK;u_c stepG_seq lr hK;u_reg lr hK;u_op lr hK;u_c stepG_region_end lr hK;u_c stepG_seq lr hK;u_reg lr hK;u_op lr hK;u_op lr hK;u_op lr hK;refine Goes.stop (fun _ hr=>?_);replace hK:=lr hK hr;clear hr;refine⟨rfl,fun v hv hw=>?_⟩;rcases Nat.eq_zero_or_pos v with rfl|hvp
 ·replace hw:=show WgAt L.tWg Wg _ 0 0 from by simpa using hw
  refine⟨_,stepG_load_atomic (v:=0) rfl rfl (by k_ne) rfl H.f_loadU64 (x_loadU64_n L) (x_loadU64_b L) (x_loadU64_x L) .u64 (x_loadU64_f L) rfl hw.cellSt,fun _=>⟨60,?_⟩,fun h=>absurd rfl h⟩;clear hw;refine cg ?_
  walk_nrm
  u_op lr hK;u_c stepG_region_end lr hK;u_c stepG_ret' lr hK;u_leave1 H.f_uLoad lr hK;u_op lr hK;u_c stepG_region_end lr hK;u_c stepG_seq lr hK;u_reg lr hK;u_op lr hK;u_op lr hK;u_op lr hK;u_op lr hK;u_c stepG_region_end lr hK;u_c stepG_seq lr hK;u_reg lr hK;u_op lr hK;u_op lr hK;u_op lr hK;u_op lr hK;u_c stepG_region_end lr hK;u_c stepG_seq lr hK;u_c stepG_seq lr hK;u_reg lr hK;u_op lr hK;u_op lr hK;u_c stepG_region_end lr hK;u_cond true lr hK;u_c stepG_seq lr hK;u_cond true lr hK;u_c stepG_seq lr hK;u_reg lr hK;refine Goes.stop (fun _ hr=>?_);replace hK:=lr hK hr;clear hr;refine⟨rfl,_,stepG_mark0 .enable (by simp) rfl rfl (by k_ne) rfl H.f_enable (x_enable_n L) (x_enable_b L) (x_enable_x L) (x_enable_f L),40,?_⟩;refine cg ?_
  walk_nrm
  u_c stepG_region_end lr hK;u_reg lr hK;u_op lr hK
  u_conv H.underlying_tWgP H.room_tWg (WgLive.cell0 hK).choose_spec lr hK
  refine Goes.stop (fun _ hr=>?_);replace hK:=lr hK hr;clear hr;refine⟨rfl,_,stepG_markAt .acquire (by simp) rfl rfl (by k_ne) rfl H.f_acquire (x_acquire_n L) (x_acquire_b L) (x_acquire_x L) (x_acquire_f L) (by simp[Act.eval,stA]),40,?_⟩;refine cg ?_
  walk_nrm
  u_c stepG_region_end lr hK;u_c stepG_seq lr hK;u_c stepG_seq lr hK;u_reg lr hK;u_op lr hK;u_op lr hK;u_op lr hK;u_op lr hK;u_op lr hK;u_op lr hK;u_op lr hK;u_op lr hK;u_skip lr hK;u_skip lr hK;u_op lr hK;u_c stepG_region_end lr hK;u_cond false lr hK;u_c stepG_skip lr hK;u_c stepG_ret' lr hK
  u_leave0 H.f_wait lr hK
  exact Goes.stop fun w₁ r=>hT _ (lr hK r)
 ·obtain⟨S,hS⟩:∃S:Int,(v:Int) *KK=S:=⟨_,rfl⟩;have a1:S / 4294967296=(v:Int):=by rw[<-hS];simp only[KK];omega
  have b1:bits .and .u64 S 2147483648=0:=by rw[<-hS];have:=st_flag v 0 (by omega) (by omega);simpa[KK]using this
  have b2:bits .and .u64 S 2147483647=0:=by rw[<-hS];have:=st_waiters v 0 (by omega) (by omega);simpa[KK]using this
  have c1:IntKind.i32.wrap (v:Int)=(v:Int):=by rw[IntKind.wrap_i32];omega
  have w1:IntKind.u64.wrap (S+1)=S+1:=by rw[IntKind.wrap_u64,<-hS];simp only[KK];omega
  have q3:decide ((v:Int)<0)=false:=decide_eq_false (by omega);have q4:decide (0<(v:Int))=true:=decide_eq_true (by omega);have q5:((v:Int)==0)=false:=by simp;omega
  have q6:decide ((v:Int)=0)=false:=decide_eq_false (by omega);rw[hS]at hw;refine⟨_,stepG_load_atomic (v:=S) rfl rfl (by k_ne) rfl H.f_loadU64 (x_loadU64_n L) (x_loadU64_b L) (x_loadU64_x L) .u64 (x_loadU64_f L) rfl hw.cellSt,fun h0=>absurd h0 (by omega),fun _=>⟨100,?_⟩⟩;clear hw;refine cg ?_
  walk_nrm
  u_op lr hK;u_c stepG_region_end lr hK;u_c stepG_ret' lr hK;u_leave1 H.f_uLoad lr hK;u_op lr hK;u_c stepG_region_end lr hK;u_c stepG_seq lr hK;u_reg lr hK;u_op lr hK;u_op lr hK;u_op lr hK;u_op lr hK;u_c stepG_region_end lr hK;u_c stepG_seq lr hK;u_reg lr hK;u_op lr hK;u_op lr hK;u_op lr hK;u_op lr hK;u_c stepG_region_end lr hK;u_c stepG_seq lr hK;u_c stepG_seq lr hK;u_reg lr hK;u_op lr hK;u_op lr hK;u_c stepG_region_end lr hK;u_cond false lr hK;u_c stepG_skip lr hK;u_c stepG_seq lr hK;u_reg lr hK;u_op lr hK;u_op lr hK;u_op lr hK;u_op lr hK;u_op lr hK;u_op lr hK;u_call H.f_uCas (nm_uCas L) uCasFn lr hK;u_c stepG_seq lr hK;u_reg lr hK;u_op lr hK;u_c stepG_region_end lr hK;u_c stepG_seq lr hK;u_reg lr hK;u_op lr hK;u_op lr hK;u_op lr hK;u_op lr hK;u_op lr hK;refine Goes.stop (fun _ hr=>?_);replace hK:=lr hK hr;clear hr;refine⟨rfl,fun v' hv' hw=>⟨fun e=>?_,fun e=>?_⟩⟩
  ·subst e;rw[hS]at hw⊢;refine⟨_,(stepG_cas_hit (v:=S) (n:=S+1) rfl rfl (by k_ne) rfl H.f_casU64 (x_casU64_n L) (x_casU64_b L) (x_casU64_x L) .u64 (x_casU64_f L) rfl rfl rfl hw.cellSt (hw.thaw 0)).trans (by rfl),100,?_⟩
   replace hK:WgLive L.tWg Wg (World.setCell _ (stA Wg) (.int .u64 (S+1))):=⟨_,_,hw.setSt _⟩
   clear hw;refine xI (n:=50) (m:=49) (fun _=>⟨fun _ _=>rfl,Nat.le_refl _,id,rfl⟩) ?_
   walk_nrm
   u_op lr hK;u_c stepG_region_end lr hK;u_c stepG_ret' lr hK;u_leave1 H.f_uCas lr hK;u_c stepG_region_end lr hK;u_cond true lr hK;u_c stepG_seq lr hK;u_c stepG_seq lr hK;u_reg lr hK;u_op lr hK;u_op lr hK;u_op lr hK;u_op lr hK;u_c stepG_region_end lr hK;u_cond true lr hK;u_reg lr hK;u_op lr hK;u_op lr hK;u_op lr hK
   u_conv H.underlying_tPU32 H.room_tU32 (WgLive.cell1 hK).choose_spec lr hK
   refine Goes.stop (fun _ hr=>?_);replace hK:=lr hK hr;clear hr;refine⟨rfl,_,_,stepG_markAt .write (by simp) rfl rfl (by k_ne) rfl H.f_raceWrite (x_raceWrite_n L) (x_raceWrite_b L) (x_raceWrite_x L) (x_raceWrite_f L) (ad:=⟨_,1,none⟩) (by simp[Act.eval]<;>rfl),.inr rfl,?_⟩;refine cg ?_
   walk_nrm
   u_c stepG_region_end lr hK;u_c stepG_seq lr hK;u_reg lr hK;u_op lr hK;u_c stepG_region_end lr hK;u_c stepG_seq lr hK;u_c stepG_seq lr hK;u_reg lr hK;u_op lr hK;u_op lr hK;u_op lr hK;u_op lr hK;u_skip lr hK;u_op lr hK;u_c stepG_region_end lr hK;u_cond false lr hK;u_c stepG_skip lr hK;u_c stepG_seq lr hK;u_reg lr hK;u_op lr hK;u_op lr hK;u_op lr hK;u_op lr hK;refine Goes.stop (fun _ hr=>?_);replace hK:=lr hK hr;clear hr;refine⟨rfl,rfl,fun⟨st,hw⟩=>stepG_semacquire_wait rfl rfl rfl H.f_semacquire (x_semacquire_n L) (x_semacquire_b L) (x_semacquire_x L) (x_semacquire_f L) (by simp[Act.eval,smA]) hw.cellSm,fun hf=>?_⟩;refine⟨_,(stepG_semacquire (n:=1) rfl rfl (by k_ne) rfl H.f_semacquire (x_semacquire_n L) (x_semacquire_b L) (x_semacquire_x L) (x_semacquire_f L) (by simp[Act.eval,smA]) hf.cellSm (by k_ne) (hf.thaw 1)).trans (by rfl),60,?_⟩
   replace hK:WgLive L.tWg Wg (World.setCell _ (smA Wg) (.int .u32 0)):=⟨_,_,hf.setSm 0⟩
   clear hf;refine cg ?_
   walk_nrm
   u_c stepG_region_end lr hK;u_c stepG_seq lr hK;u_reg lr hK;u_op lr hK;u_op lr hK;u_op lr hK;u_call H.f_uLoad (nm_uLoad L) uLoadFn lr hK;u_c stepG_seq lr hK;u_reg lr hK;u_op lr hK;u_c stepG_region_end lr hK;u_c stepG_seq lr hK;u_reg lr hK;u_op lr hK;u_op lr hK;u_op lr hK;refine Goes.stop (fun _ hr=>?_);replace hK:=lr hK hr;clear hr;refine⟨rfl,fun hw=>⟨_,stepG_load_atomic (v:=0) rfl rfl (by k_ne) rfl H.f_loadU64 (x_loadU64_n L) (x_loadU64_b L) (x_loadU64_x L) .u64 (x_loadU64_f L) rfl hw.cellSt,60,?_⟩⟩;clear hw;refine cg ?_
   walk_nrm
   u_op lr hK;u_c stepG_region_end lr hK;u_c stepG_ret' lr hK;u_leave1 H.f_uLoad lr hK;u_op lr hK;u_op lr hK;u_c stepG_region_end lr hK;u_c stepG_seq lr hK;u_cond true lr hK;u_c stepG_seq lr hK;u_reg lr hK;refine Goes.stop (fun _ hr=>?_);replace hK:=lr hK hr;clear hr;refine⟨rfl,_,stepG_mark0 .enable (by simp) rfl rfl (by k_ne) rfl H.f_enable (x_enable_n L) (x_enable_b L) (x_enable_x L) (x_enable_f L),40,?_⟩;refine cg ?_
   walk_nrm
   u_c stepG_region_end lr hK;u_reg lr hK;u_op lr hK
   u_conv H.underlying_tWgP H.room_tWg (WgLive.cell0 hK).choose_spec lr hK
   refine Goes.stop (fun _ hr=>?_);replace hK:=lr hK hr;clear hr;refine⟨rfl,_,stepG_markAt .acquire (by simp) rfl rfl (by k_ne) rfl H.f_acquire (x_acquire_n L) (x_acquire_b L) (x_acquire_x L) (x_acquire_f L) (by simp[Act.eval,stA]),40,?_⟩;refine cg ?_
   walk_nrm
   u_c stepG_region_end lr hK;u_c stepG_seq lr hK;u_c stepG_seq lr hK;u_reg lr hK;u_op lr hK;u_c stepG_region_end lr hK;u_cond false lr hK;u_c stepG_skip lr hK;u_c stepG_ret' lr hK
   u_leave0 H.f_wait lr hK
   exact Goes.stop fun w₁ r=>hT _ (lr hK r)
  ·refine⟨_,stepG_cas_miss (v:=(v':Int) *KK) (old:=S) (n:=S+1) rfl rfl (by k_ne) rfl H.f_casU64 (x_casU64_n L) (x_casU64_b L) (x_casU64_x L) .u64 (x_casU64_f L) rfl rfl rfl hw.cellSt (hw.thaw 0) (by rw[<-hS];simp only[KK];omega),40,?_⟩;clear hw;refine cg ?_
   walk_nrm
   u_op lr hK;u_c stepG_region_end lr hK;u_c stepG_ret' lr hK;u_leave1 H.f_uCas lr hK;u_c stepG_region_end lr hK;u_cond false lr hK;u_c stepG_skip lr hK;u_c stepG_inBlock lr hK;u_c stepG_inLoop lr hK;exact Goes.stop fun w₁ r=>⟨_,rfl,by simp,by simp,lr hK r⟩
end
end
end Go.Proofs.YtpobhljcainmdaaGreat
