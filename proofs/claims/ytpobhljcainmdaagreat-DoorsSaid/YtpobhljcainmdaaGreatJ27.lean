/- Proved here: a part of what Doors keeps (Ms1, Mc1, Mc2, Mc3, Mc4, Mc5). -/
import Derived.Test.YtpobhljcainmdaaGreatJ26
set_option maxRecDepth 100000
set_option maxHeartbeats 8000000
set_option linter.all false
namespace Go.Proofs.YtpobhljcainmdaaGreat
section
open Go Go.Conc Go.Conc.Lib Go.ConcR.Gen Go.ConcN.Gen
open Go.ConcN (ShN WgLive)
open Go.ConcR (KK WgAt stA smA rd wr mk Payload DC0)
inductive Mp|opn|lY|added|ready|waiting(b:Nat)|seen(v:Nat)|reg|woken|fin|wM|back
def AI(ty:TypeId)(Wg:Nat):Mp->World->Prop
 |.lY,w=>∃v:Nat,v<2147483647/\WgAt ty Wg w (v*KK) 0
 |.waiting b,w=>∃v:Nat,v<=b/\v<2147483648/\WgAt ty Wg w (v*KK) 0
 |.seen b,w=>∃v:Nat,v<=b/\v<2147483648/\WgAt ty Wg w (v*KK) 0
 |.woken,w=>WgAt ty Wg w 0 0
 |_,_=>True
inductive cx(ty:TypeId)(Wg:Nat)(O:Nat->Prop)(w:World):Mp->World->Array MemAct->Mp->Prop
 |own {p:Mp} (hp:p=.opn\/p=.ready) {w':World} {aD:Array MemAct} (h:MV O w w') (k:∀a∈aD,gV Wg (dQ O w w') w'.heap.size a):cx ty Wg O w p w' aD p
 |idle {p:Mp} {es:Array Event} (h:DZ Wg w w es):cx ty Wg O w p w (es.map .ofEvent) p
 |DC {q:Mp} (hq:q=.lY\/∃b,q=.waiting b/\2147483646<=b):cx ty Wg O w .opn w (#[mk .disable].map .ofEvent) q
 |add {v:Nat} (h:WgAt ty Wg w (v*KK) 0) (hv:v<2147483647):cx ty Wg O w .lY (w.setCell (stA Wg) (.int .u64 ((v+1) *KK))) (#[rd (stA Wg),wr (stA Wg)].map .ofEvent) .added
 |GJ:cx ty Wg O w .added w (#[mk .enable].map .ofEvent) .ready
 |zero {b:Nat} (h:WgAt ty Wg w 0 0):cx ty Wg O w (.waiting b) w (#[rd (stA Wg)].map .ofEvent) .fin
 |saw {b v:Nat} (h:WgAt ty Wg w (v*KK) 0) (hb:v<=b) (h0:v≠0):cx ty Wg O w (.waiting b) w (#[rd (stA Wg)].map .ofEvent) (.seen v)
 |hit {v:Nat} (h:WgAt ty Wg w (v*KK) 0) (h0:v≠0):cx ty Wg O w (.seen v) (w.setCell (stA Wg) (.int .u64 (v*KK+1))) (#[rd (stA Wg),wr (stA Wg)].map .ofEvent) .reg
 |Rz {v v':Nat} (h:WgAt ty Wg w (v'*KK) 0) (hb:v'<v):cx ty Wg O w (.seen v) w (#[rd (stA Wg)].map .ofEvent) (.waiting (v-1))
 |got (h:WgAt ty Wg w 0 0):cx ty Wg O w .woken w (#[rd (stA Wg)].map .ofEvent) .fin
 |Kl:cx ty Wg O w .fin w (#[mk .enable].map .ofEvent) .wM
 |acq:cx ty Wg O w .wM w (#[mk (.acquire (stA Wg))].map .ofEvent) .back
inductive MS(P:Program)(ty:TypeId)(Wg:Nat)(Post:Nat->(Nat->Prop)->Goroutine->World->Prop)(Q:Nat->(Nat->Prop)->World->Prop)(M:Nat):Nat->Mp->(Nat->Prop)->Goroutine->World->Prop
 |done {r:Nat} {O:Nat->Prop} {g:Goroutine} {w:World} (h:∀w₁,Rel ty Wg O w w₁->Post r O g w₁):MS P ty Wg Post Q M r .back O g w
 |step {r:Nat} {p:Mp} {O:Nat->Prop} {g:Goroutine} {w:World} (hg:g.status=.running) (q:World->Mp)
   (h:∀w₁,Rel ty Wg O w w₁->AI ty Wg p w₁->∃g' w' aD,iU P true g w₁ g' w' aD/\cx ty Wg O w₁ p w' aD (q w₁))
   (k:∀w₁ g' w' aD,Rel ty Wg O w w₁->AI ty Wg p w₁->iU P true g w₁ g' w' aD->MS P ty Wg Post Q M r (q w₁) (dQ O w₁ w') g' w'):MS P ty Wg Post Q M r p O g w
 |sem {r:Nat} {O:Nat->Prop} {g:Goroutine} {w:World} (hg:g.status=.running) (ho:g.offers=none)
   (hb:∀w₁,Rel ty Wg O w w₁->(∃st,WgAt ty Wg w₁ st 0)->stepG P true g w₁=.go {g with status:=.blocked} w₁ #[])
   (h:∀w₁,Rel ty Wg O w w₁->WgAt ty Wg w₁ 0 1->∃g',stepG P true g w₁=.go g' (w₁.setCell (smA Wg) (.int .u32 0)) (semEvents (smA Wg)))
   (k:∀w₁ g',Rel ty Wg O w w₁->WgAt ty Wg w₁ 0 1->stepG P true g w₁=.go g' (w₁.setCell (smA Wg) (.int .u32 0)) (semEvents (smA Wg))->MS P ty Wg Post Q M r .woken O g' (w₁.setCell (smA Wg) (.int .u32 0))):MS P ty Wg Post Q M r .reg O g w
 |spawn {r:Nat} {O A R:Nat->Prop} {g:Goroutine} {w:World} (hr:r<M) (hg:g.status=.running) (hA:∀b,A b->O b) (hR:∀b,R b->O b) (Po:∀b,A b->¬R b) (hall:∀b,O b->A b\/R b)
   (h:∀w₁,Rel ty Wg O w w₁->∃g' child,stepG P true g w₁=.spawn g' child w₁ #[]/\child.status=.running)
   (c:∀w₁ g' child,Rel ty Wg O w w₁->stepG P true g w₁=.spawn g' child w₁ #[]->WS P ty Wg (Q r) .work A child w₁)
   (k:∀w₁ g' child,Rel ty Wg O w w₁->stepG P true g w₁=.spawn g' child w₁ #[]->MS P ty Wg Post Q M (r+1) .opn R g' w₁):MS P ty Wg Post Q M r .ready O g w
section
variable [aR] [aB] {P:Program} {ty:TypeId} {Wg:Nat} {Post:Nat->(Nat->Prop)->Goroutine->World->Prop} {Q:Nat->(Nat->Prop)->World->Prop} {M:Nat} {O:Nat->Prop} {r:Nat}
theorem MS.rely{p:Mp}{g:Goroutine}{w w₁:World}(h:MS P ty Wg Post Q M r p O g w)(hr:Rel ty Wg O w w₁):MS P ty Wg Post Q M r p O g w₁:=by
 cases h with
 |done h=>exact .done fun w₂ h₂=>h w₂ (hr.trans h₂)
 |step hg q h k=>exact .step hg q (fun w₂ h₂=>h w₂ (hr.trans h₂)) fun w₂ g' w' aD h₂=>k w₂ g' w' aD (hr.trans h₂)
 |sem hg ho hb h k=>exact .sem hg ho (fun w₂ h₂=>hb w₂ (hr.trans h₂)) (fun w₂ h₂=>h w₂ (hr.trans h₂)) fun w₂ g' h₂=>k w₂ g' (hr.trans h₂)
 |spawn hr' hg hA hR Po hall h c k=>exact .spawn hr' hg hA hR Po hall (fun w₂ h₂=>h w₂ (hr.trans h₂)) (fun w₂ g' ch h₂=>c w₂ g' ch (hr.trans h₂)) fun w₂ g' ch h₂=>k w₂ g' ch (hr.trans h₂)
theorem iF{Stop:(Nat->Prop)->Goroutine->World->Prop}{p:Mp}(hp:p=.opn\/p=.ready){g:Goroutine}{w:World}(h:CJ P true ty Wg Stop O g w)(hs:∀O g w,(∀w₁,Rel ty Wg O w w₁->Stop O g w₁)->MS P ty Wg Post Q M r p O g w):MS P ty Wg Post Q M r p O g w:=by
 induction h with
 |stop h=>exact hs _ _ _ h
 |step hg h _ ih=>
  refine .step hg (fun _=>p) (fun w₁ r _=>?_) fun w₁ g' w' aD r _ ht=>ih w₁ g' w' aD r ht;obtain⟨g',w',aD,h1,h2,h3⟩:=h w₁ r;exact⟨g',w',aD,h1,.own hp h2 h3⟩
theorem kW{w w':World}(h:w'.heap.size=w.heap.size):dQ O w w'=O:=by
 funext b
 apply propext;constructor
 ·rintro(h1|⟨h1,h2⟩)
  ·exact h1
  ·omega
 ·exact .inl
theorem jE{p:Mp}{g:Goroutine}{w:World}(hg:g.status=.running)(q:World->Mp)
  (h:∀w₁,Rel ty Wg O w w₁->AI ty Wg p w₁->∃g' w' es,stepG P true g w₁=.go g' w' es/\cx ty Wg O w₁ p w' (es.map .ofEvent) (q w₁)/\w'.heap.size=w₁.heap.size/\MS P ty Wg Post Q M r (q w₁) O g' w'):MS P ty Wg Post Q M r p O g w:=by
 refine .step hg q (fun w₁ r e=>?_) fun w₁ g' w' aD r e ht=>?_
 ·obtain⟨g',w',es,h1,h2,_,_⟩:=h w₁ r e;exact⟨g',w',_,.go h1,h2⟩
 ·obtain⟨g2,w2,es,h1,_,h3,h4⟩:=h w₁ r e;obtain⟨rfl,rfl,rfl⟩:=mU h1 ht;rw[kW h3];exact h4
theorem bA{J:World->Prop}(hJ:∀w w₁,Rel ty Wg O w w₁->J w->J w₁){Stop:Goroutine->World->Prop}{p:Mp}(hs:∀g w,J w->(∀w₁,Rel ty Wg O w w₁->Stop g w₁)->MS P ty Wg Post Q M r p O g w):
  ∀(m:Nat) (g:Goroutine) (w:World),J w->Goes P true (Rel ty Wg O) (DZ Wg) Stop m g w->MS P ty Wg Post Q M r p O g w
 |0,g,w,hj,h=>hs g w hj h
 |m+1,g,w,hj,h=>by
  rcases h with h|⟨hg,h⟩
  ·exact hs g w hj h
  refine jE hg (fun _=>p) fun w₁ r _=>?_;have:=h w₁ r;revert this;cases hst:stepG P true g w₁ with
  |go g' w' es=>
   rintro⟨hd,h2⟩;obtain rfl:=hd.1;exact⟨g',_,es,rfl,.idle hd,rfl,bA hJ hs m g' _ (hJ _ _ r hj) h2⟩
  |_=>intro h;exact h.elim
theorem RE{J:World->Prop}(hJ:∀w w₁,Rel ty Wg O w w₁->J w->J w₁)(QV:∀w v,WgLive ty Wg (w.setCell (stA Wg) v)->J w->J (w.setCell (stA Wg) v)){Fin:Goroutine->World->Prop}(hF:∀g w,J w->(∀w₁,Rel ty Wg O w w₁->Fin g w₁)->MS P ty Wg Post Q M r .ready O g w){m:Nat}{g:Goroutine}{w:World}(hj:J w)(h:Goes P true (Rel ty Wg O) (DZ Wg) (ZA1 P ty Wg O Fin) m g w):MS P ty Wg Post Q M r .opn O g w:=by
 have s3:∀g w,J w->(∀w₁,Rel ty Wg O w w₁->ZA3 P ty Wg O Fin g w₁)->MS P ty Wg Post Q M r .added O g w:=fun g w hj h=>by refine jE (h w (.refl ..)).1 (fun _=>.ready) fun w₁ r _=>?_;obtain⟨_,g',h1,m,h2⟩:=h w₁ r;exact⟨g',_,_,h1,.GJ,rfl,bA hJ hF m g' _ (hJ _ _ r hj) h2⟩
 have s2:∀g w,J w->(∀w₁,Rel ty Wg O w w₁->ZA2 P ty Wg O Fin g w₁)->MS P ty Wg Post Q M r .lY O g w:=fun g w hj h=>by refine jE (h w (.refl ..)).1 (fun _=>.added) fun w₁ r e=>?_;obtain⟨v,hv,hat⟩:=e;obtain⟨g',h1,m,h2⟩:=(h w₁ r).2 v hv hat;exact⟨g',_,_,h1,.add hat hv,by simp,bA hJ s3 m g' _ (QV _ _ ⟨_,_,hat.setSt _⟩ (hJ _ _ r hj)) h2⟩
 refine bA hJ (fun g w hj h=>?_) m g w hj h;refine jE (h w (.refl ..)).1 (fun _=>.lY) fun w₁ r _=>?_;obtain⟨_,g',h1,m,h2⟩:=h w₁ r;exact⟨g',_,_,h1,.DC (.inl rfl),rfl,bA hJ s2 m g' _ (hJ _ _ r hj) h2⟩
open Classical in
theorem Oc{J:World->Prop}(hJ:∀w w₁,Rel ty Wg O w w₁->J w->J w₁)(QV:∀w v,WgLive ty Wg (w.setCell (stA Wg) v)->J w->J (w.setCell (stA Wg) v))(NK:∀w v,WgLive ty Wg (w.setCell (smA Wg) v)->J w->J (w.setCell (smA Wg) v)){Fin Head:Goroutine->World->Prop}(hF:∀g w,J w->(∀w₁,Rel ty Wg O w w₁->Fin g w₁)->MS P ty Wg Post Q M r .back O g w)
  (round:∀g w,Head g w->∃m,Goes P true (Rel ty Wg O) (DZ Wg) (Wy P ty Wg O Fin Head) m g w):∀(b:Nat) (g:Goroutine) (w:World),J w->Head g w->MS P ty Wg Post Q M r (.waiting b) O g w:=by
 have sAq:∀g w,J w->(∀w₁,Rel ty Wg O w w₁->ZAq P ty Wg O Fin g w₁)->MS P ty Wg Post Q M r .wM O g w:=fun g w hj h=>by refine jE (h w (.refl ..)).1 (fun _=>.back) fun w₁ r _=>?_;obtain⟨_,g',h1,m,h2⟩:=h w₁ r;exact⟨g',_,_,h1,.acq,rfl,bA hJ hF m g' _ (hJ _ _ r hj) h2⟩
 have sEn:∀g w,J w->(∀w₁,Rel ty Wg O w w₁->XL P ty Wg O Fin g w₁)->MS P ty Wg Post Q M r .fin O g w:=fun g w hj h=>by refine jE (h w (.refl ..)).1 (fun _=>.wM) fun w₁ r _=>?_;obtain⟨_,g',h1,m,h2⟩:=h w₁ r;exact⟨g',_,_,h1,.Kl,rfl,bA hJ sAq m g' _ (hJ _ _ r hj) h2⟩
 have s4:∀g w,J w->(∀w₁,Rel ty Wg O w w₁->ZW4 P ty Wg O Fin g w₁)->MS P ty Wg Post Q M r .woken O g w:=fun g w hj h=>by refine jE (h w (.refl ..)).1 (fun _=>.fin) fun w₁ r e=>?_;obtain⟨g',h1,m,h2⟩:=(h w₁ r).2 e;exact⟨g',_,_,h1,.got e,rfl,bA hJ sEn m g' _ (hJ _ _ r hj) h2⟩
 have s3:∀g w,J w->(∀w₁,Rel ty Wg O w w₁->ZW3 P ty Wg O Fin g w₁)->MS P ty Wg Post Q M r .reg O g w:=fun g w hj h=>by
  refine .sem (h w (.refl ..)).1 (h w (.refl ..)).2.1 (fun w₁ r e=>(h w₁ r).2.2.1 e) (fun w₁ r e=>?_) fun w₁ g' r e hs=>?_
  ·obtain⟨g',h1,_⟩:=(h w₁ r).2.2.2 e;exact⟨g',h1⟩
  ·obtain⟨g2,h1,m,h2⟩:=(h w₁ r).2.2.2 e;rw[hs]at h1;cases h1;exact bA hJ s4 m g' _ (NK _ _ ⟨_,_,e.setSm _⟩ (hJ _ _ r hj)) h2
 intro b;induction b using Nat.strongRecOn with
 |ind b ih=>
  have s2:∀v,v≠0->v<=b->∀g w,J w->(∀w₁,Rel ty Wg O w w₁->ZW2 P ty Wg O Fin Head v g w₁)->MS P ty Wg Post Q M r (.seen v) O g w:=fun v h0 Xq g w hj h=>by
   refine jE (h w (.refl ..)).1 (fun w₁=>if WgAt ty Wg w₁ (v*KK) 0 then .reg else .waiting (v-1)) fun w₁ r e=>?_;obtain⟨v',hle,hlt,hat⟩:=e;obtain⟨k1,k2⟩:=(h w₁ r).2 v' hlt hat
   by_cases hv:v'=v
   ·subst hv;obtain⟨g',h1,m,h2⟩:=k1 rfl;refine⟨g',_,_,h1,?_,by simp,?_⟩
    ·rw[if_pos hat];exact .hit hat h0
    ·rw[if_pos hat];exact bA hJ s3 m g' _ (QV _ _ ⟨_,_,hat.setSt _⟩ (hJ _ _ r hj)) h2
   ·have hn:¬WgAt ty Wg w₁ (v*KK) 0:=fun hh=>hv (by
     have:=(hat.unique hh).1;simp only[KK]at this;omega)
    obtain⟨g',h1,m,h2⟩:=k2 hv;refine⟨g',_,_,h1,?_,rfl,?_⟩
    ·rw[if_neg hn];exact .Rz hat (by omega)
    ·rw[if_neg hn];exact bA hJ (fun g w hj h=>ih (v-1) (by omega) g w hj (h w (.refl ..))) m g' _ (hJ _ _ r hj) h2
  have s1:∀g w,J w->(∀w₁,Rel ty Wg O w w₁->Wy P ty Wg O Fin Head g w₁)->MS P ty Wg Post Q M r (.waiting b) O g w:=fun g w hj h=>by
   have uniq:∀{w₁:World} {v v':Nat},WgAt ty Wg w₁ (v*KK) 0->WgAt ty Wg w₁ (v'*KK) 0->v=v':=fun a b=>by have:=(a.unique b).1;simp only[KK]at this;omega
   refine jE (h w (.refl ..)).1 (fun w₁=>if hh:∃v:Nat,v≠0/\WgAt ty Wg w₁ (v*KK) 0 then .seen hh.choose else .fin) fun w₁ r e=>?_;obtain⟨v,hle,hlt,hat⟩:=e;obtain⟨g',h1,k1,k2⟩:=(h w₁ r).2 v hlt hat
   by_cases hv:v=0
   ·have hn:¬∃v:Nat,v≠0/\WgAt ty Wg w₁ (v*KK) 0:=fun⟨v',h0,h1⟩=>h0 ((uniq h1 hat).trans hv);obtain⟨m,h2⟩:=k1 hv;refine⟨g',_,_,h1,?_,rfl,?_⟩
    ·rw[dif_neg hn];exact .zero (by subst hv;simpa using hat)
    ·rw[dif_neg hn];exact bA hJ sEn m g' _ (hJ _ _ r hj) h2
   ·have hh:∃v:Nat,v≠0/\WgAt ty Wg w₁ (v*KK) 0:=⟨v,hv,hat⟩;have he:hh.choose=v:=uniq hh.choose_spec.2 hat;obtain⟨m,h2⟩:=k2 hv;refine⟨g',_,_,h1,?_,rfl,?_⟩
    ·rw[dif_pos hh,he];exact .saw hat hle hv
    ·rw[dif_pos hh,he];exact bA hJ (s2 v hv hle) m g' _ (hJ _ _ r hj) h2
  intro g w hj hh;obtain⟨m,hm⟩:=round g w hh;exact bA hJ s1 m g w hj hm
theorem Od{J:World->Prop}(hJ:∀w w₁,Rel ty Wg O w w₁->J w->J w₁)(QV:∀w v,WgLive ty Wg (w.setCell (stA Wg) v)->J w->J (w.setCell (stA Wg) v))(NK:∀w v,WgLive ty Wg (w.setCell (smA Wg) v)->J w->J (w.setCell (smA Wg) v)){Fin Head:Goroutine->World->Prop}{b:Nat}(UI:2147483646<=b)(hF:∀g w,J w->(∀w₁,Rel ty Wg O w w₁->Fin g w₁)->MS P ty Wg Post Q M r .back O g w)
  (round:∀g w,Head g w->∃m,Goes P true (Rel ty Wg O) (DZ Wg) (Wy P ty Wg O Fin Head) m g w) {m:Nat} {g:Goroutine} {w:World} (hj:J w) (h:Goes P true (Rel ty Wg O) (DZ Wg) (ZDi P ty Wg O Head) m g w):MS P ty Wg Post Q M r .opn O g w:=by
 refine bA hJ (fun g w hj h=>?_) m g w hj h;refine jE (h w (.refl ..)).1 (fun _=>.waiting b) fun w₁ r _=>?_;obtain⟨_,g',h1,m,h2⟩:=h w₁ r;exact⟨g',_,_,h1,.DC (.inr ⟨b,rfl,UI⟩),rfl,bA hJ (fun g w hj h=>Oc hJ QV NK hF round b g w hj (h w (.refl ..))) m g' _ (hJ _ _ r hj) h2⟩
end
end
section
open Go Go.Conc
open Go.ConcN (ShN WgLive)
open Go.ConcR (KK WgAt stA smA rd wr mk)
section
variable [aR] [aB] {P:Program} {ty:TypeId} {Wg:Nat} {O O':Nat->Prop}
theorem FJ{w w':World}(h:MV O w w')(hd:∀b,O' b->¬O b)(hlt:∀b,O' b->b<w.heap.size)(hW:¬O Wg)(FY:Wg<w.heap.size):Rel ty Wg O' w w':=
 ⟨fun b hb=>h.cG b (hlt b hb) (hd b hb),h.size,fun⟨st,sm,k⟩=>⟨st,sm,(h.cG Wg FY hW).trans k⟩,h.os⟩
theorem eE.Om{w w':World}{p q:Ph}{aD:Array MemAct}(h:eE ty Wg O w p w' aD q)(he:yC ty Wg p w)(hd:∀b,O' b->¬O b)(hlt:∀b,O' b->b<w.heap.size)(hW:¬O Wg)(Pw:¬O' Wg)(FY:Wg<w.heap.size):Rel ty Wg O' w w':=by
 cases h with
 |own h=>exact FJ h hd hlt hW FY
 |rel=>exact .refl ..
 |idle=>exact .refl ..
 |DC=>exact .refl ..
 |add h=>exact gy rfl Pw ⟨_,_,h.setSt _⟩
 |look=>exact .refl ..
 |zero=>exact gy rfl Pw ⟨_,_,WgAt.setSt (show WgAt ty Wg w 1 0 from he) _⟩
 |post=>exact gy rfl Pw ⟨_,_,WgAt.setSm (show WgAt ty Wg w 0 0 from he) _⟩
theorem cx.Om{w w':World}{p q:Mp}{aD:Array MemAct}(h:cx ty Wg O w p w' aD q)(hd:∀b,O' b->¬O b)(hlt:∀b,O' b->b<w.heap.size)(hW:¬O Wg)(Pw:¬O' Wg)(FY:Wg<w.heap.size):Rel ty Wg O' w w':=by
 cases h with
 |own _ h=>exact FJ h hd hlt hW FY
 |add h=>exact gy rfl Pw ⟨_,_,h.setSt _⟩
 |hit h=>exact gy rfl Pw ⟨_,_,h.setSt _⟩
 |_=>exact .refl ..
theorem LJ(a:Addr):(MemAct.ofEvent (rd a)).touch?=some ⟨.cell a,false,.atomic⟩:=rfl
theorem ME(a:Addr):(MemAct.ofEvent (wr a)).touch?=some ⟨.cell a,true,.atomic⟩:=rfl
structure lN(Wg:Nat)(a:MemAct):Prop where
 touch:∀x,a.touch?=some x->ShN Wg x.loc/\x.kind=.atomic
 low:∀B,Wg<B->a.low B
 rel:a≠.mark (.release (stA Wg))
theorem mJ(Wg:Nat)(a:Addr)(ha:a.block=Wg):lN Wg (.ofEvent (rd a)):=⟨fun x hx=>by rw[LJ]at hx;cases hx;exact⟨⟨a,rfl,ha⟩,rfl⟩,fun B hB=>by show a.block<B;rw[ha];exact hB,fun e=>(by cases e)⟩
theorem zG(Wg:Nat)(a:Addr)(ha:a.block=Wg):lN Wg (.ofEvent (wr a)):=⟨fun x hx=>by rw[ME]at hx;cases hx;exact⟨⟨a,rfl,ha⟩,rfl⟩,fun B hB=>by show a.block<B;rw[ha];exact hB,fun e=>(by cases e)⟩
theorem tJ(Wg:Nat):lN Wg (.mark .disable):=⟨fun x hx=>(by cases hx),fun _ _=>trivial,fun e=>(by cases e)⟩
theorem Em(Wg:Nat):lN Wg (.mark .enable):=⟨fun x hx=>(by cases hx),fun _ _=>trivial,fun e=>(by cases e)⟩
theorem Ll(Wg:Nat):lN Wg (.mark (.releaseMerge (stA Wg))):=⟨fun x hx=>(by cases hx),fun B hB=>hB,fun e=>(by cases e)⟩
theorem NX(Wg:Nat):lN Wg (.mark (.acquire (stA Wg))):=⟨fun x hx=>(by cases hx),fun B hB=>hB,fun e=>(by cases e)⟩
theorem zF(Wg:Nat):∀a∈(semEvents (smA Wg)).map MemAct.ofEvent,lN Wg a:=fun a ha=>by
 simp only[semEvents,List.map_toArray,List.map_cons,List.map_nil,List.mem_toArray,List.mem_cons,List.not_mem_nil,or_false]at ha;rcases ha with rfl|rfl|rfl|rfl
 ·exact tJ Wg
 ·exact mJ Wg (smA Wg) rfl
 ·exact zG Wg (smA Wg) rfl
 ·exact Em Wg
theorem zE(Wg:Nat):∀a∈#[rd (stA Wg),wr (stA Wg)].map MemAct.ofEvent,lN Wg a:=fun a ha=>by
 simp only[List.map_toArray,List.map_cons,List.map_nil,List.mem_toArray,List.mem_cons,List.not_mem_nil,or_false]at ha;rcases ha with rfl|rfl
 ·exact mJ Wg (stA Wg) rfl
 ·exact zG Wg (stA Wg) rfl
theorem qg{Wg:Nat}{e:Event}(h:lN Wg (.ofEvent e)):∀a∈#[e].map MemAct.ofEvent,lN Wg a:=fun a ha=>by simp only[List.map_toArray,List.map_cons,List.map_nil,List.mem_toArray,List.mem_cons,List.not_mem_nil,or_false]at ha;rw[ha];exact h
theorem lN.fK{Wg:Nat}{a:MemAct}(h:lN Wg a)(O:Nat->Prop)(k:Nat){x:Touch}(hx:a.touch?=some x):JJ Wg O k x:=
 .inr (.inr ⟨(h.touch x hx).1,by rw[(h.touch x hx).2];simp,by rw[(h.touch x hx).2];simp⟩)
theorem eE.lists{w w':World}{p q:Ph}{aD:Array MemAct}(h:eE ty Wg O w p w' aD q):(p=.work/\q=.work/\∀a∈aD,gV Wg (dQ O w w') w'.heap.size a)\/(q≠.work/\w'.heap.size=w.heap.size/\∀a∈aD,lN Wg a):=by
 cases h with
 |own _ k=>exact .inl ⟨rfl,rfl,k⟩
 |rel=>exact .inr ⟨by simp,rfl,fun a ha=>by simp at ha;rw[ha];exact Ll Wg⟩
 |idle hp=>exact .inr ⟨hp,rfl,fun a ha=>by simp at ha⟩
 |DC=>exact .inr ⟨by simp,rfl,fun a ha=>by simp at ha;rw[ha];exact tJ Wg⟩
 |add _ _ _ hq=>exact .inr ⟨by rcases hq with⟨_,_,rfl⟩|⟨_,rfl⟩<;>simp,by simp,zE Wg⟩
 |look=>exact .inr ⟨by simp,rfl,qg (mJ Wg _ rfl)⟩
 |zero=>exact .inr ⟨by simp,by simp,qg (zG Wg _ rfl)⟩
 |post=>exact .inr ⟨by simp,by simp,zF Wg⟩
theorem eE.tc{w w':World}{p q:Ph}{aD:Array MemAct}(h:eE ty Wg O w p w' aD q){Ow:Nat->Nat->Prop}{t ops:Trace}{k:Nat}(hO:Ow k=O)(hT:TC Wg Ow w.heap.size t)(gO:ops.map (·.act)=aD)(hg:∀op∈ops,op.g=k):
  TC Wg (iY Ow k (dQ O w w')) w'.heap.size (t++ops):=by
 have hin:∀op∈ops,op.act∈aD:=fun op ho=>by rw[<-gO];exact Array.mem_map.2 ⟨op,ho,rfl⟩
 have hsz:w.heap.size<=w'.heap.size:=by
  rcases h.lists with _|⟨_,e,_⟩
  ·cases h with
   |own h=>exact h.size
   |idle hp=>exact Nat.le_refl _
   |_=>simp
  ·omega
 refine hT.app hsz (fun b hb=>?_) (fun b hb=>?_) fun op ho=>⟨hg op ho,fun x hx=>?_,?_⟩
 ·rcases hb with hb|hb
  ·exact .inl (hO▸hb)
  ·exact .inr hb.1
 ·rcases hb with hb|hb
  ·exact Nat.lt_of_lt_of_le (hT.lt k b (hO▸hb)) hsz
  ·exact hb.2
 ·rcases h.lists with⟨_,_,hk⟩|⟨_,_,hk⟩
  ·exact(hk _ (hin op ho)).fK k hx
  ·exact(hk _ (hin op ho)).fK _ k hx
 ·rcases h.lists with⟨_,_,hk⟩|⟨_,_,hk⟩
  ·exact(hk _ (hin op ho)).low
  ·exact(hk _ (hin op ho)).low _ (Nat.lt_of_lt_of_le hT.Jz hsz)
end
end
section
open Go Go.Conc
open Go.ConcN (ShN WgLive)
open Go.ConcR (KK WgAt stA smA rd wr mk)
section
variable [aR] [aB] {P:Program} {ty:TypeId} {Wg:Nat} {O:Nat->Prop}
structure Gw(Wg:Nat)(a:MemAct):Prop where
 touch:∀x,a.touch?=some x->ShN Wg x.loc/\x.kind≠.plain
 low:∀B,Wg<B->a.low B
 rel:a≠.mark (.release (stA Wg))
theorem lN.NW{a:MemAct}(h:lN Wg a):Gw Wg a:=⟨fun x hx=>⟨(h.touch x hx).1,by rw[(h.touch x hx).2];simp⟩,h.low,h.rel⟩
theorem Rx{w w':World}{es:Array Event}(h:DZ Wg w w' es):∀a∈es.map MemAct.ofEvent,Gw Wg a:=fun a ha=>by
 obtain⟨e,he,rfl⟩:=Array.mem_map.1 ha;rcases h.2 e he with rfl|rfl
 ·exact⟨fun x hx=>(by cases hx;exact⟨⟨smA Wg,rfl,rfl⟩,by simp⟩),fun B hB=>hB,fun e=>(by cases e)⟩
 ·exact⟨fun x hx=>(by cases hx;exact⟨⟨smA Wg,rfl,rfl⟩,by simp⟩),fun B hB=>hB,fun e=>(by cases e)⟩
theorem cx.lists{w w':World}{p q:Mp}{aD:Array MemAct}(h:cx ty Wg O w p w' aD q):(∀a∈aD,gV Wg (dQ O w w') w'.heap.size a)\/(w'.heap.size=w.heap.size/\∀a∈aD,Gw Wg a):=by
 have one:∀{e:Event},lN Wg (.ofEvent e)->∀a∈#[e].map MemAct.ofEvent,Gw Wg a:=fun h a ha=>(qg h a ha).NW;cases h with
 |own _ _ k=>exact .inl k
 |idle h=>exact .inr ⟨rfl,Rx h⟩
 |DC=>exact .inr ⟨rfl,one (tJ Wg)⟩
 |add=>exact .inr ⟨by simp,fun a ha=>(zE Wg a ha).NW⟩
 |GJ=>exact .inr ⟨rfl,one (Em Wg)⟩
 |zero=>exact .inr ⟨rfl,one (mJ Wg _ rfl)⟩
 |saw=>exact .inr ⟨rfl,one (mJ Wg _ rfl)⟩
 |hit=>exact .inr ⟨by simp,fun a ha=>(zE Wg a ha).NW⟩
 |Rz=>exact .inr ⟨rfl,one (mJ Wg _ rfl)⟩
 |got=>exact .inr ⟨rfl,one (mJ Wg _ rfl)⟩
 |Kl=>exact .inr ⟨rfl,one (Em Wg)⟩
 |acq=>exact .inr ⟨rfl,one (NX Wg)⟩
theorem cx.size{w w':World}{p q:Mp}{aD:Array MemAct}(h:cx ty Wg O w p w' aD q):w.heap.size<=w'.heap.size:=by
 cases h with
 |own _ h=>exact h.size
 |add=>simp
 |hit=>simp
 |_=>exact Nat.le_refl _
theorem Gp{w w':World}{aD:Array MemAct}(hl:(∀a∈aD,gV Wg (dQ O w w') w'.heap.size a)\/(w'.heap.size=w.heap.size/\∀a∈aD,Gw Wg a))(hsz:w.heap.size<=w'.heap.size){Ow:Nat->Nat->Prop}{t ops:Trace}(hO:Ow 0=O)(hT:TC Wg Ow w.heap.size t)(gO:ops.map (·.act)=aD)(hg:∀op∈ops,op.g=0):
  TC Wg (iY Ow 0 (dQ O w w')) w'.heap.size (t++ops):=by
 have hin:∀op∈ops,op.act∈aD:=fun op ho=>by rw[<-gO];exact Array.mem_map.2 ⟨op,ho,rfl⟩
 refine hT.app hsz (fun b hb=>?_) (fun b hb=>?_) fun op ho=>⟨hg op ho,fun x hx=>?_,?_⟩
 ·rcases hb with hb|hb
  ·exact .inl (hO▸hb)
  ·exact .inr hb.1
 ·rcases hb with hb|hb
  ·exact Nat.lt_of_lt_of_le (hT.lt 0 b (hO▸hb)) hsz
  ·exact hb.2
 ·rcases hl with hk|⟨_,hk⟩
  ·exact(hk _ (hin op ho)).fK 0 hx
  ·exact .inr (.inr ⟨((hk _ (hin op ho)).touch x hx).1,((hk _ (hin op ho)).touch x hx).2,fun _=>rfl⟩)
 ·rcases hl with hk|⟨_,hk⟩
  ·exact(hk _ (hin op ho)).low
  ·exact(hk _ (hin op ho)).low _ (Nat.lt_of_lt_of_le hT.Jz hsz)
theorem cx.tc{w w':World}{p q:Mp}{aD:Array MemAct}(h:cx ty Wg O w p w' aD q){Ow:Nat->Nat->Prop}{t ops:Trace}(hO:Ow 0=O)(hT:TC Wg Ow w.heap.size t)(gO:ops.map (·.act)=aD)(hg:∀op∈ops,op.g=0):
  TC Wg (iY Ow 0 (dQ O w w')) w'.heap.size (t++ops):=Gp h.lists h.size hO hT gO hg
theorem cx.kt{Shun:Loc->Prop}{old:Nat}{w w':World}{p q:Mp}{aD:Array MemAct}(h:cx ty Wg O w p w' aD q){t ops:Trace}(hK:KT Shun Wg old t)(gO:ops.map (·.act)=aD)(hg:∀op∈ops,op.g=0):KT Shun Wg old (t++ops):=by
 have hin:∀op∈ops,op.act∈aD:=fun op ho=>by rw[<-gO];exact Array.mem_map.2 ⟨op,ho,rfl⟩
 refine hK.app (fun op ho=>.inl (hg op ho)) fun op ho=>?_;rcases h.lists with hk|⟨_,hk⟩
 ·exact(hk _ (hin op ho)).rel _
 ·exact(hk _ (hin op ho)).rel
theorem eE.kt{Shun:Loc->Prop}{old k:Nat}{w w':World}{p q:Ph}{aD:Array MemAct}(h:eE ty Wg O w p w' aD q){t ops:Trace}(hK:KT Shun Wg old t)(gO:ops.map (·.act)=aD)(hg:∀op∈ops,op.g=k)(hk:old<=k):KT Shun Wg old (t++ops):=by
 have hin:∀op∈ops,op.act∈aD:=fun op ho=>by rw[<-gO];exact Array.mem_map.2 ⟨op,ho,rfl⟩
 refine hK.app (fun op ho=>.inr (.inl (by rw[hg op ho];exact hk))) fun op ho=>?_;rcases h.lists with⟨_,_,hk⟩|⟨_,_,hk⟩
 ·exact(hk _ (hin op ho)).rel _
 ·exact(hk _ (hin op ho)).rel
end
end
section
open Go Go.Conc
open Go.ConcN (ShN WgLive sumTo)
open Go.ConcR (KK WgAt stA smA rd wr mk)
def Ph.counted:Ph->Nat
 |.work|.said|.deaf=>1
 |_=>0
def Ph.fS:Ph->Nat
 |.work|.said=>0
 |_=>1
def Ph.early:Ph->Prop
 |.work|.said|.deaf|.quit=>True
 |_=>False
def Ph.last:Ph->Prop
 |.jV|.nS|.gF=>True
 |_=>False
def Mp.pend:Mp->Nat
 |.added|.ready=>1
 |_=>0
def Mp.fS:Mp->Nat
 |.opn|.ready|.wM|.back=>0
 |_=>1
def Mp.open_:Mp->Prop
 |.opn|.lY|.added|.ready|.waiting _|.seen _=>True
 |_=>False
def Mp.over:Mp->Prop
 |.woken|.fin|.wM|.back=>True
 |_=>False
inductive Mode(m:Nat)(f:Nat->Ph):Mp->Int->Int->Prop
 |opn {p:Mp} (hp:p.open_) (h:∀i,i<m->(f i).early) (hw:∀b,p=.waiting b->sumTo m (fun i=>(f i).counted)<=b) (hs:∀b,p=.seen b->sumTo m (fun i=>(f i).counted)<=b/\b≠0):
   Mode m f p (((sumTo m (fun i=>(f i).counted)+p.pend:Nat):Int) *KK) 0
 |reg (h:∀i,i<m->(f i).early) (h1:1<=sumTo m (fun i=>(f i).counted)):Mode m f .reg (((sumTo m (fun i=>(f i).counted):Nat):Int) *KK+1) 0
 |last {L:Nat} (hL:L<m) (h:(f L).last) (k:∀i,i<m->i≠L->f i=.quit) {st:Int} (hst:(f L=.gF/\st=0)\/(f L≠.gF/\st=1)):Mode m f .reg st 0
 |sema (h:∀i,i<m->f i=.quit):Mode m f .reg 0 1
 |over {p:Mp} (hp:p.over) (h:∀i,i<m->f i=.quit):Mode m f p 0 0
structure Works[aR](P:Program)(ty:TypeId)(Wg:Nat)(Q:(Nat->Prop)->World->Prop)(t:Trace)(k:Nat)(w:World)(s:xw):Prop where
 rel:Rel ty Wg s.O s.w w
 ws:s.p≠.quit->WS P ty Wg Q s.p s.O s.g s.w/\Deaf t k=s.p.fS
 qu:s.p=.quit->QuitsD P s.n (Deaf t k) s.g/\∀w₁,Rel ty Wg s.O s.w w₁->Q s.O w₁
 rl:s.p≠.work->∃r,iT Wg t k r
def AM(mp:Mp)(a:Goroutine)(bl:Bool)(gs:Array Goroutine):Prop:=
 (bl=false/\gs[0]? =some a)\/(bl=true/\mp=.reg/\a.offers=none/\gs[0]? =some {a with status:=.blocked})
def Acq(Wg old m:Nat)(t:Trace):Prop:=∃s,t.act? s=some (.mark (.acquire (stA Wg)))/\t.g? s=some 0/\t.heard s/\∀i,i<m->∃k,iT Wg t (old+i) k/\k<s
structure AV where
 X:Nat->Prop
 O:Nat->Prop
 W:World
structure lO(ty:TypeId)(Wg:Nat)(s:AV)(Ow:Nat->Nat->Prop)(w:World):Prop where
 no:∀j b,Ow j b->¬s.X b
 old:∀j b,Ow j b->s.O b\/s.W.heap.size<=b
 lt:∀b,s.X b->b<s.W.heap.size
 rel:Rel ty Wg s.X s.W w
 wg:¬s.X Wg
structure Inv[aR](P:Program)(ty:TypeId)(Wg:Nat)(Shun:Loc->Prop)(Q:Nat->(Nat->Prop)->World->Prop)(M old:Nat)(O0:AV)(mp:Mp)(a:Goroutine)(bl:Bool)(w0:World)(m:Nat)(f:Nat->xw)(Ow:Nat->Nat->Prop)(q:Nat->Nat)(gs:Array Goroutine)(w:World)(t:Trace):Prop where
 many:0<old
 size:gs.size=old+m
 room:M<2147483647/\m<=M
 tc:TC Wg Ow w.heap.size t
 kt:KT Shun Wg old t
 mode:∃st sm,WgAt ty Wg w st sm/\Mode m (fun i=>(f i).p) mp st sm/\(bl=true->sm≠1)
 main:AM mp a bl gs
 zY:Rel ty Wg (Ow 0) w0 w
 deaf0:Deaf t 0=mp.fS
 bK:∀i g,0<i->i<old->gs[i]? =some g->QuitsD P (q i) (Deaf t i) g
 own:∀i,i<m->(f i).O=Ow (old+i)/\gs[old+i]? =some (f i).g
 work:∀i,i<m->Works P ty Wg (Q i) t (old+i) w (f i)
 acq:mp=.back->Acq Wg old m t
 above:∀j,old+m<=j->Deaf t j=0/\(∀b,¬Ow j b)/\∀i,t.g? i≠some j
 bare:∀j,0<j->j<old->∀b,¬Ow j b
 all:lO ty Wg O0 Ow w
end
section
open Go Go.Conc
open Go.ConcN (ShN WgLive)
open Go.ConcR (KK WgAt stA smA rd wr mk)
section
variable [aR] [aB] {P:Program} {ty:TypeId} {Wg:Nat} {O:Nat->Prop} {t ops:Trace} {k:Nat}
def je(d:Nat)(a:MemAct):Nat:=match a with
 |.mark .disable=>d+1
 |.mark .enable=>d-1
 |_=>d
theorem nh(hg:∀op∈ops,op.g=k):Deaf (t++ops) k=(ops.map (·.act)).toList.foldl je (Deaf t k):=by
 have h:=Deaf_append t k ops.toList;simp only[Array.toArray_toList]at h;rw[h,Array.toList_map]
 have key:∀(l:List MemOp) (d:Nat),(∀op∈l,op.g=k)->l.foldl (deafStep k) d=(l.map (·.act)).foldl je d:=by
  intro l;induction l with
  |nil=>intro d _;rfl
  |cons y l ih=>
   intro d hl
   have hy:deafStep k d y=je d y.act:=by
    have hyk:=hl y (by simp);obtain⟨g,fn,pos,act⟩:=y;simp only at hyk;subst hyk;cases act with
    |mark m=>cases m<;>simp[deafStep,je]
    |_=>simp[deafStep,je]
   rw[List.foldl_cons,List.map_cons,List.foldl_cons,hy];exact ih _ fun op ho=>hl op (by simp[ho])
 exact key _ _ fun op ho=>hg op (by simpa using ho)
theorem Br{a:MemAct}(h:a≠.mark .disable/\a≠.mark .enable)(d:Nat):je d a=d:=by
 cases a with
 |mark m=>cases m<;>first|rfl|exact absurd rfl h.1|exact absurd rfl h.2
 |_=>rfl
theorem kV:∀(l:List MemAct) (d:Nat),(∀a∈l,a≠.mark .disable/\a≠.mark .enable)->l.foldl je d=d
 |[],_,_=>rfl
 |a::l,d,h=>by rw[List.foldl_cons,Br (h a (by simp)),kV l d fun b hb=>h b (by simp[hb])]
theorem eE.fS{w w':World}{p q:Ph}{aD:Array MemAct}(h:eE ty Wg O w p w' aD q)(gO:ops.map (·.act)=aD)(hg:∀op∈ops,op.g=k)(hd:Deaf t k=p.fS):Deaf (t++ops) k=q.fS:=by
 rw[nh hg,gO,hd];cases h with
 |own _ h=>exact kV _ _ fun a ha=>(h a (by simpa using ha)).marks
 |add _ _ _ hq=>rcases hq with⟨_,_,rfl⟩|⟨_,rfl⟩<;>simp[je,MemAct.ofEvent,rd,wr,Ph.fS]
 |idle=>simp
 |_=>simp[je,MemAct.ofEvent,rd,wr,semEvents,Ph.fS]
theorem cx.fS{w w':World}{p q:Mp}{aD:Array MemAct}(h:cx ty Wg O w p w' aD q)(gO:ops.map (·.act)=aD)(hg:∀op∈ops,op.g=0)(hd:Deaf t 0=p.fS):Deaf (t++ops) 0=q.fS:=by
 rw[nh hg,gO,hd];cases h with
 |own _ _ h=>exact kV _ _ fun a ha=>(h a (by simpa using ha)).marks
 |idle h=>
  refine kV _ _ fun a ha=>?_;obtain⟨e,he,rfl⟩:=Array.mem_map.1 (by simpa using ha);rcases h.2 e he with rfl|rfl<;>exact⟨by simp[MemAct.ofEvent],by simp[MemAct.ofEvent]⟩
 |DC hq=>rcases hq with rfl|⟨b,rfl,_⟩<;>simp[je,MemAct.ofEvent,mk,Mp.fS]
 |_=>simp[je,MemAct.ofEvent,rd,wr,mk,Mp.fS]
theorem cu{j:Nat}(hg:∀op∈ops,op.g=k)(hj:j≠k):Deaf (t++ops) j=Deaf t j:=Deaf_other t (g':=k) (Ne.symm hj) ops hg
end
end
section
open Go Go.Conc
open Go.ConcN (ShN WgLive RelBy)
open Go.ConcR (KK WgAt stA smA rd wr mk)
section
variable [aR] [aB] {P:Program} {ty:TypeId} {Wg:Nat} {O:Nat->Prop} {t ops:Trace} {k:Nat}
theorem iT.other{j s:Nat}(h:iT Wg t k s)(hg:∀op∈ops,op.g=j)(hj:j≠k):iT Wg (t++ops) k s:=
 h.app (fun i hi KQ=>by
  rcases iA KQ with⟨hlt,_⟩|⟨_,op,hop,_,e⟩
  ·omega
  ·exact absurd ((hg op hop).symm.trans e) hj) fun op hop e=>absurd ((hg op hop).symm.trans e) hj
theorem Kf(hg:∀op∈ops,op.g=k){i:Nat}(hi:i<=ops.size):(t++ops).deaf k (t.size+i)=((ops.map (·.act)).toList.take i).foldl je (Deaf t k):=by
 have e:t++ops=(t++ops.extract 0 i)++ops.extract i ops.size:=by rw[Array.append_assoc,Array.extract_append_extract];simp[Nat.min_eq_left,Nat.max_eq_right hi]
 have hs:(t++ops.extract 0 i).size=t.size+i:=by simp[Nat.min_eq_left hi]
 rw[e,deaf_old (by omega)];have:(t++ops.extract 0 i).deaf k (t.size+i)=Deaf (t++ops.extract 0 i) k:=by unfold Deaf;rw[hs]
 rw[this,nh fun op ho=>hg op (by obtain⟨j,hj,rfl⟩:=Array.mem_iff_getElem.1 ho;simp)]
 congr 1
 simp[Array.toList_extract,List.extract]
theorem FM:∀(l:List MemAct) (d:Nat),(∀a∈l,a≠.mark .enable)->d<=l.foldl je d
 |[],_,_=>Nat.le_refl _
 |a::l,d,h=>by
  rw[List.foldl_cons];refine Nat.le_trans ?_ (FM l _ fun b hb=>h b (by simp[hb]));cases a with
  |mark m=>cases m<;>first|exact Nat.le_refl _|exact Nat.le_succ _|exact absurd rfl (h _ (by simp))
  |_=>exact Nat.le_refl _
theorem iT.own{s:Nat}(h:iT Wg t k s)(hg:∀op∈ops,op.g=k)(hl:∀op∈ops,lN Wg op.act)(hd:1<=Deaf t k\/∀op∈ops,op.act.touch?=none)(hpre:∀i x,(ops[i]?).bind (·.act.touch?)=some x->∀a∈(ops.map (·.act)).toList.take i,a≠.mark .enable):iT Wg (t++ops) k s:=by
 refine h.app (fun i hi KQ hc=>?_) fun op hop _ x hx=>(hl op hop).touch x hx;obtain⟨x,hx,hm,hk⟩:=hc;rcases iA KQ with⟨hlt,_⟩|⟨_,op,hop,h1,e⟩
 ·omega
 have hx':op.act.touch?=some x:=by
  have:touchAt (t++ops) i=some x:=hx
  rwa [touchAt_of h1]at this
 rcases hd with hd|hd
 ·rcases hk with hk|hk
  ·exact hk ((hl op hop).touch x hx').2
  ·obtain⟨g,Xl,hg2⟩:=hk;rw[KQ]at Xl;obtain rfl:=Option.some.inj Xl;obtain⟨j,rfl⟩:∃j,i=t.size+j:=⟨i-t.size,by omega⟩
   have hj:j<ops.size:=by have:=lt_size_of_getElem? h1;simp at this;omega
   rw[Kf hg (Nat.le_of_lt hj)]at hg2
   have hoj:ops[j]? =some op:=by rw[Array.getElem?_append_right (by omega)]at h1;simpa using h1
   have:=FM _ (Deaf t k) (hpre j x (by rw[hoj];exact hx'));omega
 ·rw[hd op hop]at hx';cases hx'
theorem eE.ZX{w w':World}{p q:Ph}{aD:Array MemAct}(h:eE ty Wg O w p w' aD q)(gO:ops.map (·.act)=aD)(hg:∀op∈ops,op.g=k)(hd:Deaf t k=p.fS)(hr:p≠.work->∃s,iT Wg t k s)(hq:q≠.work):∃s,iT Wg (t++ops) k s:=by
 have hin:∀op∈ops,op.act∈aD:=fun op ho=>by rw[<-gO];exact Array.mem_map.2 ⟨op,ho,rfl⟩
 have calm:(∀a∈aD,a≠.mark .enable)->∀i x,(ops[i]?).bind (·.act.touch?)=some x->∀a∈(ops.map (·.act)).toList.take i,a≠.mark .enable:=fun hc i x _ a ha=>hc a (by rw[<-gO];exact Array.mem_toList_iff.1 (List.mem_of_mem_take ha))
 have lib:p≠.work->(∀a∈aD,lN Wg a)->(1<=Deaf t k\/∀op∈ops,op.act.touch?=none)->(∀i x,(ops[i]?).bind (·.act.touch?)=some x->∀a∈(ops.map (·.act)).toList.take i,a≠.mark .enable)->∃s,iT Wg (t++ops) k s:=fun hp hl hd hpre=>by obtain⟨s,hs⟩:=hr hp;exact⟨s,hs.own hg (fun op ho=>hl _ (hin op ho)) hd hpre⟩
 cases h with
 |own=>exact absurd rfl hq
 |rel=>
  have hsz:ops.size=1:=by have:=congrArg Array.size gO;simpa using this
  obtain⟨op,rfl⟩:∃op,ops=#[op]:=by
   obtain⟨l⟩:=ops
   match l,hsz with
   |[op],_=>exact⟨op,rfl⟩
  have ha:op.act=.mark (.releaseMerge (stA Wg)):=by simpa using gO
  have hk:=hg op (by simp);have hat:(t++#[op])[t.size]? =some op:=by simp
  refine⟨t.size,⟨by simp[Trace.act?,ha],by simp[Trace.g?,hk],⟨k,by simp[Trace.g?,hk],?_⟩,fun i hi KQ=>?_⟩,fun i hi KQ=>?_⟩
  ·rw[deaf_old (Nat.le_refl _)];exact hd
  ·exfalso;obtain⟨z,hz,_⟩:=Option.map_eq_some_iff.1 KQ;have:=lt_size_of_getElem? hz;simp at this;omega
  ·exfalso;obtain⟨z,hz,_⟩:=Option.map_eq_some_iff.1 KQ;have:=lt_size_of_getElem? hz;simp at this;omega
 |idle hp=>exact lib hp (fun a ha=>by simp at ha) (.inr fun op ho=>by have:=hin op ho;simp at this) (calm fun a ha=>by simp at ha)
 |DC=>exact lib (by simp) (fun a ha=>by simp at ha;rw[ha];exact tJ Wg) (.inr fun op ho=>by have:=hin op ho;simp at this;rw[this];rfl) (calm fun a ha=>by simp at ha;rw[ha];simp)
 |add=>exact lib (by simp) (zE Wg) (.inl (by rw[hd];exact Nat.le_refl _)) (calm fun a ha=>by simp only[List.map_toArray,List.map_cons,List.map_nil,List.mem_toArray,List.mem_cons,List.not_mem_nil,or_false]at ha;rcases ha with rfl|rfl<;>simp[MemAct.ofEvent,rd,wr])
 |look=>exact lib (by simp) (qg (mJ Wg _ rfl)) (.inl (by rw[hd];exact Nat.le_refl _)) (calm fun a ha=>by simp at ha;rw[ha];simp[MemAct.ofEvent,rd])
 |zero=>exact lib (by simp) (qg (zG Wg _ rfl)) (.inl (by rw[hd];exact Nat.le_refl _)) (calm fun a ha=>by simp at ha;rw[ha];simp[MemAct.ofEvent,wr])
 |post=>
  refine lib (by simp) (zF Wg) (.inl (by rw[hd];exact Nat.le_refl _)) fun i x hx a ha=>?_;have hx':((ops.map (·.act))[i]?).bind (·.touch?)=some x:=by rw[Array.getElem?_map];cases hh:ops[i]? <;>simp_all
  rw[gO]at hx' ha;simp only[semEvents,List.map_toArray,List.map_cons,List.map_nil,MemAct.ofEvent]at hx' ha
  match i with
  |0=>simp at ha
  |1=>simp at ha;rw[ha];simp
  |2=>simp at ha;rcases ha with rfl|rfl<;>simp
  |3=>simp[MemAct.touch?]at hx'
  |n+4=>simp at hx'
end
end
end Go.Proofs.YtpobhljcainmdaaGreat
