/- Proved here: a part of what Doors keeps (Mc6, Mc7, Mc8, Mc9). -/
import Derived.Test.YtpobhljcainmdaaGreatJ27
set_option maxRecDepth 100000
set_option maxHeartbeats 8000000
set_option linter.all false
namespace Go.Proofs.YtpobhljcainmdaaGreat
section
open Go Go.Conc
open Go.ConcN (ShN WgLive sumTo upd sumTo_upd upd_ne upd_same le_sumTo sumTo_le)
open Go.ConcR (KK WgAt stA smA rd wr mk)
section
variable [aR] [aB] {P:Program} {ty:TypeId} {Wg:Nat} {O:Nat->Prop} {m:Nat} {f:Nat->Ph} {mp:Mp} {st sm:Int} {w:World}
theorem oy(m:Nat)(f:Nat->Ph):sumTo m (fun i=>(f i).counted)<=m:=by
 have:=sumTo_le (f:=fun i=>(f i).counted) (c:=1) (j:=m) fun i _=>by cases f i<;>simp[Ph.counted]
 omega
theorem Mode.GJ(h:Mode m f mp st sm)(hw:WgAt ty Wg w st sm){i:Nat}(hi:i<m)(hm:m<2147483647):yC ty Wg (f i) w:=by
 have hc:=oy m f;have hle:(f i).counted<=sumTo m (fun i=>(f i).counted):=le_sumTo (f:=fun i=>(f i).counted) hi
 have late:∀{p:Ph},p.early->p≠.deaf->yC ty Wg p w:=fun{p} he hn=>by
  cases p with
  |deaf=>exact absurd rfl hn
  |jV=>exact he.elim
  |nS=>exact he.elim
  |gF=>exact he.elim
  |_=>trivial
 cases h with
 |opn hp he h1 h2=>
  by_cases hd:f i=.deaf
  ·rw[hd]at hle⊢
   replace hle:1<=sumTo m (fun i=>(f i).counted):=hle
   have aal:mp.pend<=1:=by cases mp<;>simp[Mp.pend]
   refine⟨sumTo m (fun i=>(f i).counted)+mp.pend-1,0,by omega,by omega,?_⟩;have e:(((sumTo m (fun i=>(f i).counted)+mp.pend-1:Nat):Int)+1) *KK+((0:Nat):Int)=((sumTo m (fun i=>(f i).counted)+mp.pend:Nat):Int) *KK:=by simp only[KK];omega
   rw[e];exact hw
  ·exact late (he i hi) hd
 |reg he h1=>
  by_cases hd:f i=.deaf
  ·rw[hd];refine⟨sumTo m (fun i=>(f i).counted)-1,1,by omega,by omega,?_⟩;have e:(((sumTo m (fun i=>(f i).counted)-1:Nat):Int)+1) *KK+((1:Nat):Int)=((sumTo m (fun i=>(f i).counted):Nat):Int) *KK+1:=by simp only[KK];omega
   rw[e];exact hw
  ·exact late (he i hi) hd
 |@last L hL hl hk _ hst=>
  by_cases KS:i=L
  ·subst KS;rcases hst with⟨e,rfl⟩|⟨e,rfl⟩
   ·rw[e];exact hw
   ·generalize f i=p at hl e;cases p with
    |jV=>exact hw
    |nS=>exact hw
    |gF=>exact absurd rfl e
    |_=>exact hl.elim
  ·rw[hk i hi KS];trivial
 |sema hq=>rw[hq i hi];trivial
 |over _ hq=>rw[hq i hi];trivial
theorem Mode.worker(h:Mode m f mp st sm)(hw:WgAt ty Wg w st sm){i:Nat}(hi:i<m){w':World}{aD:Array MemAct}{q:Ph}(hO:¬O Wg)(FY:Wg<w.heap.size)(hok:eE ty Wg O w (f i) w' aD q)(hm:m<2147483647):
  ∃st' sm',WgAt ty Wg w' st' sm'/\Mode m (upd f i q) mp st' sm':=by
 have he:=h.GJ hw hi hm;have hup:=sumTo_upd f q Ph.counted hi
 have same:WgAt ty Wg w' st sm->q.counted=(f i).counted->((f i).early↔q.early)->((f i).last->q.last/\(f i=.gF↔q=.gF))->(f i≠.quit)->∃st' sm',WgAt ty Wg w' st' sm'/\Mode m (upd f i q) mp st' sm':=fun hw' hc hee hll Zm=>by
  have hsum:sumTo m (fun a=>(upd f i q a).counted)=sumTo m (fun a=>(f a).counted):=by omega
  have early:(∀j,j<m->(f j).early)->∀j,j<m->(upd f i q j).early:=fun h j hj=>by
   by_cases hji:j=i
   ·subst hji;rw[upd_same];exact hee.1 (h j hj)
   ·rw[upd_ne f q hji];exact h j hj
  refine⟨st,sm,hw',?_⟩;cases h with
  |opn hp h1 h2 h3=>rw[<-hsum];exact .opn hp (early h1) (by rw[hsum];exact h2) (by rw[hsum];exact h3)
  |reg h1 h2=>rw[<-hsum];exact .reg (early h1) (by rw[hsum];exact h2)
  |@last L hL hl hk _ hst=>
   by_cases KS:i=L
   ·subst KS;obtain⟨k1,k2⟩:=hll hl;refine .last (L:=i) hi (by rw[upd_same];exact k1) (fun j hj hne=>by rw[upd_ne f q hne];exact hk j hj hne) ?_;rw[upd_same];rcases hst with⟨e,rfl⟩|⟨e,rfl⟩
    ·exact .inl ⟨k2.1 e,rfl⟩
    ·exact .inr ⟨fun h=>e (k2.2 h),rfl⟩
   ·exact absurd (hk i hi KS) Zm
  |sema hq=>exact absurd (hq i hi) Zm
  |over _ hq=>exact absurd (hq i hi) Zm
 have zC:(f i).last->(∀j,j<m->j≠i->f j=.quit)/\mp=.reg/\sm=0:=fun hl=>by
  have no:∀{p:Ph},p.last->p.early->False:=fun{p} a b=>by cases p<;>first|exact a.elim|exact b.elim
  cases h with
  |opn _ h1=>exact(no hl (h1 i hi)).elim
  |reg h1=>exact(no hl (h1 i hi)).elim
  |@last L hL hl' hk _ hst=>
   by_cases KS:i=L
   ·subst KS;exact⟨hk,rfl,rfl⟩
   ·rw[hk i hi KS]at hl;exact hl.elim
  |sema hq=>rw[hq i hi]at hl;exact hl.elim
  |over _ hq=>rw[hq i hi]at hl;exact hl.elim
 generalize Xk:f i=p at hok he same zC hup;cases hok with
 |own hd=>exact same ((hd.cG Wg FY hO).trans hw) rfl Iff.rfl (fun a=>a.elim) (by simp)
 |rel=>exact same hw rfl Iff.rfl (fun a=>a.elim) (by simp)
 |idle hp hq=>exact same hw rfl Iff.rfl (fun a=>⟨a,Iff.rfl⟩) hq
 |DC=>exact same hw rfl Iff.rfl (fun a=>a.elim) (by simp)
 |look=>exact same hw rfl Iff.rfl (fun _=>⟨trivial,by simp⟩) (by simp)
 |zero=>
  obtain⟨k1,rfl,rfl⟩:=zC trivial;exact⟨0,0,hw.setSt 0,.last (L:=i) hi (by rw[upd_same];trivial) (fun j hj hne=>by rw[upd_ne f _ hne];exact k1 j hj hne) (.inl ⟨upd_same f i _,rfl⟩)⟩
 |post=>
  obtain⟨k1,rfl,rfl⟩:=zC trivial;have e:st=0:=(hw.unique (show WgAt ty Wg w 0 0 from he)).1;subst e
  exact⟨0,1,hw.setSm 1,.sema fun j hj=>by
   by_cases hji:j=i
   ·subst hji;exact upd_same f j _
   ·rw[upd_ne f _ hji];exact k1 j hj hji⟩
 |@add v wt hat hwt hv q hq=>
  have e:=hw.unique hat;refine⟨_,_,hat.setSt _,?_⟩
  have early:q.early->(∀j,j<m->(f j).early)->∀j,j<m->(upd f i q j).early:=fun hqe h j hj=>by
   by_cases hji:j=i
   ·subst hji;rw[upd_same];exact hqe
   ·rw[upd_ne f q hji];exact h j hj
  cases h with
  |opn hp h1 h2 h3=>
   have e1:=e.1;simp only[KK]at e1;have ev:v+1=sumTo m (fun i=>(f i).counted)+mp.pend/\wt=0:=by omega
   rcases hq with⟨_,b,_⟩|⟨_,rfl⟩
   ·omega
   have hc:Ph.quit.counted=0:=rfl;have hd:Ph.deaf.counted=1:=rfl;have hs:sumTo m (fun a=>(upd f i .quit a).counted)+mp.pend=v:=by omega
   have goal:((v:Int) *KK+(wt:Int))=((sumTo m (fun a=>(upd f i .quit a).counted)+mp.pend:Nat):Int) *KK:=by rw[hs,ev.2];simp
   rw[goal];refine .opn hp (early trivial h1) (fun b hb=>?_) fun b hb=>?_
   ·have:=h2 b hb;omega
   ·have:=h3 b hb;exact⟨by omega,this.2⟩
  |reg h1 h2=>
   have e1:=e.1;simp only[KK]at e1;have ev:v+1=sumTo m (fun i=>(f i).counted)/\wt=1:=by omega
   have hd:Ph.deaf.counted=1:=rfl;rcases hq with⟨a,b,rfl⟩|⟨a,rfl⟩
   ·subst a b;have hc:Ph.jV.counted=0:=rfl;have hs:sumTo m (fun a=>(upd f i .jV a).counted)=0:=by omega
    have all:∀j,j<m->j≠i->f j=.quit:=fun j hj hne=>by
     have h5:=le_sumTo (f:=fun a=>(upd f i .jV a).counted) hj;simp only[upd_ne f _ hne]at h5;have h6:=h1 j hj;have h7:(f j).counted=0:=by omega
     generalize f j=p at h6 h7;cases p with
     |quit=>rfl
     |jV=>exact h6.elim
     |nS=>exact h6.elim
     |gF=>exact h6.elim
     |_=>cases h7
    exact .last (L:=i) hi (by rw[upd_same];trivial) (fun j hj hne=>by rw[upd_ne f _ hne];exact all j hj hne) (.inr ⟨by rw[upd_same];simp,by simp⟩)
   ·have hc:Ph.quit.counted=0:=rfl;have hs:sumTo m (fun a=>(upd f i .quit a).counted)=v:=by omega
    have hv0:v≠0:=fun h0=>a ⟨h0,ev.2⟩;have goal:((v:Int) *KK+(wt:Int))=((sumTo m (fun a=>(upd f i .quit a).counted):Nat):Int) *KK+1:=by rw[hs,ev.2];simp
    rw[goal];exact .reg (early trivial h1) (by omega)
  |@last L hL hl hk _ hst=>
   by_cases KS:i=L
   ·subst KS;rw[Xk]at hl;exact hl.elim
   ·have:=hk i hi KS;rw[Xk]at this;cases this
  |sema kY=>have:=kY i hi;rw[Xk]at this;cases this
  |over _ kY=>have:=kY i hi;rw[Xk]at this;cases this
end
end
section
open Go Go.Conc
open Go.ConcN (ShN WgLive sumTo upd sumTo_upd upd_ne upd_same le_sumTo sumTo_le)
open Go.ConcR (KK WgAt stA smA rd wr mk)
section
variable [aR] [aB] {P:Program} {ty:TypeId} {Wg:Nat} {O:Nat->Prop} {m:Nat} {f:Nat->Ph} {mp:Mp} {st sm:Int} {w:World}
theorem JO(h1:∀i,i<m->(f i).early)(h:sumTo m (fun i=>(f i).counted)=0):∀j,j<m->f j=.quit:=fun j hj=>by
 have h5:=le_sumTo (f:=fun a=>(f a).counted) hj;have h6:=h1 j hj;have h7:(f j).counted=0:=by omega
 generalize f j=p at h6 h7;cases p with
 |quit=>rfl
 |jV=>exact h6.elim
 |nS=>exact h6.elim
 |gF=>exact h6.elim
 |_=>cases h7
theorem Mode.open_(h:Mode m f mp st sm)(hp:mp.open_):(∀i,i<m->(f i).early)/\st=((sumTo m (fun i=>(f i).counted)+mp.pend:Nat):Int) *KK/\sm=0/\(∀b,mp=.waiting b->sumTo m (fun i=>(f i).counted)<=b)/\(∀b,mp=.seen b->sumTo m (fun i=>(f i).counted)<=b/\b≠0):=by
 cases h with
 |opn _ h1 h2 h3=>exact⟨h1,rfl,rfl,h2,h3⟩
 |reg=>exact hp.elim
 |last=>exact hp.elim
 |sema=>exact hp.elim
 |over h=>cases mp<;>first|exact hp.elim|exact h.elim
theorem Mode.vu(h:Mode m f mp st sm)(hp:mp.over):(∀i,i<m->f i=.quit)/\st=0/\sm=0:=by
 cases h with
 |opn h=>cases mp<;>first|exact hp.elim|exact h.elim
 |reg=>exact hp.elim
 |last=>exact hp.elim
 |sema=>exact hp.elim
 |over _ h=>exact⟨h,rfl,rfl⟩
theorem Mode.Ub(h:Mode m f mp st sm)(hw:WgAt ty Wg w st sm)(hm:m<2147483647):AI ty Wg mp w:=by
 have hc:=oy m f;cases mp with
 |lY=>
  obtain⟨_,rfl,rfl,_⟩:=h.open_ trivial;exact⟨_,by simp only[Mp.pend];omega,hw⟩
 |waiting b=>
  obtain⟨_,rfl,rfl,h2,_⟩:=h.open_ trivial;exact⟨_,by have:=h2 b rfl;simp only[Mp.pend];omega,by simp only[Mp.pend];omega,hw⟩
 |seen b=>
  obtain⟨_,rfl,rfl,_,h2⟩:=h.open_ trivial;exact⟨_,by have:=(h2 b rfl).1;simp only[Mp.pend];omega,by simp only[Mp.pend];omega,hw⟩
 |woken=>
  obtain⟨_,rfl,rfl⟩:=h.vu trivial;exact hw
 |_=>trivial
theorem Mode.main(h:Mode m f mp st sm)(hw:WgAt ty Wg w st sm){w':World}{aD:Array MemAct}{q:Mp}(hO:¬O Wg)(FY:Wg<w.heap.size)(hok:cx ty Wg O w mp w' aD q)(hm:m<2147483647):
  ∃st' sm',WgAt ty Wg w' st' sm'/\Mode m f q st' sm':=by
 have hc:=oy m f;have inj:∀{a b:Nat},((a:Int) *KK)=(b:Int) *KK->a=b:=fun{a b} e=>by simp only[KK]at e;omega
 cases hok with
 |own _ hd=>exact⟨st,sm,(hd.cG Wg FY hO).trans hw,h⟩
 |idle=>exact⟨st,sm,hw,h⟩
 |DC hq=>
  obtain⟨h1,rfl,rfl,_⟩:=h.open_ trivial;refine⟨_,_,hw,?_⟩;rcases hq with rfl|⟨b,rfl,hb⟩
  ·exact .opn (p:=.lY) trivial h1 (fun b e=>by cases e) fun b e=>by cases e
  ·exact .opn (p:=.waiting b) trivial h1 (fun b' e=>by cases e;omega) fun b e=>by cases e
 |@add v hat hv=>
  obtain⟨h1,rfl,rfl,_⟩:=h.open_ trivial;refine⟨_,_,hw.setSt _,?_⟩;have e:=inj (hw.unique hat).1;have goal:((v:Int)+1) *KK=((sumTo m (fun i=>(f i).counted)+Mp.added.pend:Nat):Int) *KK:=by simp only[Mp.pend]at e⊢;rw[<-e];simp
  rw[goal];exact .opn (p:=.added) trivial h1 (fun b e=>by cases e) fun b e=>by cases e
 |GJ=>
  obtain⟨h1,rfl,rfl,_⟩:=h.open_ trivial;exact⟨_,_,hw,.opn (p:=.ready) trivial h1 (fun b e=>by cases e) fun b e=>by cases e⟩
 |@zero b hat=>
  obtain⟨h1,rfl,rfl,_⟩:=h.open_ trivial;have e:=(hw.unique hat).1;have e0:sumTo m (fun i=>(f i).counted)=0:=by simp only[Mp.pend,KK]at e;omega
  exact⟨0,0,hat,.over (p:=.fin) trivial (JO h1 e0)⟩
 |@saw b v hat hb h0=>
  obtain⟨h1,rfl,rfl,_⟩:=h.open_ trivial;have e:=inj (hw.unique hat).1;exact⟨_,_,hw,.opn (p:=.seen v) trivial h1 (fun b e=>by cases e) fun b' e'=>by cases e';simp only[Mp.pend]at e;exact⟨by omega,h0⟩⟩
 |@hit v hat h0=>
  obtain⟨h1,rfl,rfl,_⟩:=h.open_ trivial;have e:=inj (hw.unique hat).1;simp only[Mp.pend,Nat.add_zero]at e;refine⟨_,_,hat.setSt _,?_⟩;rw[<-e];exact .reg h1 (by omega)
 |@Rz v v' hat hb=>
  obtain⟨h1,rfl,rfl,_⟩:=h.open_ trivial;have e:=inj (hw.unique hat).1;exact⟨_,_,hw,.opn (p:=.waiting (v-1)) trivial h1 (fun b e'=>by cases e';simp only[Mp.pend]at e;omega) fun b e'=>by cases e'⟩
 |got=>
  obtain⟨h1,rfl,rfl⟩:=h.vu trivial;exact⟨_,_,hw,.over (p:=.fin) trivial h1⟩
 |Kl=>
  obtain⟨h1,rfl,rfl⟩:=h.vu trivial;exact⟨_,_,hw,.over (p:=.wM) trivial h1⟩
 |acq=>
  obtain⟨h1,rfl,rfl⟩:=h.vu trivial;exact⟨_,_,hw,.over (p:=.back) trivial h1⟩
end
end
section
open Go Go.Conc
open Go.ConcN (sumTo upd sumTo_upd upd_ne upd_same le_sumTo sumTo_le sumTo_upd_out)
open Go.ConcR (KK WgAt stA smA)
section
variable [aR] [aB] {ty:TypeId} {Wg:Nat} {m:Nat} {f:Nat->Ph} {mp:Mp} {st sm:Int} {w:World}
theorem Mode.spawn(h:Mode m f .ready st sm):Mode (m+1) (upd f m .work) .opn st sm:=by
 obtain⟨h1,rfl,rfl,_⟩:=h.open_ trivial
 have e:sumTo (m+1) (fun i=>(upd f m .work i).counted)=sumTo m (fun i=>(f i).counted)+1:=by have:=sumTo_upd_out f Ph.work Ph.counted (Nat.le_refl m);simp only[sumTo,upd_same,this];rfl
 have goal:((sumTo m (fun i=>(f i).counted)+Mp.ready.pend:Nat):Int) *KK=((sumTo (m+1) (fun i=>(upd f m .work i).counted)+Mp.opn.pend:Nat):Int) *KK:=by rw[e];rfl
 rw[goal];refine .opn (p:=.opn) trivial (fun i hi=>?_) (fun b e=>by cases e) fun b e=>by cases e
 by_cases NN:i=m
 ·subst NN;rw[upd_same];trivial
 ·rw[upd_ne f _ NN];exact h1 i (by omega)
theorem Mode.Sc(h:Mode m f .reg st sm):sm=0\/(st=0/\sm=1/\∀i,i<m->f i=.quit):=by
 cases h with
 |opn h=>exact h.elim
 |reg=>exact .inl rfl
 |last=>exact .inl rfl
 |sema h=>exact .inr ⟨rfl,rfl,h⟩
 |over h=>exact h.elim
theorem Mode.Me(h:Mode m f .reg st 0):∃i,i<m/\f i≠.quit:=by
 cases h with
 |opn h=>exact h.elim
 |reg h1 h2=>
  refine Classical.byContradiction fun hn=>?_
  have all:∀i,i<m->(f i).counted<=0:=fun i hi=>by have:f i=.quit:=Classical.byContradiction fun hne=>hn ⟨i,hi,hne⟩;rw[this];exact Nat.le_refl _
  have:=sumTo_le (f:=fun i=>(f i).counted) (c:=0) all;omega
 |@last L hL hl=>exact⟨L,hL,fun e=>by rw[e]at hl;exact hl⟩
 |over h=>exact h.elim
theorem Mode.take(h:Mode m f .reg st 1)(hw:WgAt ty Wg w st 1):∃st' sm',WgAt ty Wg (w.setCell (smA Wg) (.int .u32 0)) st' sm'/\Mode m f .woken st' sm':=by
 rcases h.Sc with e|⟨rfl,_,hq⟩
 ·cases e
 ·exact⟨0,0,hw.setSm 0,.over (p:=.woken) trivial hq⟩
end
end
section
open Go Go.Conc
open Go.ConcN (ShN WgLive sumTo upd sumTo_upd upd_ne upd_same)
open Go.ConcR (KK WgAt stA smA rd wr mk)
section
variable [aR] [aB] {P:Program} {ty:TypeId} {Wg:Nat} {Shun:Loc->Prop} {Q:Nat->(Nat->Prop)->World->Prop} {M old:Nat} {O0:AV} {mp:Mp} {a:Goroutine} {bl:Bool} {w0:World} {m:Nat} {f:Nat->xw} {Ow:Nat->Nat->Prop} {q:Nat->Nat} {gs:Array Goroutine} {w:World} {t:Trace} {sl:Option (Nat×Nat)}
structure dD(w w':World):Prop where
 os:w'.os=w.os
 output:w'.output=w.output
 tape:w'.tape=w.tape
 size:w.heap.size<=w'.heap.size
theorem dD.refl(w:World):dD w w:=⟨rfl,rfl,rfl,Nat.le_refl _⟩
theorem dD.trans{w1 w2 w3:World}(h:dD w1 w2)(k:dD w2 w3):dD w1 w3:=⟨k.os.trans h.os,k.output.trans h.output,k.tape.trans h.tape,Nat.le_trans h.size k.size⟩
theorem dD.at (w:World)(d:Nat):dD w (w.at d):=⟨rfl,rfl,rfl,Nat.le_refl _⟩
theorem dD.set(w:World)(ad:Addr)(v:Value):dD w (w.setCell ad v):=⟨by simp[World.setCell],by simp[World.setCell],by simp[World.setCell],by simp⟩
theorem MV.same{O:Nat->Prop}{w w':World}(h:MV O w w'):dD w w':=⟨h.os,h.output,h.tape,h.size⟩
theorem eE.same{O:Nat->Prop}{w w':World}{p p':Ph}{aD:Array MemAct}(h:eE ty Wg O w p w' aD p'):dD w w':=by
 cases h with
 |own h=>exact h.same
 |add=>exact .set ..
 |zero=>exact .set ..
 |post=>exact .set ..
 |_=>exact .refl _
theorem cx.same{O:Nat->Prop}{w w':World}{p p':Mp}{aD:Array MemAct}(h:cx ty Wg O w p w' aD p'):dD w w':=by
 cases h with
 |own _ h=>exact h.same
 |add=>exact .set ..
 |hit=>exact .set ..
 |_=>exact .refl _
theorem nE(Ow:Nat->Nat->Prop)(k:Nat)(O:Nat->Prop):iY Ow k O k=O:=by
 funext b
 apply propext;constructor
 ·rintro(⟨_,h⟩|⟨h,_⟩)
  ·exact h
  ·exact absurd rfl h
 ·exact fun h=>.inl ⟨rfl,h⟩
theorem dx(Ow:Nat->Nat->Prop){k j:Nat}(hj:j≠k)(O:Nat->Prop):iY Ow k O j=Ow j:=by
 funext b
 apply propext;constructor
 ·rintro(⟨h,_⟩|⟨_,h⟩)
  ·exact absurd h hj
  ·exact h
 ·exact fun h=>.inr ⟨hj,h⟩
theorem FE{w':World}(h:lO ty Wg O0 Ow w)(hr:Rel ty Wg O0.X w w'){k:Nat}{O:Nat->Prop}(hk:∀b,O b->Ow k b\/w.heap.size<=b):lO ty Wg O0 (iY Ow k O) w':=by
 have hs:=h.rel.size;refine⟨fun j b hb hx=>?_,fun j b hb=>?_,h.lt,h.rel.trans hr,h.wg⟩
 rotate_left
 ·rcases hb with⟨_,hb⟩|⟨_,hb⟩
  ·rcases hk b hb with h1|h1
   ·exact h.old k b h1
   ·exact .inr (by omega)
  ·exact h.old j b hb
 rcases hb with⟨_,hb⟩|⟨_,hb⟩
 ·rcases hk b hb with h1|h1
  ·exact h.no k b h1 hx
  ·have:=h.lt b hx;have:=h.rel.size;omega
 ·exact h.no j b hb hx
theorem lO.at (h:lO ty Wg O0 Ow w)(d:Nat):lO ty Wg O0 Ow (w.at d):=⟨h.no,h.old,h.lt,h.rel.trans (.at ..),h.wg⟩
theorem lO.small(h:lO ty Wg O0 Ow w):∀b,O0.X b->b<w.heap.size:=fun b hb=>Nat.lt_of_lt_of_le (h.lt b hb) h.rel.size
theorem sQ{i:Nat}{g g1:Goroutine}{w1:World}{aD:Array MemAct}(hi:gs[i]? =some g)(hno:∀(j:Nat) h,gs[j]? =some h->h.status=.blocked->h.offers=none)(h:iU P (i==0) g w g1 w1 aD):
  ∃F ops,runT P (crowd gs w sl) i=(.next (crowd ((gs.map F).setIfInBounds i g1) w1 sl),ops)/\(F=woken P g g1 w1\/(F=id/\∀g' w' es,stepG P (i==0) g w≠.go g' w' es))/\ops.map (·.act)=aD/\∀op∈ops,op.g=i:=by
 obtain⟨F,ops,h1,h2,h3,h4⟩:=wm (sl:=sl) hi hno h;cases h with
 |go h=>
  refine⟨_,_,runT_crowd_go hi h,.inl rfl,?_,MemOp.ofEvents_g _ _ _ _⟩;rw[ofEvents_eq];simp[Array.map_map,Function.comp_def]
 |shut h hc=>exact⟨F,ops,h1,h2.imp id fun e=>⟨e,fun g' w' es e'=>by rw[h]at e';cases e'⟩,h3,h4⟩
 |uz h hc=>exact⟨F,ops,h1,h2.imp id fun e=>⟨e,fun g' w' es e'=>by rw[h]at e';cases e'⟩,h3,h4⟩
 |fC h=>exact⟨F,ops,h1,h2.imp id fun e=>⟨e,fun g' w' es e'=>by rw[h]at e';cases e'⟩,h3,h4⟩
theorem bZ{F:Goroutine->Goroutine}{g g1 x:Goroutine}{w1:World}{X:Prop}(hF:F=woken P g g1 w1\/(F=id/\X))(hx:x.status=.running\/x.status=.finished):F x=x:=by
 rcases hF with rfl|⟨rfl,_⟩
 ·unfold woken;split
  ·exact again_running _ hx
  ·rfl
 ·rfl
theorem yH{a:Goroutine}(ha:a.status=.running):({({a with status:=.blocked}:Goroutine)with status:=.running}:Goroutine)=a:=by
 cases a
 simp_all
theorem rK(h:AM mp a bl gs)(ha:a.status=.running){F:Goroutine->Goroutine}{g g1:Goroutine}{w1:World}{X:Prop}(hF:F=woken P g g1 w1\/(F=id/\X)){k:Nat}(hk:k≠0):
  ∃um,AM mp a um ((gs.map F).setIfInBounds k g1)/\(um=true->bl=true/\¬(F=woken P g g1 w1/\mayWake P g=true/\(g1.status=.running\/g1.status=.finished))):=by
 have Bb:((gs.map F).setIfInBounds k g1)[0]? =(gs[0]?).map F:=by rw[Array.getElem?_setIfInBounds_ne hk,Array.getElem?_map]
 rcases h with⟨rfl,h0⟩|⟨rfl,hm,ho,h0⟩
 ·refine⟨false,.inl ⟨rfl,?_⟩,fun e=>by cases e⟩;rw[Bb,h0];simp[bZ hF (.inl ha)]
 ·rcases hF with rfl|⟨rfl,_⟩
  ·by_cases hw:(mayWake P g&&g1.status !=.blocked&&g1.status !=.waiting)=true
   ·refine⟨false,.inl ⟨rfl,?_⟩,fun e=>by cases e⟩;rw[Bb,h0];simp only[Option.map_some,woken,if_pos hw];refine congrArg some ?_
    have:({a with status:=.blocked}:Goroutine).again w1={({a with status:=.blocked}:Goroutine)with status:=.running}:=by unfold Goroutine.again;simp[ho]
    rw[this];exact yH ha
   ·refine⟨true,.inr ⟨rfl,hm,ho,?_⟩,fun _=>⟨rfl,fun⟨_,h1,h2⟩=>hw ?_⟩⟩
    ·rw[Bb,h0];simp only[Option.map_some,woken,if_neg hw]
    ·rcases h2 with h2|h2<;>simp[h1,h2]
  ·refine⟨true,.inr ⟨rfl,hm,ho,by rw[Bb,h0];rfl⟩,fun _=>⟨rfl,fun⟨h1,h2,h3⟩=>?_⟩⟩;have:=congrFun h1 ({a with status:=.blocked}:Goroutine);have hw:(mayWake P g&&g1.status !=.blocked&&g1.status !=.waiting)=true:=by rcases h3 with h3|h3<;>simp[h2,h3]
   simp only[id,woken,if_pos hw]at this;unfold Goroutine.again at this;simp only[ho]at this;have:=congrArg Goroutine.status this;simp at this
theorem WS.running{Q:(Nat->Prop)->World->Prop}{p:Ph}{O:Nat->Prop}{g:Goroutine}{w:World}(h:WS P ty Wg Q p O g w)(hp:p≠.quit):g.status=.running:=by
 cases h with
 |quit=>exact absurd rfl hp
 |step _ hg=>exact hg
theorem Works.status{Q:(Nat->Prop)->World->Prop}{k:Nat}{s:xw}(h:Works P ty Wg Q t k w s):s.g.status=.running\/s.g.status=.finished:=by
 by_cases hp:s.p=.quit
 ·exact(h.qu hp).1.status
 ·exact .inl ((h.ws hp).1.running hp)
theorem Works.other{Q:(Nat->Prop)->World->Prop}{k j:Nat}{s:xw}{w':World}{ops:Trace}(h:Works P ty Wg Q t k w s)(hop:∀op∈ops,op.g=j)(hj:j≠k)(hr:Rel ty Wg s.O w w'):Works P ty Wg Q (t++ops) k w' s:=by have hd:Deaf (t++ops) k=Deaf t k:=cu hop (Ne.symm hj);refine⟨h.rel.trans hr,fun hp=>⟨(h.ws hp).1,hd▸(h.ws hp).2⟩,fun hp=>⟨hd▸(h.qu hp).1,(h.qu hp).2⟩,fun hp=>?_⟩;obtain⟨r,hr⟩:=h.rl hp;exact⟨r,hr.other hop hj⟩
theorem Inv.status(h:Inv P ty Wg Shun Q M old O0 mp a bl w0 m f Ow q gs w t){j:Nat}(hj:0<j){g:Goroutine}(hg:gs[j]? =some g):g.status=.running\/g.status=.finished:=by
 by_cases hlt:j<old
 ·exact(h.bK j g hj hlt hg).status
 ·obtain⟨i,rfl⟩:∃i,j=old+i:=⟨j-old,by omega⟩
  have hi:i<m:=by have:=(Array.getElem?_eq_some_iff.1 hg).1;have:=h.size;omega
  have:=(h.own i hi).2;rw[hg]at this;obtain rfl:=Option.some.inj this;exact(h.work i hi).status
theorem Inv.Gg(h:Inv P ty Wg Shun Q M old O0 mp a bl w0 m f Ow q gs w t)(ha:a.status=.running):∀(j:Nat) x,gs[j]? =some x->x.status=.blocked->x.offers=none:=by
 intro j x hx hs;rcases Nat.eq_zero_or_pos j with rfl|hj
 ·rcases h.main with⟨_,h0⟩|⟨_,_,ho,h0⟩
  ·rw[h0]at hx;obtain rfl:=Option.some.inj hx;rw[ha]at hs;cases hs
  ·rw[h0]at hx;obtain rfl:=Option.some.inj hx;exact ho
 ·rcases h.status hj hx with e|e<;>rw[e]at hs<;>cases hs
theorem Inv.JP(h:Inv P ty Wg Shun Q M old O0 mp a bl w0 m f Ow q gs w t)(ha:a.status=.running):∀g∈gs,Go.Conc.awake g:=by
 intro g hg;obtain⟨i,hi,rfl⟩:=Array.mem_iff_getElem.1 hg;have hx:=Array.getElem?_eq_getElem hi;rcases Nat.eq_zero_or_pos i with rfl|hj
 ·rcases h.main with⟨_,h0⟩|⟨_,_,ho,h0⟩
  ·rw[h0]at hx;rw[<-Option.some.inj hx];exact awake_of (.inl ha)
  ·rw[h0]at hx;rw[<-Option.some.inj hx];exact awake_of (.inr (.inl rfl))
 ·exact awake_of ((h.status hj hx).elim .inl fun e=>.inr (.inr e))
theorem Inv.at (h:Inv P ty Wg Shun Q M old O0 mp a bl w0 m f Ow q gs w t)(d:Nat):Inv P ty Wg Shun Q M old O0 mp a bl w0 m f Ow q gs (w.at d) t:=
 ⟨h.many,h.size,h.room,h.tc,h.kt,h.mode,h.main,h.zY.trans (.at ..),h.deaf0,h.bK,h.own,fun i hi=>⟨(h.work i hi).rel.trans (.at ..),(h.work i hi).ws,(h.work i hi).qu,(h.work i hi).rl⟩,h.acq,h.above,h.bare,h.all.at d⟩
theorem jL{ops:Trace}{k j:Nat}(hop:∀op∈ops,op.g=k)(hj:j≠k)(h:∀i,t.g? i≠some j):∀i,(t++ops).g? i≠some j:=fun i hi=>by
 rcases iA hi with⟨_,h1⟩|⟨_,op,Eg,_,h2⟩
 ·exact h i h1
 ·exact hj (h2.symm.trans (hop op Eg))
theorem eE.sem{O:Nat->Prop}{w w':World}{p p':Ph}{aD:Array MemAct}(h:eE ty Wg O w p w' aD p'){st sm st' sm':Int}(hw:WgAt ty Wg w st sm)(hw':WgAt ty Wg w' st' sm')(hO:¬O Wg)(FY:Wg<w.heap.size):sm'=sm\/(p=.gF/\p'=.quit):=by
 cases h with
 |own h=>exact .inl (hw'.unique ((h.cG Wg FY hO).trans hw)).2
 |add=>exact .inl (hw'.unique (hw.setSt _)).2
 |zero=>exact .inl (hw'.unique (hw.setSt _)).2
 |post=>exact .inr ⟨rfl,rfl⟩
 |_=>exact .inl (hw'.unique hw).2
theorem Mx(f:Nat->xw)(i:Nat)(s:xw):(fun j=>(upd f i s j).p)=upd (fun j=>(f j).p) i s.p:=by
 funext j
 by_cases h:j=i
 ·subst h;rw[upd_same,upd_same]
 ·rw[upd_ne _ _ h,upd_ne _ _ h]
theorem Inv.worker(h:Inv P ty Wg Shun Q M old O0 mp a bl w0 m f Ow q gs w t)(ha:a.status=.running){i:Nat}(hi:i<m)(hp:(f i).p≠.quit):
  ∃um s' tF gs' w' ops,runT P (crowd gs w sl) (old+i)=(.next (crowd gs' w' sl),ops)/\Inv P ty Wg Shun Q M old O0 mp a um w0 m (upd f i s') tF q gs' w' (t++ops)/\lV P ty Wg s' (f i)/\dD w w'/\(um=true->bl=true)/\tF 0=Ow 0:=by
 obtain⟨st,sm,hwg,hmode,sY⟩:=h.mode;have hW:=h.work i hi;obtain⟨hO,KR⟩:=h.own i hi;obtain⟨FZ,hdf⟩:=hW.ws hp;have hm:m<2147483647:=by have:=h.room;omega
 have Hl:yC ty Wg (f i).p w:=hmode.GJ hwg hi hm;have Dg:old+i≠0:=by have:=h.many;omega
 have hkb:(old+i==0)=false:=by simp;have:=h.many;omega
 have hno:=h.Gg ha;have hrel:=hW.rel;have hrl:=hW.rl;generalize hs:f i=s at hp hW hO KR FZ hdf Hl hrel hrl;obtain⟨p,O,g,wz,n⟩:=s;simp only at hp hO KR FZ hdf Hl hrel hrl;cases FZ with
 |quit=>exact absurd rfl hp
 |step _ hg qf hstep Vv hk=>
  obtain⟨g',w',aD,ht,hok⟩:=hstep w hrel Hl;have hnext:=hk w g' w' aD hrel Hl ht
  obtain⟨n',hn'⟩:∃n',qf w=.quit->QuitsD P n' 1 g'/\∀w₁,Rel ty Wg (dQ O w w') w' w₁->Q i (dQ O w w') w₁:=by
   by_cases hq:qf w=.quit
   ·rw[hq]at hnext;generalize MQ:Ph.quit=p2 at hnext;cases hnext with
    |@quit _ _ _ n' h1 h2=>exact⟨n',fun _=>⟨h1,h2⟩⟩
    |step hne=>exact absurd MQ.symm hne
   ·exact⟨0,fun e=>absurd e hq⟩
  obtain⟨F,ops,hr,hF,hact,hop⟩:=sQ (sl:=sl) KR hno (hkb▸ht);obtain⟨um,uP,BJ⟩:=rK h.main ha hF Dg;have Tf:¬O Wg:=hO▸h.tc.wg (old+i)
  have FW:∀j,j≠old+i->Rel ty Wg (Ow j) w w':=fun j hj=>
   hok.Om Hl (fun b hb hb'=>hj (h.tc.one _ _ b hb (hO▸hb'))) (fun b hb=>h.tc.lt _ b hb) Tf (h.tc.wg j) h.tc.Jz
  have hlt:old+i<gs.size:=(Array.getElem?_eq_some_iff.1 KR).1
  have cG:∀(j:Nat) x,0<j->j≠old+i->((gs.map F).setIfInBounds (old+i) g')[j]? =some x->gs[j]? =some x:=fun j x hj hne hx=>by rw[Array.getElem?_setIfInBounds_ne (Ne.symm hne),Array.getElem?_map]at hx;obtain⟨y,hy,rfl⟩:=Option.map_eq_some_iff.1 hx;rw[bZ hF (h.status hj hy)];exact hy
  have DK:∀(j:Nat) x,0<j->j≠old+i->gs[j]? =some x->((gs.map F).setIfInBounds (old+i) g')[j]? =some x:=fun j x hj hne hx=>by rw[Array.getElem?_setIfInBounds_ne (Ne.symm hne),Array.getElem?_map,hx];simp[bZ hF (h.status hj hx)]
  have hmp:=h.many;refine⟨um,⟨qf w,dQ O w w',g',w',n'⟩,iY Ow (old+i) (dQ O w w'),_,w',ops,hr,⟨h.many,by simp[h.size],h.room,hok.tc hO.symm h.tc hact hop,hok.kt h.kt hact hop (by omega),?_,uP,?_,?_,fun j x hj BL hx=>?_,fun j hj=>?_,fun j hj=>?_,fun hb=>?_,fun j hj=>⟨?_,?_,?_⟩,fun j hj BL=>?_,FE h.all (hok.Om Hl (fun b hb hb'=>h.all.no (old+i) b (hO▸hb') hb) h.all.small Tf h.all.wg h.tc.Jz) fun b hb=>hb.elim (fun h=>.inl (hO▸h)) fun h=>.inr h.1⟩,?_,hok.same,fun e=>(BJ e).1,dx Ow (Ne.symm Dg) _⟩
  ·have hpi:(f i).p=p:=by rw[hs]
   have Zr:eE ty Wg O w (f i).p w' aD (qf w):=by rw[hpi];exact hok
   obtain⟨st',sm',h1,h2⟩:=hmode.worker hwg hi Tf h.tc.Jz Zr hm;refine⟨st',sm',h1,by rw[Mx];exact h2,fun e he=>?_⟩;obtain⟨bz,bE⟩:=BJ e;rcases hok.sem hwg h1 Tf h.tc.Jz with h3|⟨h3,h4⟩
   ·exact sY bz (h3▸he)
   ·obtain⟨k1,g2,w2,es,k2⟩:=Vv w hrel Hl h3 h4;rcases hF with hF|⟨_,hF⟩
    ·exact bE ⟨hF,k1,(hn' h4).1.status⟩
    ·rw[hkb]at hF;exact hF _ _ _ k2
  ·rw[dx Ow (Ne.symm Dg)];exact h.zY.trans (FW 0 (Ne.symm Dg))
  ·rw[cu hop (Ne.symm Dg)];exact h.deaf0
  ·rw[cu hop (by omega)];exact h.bK j x hj BL (cG j x hj (by omega) hx)
  ·by_cases hji:j=i
   ·subst hji;rw[upd_same,nE];exact⟨rfl,by simp[hlt]⟩
   ·rw[upd_ne f _ hji,dx Ow (by omega)];exact⟨(h.own j hj).1,DK _ _ (by omega) (by omega) (h.own j hj).2⟩
  ·by_cases hji:j=i
   ·subst hji;rw[upd_same];have hd:=hok.fS hact hop hdf;refine⟨.refl ..,fun _=>⟨hnext,hd⟩,fun hq=>⟨?_,(hn' hq).2⟩,fun hq=>hok.ZX hact hop hdf hrl hq⟩;simp only at hq⊢;rw[hd,hq];exact(hn' hq).1
   ·rw[upd_ne f _ hji];exact(h.work j hj).other hop (by omega) ((h.own j hj).1▸FW (old+j) (by omega))
  ·subst hb;have:=(hmode.vu trivial).1 i hi;simp only[hs]at this;exact absurd this hp
  ·rw[cu hop (by omega)];exact(h.above j hj).1
  ·rw[dx Ow (by omega)];exact(h.above j hj).2.1
  ·exact jL hop (by omega) (h.above j hj).2.2
  ·rw[dx Ow (by omega)];exact h.bare j hj BL
  ·exact .inl ⟨hp,w,aD,hrel,Hl,ht,hok,rfl⟩
end
end
end Go.Proofs.YtpobhljcainmdaaGreat
