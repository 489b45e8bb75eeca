/- Proved here: a part of what Doors keeps (Mir26, Mir27, Mir28, Mir29). -/
import Derived.Conc.CrowdCom2
import Derived.Conc.CrowdSpec
import Derived.Test.YtpobhljcainmdaaGreatJ23
set_option maxRecDepth 100000
set_option maxHeartbeats 8000000
set_option linter.all false
namespace Go.Proofs.YtpobhljcainmdaaGreat
section
open Go Go.Conc
variable [aR] [aB]
def bot(P:Program):Frame:={fn:=P.funcs.size,tmps:=#[],todo:=[.call {target:=.nil,args:=#[]} false "fmt's door" #[]],defers:=[],mode:=.run,kind:=.normal}
theorem rF(P:Program):Still [bot P]:=fun b h=>by simp at h;subst h;exact .inl rfl
section
variable {P:Program} {l:List FuncId}
theorem qE{g:Goroutine}{w w1:World}{o:Outcome}{es:Array Event}(hg:g.status=.running)(h:stepG P true g w=.ended o w1 es):step P (solo g w)=.ended o w1:=by rw[step,stepT_solo hg];simp[runT,solo,Array.swapAt!,Array.swapAt,h]
theorem mN{g:Goroutine}(h:Dm [bot P] g)(w:World):∀n,∀fr cs w1,runN P n (solo g w)≠.next (lone fr (cs++[bot P]) w1):=by
 have hf:P.funcs[P.funcs.size]? =none:=by simp
 have raise:∀c (w:World),∃o,step P (solo (G ((bot P).raise c) []) w)=.ended o w:=fun c w=>by
  have h1:∃o,stepG P true (G ((bot P).raise c) []) w=.ended o w #[]:=by
   have hd:((bot P).raise c).defers=[]:=rfl;have hm:((bot P).raise c).mode=.panicking c:=rfl
   have hc:((bot P).raise c).catches P=true:=by have e1:((bot P).raise c).fn=P.funcs.size:=rfl;have e2:((bot P).raise c).todo=[.call {target:=.nil,args:=#[]} false "fmt's door" #[]]:=rfl;unfold Frame.catches;rw[e1,e2,hf];show "fmt's door".startsWith "fmt's door" =true;decide+kernel
   rw[ij (by rw[hm];simp)];unfold unwind;simp only[hd,hm,hc,if_true];exact⟨_,rfl⟩
  obtain⟨o,ho⟩:=h1;exact⟨o,qE rfl ho⟩
 have fin:∀v (w:World),∃o,step P (solo (G ((bot P).finish v) []) w)=.ended o w:=fun v w=>by
  have h1:∃o,stepG P true (G ((bot P).finish v) []) w=.ended o w #[]:=by
   rw[kA rfl];unfold stepG.exec;have:((bot P).finish v).todo=[.extern "fmt's door" #[v]]:=rfl;rw[this];have:Extern.next "fmt's door" =none:=rfl
   simp only[this];exact⟨_,rfl⟩
  obtain⟨o,ho⟩:=h1;exact⟨o,qE rfl ho⟩
 have Og:∀{g:Goroutine} {w w1:World} {fr:Frame} {cs:List Frame},g.callers=[]->solo g w≠lone fr (cs++[bot P]) w1:=fun hc e=>by have:(solo _ _).gs=(lone _ _ _).gs:=congrArg Machine.gs e;simp[solo,lone]at this;rw[this]at hc;simp at hc
 obtain⟨b,rest,e,hg⟩:=h;cases e;intro n fr cs w1 hn;rcases hg with rfl|⟨v,rfl⟩|⟨c,rfl⟩
 ·cases n with
  |zero=>simp only[runN]at hn;exact Og rfl (Stepped.next.inj hn)
  |succ n=>
   have hs:∃c,step P (solo (G (bot P) []) w)=.next (solo (G ((bot P).raise c) []) w):=by
    have h1:∃c es,stepG P true (G (bot P) []) w=.go (G ((bot P).raise c) []) w es:=by rw[kA rfl];unfold stepG.exec;have:(bot P).todo=[.call {target:=.nil,args:=#[]} false "fmt's door" #[]]:=rfl;rw[this];simp only;unfold stepG.apply;exact⟨_,_,rfl⟩
    obtain⟨c,es,h1⟩:=h1;exact⟨c,step_solo_go rfl h1⟩
   obtain⟨c,hs⟩:=hs;simp only[runN,hs]at hn;cases n with
   |zero=>simp only[runN]at hn;exact Og rfl (Stepped.next.inj hn)
   |succ n=>
    obtain⟨o,ho⟩:=raise c w;simp only[runN,ho]at hn;cases hn
 ·cases n with
  |zero=>simp only[runN]at hn;exact Og rfl (Stepped.next.inj hn)
  |succ n=>
   obtain⟨o,ho⟩:=fin v w;simp only[runN,ho]at hn;cases hn
 ·cases n with
  |zero=>simp only[runN]at hn;exact Og rfl (Stepped.next.inj hn)
  |succ n=>
   obtain⟨o,ho⟩:=raise c w;simp only[runN,ho]at hn;cases hn
def gU(P:Program)(l:List FuncId)(fr:Frame)(cs:List Frame)(u:World):Prop:=∃S ρ base g' w,Still base/\GR P l ρ base fr cs g'/\WR P ρ u w/\Whole S ρ u
def along(u w:World)(τ:Nat->Question->Nat):Nat->Question->Nat:=fun i q=>τ (u.drawn+(i-w.drawn)) q
theorem WR.tp{ρ:Ren}{u w:World}(h:WR P ρ u w)(τ:Nat->Question->Nat):WR P ρ (u.tp τ) (w.tp (along u w τ)):=
 ⟨h.one,h.lt,h.obj,fun i q=>by show τ (u.drawn+(w.drawn+i-w.drawn)) q=τ (u.drawn+i) q;rw[Nat.add_sub_cancel_left],h.low,h.base,h.calm,h.os⟩
theorem gU.tp{fr:Frame}{cs:List Frame}{u:World}(h:gU P l fr cs u)(τ:Nat->Question->Nat):gU P l fr cs (u.tp τ):=by obtain⟨S,ρ,base,g',w,h1,h2,h3,h4⟩:=h;exact⟨S,ρ,base,g',_,h1,h2,h3.tp τ,h4⟩
inductive ud(P:Program)(Post:Frame->List Frame->World->Prop):Frame->List Frame->World->Prop
 |stop {fr:Frame} {cs:List Frame} {u:World} (h:Post fr cs u):ud P Post fr cs u
 |step {fr:Frame} {cs:List Frame} {u:World} (h:∀τ,(∀i q,i<u.drawn->τ i q=u.tape i q)->∃bT bV u1,step P (lone fr (cs++[bot P]) (u.tp τ))=.next (lone bT (bV++[bot P]) u1))
   (k:∀τ,(∀i q,i<u.drawn->τ i q=u.tape i q)->∀bT bV u1,step P (lone fr (cs++[bot P]) (u.tp τ))=.next (lone bT (bV++[bot P]) u1)->ud P Post bT bV u1):ud P Post fr cs u
theorem qj{fr bT:Frame}{cs bV:List Frame}{u u1:World}(h:lone fr (cs++[bot P]) u=lone bT (bV++[bot P]) u1):fr=bT/\cs=bV/\u=u1:=by have g1:(lone fr (cs++[bot P]) u).gs=(lone bT (bV++[bot P]) u1).gs:=congrArg Machine.gs h;have g2:(lone fr (cs++[bot P]) u).world=(lone bT (bV++[bot P]) u1).world:=congrArg Machine.world h;simp[lone]at g1;exact⟨g1.1,g1.2,g2⟩
structure om where
 fr:Frame
 cs:List Frame
 u:World
def om.m(P:Program)(s:om)(τ:Nat->Question->Nat):Machine:=lone s.fr (s.cs++[bot P]) (s.u.tp τ)
structure lS(P:Program)(s t:om):Prop where
 past:∀i q,i<s.u.drawn->t.u.tape i q=s.u.tape i q
 drawn:s.u.drawn<=t.u.drawn
 step:∀τ,fO τ t.u.tape s.u.drawn t.u.drawn->step P (s.m P τ)=.next (t.m P τ)
section
variable {Post:Frame->List Frame->World->Prop}
def Jm(P:Program)(l:List FuncId)(Post:Frame->List Frame->World->Prop)(s:om):Prop:=¬ud P Post s.fr s.cs s.u/\gU P l s.fr s.cs s.u
def yB(P:Program)(s:om):Prop:=∃τ,(∀i q,i<s.u.drawn->τ i q=s.u.tape i q)/\∀n fr cs w,runN P (n+1) (s.m P τ)≠.next (lone fr (cs++[bot P]) w)
theorem xy(hT:Fit P l){s:om}(h:Jm P l Post s):¬Post s.fr s.cs s.u/\(yB P s\/∃t,Jm P l Post t/\lS P s t):=by
 obtain⟨h1,h2⟩:=h;refine⟨fun hp=>h1 (.stop hp),?_⟩
 have h3:¬∀τ,(∀i q,i<s.u.drawn->τ i q=s.u.tape i q)->∃bT bV u1,step P (lone s.fr (s.cs++[bot P]) (s.u.tp τ))=.next (lone bT (bV++[bot P]) u1)/\ud P Post bT bV u1:=fun h=>h1 (.step (fun τ hp=>by(obtain⟨a,b,c,d,_⟩:=h τ hp;exact⟨a,b,c,d⟩)) fun τ hp bT bV u1 he=>by obtain⟨a,b,c,d,k⟩:=h τ hp;rw[d]at he;obtain⟨rfl,rfl,rfl⟩:=qj (Stepped.next.inj he);exact k)
 obtain⟨τ,h4⟩:=Classical.not_forall.1 h3;obtain⟨BO,h5⟩:=Classical.not_imp.1 h4;cases hs:step P (lone s.fr (s.cs++[bot P]) (s.u.tp τ))with
 |ended o w=>
  refine .inl ⟨τ,BO,fun n fr cs w1 hn=>?_⟩;simp only[runN,om.m,hs]at hn;cases hn
 |next m=>
  obtain⟨S,ρ,base,g',w,k1,k2,k3,k4⟩:=h2;rcases Eu (main:=true) hT (by simp) (rF P) k1 (k3.tp τ) k4 k2 hs with⟨g1,u1,rfl,hp⟩|⟨bT,bV,u1,σ,SQ,w1,aD,rfl,_,m2,m3,m4,_,m6,m7⟩
  ·refine .inl ⟨τ,BO,fun n fr cs w1 hn=>?_⟩;simp only[runN,om.m,hs]at hn;exact mN hp u1 n fr cs w1 hn
  ·refine .inr ⟨⟨bT,bV,u1⟩,⟨fun hw=>h5 ⟨bT,bV,u1,hs,hw⟩,⟨S,σ,base,SQ,w1,k1,m2,m3.rel,m4⟩⟩,fun i q hi=>?_,m6.drawn,fun Gs hA=>?_⟩
   ·show u1.tape i q=_;rw[m6.tape];exact BO i q hi
   ·refine m7 Gs ?_;have:=m6.tape;simp only at this hA;rw[this]at hA;exact hA
theorem least{p:Nat->Prop}(h:∃n,p n):∃n,p n/\∀k,k<n->¬p k:=by
 obtain⟨n,hn⟩:=h;induction n using Nat.strongRecOn with
 |ind n ih=>
  by_cases hk:∃k,k<n/\p k
  ·obtain⟨k,h1,h2⟩:=hk;exact ih k h1 h2
  ·exact⟨n,hn,fun k h1 h2=>hk ⟨k,h1,h2⟩⟩
theorem ways(P:Program)(l:List FuncId)(Post:Frame->List Frame->World->Prop)(s:om):∃f:Nat->om,f 0=s/\∀n,(∃t,Jm P l Post t/\lS P (f n) t)->Jm P l Post (f (n+1))/\lS P (f n) (f (n+1)):=by
 classical
 let go:om->om:=fun s=>if h:∃t,Jm P l Post t/\lS P s t then h.choose else s
 refine⟨fun n=>Nat.rec s (fun _ x=>go x) n,rfl,fun n h=>?_⟩;have e:go (Nat.rec s (fun _ x=>go x) n)=h.choose:=dif_pos h;show Jm P l Post (go (Nat.rec s (fun _ x=>go x) n))/\lS P _ (go (Nat.rec s (fun _ x=>go x) n));rw[e];exact h.choose_spec
theorem qG(hT:Fit P l){f:Nat->om}(hf:∀n,(∃t,Jm P l Post t/\lS P (f n) t)->Jm P l Post (f (n+1))/\lS P (f n) (f (n+1)))(h:Jm P l Post (f 0)):∀n,(∀k,k<n->¬yB P (f k))->Jm P l Post (f n)/\∀k,k<n->lS P (f k) (f (k+1))
 |0,_=>⟨h,fun k hk=>by omega⟩
 |n+1,hd=>by
  obtain⟨h1,h2⟩:=qG hT hf h n fun k hk=>hd k (by omega);obtain⟨h3,h4⟩:=hf n ((xy hT h1).2.resolve_left (hd n (by omega)));refine⟨h3,fun k hk=>?_⟩;rcases Nat.lt_or_ge k n with hlt|hge
  ·exact h2 k hlt
  ·obtain rfl:k=n:=by omega
   exact h4
theorem tK{f:Nat->om}{n:Nat}(h:∀k,k<n->lS P (f k) (f (k+1))):∀m k,k+m<=n->(f k).u.drawn<=(f (k+m)).u.drawn/\∀i q,i<(f k).u.drawn->(f (k+m)).u.tape i q=(f k).u.tape i q
 |0,k,_=>⟨Nat.le_refl _,fun _ _ _=>rfl⟩
 |m+1,k,hk=>by obtain⟨h1,h2⟩:=tK h m k (by omega);have h3:=h (k+m) (by omega);exact⟨Nat.le_trans h1 h3.drawn,fun i q hi=>(h3.past i q (Nat.lt_of_lt_of_le hi h1)).trans (h2 i q hi)⟩
theorem follows{f:Nat->om}{τ:Nat->Question->Nat}:∀n,(∀k,k<n->lS P (f k) (f (k+1)))->(∀k,k<=n->∀i q,i<(f k).u.drawn->τ i q=(f k).u.tape i q)->runN P n ((f 0).m P τ)=.next ((f n).m P τ)
 |0,_,_=>rfl
 |n+1,h,ht=>by have h1:=follows n (fun k hk=>h k (by omega)) fun k hk=>ht k (by omega);rw[runN_add P n 1,h1];have:=(h n (by omega)).step τ fun i q _ hi=>ht (n+1) (Nat.le_refl _) i q hi;simp only[runN,this]
theorem Az(hT:Fit P l)(hP:∀fr cs u τ,gU P l fr cs u->Post fr cs u->Post fr cs (World.tp u τ)){fr:Frame}{cs:List Frame}{u:World}(hL:gU P l fr cs u)
  (h:∀τ,(∀i q,i<u.drawn->τ i q=u.tape i q)->∃n uF AA u2,runN P n (lone fr (cs++[bot P]) (u.tp τ))=.next (lone uF (AA++[bot P]) u2)/\Post uF AA u2):ud P Post fr cs u:=by
 classical
 refine Classical.byContradiction fun hno=>?_;obtain⟨f,f0,hf⟩:=ways P l Post ⟨fr,cs,u⟩;have hs:Jm P l Post (f 0):=by rw[f0];exact⟨hno,hL⟩
 have hu:(f 0).u=u:=by rw[f0]
 have hm:∀τ,(f 0).m P τ=lone fr (cs++[bot P]) (u.tp τ):=fun τ=>by rw[f0];rfl
 have PZ:∀{n},Jm P l Post (f n)->∀{uF AA u2 τ},(f n).m P τ=lone uF (AA++[bot P]) u2->Post uF AA u2->False:=fun{n} hb {uF AA u2 τ} e hp=>by obtain⟨rfl,rfl,rfl⟩:=qj e;have MQ:=hP _ _ ((f n).u.tp τ) (f n).u.tape (hb.2.tp τ) hp;exact(xy hT hb).1 MQ
 by_cases hd:∃n,yB P (f n)
 ·
  obtain⟨n,hn,hmin⟩:=least hd;obtain⟨hb,hl⟩:=qG hT hf hs n hmin;obtain⟨τ,BO,hend⟩:=hn
  have hall:∀k,k<=n->∀i q,i<(f k).u.drawn->τ i q=(f k).u.tape i q:=fun k hk i q hi=>by obtain⟨p1,p2⟩:=tK hl (n-k) k (by omega);rw[show k+(n-k)=n by omega]at p1 p2;rw[BO i q (Nat.lt_of_lt_of_le hi p1)];exact p2 i q hi
  obtain⟨N,uF,AA,u2,hN,hp⟩:=h τ (hu▸hall 0 (by omega));rcases Nat.lt_or_ge n N with hlt|hge
  ·have hr:=follows n hl hall;obtain⟨m,rfl⟩:∃m,N=n+(m+1):=⟨N-n-1,by omega⟩;rw[runN_add P n (m+1)]at hN;rw[<-hm,hr]at hN;exact hend m uF AA u2 hN
  ·have hr:=follows N (fun k hk=>hl k (by omega)) fun k hk=>hall k (by omega);rw[<-hm,hr]at hN;exact PZ (qG hT hf hs N fun k hk=>hmin k (by omega)).1 (Stepped.next.inj hN) hp
 ·
  have hnd:∀n,¬yB P (f n):=fun n hn=>hd ⟨n,hn⟩;have hl:∀k,lS P (f k) (f (k+1)):=fun k=>(qG hT hf hs (k+1) fun j _=>hnd j).2 k (by omega)
  let τ:Nat->Question->Nat:=fun i q=>if hk:∃k,i<(f k).u.drawn then(f hk.choose).u.tape i q else u.tape i q
  have hall:∀k i q,i<(f k).u.drawn->τ i q=(f k).u.tape i q:=fun k i q hi=>by
   have hk:∃k,i<(f k).u.drawn:=⟨k,hi⟩;show(if hk:∃k,i<(f k).u.drawn then(f hk.choose).u.tape i q else u.tape i q)=_;rw[dif_pos hk];have hc:=hk.choose_spec;generalize hk.choose=j at hc;rcases Nat.le_total j k with hjk|hjk
   ·have:=(tK (n:=k) (fun a _=>hl a) (k-j) j (by omega)).2 i q hc;rw[show j+(k-j)=k by omega]at this;exact this.symm
   ·have:=(tK (n:=j) (fun a _=>hl a) (j-k) k (by omega)).2 i q hi;rw[show k+(j-k)=j by omega]at this;exact this
  obtain⟨N,uF,AA,u2,hN,hp⟩:=h τ (hu▸hall 0);have hr:=follows N (fun k _=>hl k) fun k _=>hall k;rw[<-hm,hr]at hN;exact PZ (qG hT hf hs N fun k _=>hnd k).1 (Stepped.next.inj hN) hp
end
end
end
section
open Go Go.Conc
open Go.ConcN (sumTo upd sumTo_upd upd_ne upd_same)
variable [aR] [aB] {S:Nat->Prop}
section
variable {P:Program} {l:List FuncId}
def Left(P:Program)(f:FuncId)(R:Ending->World->Prop)(fr:Frame)(cs:List Frame)(u:World):Prop:=cs=[]/\fr.fn=f/\∃e,e≠.outgrown/\R e u/\fr.leaving P u e
theorem uU(hT:Fit P l){fr:Frame}{cs:List Frame}{u:World}(hL:gU P l fr cs u)(τ:Nat->Question->Nat){e:Ending}(h:fr.leaving P u e):fr.leaving P (u.tp τ) e:=by
 cases e with
 |returned v=>
  obtain⟨h1,h2,h3,fn,h4,h5⟩:=h;refine⟨h1,h2,h3,fn,h4,?_⟩;obtain⟨S,ρ,base,g',w,k1,k2,k3,k4⟩:=hL;obtain⟨fr',cs',_,hfr,_⟩:=k2.of;obtain⟨_,fD⟩:=(lu (lC (P:=P) (K:=fun _=>False) fn hfr.tmps) (bW u) k3 k4 h5).1;rw[<-Sem.runT_fst P _ (u.tp τ) #[],fD τ (fun i q a b=>by omega)]
 |panicked c=>exact h
 |outgrown=>trivial
theorem wD(hT:Fit P l){f:FuncId}{args:Array Value}{u:World}{R:Ending->World->Prop}(hL:gU P l (Frame.enter P f args .normal) [] u)(hR:∀e w τ,R e w->R e (World.tp w τ))(hout:∀w,¬R .outgrown w)
  (h:∀τ,Calls P f args (u.tp τ) R):ud P (Left P f R) (Frame.enter P f args .normal) [] u:=by
 refine Az hT (fun fr cs u τ hl=>?_) hL fun τ _=>?_
 ·rintro⟨h1,h2,e,h3,h4,h5⟩;exact⟨h1,h2,e,h3,hR e u τ h4,uU hT hl τ h5⟩
 ·obtain⟨e,w',fr,h1,h2,h3,h4⟩:=h τ [bot P];cases e with
  |outgrown=>exact absurd h1 (hout w')
  |returned v=>
   obtain⟨n,hn⟩:=h2;exact⟨n,fr,[],w',hn,rfl,h3,_,by simp,h1,h4⟩
  |panicked c=>
   obtain⟨n,hn⟩:=h2;exact⟨n,fr,[],w',hn,rfl,h3,_,by simp,h1,h4⟩
def laid(u w:World):Nat->Question->Nat:=fun i q=>if i<u.drawn then u.tape i q else w.tape (w.drawn+(i-u.drawn)) q
structure nK(P:Program)(ρ:Ren)(u w:World):Prop where
 one:ρ.one
 lt:∀a b,ρ a b->a<u.heap.size/\b<w.heap.size
 obj:∀a b o,ρ a b->u.heap[a]? =some o->o=aV\/∃o',w.heap[b]? =some o'/\OR ρ o o'
 low:∀a b,ρ a b->a<P.globals.size->b<P.globals.size
 base:P.globals.size<=u.heap.size
 calm:∀a b,ρ a b->u.heap[a]? =some aV->Calm w.heap[b]?
 os:w.os=u.os
theorem WR.drop{ρ:Ren}{u w:World}(h:WR P ρ u w):nK P ρ u w:=⟨h.one,h.lt,h.obj,h.low,h.base,h.calm,h.os⟩
theorem nK.lay{ρ:Ren}{u w:World}(h:nK P ρ u w):WR P ρ (u.tp (laid u w)) w:=
 ⟨h.one,h.lt,h.obj,fun i q=>by show _=laid u w (u.drawn+i) q;unfold laid;rw[if_neg (by omega),Nat.add_sub_cancel_left],h.low,h.base,h.calm,h.os⟩
theorem nK.at {ρ:Ren}{u w:World}(h:nK P ρ u w)(d:Nat):nK P ρ u (w.at d):=⟨h.one,h.lt,h.obj,h.low,h.base,h.calm,h.os⟩
end
end
section
open Go Go.Conc
open Go.ConcN (sumTo upd sumTo_upd upd_ne upd_same)
variable [aR] [aB]
section
variable {P:Program} {l:List FuncId} {σ ρ:Ren} {S:Nat->Prop}
theorem qY{a:MemAct}(h:kG S σ a){x:Touch}(hx:a.touch?=some x):(∃ad y,x.loc=.cell ad/\σ y ad.block/\¬S ad.block)\/(∃r y,x.loc=.obj r/\σ y r/\¬S r)\/x.loc=.output:=by
 rcases h with⟨⟨loc,wr,sy⟩,rfl,h⟩|⟨r,y,rfl,h⟩
 ·cases loc with
  |cell ad=>
   obtain⟨y,hy⟩:∃y,σ y ad.block/\¬S ad.block:=h;simp[MemAct.ofEvent,MemAct.touch?]at hx;subst hx;exact .inl ⟨ad,y,rfl,hy⟩
  |obj r=>
   obtain⟨y,hy⟩:∃y,σ y r/\¬S r:=h;cases wr<;>cases sy<;>simp[MemAct.ofEvent,MemAct.touch?]at hx
   all_goals (subst hx;exact .inr (.inl ⟨r,y,rfl,hy⟩))
  |output=>
   simp[MemAct.ofEvent,MemAct.touch?]at hx;subst hx;exact .inr (.inr rfl)
  |goroutines=>exact h.elim
  |mark m=>
   cases m with
   |noRoom=>simp[MemAct.ofEvent,MemAct.touch?]at hx
   |_=>exact h.elim
 ·cases hx
theorem qX{a:MemAct}(h:kG S σ a):a≠.mark .disable/\a≠.mark .enable:=by
 rcases h with⟨⟨loc,wr,sy⟩,rfl,h⟩|⟨r,y,rfl,h⟩
 ·cases loc with
  |cell ad=>exact⟨by simp[MemAct.ofEvent],by simp[MemAct.ofEvent]⟩
  |obj r=>cases wr<;>cases sy<;>exact⟨by simp[MemAct.ofEvent],by simp[MemAct.ofEvent]⟩
  |output=>exact⟨by simp[MemAct.ofEvent],by simp[MemAct.ofEvent]⟩
  |goroutines=>exact h.elim
  |mark m=>
   cases m with
   |noRoom=>exact⟨by simp[MemAct.ofEvent],by simp[MemAct.ofEvent]⟩
   |_=>exact h.elim
 ·exact⟨by simp,by simp⟩
theorem zS{a:MemAct}(h:kG S σ a){B:Nat}(hB:∀y b,σ y b->b<B):a.low B:=by
 rcases h with⟨⟨loc,wr,sy⟩,rfl,h⟩|⟨r,y,rfl,h⟩
 ·cases loc with
  |cell ad=>
   obtain⟨y,hy⟩:∃y,σ y ad.block/\¬S ad.block:=h;exact hB _ _ hy.1
  |obj r=>
   obtain⟨y,hy⟩:∃y,σ y r/\¬S r:=h;cases wr<;>cases sy<;>exact hB _ _ hy.1
  |output=>trivial
  |goroutines=>exact h.elim
  |mark m=>
   cases m with
   |noRoom=>trivial
   |_=>exact h.elim
 ·exact hB _ _ h.1
structure eR(ρ σ:Ren)(w w1:World):Prop where
 le:ρ.le σ
 size:w.heap.size<=w1.heap.size
 cG:∀b,b<w.heap.size->(∀a,¬ρ a b)->w1.heap[b]? =w.heap[b]?
 news:∀a b,σ a b->ρ a b\/w.heap.size<=b
 os:w1.os=w.os
 output:w1.output=w.output
 tape:w1.tape=w.tape
theorem eR.refl(ρ:Ren)(w:World):eR ρ ρ w w:=⟨Ren.le_refl _,Nat.le_refl _,fun _ _ _=>rfl,fun _ _ h=>.inl h,rfl,rfl,rfl⟩
theorem eR.at {ρ σ:Ren}{w w1:World}(h:eR ρ σ w w1)(d:Nat):eR ρ σ w (w1.at d):=⟨h.le,h.size,h.cG,h.news,h.os,h.output,h.tape⟩
theorem eR.trans{ρ σ τ:Ren}{w w1 w2:World}(h:eR ρ σ w w1)(k:eR σ τ w1 w2):eR ρ τ w w2:=by
 refine⟨Ren.le_trans h.le k.le,Nat.le_trans h.size k.size,fun b hb hn=>?_,fun a b hab=>?_,k.os.trans h.os,k.output.trans h.output,k.tape.trans h.tape⟩
 ·rw[k.cG b (Nat.lt_of_lt_of_le hb h.size) (fun a ha=>?_),h.cG b hb hn];rcases h.news a b ha with h1|h1
  ·exact hn a h1
  ·omega
 ·rcases k.news a b hab with h1|h1
  ·exact h.news a b h1
  ·exact .inr (Nat.le_trans h.size h1)
theorem aW.went{u u1 w w1:World}(h:aW P ρ σ u u1 w w1):eR ρ σ w w1:=⟨h.le,h.size,h.cG,fun a b hab=>(h.news a b hab).imp id (·.1),h.os,h.output,h.tape⟩
def Clear(Shun:Loc->Prop)(S:Nat->Prop)(ρ:Ren)(w:World):Prop:=∀l,Shun l->∃a:Addr,l=.cell a/\a.block<w.heap.size/\∀x,ρ x a.block->S a.block
theorem Clear.went{Shun:Loc->Prop}{w w1:World}(h:Clear Shun S ρ w)(k:eR ρ σ w w1):Clear Shun S σ w1:=fun l hl=>by
 obtain⟨a,h1,h2,h3⟩:=h l hl;refine⟨a,h1,Nat.lt_of_lt_of_le h2 k.size,fun x hx=>?_⟩;rcases k.news x _ hx with h|h
 ·exact h3 x h
 ·omega
structure Beside(P:Program)(l:List FuncId)(base:List Frame)(Shun:Loc->Prop)(S:Nat->Prop)(fr:Frame)(cs:List Frame)(u:World)(ρ:Ren)(gs:Array Goroutine)(w:World)(t:Trace)(q:Nat->Nat):Prop where
 rel:∃a,gs[0]? =some a/\GR P l ρ base fr cs a
 world:nK P ρ u w
 whole:Whole S ρ u
 bK:Leavers P t gs q
 past:Past Shun w.heap.size t
 clear:Clear Shun S ρ w
 same:∀a b,ρ a b->a=b
 size:u.heap.size=w.heap.size
 wL:∀i j,t.g? i=some j->j<gs.size
 full:Full ρ u
theorem kO{t ops:Trace}{n k:Nat}(h:∀i j,t.g? i=some j->j<n)(hk:k<n)(hop:∀op∈ops,op.g=k):∀i j,(t++ops).g? i=some j->j<n:=fun i j hj=>by
 unfold Trace.g? at hj;obtain⟨op,ho,rfl⟩:=Option.map_eq_some_iff.1 hj;rcases getElem?_append_cases ho with⟨_,h1⟩|⟨_,h1⟩
 ·exact h i op.g (by unfold Trace.g?;rw[h1];rfl)
 ·rw[hop op h1];exact hk
theorem GR.running{base:List Frame}{fr:Frame}{cs:List Frame}{g:Goroutine}(h:GR P l ρ base fr cs g):g.status=.running:=by obtain⟨fr',cs',rfl,_⟩:=h.of;rfl
theorem qp{Shun:Loc->Prop}{w w1:World}{t:Trace}{ops:Trace}(h:Past Shun w.heap.size t)(hc:Clear Shun S ρ w)(k:eR ρ σ w w1)(hl:∀y b,σ y b->b<w1.heap.size)(h0:∀op∈ops,op.g=0)(ha:∀a∈ops.map (·.act),kG S σ a):Past Shun w1.heap.size (t++ops):=by
 have hop:∀op∈ops,kG S σ op.act:=fun op ho=>ha _ (Array.mem_map.2 ⟨op,ho,rfl⟩);have dw:=hc.went k;refine(h.mono k.size).app0 h0 (fun op ho b hb hs=>?_) ?_ (fun op ho=>zS (hop op ho) hl)
 ·obtain⟨a,h1,h2,h3⟩:=dw _ hs;rcases qY (hop op ho) hb with⟨ad,y,e,hy⟩|⟨r,y,e,hy⟩|e
  ·rw[e]at h1;cases h1;exact absurd (h3 y hy.1) hy.2
  ·rw[e]at h1;cases h1
  ·rw[e]at h1;cases h1
 ·exact Go.ConcN.Deaf_still t 0 ops fun op ho=>qX (hop op ho)
theorem mV(hT:Fit P l){Post:Frame->List Frame->World->Prop}{base:List Frame}(hb:Still base){Shun:Loc->Prop}{fr:Frame}{cs:List Frame}{u:World}(mG:ud P Post fr cs u):
  ∀(n:Nat) (ρ:Ren) (gs:Array Goroutine) (w:World) (sl:Option (Nat×Nat)) (t:Trace) (q:Nat->Nat),sumTo gs.size q<n->Beside P l base Shun S fr cs u ρ gs w t q->
   ∃N ρ' fr' cs' u' gs' w' sl' t' q',runNT P N (crowd gs w sl) t=(.next (crowd gs' w' sl'),t')/\gs'.size=gs.size/\Post fr' cs' u'/\Beside P l base Shun S fr' cs' u' ρ' gs' w' t' q'/\eR ρ ρ' w w':=by
 induction mG with
 |stop h=>exact fun S ρ gs w sl t q _ hB=>⟨0,ρ,_,_,_,gs,w,sl,t,q,rfl,rfl,h,hB,.refl ρ w⟩
 |@step fr cs u h1 h2 ih=>
  intro S;induction S with
  |zero=>exact fun ρ gs w sl t q hS=>absurd hS (by omega)
  |succ S ZK=>
   intro ρ gs w sl t q hS hB;obtain⟨⟨a,h0,Hp⟩,hw,hW,hL,hP,hC,hI,hZ,hN,hU⟩:=hB;have hrun:=Hp.running;have hlt:0<gs.size:=(Array.getElem?_eq_some_iff.1 h0).1
   have Ra:∀g∈gs,awake g:=by
    intro g hg;obtain⟨i,hi,rfl⟩:=Array.mem_iff_getElem.1 hg;rcases Nat.eq_zero_or_pos i with rfl|hpos
    ·have:gs[0]=a:=by simpa[Array.getElem?_eq_getElem hi]using h0
     rw[this];exact awake_of (.inl hrun)
    ·exact awake_of ((hL.old i _ hpos (Array.getElem?_eq_getElem hi)).status.elim .inl fun x=>.inr (.inr x))
   have hno:∀(j:Nat) h,gs[j]? =some h->h.status=.blocked->h.offers=none:=by
    intro j h hj hs;rcases Nat.eq_zero_or_pos j with rfl|hpos
    ·rw[h0]at hj;cases hj;rw[hrun]at hs;cases hs
    ·rcases(hL.old j h hpos hj).status with h3|h3<;>rw[h3]at hs<;>cases hs
   obtain⟨i,g,d,sl',hi,hg,hst⟩:=crowd_pick (P:=P) (w:=w) (sl:=sl) Ra ⟨0,a,h0,hrun⟩;rcases Nat.eq_zero_or_pos i with rfl|hpos
   ·
    obtain rfl:g=a:=by rw[h0]at hi;exact(Option.some.inj hi).symm
    have hw':=hw.at d;have hp:∀i q,i<u.drawn->laid u (w.at d) i q=u.tape i q:=fun i q hi=>by unfold laid;rw[if_pos hi]
    obtain⟨bT,bV,u1,hs⟩:=h1 _ hp;rcases Eu hT (by simp) (rF P) hb hw'.lay hW Hp hs true with⟨g1,v,e,Rl⟩|⟨uF,AA,u2,τ,g1,w1,aD,e,k1,k2,k3,k4,k5,_,_⟩
    ·have:=mN Rl v 0 bT bV u1;exact absurd (congrArg Stepped.next e.symm) (by simpa[runN]using this)
    obtain⟨rfl,rfl,rfl⟩:=qj e;obtain⟨f,ops,hr,hf,hact,hop⟩:=wm (P:=P) (sl:=sl') (i:=0) hi hno k1
    have hgo:eR ρ τ w w1:=by have:=k3.went;exact⟨this.le,this.size,this.cG,this.news,this.os,this.output,this.tape⟩
    have Tl:∀y b,τ y b->b<w1.heap.size:=fun y b h=>(k3.rel.lt y b h).2;have hsz:((gs.map f).setIfInBounds 0 g1).size=gs.size:=by simp
    have hkeep:∀(j:Nat) x,0<j->((gs.map f).setIfInBounds 0 g1)[j]? =some x->gs[j]? =some x:=fun j x hj hx=>by
     rw[Array.getElem?_setIfInBounds_ne (by omega),Array.getElem?_map]at hx;obtain⟨y,hy,rfl⟩:=Option.map_eq_some_iff.1 hx;have hq:=hL.old j y hj hy;rcases hf with rfl|rfl
     ·rw[woken_quitsD hq];exact hy
     ·exact hy
    obtain⟨N,ρ',fr',cs',u',gs',w',vP,t',q',r1,r2,r3,r4,r5⟩:=ih _ hp _ _ _ hs (sumTo gs.size q+1) τ ((gs.map f).setIfInBounds 0 g1) w1 sl' (t++ops) q (by rw[hsz];omega)
     ⟨⟨g1,by simp[hlt],k2⟩,k3.rel.drop,k4,⟨fun j x hj hx=>by
      rw[Deaf_other t (g':=0) (by omega) ops hop];exact hL.old j x hj (hkeep j x hj hx),fun j hj=>by
      rw[Deaf_other t (g':=0) (by rw[hsz]at hj;omega) ops hop];exact hL.above j (by rw[hsz]at hj;exact hj)⟩,qp hP hC hgo Tl hop (by rw[hact];exact k5),hC.went hgo,fun y b AF=>(k3.news y b AF).elim (hI y b) fun h=>by(have h1:(u.tp (laid u (w.at d))).heap.size=u.heap.size:=rfl;have h2:(w.at d).heap.size=w.heap.size:=rfl;omega),by(have h1:(u.tp (laid u (w.at d))).heap.size=u.heap.size:=rfl;have h2:(w.at d).heap.size=w.heap.size:=rfl;have h3:=k3.Ip;omega),kO (by rw[hsz];exact hN) (by rw[hsz];exact hlt) hop,k3.full hU⟩
    exact⟨N+1,ρ',fr',cs',u',gs',w',vP,t',q',by simp only[runNT,hst,hr];exact r1,r2.trans hsz,r3,r4,hgo.trans r5⟩
   ·
    have hq:=hL.old i g hpos hi;have hi0:(i==0)=false:=by simp;omega
    have hlt:i<gs.size:=(Array.getElem?_eq_some_iff.1 hi).1;cases Jy:q i with
    |zero=>rw[Jy]at hq;rw[hq.1]at hg;cases hg
    |succ k=>
     rw[Jy]at hq;rcases hq with⟨hf,_⟩|⟨_,g',es,hm,uQ,kY⟩
     ·rw[hf]at hg;cases hg
     have jT:=runT_crowd_go (P:=P) (sl:=sl') (i:=i) hi (by rw[hi0];exact uQ (w.at d));have hsz:((gs.map (woken P g g' (w.at d))).setIfInBounds i g').size=gs.size:=by simp
     have hsum:sumTo gs.size (upd q i k)+(k+1)=sumTo gs.size q+k:=by have:=sumTo_upd q k id hlt;simpa[Jy]using this
     obtain⟨N,ρ',fr',cs',u',gs',w',vP,t',q',r1,r2,r3,r4,r5⟩:=ZK ρ ((gs.map (woken P g g' (w.at d))).setIfInBounds i g') (w.at d) sl' (t++MemOp.ofEvents i g.frame.fn g.frame.place es) (upd q i k) (by rw[hsz];omega)
      ⟨⟨a,by
       have hne:i≠0:=by omega
       rw[Array.getElem?_setIfInBounds_ne hne,Array.getElem?_map,h0];simp[woken_running hrun],Hp⟩,hw.at d,hW,⟨fun j x hj hx=>by
       by_cases hji:i=j
       ·subst hji;rw[Array.getElem?_setIfInBounds_self_of_lt (by simpa using hlt)]at hx;obtain rfl:=Option.some.inj hx;rw[upd_same,Deaf_own];exact kY
       ·rw[Array.getElem?_setIfInBounds_ne hji,Array.getElem?_map]at hx;obtain⟨y,hy,rfl⟩:=Option.map_eq_some_iff.1 hx;have Hs:=hL.old j y hj hy;rw[woken_quitsD Hs,upd_ne q k (Ne.symm hji),Deaf_other t hji _ (MemOp.ofEvents_g _ _ _ _)];exact Hs,fun j hj=>by
       rw[Deaf_other t (g':=i) (by simp at hj;omega) _ (MemOp.ofEvents_g _ _ _ _)];exact hL.above j (by simpa using hj)⟩,hP.mute (by omega) hm,hC,hI,hZ,kO (by rw[hsz];exact hN) (by rw[hsz];exact hlt) (MemOp.ofEvents_g _ _ _ _),hU⟩
     exact⟨N+1,ρ',fr',cs',u',gs',w',vP,t',q',by simp only[runNT,hst,jT];exact r1,r2.trans hsz,r3,r4,⟨r5.le,r5.size,r5.cG,r5.news,r5.os,r5.output,r5.tape⟩⟩
end
end
section
open Go Go.Conc
open Go.ConcN (WgLive)
variable [aR] [aB]
section
variable {P:Program} {l:List FuncId} {S:Nat->Prop}
theorem wo{main:Bool}{g:Goroutine}{w:World}{g1 g2:Goroutine}{w1 w2:World}{a1 a2:Array MemAct}(h:iU P main g w g1 w1 a1)(k:iU P main g w g2 w2 a2):g1=g2/\w1=w2/\a1=a2:=by
 cases h with
 |go h=>
  cases k with
  |go k=>rw[h]at k;cases k;exact⟨rfl,rfl,rfl⟩
  |shut k=>rw[h]at k;cases k
  |uz k=>rw[h]at k;cases k
  |fC k=>rw[h]at k;cases k
 |shut h hc=>
  cases k with
  |go k=>rw[h]at k;cases k
  |shut k hk=>rw[h]at k;cases k;exact⟨rfl,rfl,rfl⟩
  |uz k hk=>rw[h]at k;cases k;rw[hc]at hk;cases hk
  |fC k=>rw[h]at k;cases k
 |uz h hc=>
  cases k with
  |go k=>rw[h]at k;cases k
  |shut k hk=>rw[h]at k;cases k;rw[hc]at hk;cases hk
  |uz k hk=>rw[h]at k;cases k;exact⟨rfl,rfl,rfl⟩
  |fC k=>rw[h]at k;cases k
 |fC h=>
  cases k with
  |go k=>rw[h]at k;cases k
  |shut k=>rw[h]at k;cases k
  |uz k=>rw[h]at k;cases k
  |fC k=>rw[h]at k;cases k;exact⟨rfl,rfl,rfl⟩
structure Rel(ty:TypeId)(Wg:Nat)(O:Nat->Prop)(w w₁:World):Prop where
 own:∀b,O b->w₁.heap[b]? =w.heap[b]?
 size:w.heap.size<=w₁.heap.size
 live:WgLive ty Wg w->WgLive ty Wg w₁
 os:w₁.os=w.os
theorem Rel.refl(ty:TypeId)(Wg:Nat)(O:Nat->Prop)(w:World):Rel ty Wg O w w:=⟨fun _ _=>rfl,Nat.le_refl _,id,rfl⟩
theorem Rel.trans{ty:TypeId}{Wg:Nat}{O:Nat->Prop}{a b c:World}(h:Rel ty Wg O a b)(k:Rel ty Wg O b c):Rel ty Wg O a c:=⟨fun x hx=>(k.own x hx).trans (h.own x hx),Nat.le_trans h.size k.size,k.live ∘ h.live,k.os.trans h.os⟩
theorem Rel.at (ty:TypeId)(Wg:Nat)(O:Nat->Prop)(w:World)(d:Nat):Rel ty Wg O w (w.at d):=⟨fun _ _=>rfl,Nat.le_refl _,id,rfl⟩
def dQ(O:Nat->Prop)(w w':World):Nat->Prop:=fun b=>O b\/(w.heap.size<=b/\b<w'.heap.size)
structure MV(O:Nat->Prop)(w w':World):Prop where
 cG:∀b,b<w.heap.size->¬O b->w'.heap[b]? =w.heap[b]?
 size:w.heap.size<=w'.heap.size
 os:w'.os=w.os
 output:w'.output=w.output
 tape:w'.tape=w.tape
structure gV(Wg:Nat)(O:Nat->Prop)(B:Nat)(a:MemAct):Prop where
 touch:∀x,a.touch?=some x->(∃ad:Addr,x.loc=.cell ad/\O ad.block)\/(∃r,x.loc=.obj r/\O r)\/x.loc=.output\/(∃ad:Addr,x.loc=.cell ad/\ad.block=Wg/\x.kind=.atomic)
 marks:a≠.mark .disable/\a≠.mark .enable
 low:a.low B
 rel:∀ad,a≠.mark (.release ad)
 RO:∀ad,a≠.mark (.releaseMerge ad)
theorem AW{σ:Ren}{a:MemAct}(h:kG S σ a)(Wg:Nat){O:Nat->Prop}{B:Nat}(hO:∀x b,σ x b->¬S b->O b)(hB:∀x b,σ x b->b<B):gV Wg O B a:=by
 have hm:∀m,m≠.noRoom->a≠.mark m:=fun m hm e=>by
  rcases h with⟨⟨loc,wr,sy⟩,rfl,h⟩|⟨r,y,rfl,h⟩
  ·cases loc with
   |cell ad=>simp[MemAct.ofEvent]at e
   |obj r=>cases wr<;>cases sy<;>simp[MemAct.ofEvent]at e
   |output=>simp[MemAct.ofEvent]at e
   |goroutines=>exact h.elim
   |mark m'=>
    cases m' with
    |noRoom=>simp[MemAct.ofEvent]at e;exact hm e.symm
    |_=>exact h.elim
  ·cases e
 refine⟨fun x hx=>?_,qX h,zS h hB,fun ad=>hm _ (by simp),fun ad=>hm _ (by simp)⟩;rcases qY h hx with⟨ad,y,e,hy⟩|⟨r,y,e,hy⟩|e
 ·exact .inl ⟨ad,e,hO _ _ hy.1 hy.2⟩
 ·exact .inr (.inl ⟨r,e,hO _ _ hy.1 hy.2⟩)
 ·exact .inr (.inr (.inl e))
inductive CJ(P:Program)(main:Bool)(ty:TypeId)(Wg:Nat)(Stop:(Nat->Prop)->Goroutine->World->Prop):(Nat->Prop)->Goroutine->World->Prop
 |stop {O:Nat->Prop} {g:Goroutine} {w:World} (h:∀w₁,Rel ty Wg O w w₁->Stop O g w₁):CJ P main ty Wg Stop O g w
 |step {O:Nat->Prop} {g:Goroutine} {w:World} (hg:g.status=.running)
   (h:∀w₁,Rel ty Wg O w w₁->∃g' w' aD,iU P main g w₁ g' w' aD/\MV O w₁ w'/\∀a∈aD,gV Wg (dQ O w₁ w') w'.heap.size a)
   (k:∀w₁ g' w' aD,Rel ty Wg O w w₁->iU P main g w₁ g' w' aD->CJ P main ty Wg Stop (dQ O w₁ w') g' w'):CJ P main ty Wg Stop O g w
theorem CJ.rely{main:Bool}{ty:TypeId}{Wg:Nat}{Stop:(Nat->Prop)->Goroutine->World->Prop}{O:Nat->Prop}{g:Goroutine}{w w₁:World}(h:CJ P main ty Wg Stop O g w)(r:Rel ty Wg O w w₁):CJ P main ty Wg Stop O g w₁:=by
 cases h with
 |stop h=>exact .stop fun w₂ h₂=>h w₂ (r.trans h₂)
 |step hg h k=>exact .step hg (fun w₂ h₂=>h w₂ (r.trans h₂)) fun w₂ g' w' aD h₂=>k w₂ g' w' aD (r.trans h₂)
theorem CJ.one{main:Bool}{ty:TypeId}{Wg:Nat}{Stop:(Nat->Prop)->Goroutine->World->Prop}{O:Nat->Prop}{g:Goroutine}{w:World}(hg:g.status=.running)
  (h:∀w₁,Rel ty Wg O w w₁->∃g' w' aD,iU P main g w₁ g' w' aD/\MV O w₁ w'/\(∀a∈aD,gV Wg (dQ O w₁ w') w'.heap.size a)/\CJ P main ty Wg Stop (dQ O w₁ w') g' w'):CJ P main ty Wg Stop O g w:=by
 refine .step hg (fun w₁ h₁=>?_) fun w₁ g' w' aD h₁ ht=>?_
 ·obtain⟨g',w',aD,a,b,c,_⟩:=h w₁ h₁;exact⟨g',w',aD,a,b,c⟩
 ·obtain⟨g2,w2,Pb,a,_,_,d⟩:=h w₁ h₁;obtain⟨rfl,rfl,rfl⟩:=wo ht a;exact d
theorem CJ.bind{main:Bool}{ty:TypeId}{Wg:Nat}{Stop OZ:(Nat->Prop)->Goroutine->World->Prop}{O:Nat->Prop}{g:Goroutine}{w:World}(h:CJ P main ty Wg Stop O g w)(hs:∀O g w,(∀w₁,Rel ty Wg O w w₁->Stop O g w₁)->CJ P main ty Wg OZ O g w):CJ P main ty Wg OZ O g w:=by
 induction h with
 |stop h=>exact hs _ _ _ h
 |step hg h _ ih=>exact .step hg h ih
def tX(ty:TypeId)(Wg:Nat)(S:Nat->Prop)(w:World):Prop:=∀b,S b->b=Wg/\WgLive ty Wg w
theorem tX.rel{ty:TypeId}{Wg:Nat}{O:Nat->Prop}{w w₁:World}(h:tX ty Wg S w)(r:Rel ty Wg O w w₁):tX ty Wg S w₁:=fun b hb=>⟨(h b hb).1,r.live (h b hb).2⟩
theorem WgLive.calm{ty:TypeId}{Wg:Nat}{w:World}(h:WgLive ty Wg w):Calm w.heap[Wg]? :=by obtain⟨st,sm,h⟩:=h;exact⟨_,_,_,h,by simp,Nat.le_refl _⟩
theorem nK.rel{ty:TypeId}{Wg:Nat}{O:Nat->Prop}{ρ:Ren}{u w w₁:World}(h:nK P ρ u w)(hW:Whole S ρ u)(hG:tX ty Wg S w)(hO:∀a b,ρ a b->¬S b->O b)(r:Rel ty Wg O w w₁):nK P ρ u w₁:=by
 refine⟨h.one,fun a b hab=>⟨(h.lt a b hab).1,Nat.lt_of_lt_of_le (h.lt a b hab).2 r.size⟩,fun a b o hab ho=>?_,h.low,h.base,fun a b hab hp=>?_,r.os.trans h.os⟩
 ·rcases hW.all a b hab with⟨h1,_⟩|⟨_,h1⟩
  ·exact(h.obj a b o hab ho).imp id fun⟨o',h2,h3⟩=>⟨o',by rw[r.own b (hO a b hab h1)];exact h2,h3⟩
  ·rw[ho]at h1;cases h1;exact .inl rfl
 ·rcases hW.all a b hab with⟨_,o,h1,h2⟩|⟨h1,_⟩
  ·rw[hp]at h1;cases h1;exact absurd rfl h2
  ·obtain⟨rfl,h2⟩:=hG b h1;exact WgLive.calm (r.live h2)
theorem Dv(hT:Fit P l){main:Bool}{ty:TypeId}{Wg:Nat}{Post:Frame->List Frame->World->Prop}{Stop:(Nat->Prop)->Goroutine->World->Prop}{base:List Frame}(hb:Still base){ρ0:Ren}{fr:Frame}{cs:List Frame}{u:World}(mG:ud P Post fr cs u)
  (hend:∀fr cs u ρ O g w,Post fr cs u->ρ0.le ρ->GR P l ρ base fr cs g->nK P ρ u w->Whole S ρ u->tX ty Wg S w->(∀a b,ρ a b->¬S b->O b)->CJ P main ty Wg Stop O g w):
  ∀(ρ:Ren) (O:Nat->Prop) (g:Goroutine) (w:World),ρ0.le ρ->GR P l ρ base fr cs g->nK P ρ u w->Whole S ρ u->tX ty Wg S w->(∀a b,ρ a b->¬S b->O b)->CJ P main ty Wg Stop O g w:=by
 induction mG with
 |stop h=>exact fun ρ O g w h0 h1 h2 h3 h4 h5=>hend _ _ _ ρ O g w h h0 h1 h2 h3 h4 h5
 |@step fr cs u k1 k2 ih=>
  intro ρ O g w h0 h1 h2 h3 hG h4;refine .one h1.running fun w₁ r=>?_;have hw:=h2.rel h3 hG h4 r;have hp:∀i q,i<u.drawn->laid u w₁ i q=u.tape i q:=fun i q hi=>by unfold laid;rw[if_pos hi]
  obtain⟨bT,bV,u1,hs⟩:=k1 _ hp;rcases Eu hT (by simp) (rF P) hb hw.lay h3 h1 hs main with⟨g1,v,e,Rl⟩|⟨uF,AA,u2,σ,g1,w1,aD,e,m1,m2,m3,m4,m5,_,_⟩
  ·have:=mN Rl v 0 bT bV u1;exact absurd (congrArg Stepped.next e.symm) (by simpa[runN]using this)
  obtain⟨rfl,rfl,rfl⟩:=qj e;have hlt:∀a b,σ a b->b<w1.heap.size:=fun a b hab=>(m3.rel.lt a b hab).2;have hO:∀a b,σ a b->¬S b->dQ O w₁ w1 b:=fun a b hab hs=>(m3.news a b hab).elim (fun h=>.inl (h4 a b h hs)) fun h=>.inr ⟨h.1,hlt a b hab⟩
  have hstill:∀a b,ρ a b->S b->w1.heap[b]? =w₁.heap[b]? :=fun a b hab hs=>by
   rcases h3.all a b hab with⟨h1,_⟩|⟨_,h1⟩
   ·exact absurd hs h1
   ·exact(m3.still a b hab h1).2
  have hG':tX ty Wg S w1:=fun b hs=>by obtain⟨e,st,sm,hl⟩:=hG.rel r b hs;obtain⟨a,ha⟩:=h3.has b hs;refine⟨e,st,sm,?_⟩;have:=hstill a b ha hs;rw[e]at this;exact this.trans hl
  refine⟨g1,w1,aD,m1,⟨fun b hb hn=>?_,m3.size,m3.os,m3.output,m3.tape⟩,fun a ha=>AW (m5 a ha) Wg hO hlt,ih _ hp _ _ _ hs σ _ g1 w1 (Ren.le_trans h0 m3.le) m2 m3.rel.drop m4 hG' hO⟩
  by_cases hex:∃a,ρ a b
  ·obtain⟨a,ha⟩:=hex
   by_cases hs:S b
   ·exact hstill a b ha hs
   ·exact absurd (h4 a b ha hs) hn
  ·exact m3.cG b hb fun a ha=>hex ⟨a,ha⟩
end
end
end Go.Proofs.YtpobhljcainmdaaGreat
