/- Proved here: a part of what Doors keeps (Dr7, La1, La2). -/
import Derived.Test.YtpobhljcainmdaaGreatJ42
set_option maxRecDepth 100000
set_option maxHeartbeats 8000000
set_option linter.all false
namespace Go.Proofs.YtpobhljcainmdaaGreat
section
open Go.Proofs.Tryz
open Go Go.Conc Go.RowKit
open Go.ConcR (Payload)
attribute [local go_sem ↓] Go.wp_at_zero Go.wp_at_succ
structure AJ[aR](l:List FuncId):Prop where
 fM:MX l
 kT:aR.known 26
 o0:dM prog l false (Jr f85)=true
 o1:dM prog l false (Js f85)=true
 o4:dM prog l false (arm (fB f85))=true
 o5:dM prog l false (arm (nx (fB f85)))=true
 o6:dM prog l false (arm (nx (nx (fB f85))))=true
 o7:dM prog l false (arm (nx (nx (nx (fB f85)))))=true
 o8:dM prog l false (CQ f85)=true
 o9:dM prog l false (arm (nx (nx (nx (nx (nx (fB f85)))))))=true
 oe:dM prog l false (gM f85)=true
section
variable [aR] {w w1 w2 u:World} {f f':Fy} {pb xb yb ob n:Nat} {B Bx By:Nat->Prop} {a:Act} {s:ByteArray} {x y kd dm sz cl qu mx qn rt bu wk ou:Int} {on:Bool} {l:List FuncId} {φ:Fy->Prop}
theorem Duo.tp(h:Duo w f pb B)(τ:Tape):Duo (w.tp τ) f pb B:=h.same rfl rfl
theorem cm.tp{g:Fy}(h:cm w f g pb xb yb Bx By B)(τ:Tape):cm (w.tp τ) f g pb xb yb Bx By B:=h.same rfl rfl
theorem eA.tp(h:eA φ pb B w w1)(τ:Tape):eA φ pb B w (w1.tp τ):=by obtain⟨f',h1,h2,h3⟩:=h;exact⟨f',h1,h2.tp τ,⟨h3.os,h3.size,h3.block⟩⟩
theorem eA.base{τ:Tape}(h:eA φ pb B (w.tp τ) w1):eA φ pb B w w1:=by obtain⟨f',h1,h2,h3⟩:=h;exact⟨f',h1,h2,⟨h3.os,h3.size,h3.block⟩⟩
theorem eA.ahead{o:Obj}(h:eA φ pb B (w.alloc o) w1)(hp:pb<w.heap.size)(hlt:∀b,B b->b<w.heap.size)(hB:¬B pb):eA φ pb B w w1:=by
 obtain⟨f',h1,h2,h3⟩:=h;obtain⟨xb,yb,Bx,By,h2⟩:=h2.open;have hs:w.heap.size+1<=w1.heap.size:=by have:=h3.size;simp at this;omega
 refine⟨f',h1,(h2.into (B':=grown B w w1) (fun b hb=>?_) (fun hb=>?_) (jM hlt (by omega))).shut,(aF.below ((Below.refl _ w).alloc (Nat.le_refl _) o)).trans h3⟩
 ·rcases hb with hb|hb
  ·exact .inl hb
  ·refine .inr ⟨?_,hb.2⟩;have:=hb.1;simp at this;omega
 ·rcases hb with hb|hb
  ·exact hB hb
  ·omega
def eT(φ:Fy->Prop)(pb:Nat)(B:Nat->Prop)(u0:World)(e:Exit)(a':Act)(u':World):Prop:=e=.ret/\a'.defers=[]/\a'.eval (.tmp 4)=.bool true/\eA φ pb B u0 u'
theorem Bp(u0:World):tZ (eT φ pb B u0):=fun e a u τ ⟨h1,h2,h3,h4⟩=>⟨h1,h2,h3,h4.tp τ⟩
theorem fW{P:Program}{c:Code}(hT:Fit P l)(hc:dM P l false c=true)(h:∀τ,c.wp P (fun e a' w'=>e=.ret/\a'.defers=[]/\a'.eval (.tmp 4)=.bool true/\eA φ pb B (u.tp τ) w') a (u.tp τ)):WX P c (eT φ pb B u) a u:=
 WX.lift hT hc (Bp u) (fun x a u h=>by cases h.1) (fun a u h=>by cases h.1) fun τ=>wp_mono (h τ) fun e a u ⟨h1,h2,h3,h4⟩=>⟨h1,h2,h3,h4.base⟩
variable [Payload]
theorem Qo(G:AJ l)(hφ:φ f.tick)(h:cm u f f pb xb yb Bx By B)(hok:f.Ok n)(hn:n<=281474976710656)(hs:a.tmps.size=162)(hd:a.defers=[])(e0:a.eval (.tmp 0)=pt pb):
  WX prog (arm (nx (nx (nx (nx (fB f85)))))) (eT φ pb B u) a u:=by
 have hc:arm (nx (nx (nx (nx (fB f85)))))=.seq (.region 19 (opsOf (cr (arm (nx (nx (nx (nx (fB f85)))))))) false) (CQ f85):=by kernel_rfl
 rw[hc];refine WX.seq (WX.region ?_);rw[show List.range (opsOf (cr (arm (nx (nx (nx (nx (fB f85)))))))).size=[0,1,2,3,4] from by kernel_rfl];have hT:=G.fM.fit;have c0:u.cell? ⟨pb,0,none⟩=some (pt xb):=h.cells.1;refine OX.mv hT rfl rfl rfl rfl e0 ?_;generalize Py:a.put (some 135) (pt pb)=a1;have e1:a1.eval (.tmp 135)=pt pb:=Py▸aq _ (by omega);have k1:Kp 134 a a1:=Py▸Kp.put a (by decide) _;refine OX.ZP hT rfl rfl rfl rfl e1 ?_;generalize MO:a1.put (some 136) (pt pb)=a2;have e2:a2.eval (.tmp 136)=pt pb:=MO▸aq _ (by rw[k1.size];omega);have k2:Kp 134 a a2:=k1.trans (MO▸Kp.put a1 (by decide) _);refine OX.Uk (v:=pt pb) hT rfl rfl rfl rfl (by kernel_rfl) e2 (fun τ=>by go_simp) ?_;generalize Tg:a2.put (some 137) (pt pb)=a3;have e3:a3.eval (.tmp 137)=pt pb:=Tg▸aq _ (by rw[k2.size];omega);have k3:Kp 134 a a3:=k2.trans (Tg▸Kp.put a2 (by decide) _);refine OX.ld (v:=pt xb) hT rfl rfl rfl rfl e3 (fun τ=>?_) ?_
 ·have XQ:(u.tp τ).cell? ⟨pb,0,none⟩=some (pt xb):=c0;go_simp
 generalize ha4:a3.put (some 138) (pt xb)=a4;have e4:a4.eval (.tmp 138)=pt xb:=ha4▸aq _ (by rw[k3.size];omega);have k4:Kp 134 a a4:=k3.trans (ha4▸Kp.put a3 (by decide) _);refine OX.call (f:=26) hT rfl rfl rfl func26 rfl rfl G.kT (by simp[bF]) ?_;rw[show(#[Operand.tmp 138].map a4.eval)=#[pt xb] from by rw[List.map_toArray];simp only[List.map_cons,List.map_nil,e4]];refine(h.pr.tick G.fM hok hn).mono ?_;rintro e u1 ⟨rfl,h1,t1⟩;refine⟨_,rfl,OX.nil ?_⟩;have hl:=h.left h1 t1;have k5:Kp 134 a (a4.put (some 139) (.tuple #[])):=k4.trans (Kp.put a4 (by decide) _);show WX prog (CQ f85) (eT φ pb B u) (a4.put (some 139) (.tuple #[])) u1;refine WX.lift hT G.o8 (Bp u) (fun x a u h=>by cases h.1) (fun a u h=>by cases h.1) fun τ=>?_;exact Mv hφ (w:=u) (w1:=u1.tp τ) (B1:=grown B u u1) (hl.tp τ) hok hn t1.size (fun b hb=>hb) h.lt h.out h.nX ⟨t1.os,t1.size,fun k hk hx=>t1.block k hk fun e=>hx (h.dO k (.inl e))⟩ (fun b hb=>h.dO b (.inr hb)) (by rw[k5.size];exact hs) (by rw[k5.defers];exact hd) ((k5.at_ 0 (by decide)).trans e0)
theorem Kg(G:AJ l)(h:Duo u f pb B)(hok:f.Ok n)(hn:n<=281474976710656)(hss:s.size<=140737488355328)(hq:fT s)(hφ:∀f',f'.Ok (n+1)->(kd=6->f'=f.take x y)->φ f'):
  bG prog 85 #[pt pb,.agg (fE kd dm sz cl qu mx qn rt bu wk ou s x y on)] u fun e u'=>e=.returned (.bool true)/\eA φ pb B u u':=by
 have hT:=G.fM.fit;obtain⟨xb,yb,Bx,By,hD⟩:=h.open;have hp:=h.nX;refine bG.Gh func85 (c:=.seq (Jr f85) (.seq (.seq (Js f85) (.block 0 (fB f85))) (gM f85))) (by kernel_rfl) ?_;generalize ha:(⟨#[pt pb,Value.agg (fE kd dm sz cl qu mx qn rt bu wk ou s x y on)]++Array.replicate (f85.ntmps - #[pt pb,Value.agg (fE kd dm sz cl qu mx qn rt bu wk ou s x y on)].size) undef,[]⟩:Act)=a;have hs:a.tmps.size=162:=by rw[<-ha];simp
 have hd:a.defers=[]:=by rw[<-ha]
 have e0:a.eval (.tmp 0)=pt pb:=by rw[<-ha];kernel_rfl
 have e1:a.eval (.tmp 1)=.agg (fE kd dm sz cl qu mx qn rt bu wk ou s x y on):=by rw[<-ha];kernel_rfl
 clear ha
 have fin:∀(e:Exit) (a':Act) (u':World),eT φ pb B u e a' u'->(e=.normal\/e=.ret)/\a'.defers=[]/\∃v,(results f85 a'.tmps).run prog u'=.ok v u'/\(Ending.returned v=.returned (.bool true)/\eA φ pb B u u'):=by rintro e a' u' ⟨rfl,h2,h3,h4⟩;have h3':=ev h3;refine⟨.inr rfl,h2,.bool true,?_,rfl,h4⟩;simp[results,results85,go_sem,h3']
 refine WX.mono (Q:=eT φ pb B u) ?_ fin;refine WX.seq ((WX.lift (Q:=fun e a' u'=>e=.normal/\a'.tmps.size=162/\a'.defers=[]/\a'.eval (.tmp 0)=pt pb/\a'.eval (.tmp 3)=pt u.heap.size/\∃τ,u'=(u.alloc (.cells (fE kd dm sz cl qu mx qn rt bu wk ou s x y on) 90)).tp τ) hT G.o0 ?_ ?_ ?_ fun τ=>?_).mono ?_)
 ·rintro e a u' τ ⟨h1,h2,h3,h4,h5,Gs,rfl⟩;exact⟨h1,h2,h3,h4,h5,τ,rfl⟩
 ·rintro x a u' ⟨h,_⟩;cases h
 ·rintro a u' ⟨h,_⟩;cases h
 ·exact wp_mono (QA hs hd e0 e1) fun e a u' ⟨h1,h2,h3,h4,h5,h6⟩=>⟨h1,h2,h3,h4,h5,τ,h6⟩
 rintro e a1 u1 ⟨rfl,s1,d1,f0,f3,Gt,rfl⟩;have hlt:=h.lt;have hout:=h.out;generalize Ef:u.heap.size=ob at f3;have Xg:¬B ob:=fun hb=>by have:=hlt ob hb;omega
 have D1:=hD.below ((Below.refl _ u).alloc (Nat.le_refl _) (.cells (fE kd dm sz cl qu mx qn rt bu wk ou s x y on) 90));have O1:(u.alloc (.cells (fE kd dm sz cl qu mx qn rt bu wk ou s x y on) 90)).heap[ob]? =some (.cells (fE kd dm sz cl qu mx qn rt bu wk ou s x y on) 90 (0,0)):=by rw[<-Ef];exact heap_alloc_new u _
 have back:∀u',eA φ pb B (u.alloc (.cells (fE kd dm sz cl qu mx qn rt bu wk ou s x y on) 90)) u'->eA φ pb B u u':=fun u' ht=>ht.ahead hp hlt hout;generalize u.alloc (.cells (fE kd dm sz cl qu mx qn rt bu wk ou s x y on) 90)=v at*;have kdc:(v.tp Gt).cell? ⟨ob,0,none⟩=some (.int .i64 kd):=af O1 rfl;refine WX.mono (Q:=eT φ pb B v) ?_ (fun e a u' ⟨h1,h2,h3,h4⟩=>⟨h1,h2,h3,back _ h4⟩);refine WX.seq (WX.seq ((WX.lift (Q:=fun e a' u'=>e=.normal/\a'.tmps.size=162/\a'.defers=[]/\a'.eval (.tmp 0)=pt pb/\a'.eval (.tmp 3)=pt ob/\a'.eval (.tmp 18)=.int .i64 kd/\∃τ,u'=v.tp τ) hT G.o1 ?_ ?_ ?_ fun τ=>?_).mono ?_))
 ·rintro e a u' τ ⟨h1,h2,h3,h4,h5,h6,Gs,rfl⟩;exact⟨h1,h2,h3,h4,h5,h6,τ,rfl⟩
 ·rintro x a u' ⟨h,_⟩;cases h
 ·rintro a u' ⟨h,_⟩;cases h
 ·exact wp_mono (QB (w:=v.tp τ) (af O1 rfl) s1 d1 f0 f3) fun e a u' ⟨h1,h2,h3,h4,h5,h6,h7⟩=>⟨h1,h2,h3,h4,h5,h6,τ,h7⟩
 rintro e a2 u2 ⟨rfl,s2,d2,g0,g3,SS,oY,rfl⟩;have D2:=D1.tp oY;have O2:oV pb xb yb ob s x y (v.tp oY):=⟨D2.cells.1,D2.cells.2,af O1 rfl,af O1 rfl,af O1 rfl⟩
 have toQ:∀(e:Exit) (a':Act) (u':World),eT φ pb B (v.tp oY) e a' u'->Exit.inBlock 0 (Exit.then (WX prog (gM f85) (eT φ pb B v)) (eT φ pb B v)) e a' u':=by rintro e a' u' ⟨rfl,h2,h3,h4⟩;exact⟨rfl,h2,h3,h4.base⟩
 show WX prog (.block 0 (fB f85)) (Exit.then (WX prog (gM f85) (eT φ pb B v)) (eT φ pb B v)) a2 (v.tp oY);refine WX.block ?_;refine WX.case (m:=18) (c0:=4) (n:=kd) hT (c:=fB f85) (id:=2) (ops:=opsOf (cr (fB f85))) (d1:=19) (d0:=20) (k:=18) (by kernel_rfl) (by kernel_rfl) rfl rfl rfl rfl rfl rfl rfl rfl SS (by omega) (by omega) (by decide) (by decide) ?_
 intro a3 q2;have K2:Kp 18 a2 a3:=q2
 by_cases UZ:kd=4
 ·rw[if_pos UZ];refine WX.mono (Q:=eT φ pb B (v.tp oY)) (fW hT G.o4 fun τ=>MZ (D2.tp τ) hok hn Xg O2 (hφ _ (hok.conn x) (fun e=>by omega)) (by rw[K2.size];exact s2) (by rw[K2.defers];exact d2) ((K2.at_ 0 (by decide)).trans g0) ((K2.at_ 3 (by decide)).trans g3)) toQ
 rw[if_neg UZ];refine WX.case (m:=18) (c0:=5) (n:=kd) hT (c:=nx (fB f85)) (id:=6) (ops:=opsOf (cr (nx (fB f85)))) (d1:=51) (d0:=52) (k:=18) (by kernel_rfl) (by kernel_rfl) rfl rfl rfl rfl rfl rfl rfl rfl ((K2.at_ 18 (by decide)).trans SS) (by rw[K2.size];omega) (by rw[K2.size];omega) (by decide) (by decide) ?_
 intro a4 q3;have K3:Kp 18 a2 a4:=K2.trans q3
 by_cases Tj:kd=5
 ·rw[if_pos Tj];refine WX.mono (Q:=eT φ pb B (v.tp oY)) (fW hT G.o5 fun τ=>Na (D2.tp τ) hok hn Xg O2 hss hq (hφ _ ((hok.send x hq).mono (Nat.le_succ _)) (fun e=>by omega)) (by rw[K3.size];exact s2) (by rw[K3.defers];exact d2) ((K3.at_ 0 (by decide)).trans g0) ((K3.at_ 3 (by decide)).trans g3)) toQ
 rw[if_neg Tj];refine WX.case (m:=18) (c0:=6) (n:=kd) hT (c:=nx (nx (fB f85))) (id:=10) (ops:=opsOf (cr (nx (nx (fB f85))))) (d1:=76) (d0:=77) (k:=18) (by kernel_rfl) (by kernel_rfl) rfl rfl rfl rfl rfl rfl rfl rfl ((K3.at_ 18 (by decide)).trans SS) (by rw[K3.size];omega) (by rw[K3.size];omega) (by decide) (by decide) ?_
 intro a5 q4;have K4:Kp 18 a2 a5:=K3.trans q4
 by_cases hk6:kd=6
 ·rw[if_pos hk6];refine WX.mono (Q:=eT φ pb B (v.tp oY)) (fW hT G.o6 fun τ=>Nb (D2.tp τ) hok hn Xg O2 (hφ _ ((hok.take x y).mono (Nat.le_succ _)) (fun _=>rfl)) (by rw[K4.size];exact s2) (by rw[K4.defers];exact d2) ((K4.at_ 0 (by decide)).trans g0) ((K4.at_ 3 (by decide)).trans g3)) toQ
 rw[if_neg hk6];refine WX.case (m:=18) (c0:=7) (n:=kd) hT (c:=nx (nx (nx (fB f85)))) (id:=14) (ops:=opsOf (cr (nx (nx (nx (fB f85)))))) (d1:=112) (d0:=113) (k:=18) (by kernel_rfl) (by kernel_rfl) rfl rfl rfl rfl rfl rfl rfl rfl ((K4.at_ 18 (by decide)).trans SS) (by rw[K4.size];omega) (by rw[K4.size];omega) (by decide) (by decide) ?_
 intro a6 q5;have K5:Kp 18 a2 a6:=K4.trans q5
 by_cases hk7:kd=7
 ·rw[if_pos hk7];refine WX.mono (Q:=eT φ pb B (v.tp oY)) (fW hT G.o7 fun τ=>Nc (D2.tp τ) hok hn Xg O2 (hφ _ ((hok.jB x).mono (Nat.le_succ _)) (fun e=>by omega)) (by rw[K5.size];exact s2) (by rw[K5.defers];exact d2) ((K5.at_ 0 (by decide)).trans g0) ((K5.at_ 3 (by decide)).trans g3)) toQ
 rw[if_neg hk7];refine WX.case (m:=18) (c0:=8) (n:=kd) hT (c:=nx (nx (nx (nx (fB f85))))) (id:=18) (ops:=opsOf (cr (nx (nx (nx (nx (fB f85))))))) (d1:=133) (d0:=134) (k:=18) (by kernel_rfl) (by kernel_rfl) rfl rfl rfl rfl rfl rfl rfl rfl ((K5.at_ 18 (by decide)).trans SS) (by rw[K5.size];omega) (by rw[K5.size];omega) (by decide) (by decide) ?_
 intro a7 q6;have K6:Kp 18 a2 a7:=K5.trans q6
 by_cases hk8:kd=8
 ·rw[if_pos hk8];refine WX.mono (Q:=eT φ pb B (v.tp oY)) (Qo G (hφ _ hok.tick (fun e=>by omega)) D2 hok hn (by rw[K6.size];exact s2) (by rw[K6.defers];exact d2) ((K6.at_ 0 (by decide)).trans g0)) toQ
 rw[if_neg hk8];refine WX.case (m:=18) (c0:=9) (n:=kd) hT (c:=nx (nx (nx (nx (nx (fB f85)))))) (id:=22) (ops:=opsOf (cr (nx (nx (nx (nx (nx (fB f85)))))))) (d1:=145) (d0:=146) (k:=18) (by kernel_rfl) (by kernel_rfl) rfl rfl rfl rfl rfl rfl rfl rfl ((K6.at_ 18 (by decide)).trans SS) (by rw[K6.size];omega) (by rw[K6.size];omega) (by decide) (by decide) ?_
 intro a8 q7;have K7:Kp 18 a2 a8:=K6.trans q7
 by_cases hk9:kd=9
 ·rw[if_pos hk9];refine WX.mono (Q:=eT φ pb B (v.tp oY)) (fW hT G.o9 fun τ=>Nd (hφ _ (hok.halt.mono (Nat.le_succ _)) (fun e=>by omega)) (D2.tp τ) hok O2 (by rw[K7.size];exact s2) (by rw[K7.defers];exact d2) ((K7.at_ 0 (by decide)).trans g0)) toQ
 rw[if_neg hk9];rw[show nx (nx (nx (nx (nx (nx (fB f85))))))=.skip from by kernel_rfl];refine WX.skip ?_;show WX prog (gM f85) (eT φ pb B v) a8 (v.tp oY);refine WX.mono (Q:=eT φ pb B (v.tp oY)) (fW hT G.oe fun τ=>Np (hφ _ (hok.mono (Nat.le_succ _)) (fun e=>by omega)) (D2.tp τ) hok O2 (by rw[K7.size];exact s2) (by rw[K7.defers];exact d2) ((K7.at_ 0 (by decide)).trans g0) ((K7.at_ 3 (by decide)).trans g3)) ?_;rintro e a' u' ⟨h1,h2,h3,h4⟩;exact⟨h1,h2,h3,h4.base⟩
end
end
section
open Go.Proofs.Tryz
open Go Go.Conc Go.RowKit
structure Pa where
 pb:Nat
 f:Fy
 B:Nat->Prop
abbrev NY(v:Value):Array Value:=#[v,.slice none 0 0,.slice none 0 0,.slice none 0 0,.slice none 0 0,.int .i64 0]
theorem Ac{X:Nat->Prop}{w w':World}{base e size n:Nat}{v:Value}{xs:List Value}(h:w.ownsRow base e size v n xs)(ht:aF X w w')(hX:∀g,v.ownBlock=some g->¬X g):w'.ownsRow base e size v n xs:=by
 refine⟨h.1,?_⟩;rcases h.2 with h|⟨g,cap,cur,rfl,h2,h3,h4⟩
 ·exact .inl h
 ·exact .inr ⟨g,cap,cur,rfl,h2,aN ht h3 (hX g rfl),h4⟩
theorem jZ{w:World}{base e size n g:Nat}{v:Value}{xs:List Value}(h:w.ownsRow base e size v n xs)(hg:v.ownBlock=some g):∃cur,w.heap[g]? =some (.cells cur e (0,0)):=by
 rcases h.2 with⟨rfl,_⟩|⟨g',cap,cur,rfl,h2,h3,h4⟩
 ·cases hg
 ·cases hg;exact⟨cur,h3⟩
section
variable [aR]
structure Lw(W0 W:World)(wb:Nat)(v:Value)(ps:List Pa)(n:Nat):Prop where
 box:W.heap[wb]? =some (.cells (NY v) 87 (0,0))
 row:W.ownsRow 0 141 1 v ps.length (ps.map fun p=>pt p.pb)
 duo:∀p∈ps,Duo W p.f p.pb p.B
 ok:∀p∈ps,p.f.Ok n
 apart:∀(i j:Nat) p q,i≠j->ps[i]? =some p->ps[j]? =some q->∀b,p.B b->¬q.B b
 Iq:∀p∈ps,∀q∈ps,¬p.B q.pb
 Fv:∀p∈ps,¬p.B wb
 EM:∀g,v.ownBlock=some g->∀p∈ps,¬p.B g
 wE:W0.heap.size<=wb
 GB:∀p∈ps,∀b,p.B b->W0.heap.size<=b
 LR:∀g,v.ownBlock=some g->W0.heap.size<=g
 keep:∀k,k<W0.heap.size->W.heap[k]? =W0.heap[k]?
 os:W.os=W0.os
variable {W0 w w':World} {wb n k:Nat} {v:Value} {ps:List Pa} {X:Nat->Prop}
theorem Lw.old(h:Lw W0 w wb v ps n)(ht:aF X w w')(hX:∀p∈ps,∀b,p.B b->¬X b)(hp:∀p∈ps,¬X p.pb)(hw:¬X wb)(hr:∀g,v.ownBlock=some g->¬X g)(Zg:∀b,b<W0.heap.size->¬X b):Lw W0 w' wb v ps n:=
 ⟨aN ht h.box hw,Ac h.row ht hr,fun p hm=>(h.duo p hm).old ht (hX p hm) (hp p hm),h.ok,h.apart,h.Iq,h.Fv,h.EM,h.wE,h.GB,h.LR,fun k hk=>(ht.block k (Nat.lt_of_lt_of_le hk (Nat.le_trans h.wE (Nat.le_of_lt (Array.getElem?_eq_some_iff.1 h.box).1))) (Zg k hk)).trans (h.keep k hk),ht.os.trans h.os⟩
theorem Lw.below(h:Lw W0 w wb v ps n)(hb:Below w.heap.size w w'):Lw W0 w' wb v ps n:=h.old (X:=fun _=>False) (aF.below hb) (fun _ _ _ _ h=>h) (fun _ _ h=>h) (fun h=>h) (fun _ _ h=>h) (fun _ _ h=>h)
theorem Lw.same(h:Lw W0 w wb v ps n)(hh:w'.heap=w.heap)(ho:w'.os=w.os):Lw W0 w' wb v ps n:=h.old (X:=fun _=>False) (qF hh ho) (fun _ _ _ _ h=>h) (fun _ _ h=>h) (fun h=>h) (fun _ _ h=>h) (fun _ _ h=>h)
theorem Lw.tp(h:Lw W0 w wb v ps n)(τ:Tape):Lw W0 (w.tp τ) wb v ps n:=h.same rfl rfl
theorem Lw.mono(h:Lw W0 w wb v ps n){m:Nat}(hm:n<=m):Lw W0 w wb v ps m:=⟨h.box,h.row,h.duo,fun p hp=>(h.ok p hp).mono hm,h.apart,h.Iq,h.Fv,h.EM,h.wE,h.GB,h.LR,h.keep,h.os⟩
theorem Lw.nZ(h:Lw W0 w wb v ps n):wb<w.heap.size:=(Array.getElem?_eq_some_iff.1 h.box).1
theorem Lw.EN(h:Lw W0 w wb v ps n):∀g,v.ownBlock=some g->g<w.heap.size:=fun g hg=>by obtain⟨cur,hc⟩:=jZ h.row hg;exact(Array.getElem?_eq_some_iff.1 hc).1
theorem Lw.put(h:Lw W0 w wb v ps n){p:Pa}{f':Fy}{m:Nat}(hk:ps[k]? =some p)(hm':n<=m)(h1:f'.Ok m)(h2:Duo w' f' p.pb (grown p.B w w'))(h3:aF p.B w w'):Lw W0 w' wb v (ps.set k ⟨p.pb,f',grown p.B w w'⟩) m:=by
 have hm:p∈ps:=List.mem_of_getElem? hk;have hkl:k<ps.length:=(List.getElem?_eq_some_iff.1 hk).1
 have eF:∀(i:Nat) q,(ps.set k ⟨p.pb,f',grown p.B w w'⟩)[i]? =some q->(i=k/\q=⟨p.pb,f',grown p.B w w'⟩)\/(i≠k/\ps[i]? =some q):=fun i q hq=>by
  by_cases hi:i=k
  ·subst hi;rw[List.getElem?_set_self hkl]at hq;exact .inl ⟨rfl,(Option.some.inj hq).symm⟩
  ·rw[List.getElem?_set_ne (fun e=>hi e.symm)]at hq;exact .inr ⟨hi,hq⟩
 have hlt:∀q∈ps,∀b,q.B b->b<w.heap.size:=fun q hq=>(h.duo q hq).lt;have hpl:∀q∈ps,q.pb<w.heap.size:=fun q hq=>(h.duo q hq).nX
 have cG:∀(i:Nat) q,i≠k->ps[i]? =some q->∀b,q.B b->¬grown p.B w w' b:=fun i q hi hq b hb hg=>by
  rcases hg with hg|hg
  ·exact h.apart i k q p hi hq hk b hb hg
  ·have:=hlt q (List.mem_of_getElem? hq) b hb;omega
 have mem:∀q∈ps.set k ⟨p.pb,f',grown p.B w w'⟩,∃i,(ps.set k ⟨p.pb,f',grown p.B w w'⟩)[i]? =some q:=fun q hq=>by obtain⟨i,hi,he⟩:=List.getElem_of_mem hq;exact⟨i,by rw[List.getElem?_eq_getElem hi,he]⟩
 refine⟨aN h3 h.box (h.Fv p hm),?_,fun q hq=>?_,fun q hq=>?_,fun i j q r hij hq hr b hb hb'=>?_,fun q hq r hr hb=>?_,fun q hq hb=>?_,fun g hg q hq hb=>?_,h.wE,fun q hq b hb=>?_,h.LR,fun k hk=>(h3.block k (by have:=h.nZ;have:=h.wE;omega) fun hb=>by have:=h.GB p hm k hb;omega).trans (h.keep k hk),h3.os.trans h.os⟩
 ·have e1:(ps.set k ⟨p.pb,f',grown p.B w w'⟩).map (fun p=>pt p.pb)=ps.map fun p=>pt p.pb:=by
   rw[List.map_set];refine ko ?_;rw[List.getElem?_map,hk];rfl
  rw[List.length_set,e1];exact Ac h.row h3 fun g hg=>h.EM g hg p hm
 ·obtain⟨i,hi⟩:=mem q hq;rcases eF i q hi with⟨_,rfl⟩|⟨hne,kY⟩
  ·exact h2
  ·exact(h.duo q (List.mem_of_getElem? kY)).old h3 (fun b hb hx=>h.apart i k q p hne kY hk b hb hx) (h.Iq p hm q (List.mem_of_getElem? kY))
 ·obtain⟨i,hi⟩:=mem q hq;rcases eF i q hi with⟨_,rfl⟩|⟨hne,kY⟩
  ·exact h1
  ·exact(h.ok q (List.mem_of_getElem? kY)).mono hm'
 ·rcases eF i q hq with⟨hi,rfl⟩|⟨hi,kY⟩
  ·rcases eF j r hr with⟨hj,_⟩|⟨hj,hr'⟩
   ·exact hij (hi.trans hj.symm)
   ·exact cG j r hj hr' b hb' hb
  ·rcases eF j r hr with⟨hj,rfl⟩|⟨hj,hr'⟩
   ·exact cG i q hi kY b hb hb'
   ·exact h.apart i j q r hij kY hr' b hb hb'
 ·have Zw:∃r'∈ps,r'.pb=r.pb:=by
   obtain⟨j,hj⟩:=mem r hr;rcases eF j r hj with⟨_,rfl⟩|⟨_,hr'⟩
   ·exact⟨p,hm,rfl⟩
   ·exact⟨r,List.mem_of_getElem? hr',rfl⟩
  obtain⟨r',NT,Zu⟩:=Zw;rw[<-Zu]at hb;obtain⟨i,hi⟩:=mem q hq;rcases eF i q hi with⟨_,rfl⟩|⟨hne,kY⟩
  ·rcases hb with hb|hb
   ·exact h.Iq p hm r' NT hb
   ·have:=hpl r' NT;omega
  ·exact h.Iq q (List.mem_of_getElem? kY) r' NT hb
 ·obtain⟨i,hi⟩:=mem q hq;rcases eF i q hi with⟨_,rfl⟩|⟨hne,kY⟩
  ·rcases hb with hb|hb
   ·exact h.Fv p hm hb
   ·have:=h.nZ;omega
  ·exact h.Fv q (List.mem_of_getElem? kY) hb
 ·obtain⟨i,hi⟩:=mem q hq;rcases eF i q hi with⟨_,rfl⟩|⟨hne,kY⟩
  ·rcases hb with hb|hb
   ·exact h.EM g hg p hm hb
   ·have:=h.EN g hg;omega
  ·exact h.EM g hg q (List.mem_of_getElem? kY) hb
 ·obtain⟨i,hi⟩:=mem q hq;rcases eF i q hi with⟨_,rfl⟩|⟨hne,kY⟩
  ·rcases hb with hb|hb
   ·exact h.GB p hm b hb
   ·have:=h.nZ;have:=h.wE;omega
  ·exact h.GB q (List.mem_of_getElem? kY) b hb
theorem Lw.step(h:Lw W0 w wb v ps n){p:Pa}(hk:ps[k]? =some p)(ht:eA (fun f'=>f'.Ok (n+1)) p.pb p.B w w'):∃ps',ps'.length=ps.length/\Lw W0 w' wb v ps' (n+1):=by obtain⟨f',h1,h2,h3⟩:=ht;exact⟨_,by simp,h.put hk (Nat.le_succ _) h1 h2 h3⟩
theorem Lw.add(h:Lw W0 w wb v ps n){p:Pa}{v':Value}(ht:aF (fun b=>b=wb\/some b=v.ownBlock) w w')(hb:w'.heap[wb]? =some (.cells (NY v') 87 (0,0)))(hr:w'.ownsRow 0 141 1 v' (ps.length+1) (ps.map (fun p=>pt p.pb)++[pt p.pb]))
  (hd:Duo w' p.f p.pb p.B) (ho:p.f.Ok n) (hn:∀b,p.B b->w.heap.size<=b) (NS:w.heap.size<=p.pb) (Xq:∀g,v'.ownBlock=some g->v.ownBlock=some g\/(w.heap.size<=g/\¬p.B g)):Lw W0 w' wb v' (ps++[p]) n:=by
 have hlt:∀q∈ps,∀b,q.B b->b<w.heap.size:=fun q hq=>(h.duo q hq).lt;have hpl:∀q∈ps,q.pb<w.heap.size:=fun q hq=>(h.duo q hq).nX;have two:∀q∈ps++[p],q∈ps\/q=p:=fun q hq=>(List.mem_append.1 hq).imp id List.mem_singleton.1
 have eF:∀(i:Nat) q,(ps++[p])[i]? =some q->(i<ps.length/\ps[i]? =some q)\/(i=ps.length/\q=p):=fun i q hq=>by
  by_cases hi:i<ps.length
  ·rw[List.getElem?_append_left hi]at hq;exact .inl ⟨hi,hq⟩
  ·have hl:=(List.getElem?_eq_some_iff.1 hq).1;rw[List.length_append]at hl;have hi':i=ps.length:=by simp at hl;omega
   subst hi';rw[List.getElem?_append_right (Nat.le_refl _)]at hq;simp at hq;exact .inr ⟨rfl,hq.symm⟩
 refine⟨hb,by simpa using hr,fun q hq=>?_,fun q hq=>?_,fun i j q r hij hq hr' b bz bE=>?_,fun q hq r hr' bz=>?_,fun q hq bz=>?_,fun g hg q hq bz=>?_,h.wE,fun q hq b bz=>?_,fun g hg=>?_,fun k hk=>(ht.block k (by have:=h.nZ;have:=h.wE;omega) fun hb=>?_).trans (h.keep k hk),ht.os.trans h.os⟩
 ·rcases two q hq with hq|rfl
  ·refine(h.duo q hq).old ht (fun b bz hx=>?_) (fun hx=>?_)
   ·rcases hx with e|e
    ·exact h.Fv q hq (e▸bz)
    ·exact h.EM b e.symm q hq bz
   ·rcases hx with e|e
    ·obtain⟨xb,yb,Bx,By,hc,_⟩:=(h.duo q hq).at_;exact aJ hc h.box (by simp) e
    ·obtain⟨xb,yb,Bx,By,hc,_⟩:=(h.duo q hq).at_;obtain⟨cur,uO⟩:=jZ h.row e.symm;rw[hc]at uO;simp at uO
  ·exact hd
 ·rcases two q hq with hq|rfl
  ·exact h.ok q hq
  ·exact ho
 ·rcases eF i q hq with⟨hi,kY⟩|⟨hi,rfl⟩
  ·rcases eF j r hr' with⟨hj,Rm⟩|⟨hj,rfl⟩
   ·exact h.apart i j q r hij kY Rm b bz bE
   ·have h1:=hlt q (List.mem_of_getElem? kY) b bz;have h2:=hn b bE;omega
  ·rcases eF j r hr' with⟨hj,Rm⟩|⟨hj,rfl⟩
   ·have h1:=hlt r (List.mem_of_getElem? Rm) b bE;have h2:=hn b bz;omega
   ·exact hij (hi.trans hj.symm)
 ·rcases two q hq with KZ|rfl
  ·rcases two r hr' with NT|rfl
   ·exact h.Iq q KZ r NT bz
   ·have:=hlt q KZ _ bz;omega
  ·rcases two r hr' with NT|rfl
   ·have h1:=hpl r NT;have h2:=hn _ bz;omega
   ·exact hd.out bz
 ·rcases two q hq with hq|rfl
  ·exact h.Fv q hq bz
  ·have h1:=h.nZ;have h2:=hn _ bz;omega
 ·rcases two q hq with hq|rfl
  ·rcases Xq g hg with hg|hg
   ·exact h.EM g hg q hq bz
   ·have:=hlt q hq g bz;omega
  ·rcases Xq g hg with hg|hg
   ·have h1:=h.EN g hg;have h2:=hn _ bz;omega
   ·exact hg.2 bz
 ·rcases two q hq with KZ|rfl
  ·exact h.GB q KZ b bz
  ·have h1:=hn b bz;have:=h.nZ;have:=h.wE;omega
 ·rcases Xq g hg with hg|hg
  ·exact h.LR g hg
  ·have:=h.nZ;have:=h.wE;omega
 ·rcases hb with e|e
  ·have:=h.wE;omega
  ·have:=h.LR k e.symm;omega
end
end
section
open Go.Proofs.Tryz
open Go Go.Conc Go.RowKit
attribute [local go_sem ↓] Go.wp_at_zero Go.wp_at_succ
attribute [local go_sem] au aj
theorem Rs:(prog.info? 141).map (fun i=>(i.zero,i.size,i.bytes))=some (some (.pointer none),1,8):=by kernel_rfl
section
variable [aR] {W0 w w1 w2 w3:World} {wb n:Nat} {v:Value} {ps:List Pa}
theorem Ln(sz cl qu mx qn rt bu wk ou:Int)(h:Lw W0 w wb v ps n)(hc:iV sz cl qu mx qn rt bu wk ou=false):
  Calls prog 44 #[pt wb,.agg (dr sz cl qu mx qn rt bu wk ou)] w fun e w'=>e=.returned (.bool true)/\∃v' ps',ps'.length<=ps.length+1/\Lw W0 w' wb v' ps' n:=by
 have HL:Hid (Lw W0 w wb v ps n):=h;clear h;go_enter func44,ntmps44
 go_wp2_with (first
  |(go_at_call 66;refine(Oe sz cl qu mx qn rt bu wk ou _ hc).mono ?_;rintro e w1 ⟨rfl,bz⟩;obtain⟨hc1,Zc⟩:=cZ bz)
  |(go_at_call 79;refine(LS sz cl qu mx qn rt bu wk ou _ hc).mono ?_;rintro e w2 ⟨rfl,bE⟩)
  |(go_at_call 80;refine(lq _ _).mono ?_;rintro e w2 ⟨rfl,rfl⟩))
 go_ret;have h1:=(Below.refl w.heap.size w).alloc (Nat.le_refl _) (.cells (dr sz cl qu mx qn rt bu wk ou) 35);have h2:=h1.trans (bz.mono h1.size);exact⟨rfl,v,ps,Nat.le_succ _,HL.out.below (h2.trans (bE.mono h2.size))⟩
theorem Lo{w0 W:World}{f:Fy}{xb yb g cap:Nat}(h:Lw W0 w wb v ps n)(h0:Below w.heap.size w w0)(hx:dS w1 f xb (grown (fun _=>False) w0 w1))(b1:Below w0.heap.size w0 w1)(hy:ed w2 f yb (grown (fun _=>False) w1 w2))(b2:Below w1.heap.size w1 w2)(hok:f.Ok n)
  (hW:W=(w2.alloc (.cells #[pt xb,pt yb] 143)).alloc (.cells #[pt w2.heap.size] 141))
  (r3:w3.ownsRow 0 141 1 (.slice (some ⟨g,0,none⟩) (ps.length+1) cap) (ps.length+1) (ps.map (fun p=>pt p.pb)++[pt w2.heap.size])) (g3:W.grownBy w3 v.ownBlock) (ha:v.ownBlock=some g\/g=W.heap.size):
  Lw W0 (w3.setCell ⟨wb,0,none⟩ (.slice (some ⟨g,0,none⟩) (ps.length+1) cap)) wb (.slice (some ⟨g,0,none⟩) (ps.length+1) cap) (ps++[⟨w2.heap.size,f,fun b=>w.heap.size<=b/\b<w2.heap.size⟩]) n:=by
 have s0:=h0.size;have s1:=b1.size;have s2:=b2.size;have sW:W.heap.size=w2.heap.size+2:=by rw[hW];simp
 have s3:=g3.size;have Rp:=h.nZ;have B02:Below w.heap.size w w2:=(h0.trans (b1.mono s0)).trans (b2.mono (by omega));have B0W:Below w.heap.size w W:=by rw[hW];exact(B02.alloc (by omega) _).alloc (by simp;omega) _
 have T3:aF (fun b=>b=wb\/some b=v.ownBlock) w w3:=(aF.below B0W).trans ⟨g3.os,g3.size,fun k hk hx=>g3.block k hk fun e=>hx (.inr e)⟩;have T4:aF (fun b=>b=wb\/some b=v.ownBlock) w (w3.setCell ⟨wb,0,none⟩ (.slice (some ⟨g,0,none⟩) (ps.length+1) cap)):=T3.set (p:=⟨wb,0,none⟩) (.inl rfl) _
 have hgw:g≠wb:=fun e=>by
  rcases ha with ha|ha
  ·obtain⟨cur,uO⟩:=jZ h.row ha;rw[e,h.box]at uO;simp at uO
  ·omega
 have vlt:∀k,some k=v.ownBlock->k<w.heap.size:=fun k hk=>h.EN k hk.symm;have XP:W.heap[wb]? =some (.cells (NY v) 87 (0,0)):=(B0W.block wb Rp).trans h.box
 have Xr:some wb≠v.ownBlock:=fun e=>by obtain⟨cur,uO⟩:=jZ h.row e.symm;rw[h.box]at uO;simp at uO
 have XO:w3.heap[wb]? =some (.cells (NY v) 87 (0,0)):=(g3.block wb (by omega) Xr).trans XP
 have T2:aF (fun b=>b=wb\/some b=v.ownBlock) w2 (w3.setCell ⟨wb,0,none⟩ (.slice (some ⟨g,0,none⟩) (ps.length+1) cap)):=by
  have t1:aF (fun b=>b=wb\/some b=v.ownBlock) w2 W:=by rw[hW];exact aF.below (((Below.refl _ w2).alloc (Nat.le_refl _) _).alloc (by simp) _)
  exact(t1.trans ⟨g3.os,g3.size,fun k hk hx=>g3.block k hk fun e=>hx (.inr e)⟩).set (p:=⟨wb,0,none⟩) (.inl rfl) _
 have VS:W.heap[w2.heap.size]? =some (.cells #[pt xb,pt yb] 143 (0,0)):=by rw[hW,Below.heap_alloc _ _ _ (by simp)];exact heap_alloc_new w2 _
 refine h.add T4 (aX XO 0 _) ?_ ⟨⟨xb,yb,grown (fun _=>False) w0 w1,grown (fun _=>False) w1 w2,?_,?_,?_,?_,?_⟩,?_,?_⟩ hok (fun b hb=>hb.1) (by show w.heap.size<=w2.heap.size;omega) ?_
 ·exact Ac r3 ((aF.refl (fun b=>b=wb) w3).set (p:=⟨wb,0,none⟩) rfl _) (fun k hk e=>by cases hk;exact hgw e)
 ·refine(aS ((g3.block _ (by omega) fun e=>?_).trans VS) (by omega) 0 _);have:=vlt _ e;omega
 ·have p2:=hx.old (X:=fun _=>False) (aF.below b2) (fun _ _ h=>h);refine p2.old T2 fun b hb hx=>?_;rcases hb with hb|hb
  ·exact hb
  ·rcases hx with e|e
   ·omega
   ·have:=vlt b e;omega
 ·refine hy.old T2 fun b hb hx=>?_;rcases hb with hb|hb
  ·exact hb
  ·rcases hx with e|e
   ·omega
   ·have:=vlt b e;omega
 ·intro b hb hy';rcases hb with hb|hb
  ·exact hb
  ·rcases hy' with hy'|hy'
   ·exact hy'
   ·omega
 ·intro b hb;rcases hb with(hb|hb)|(hb|hb)
  ·exact hb.elim
  ·exact⟨by omega,by omega⟩
  ·exact hb.elim
  ·exact⟨by omega,by omega⟩
 ·intro hb;exact absurd hb.2 (Nat.lt_irrefl _)
 ·intro b hb;have:(w3.setCell ⟨wb,0,none⟩ (.slice (some ⟨g,0,none⟩) (ps.length+1) cap)).heap.size=w3.heap.size:=by simp
  have:=hb.2;omega
 ·intro k hk;cases hk;rcases ha with ha|ha
  ·exact .inl ha
  ·exact .inr ⟨by show w.heap.size<=g;omega,fun hb=>by have:=hb.2;have:g<w2.heap.size:=hb.2;omega⟩
theorem Er{o:Obj}(h1:Below (w.alloc o).heap.size (w.alloc o) w1)(h2:Below w1.heap.size w1 w2):Below w.heap.size w w2:=by have h0:=(Below.refl w.heap.size w).alloc (Nat.le_refl _) o;have h3:=h0.trans (h1.mono h0.size);exact h3.trans (h2.mono h3.size)
theorem Lp(w:World)(x y:Array Value){T U:Nat}:((w.alloc (.cells x T)).alloc (.cells y U)).heap[w.heap.size+1]? =some (.cells y U (0,0)):=by have:=heap_alloc_new (w.alloc (.cells x T)) (.cells y U);simpa using this
theorem Ia{x y:Array Value}{T U:Nat}(h:Lw W0 w wb v ps n)(hb:Below w.heap.size w w2)(hv:some wb≠v.ownBlock)(hg:((w2.alloc (.cells x T)).alloc (.cells y U)).grownBy w3 v.ownBlock):w3.cell? ⟨wb,0,none⟩=some v/\w3.frozen? ⟨wb,0,none⟩=false:=by have Rp:=h.nZ;have s2:=hb.size;have B:Below w.heap.size w ((w2.alloc (.cells x T)).alloc (.cells y U)):=(hb.alloc s2 _).alloc (by simp;omega) _;have eD:w3.heap[wb]? =some (.cells (NY v) 87 (0,0)):=((hg.block wb (by simp;omega) hv).trans (B.block wb Rp)).trans h.box;exact⟨af eD rfl,aY eD 0⟩
theorem NZ(S0 N:Nat)(qu mx qn rt bu wk ou:Int)(h:Lw W0 w wb v ps n)(hc:iV S0 N qu mx qn rt bu wk ou=true)(hl:ps.length<=1099511627776):
  Calls prog 44 #[pt wb,.agg (dr S0 N qu mx qn rt bu wk ou)] w fun e w'=>e=.returned (.bool true)/\∃v' ps',ps'.length<=ps.length+1/\Lw W0 w' wb v' ps' n:=by
 have HL:Hid (Lw W0 w wb v ps n):=h;have Rp:=h.nZ;have HC:Hid (iV S0 N qu mx qn rt bu wk ou=true):=hc;obtain⟨iP,hiP,AH,iC,wS⟩:=info_parts Rs
 have Xr:some wb≠v.ownBlock:=fun e=>by obtain⟨cur,uO⟩:=jZ h.row e.symm;rw[h.box]at uO;simp at uO
 have HV:Hid (some wb≠v.ownBlock):=Xr;clear h hc Xr;have Wi:True:=trivial;go_enter func44,ntmps44
 go_wp2_with (first
  |(go_at_call 66;refine(VT S0 N qu mx qn rt bu wk ou HC.out).mono ?_;rintro e w1 ⟨xb,rfl,hx1,bz⟩;obtain⟨hc1,Zc⟩:=cZ bz;have HX:Hid (dS w1 (Fy.new S0 N qu mx qn rt bu wk ou) xb (grown (fun _=>False) (w.alloc (.cells (dr S0 N qu mx qn rt bu wk ou) 35)) w1)/\Below (w.alloc (.cells (dr S0 N qu mx qn rt bu wk ou) 35)).heap.size (w.alloc (.cells (dr S0 N qu mx qn rt bu wk ou) 35)) w1):=⟨hx1,bz⟩;clear hx1 bz)
  |(go_at_call 79;refine(VX S0 N qu mx qn rt bu wk ou HC.out).mono ?_;rintro e w2 ⟨yb,rfl,hy2,bE⟩;have HY:Hid (ed w2 (Fy.new S0 N qu mx qn rt bu wk ou) yb (grown (fun _=>False) w1 w2)/\Below w1.heap.size w1 w2):=⟨hy2,bE⟩;clear hy2 bE;have HB:Hid (Below w.heap.size w w2):=Er HX.out.2 HY.out.2;have c0:w2.cell? ⟨wb,0,none⟩=some v:=eK HB.out (af HL.out.box rfl);have Tq:wb<w2.heap.size:=Nat.lt_of_lt_of_le Rp HB.out.size;have hn2:¬wb=w2.heap.size:=(by omega);have hn3:¬wb=w2.heap.size+1:=(by omega);have HO:Hid (((w2.alloc (.cells #[pt xb,pt yb] 143)).alloc (.cells #[pt w2.heap.size] 141)).ownsRow 0 141 1 v ps.length (ps.map fun p=>pt p.pb)):=((IB HL.out.row HB.out).alloc _).alloc _)
  |(go_at_call 80;refine(lq _ _).mono ?_;rintro e w2 ⟨rfl,rfl⟩)
  |(at_builtin;have _t:=Wi;refine wpList_append_lies _ (by rfl) _ _ 83 (by rfl) 0 141 iP _ 1 8 underlying83 hiP AH iC wS (by rfl) (by omega) v ps.length (ps.map fun p=>pt p.pb) (by rfl) HO.out ⟨w2.heap.size+1,0,none⟩ 1 1 [pt w2.heap.size] (by rfl) (by rfl) (World.news_of_block (Lp w2 _ _)) (by simp[Value.oneCell']) (by omega) (by unfold maxLen;omega) (by omega) (by simp) (w2.heap.size+2) (by simp) ?_;intro g cap w3 ji Ee UH aaz;clear Wi;have Zx:=Ee.size;simp only[World.size_alloc]at Zx;have HG:Hid (w3.ownsRow 0 141 1 (.slice (some ⟨g,0,none⟩) (ps.length+1) cap) (ps.length+1) (ps.map (fun p=>pt p.pb)++[pt w2.heap.size])/\((w2.alloc (.cells #[pt xb,pt yb] 143)).alloc (.cells #[pt w2.heap.size] 141)).grownBy w3 v.ownBlock/\(v.ownBlock=some g\/g=w2.heap.size+2)):=⟨ji,Ee,UH⟩;clear ji Ee UH;obtain⟨c3,f3⟩:=Ia HL.out HB.out HV.out HG.out.2.1))
 go_ret;refine⟨rfl,_,_,?_,Lo HL.out ((Below.refl _ w).alloc (Nat.le_refl _) _) HX.out.1 HX.out.2 HY.out.1 HY.out.2 (Fy.Ok.new HC.out n) rfl HG.out.1 HG.out.2.1 (by simpa using HG.out.2.2)⟩;simp
theorem BS(sz cl qu mx qn rt bu wk ou:Int)(h:Lw W0 w wb v ps n)(hl:ps.length<=1099511627776):
  Calls prog 44 #[pt wb,.agg (dr sz cl qu mx qn rt bu wk ou)] w fun e w'=>e=.returned (.bool true)/\∃v' ps',ps'.length<=ps.length+1/\Lw W0 w' wb v' ps' n:=by
 cases hc:iV sz cl qu mx qn rt bu wk ou with
 |false=>exact Ln sz cl qu mx qn rt bu wk ou h hc
 |true=>
  have hb:=bk hc;obtain⟨S0,rfl⟩:∃S0:Nat,sz=(S0:Int):=⟨sz.toNat,by omega⟩;obtain⟨N,rfl⟩:∃N:Nat,cl=(N:Int):=⟨cl.toNat,by omega⟩;exact NZ S0 N qu mx qn rt bu wk ou h hc hl
end
end
end Go.Proofs.YtpobhljcainmdaaGreat
