/- Proved here: Doors, for every script: the program answers as the document says, and the script stays as it was. No condition. -/
import Derived.Conc.Holds
import Derived.Conc.LeavingOf
import Derived.Test.YtpobhljcainmdaaGreatRows
import Derived.Test.YtpobhljcainmdaaGreatJ45
import Derived.Test.YtpobhljcainmdaaGreatJ48
set_option maxRecDepth 100000
set_option maxHeartbeats 8000000
set_option linter.all false
namespace Go.Proofs.YtpobhljcainmdaaGreat
section
open Go.Proofs.Tryz
open Go Go.Conc Go.RowKit
open Go.ConcR (Payload)
section
variable [aR] {W0 w u:World} {wb ob n j:Nat} {v sv:Value} {ps:List Pa} {a:Act} {r:Dl} {l:List FuncId} {Q:Exit->Act->World->Prop}
theorem Hz(u:World):Lw u (u.alloc (.cells (NY (.slice none 0 0)) 87)) u.heap.size (.slice none 0 0) [] 0:=
 ⟨heap_alloc_new u _,World.ownsRow_nil _ _ _ _,fun p hp=>by(cases hp),fun p hp=>by(cases hp),fun i j p q _ hp=>by(simp at hp),fun p hp=>by(cases hp),fun p hp=>by(cases hp),fun g hg=>by(cases hg),Nat.le_refl _,fun p hp=>by(cases hp),fun g hg=>by(cases hg),fun k hk=>Below.heap_alloc u _ k hk,rfl⟩
def JI(ad:Option Addr)(len:Nat):Prop:=
 len=0\/∃b off obj,ad=some ⟨b,off,none⟩/\aR.Sz b=some obj/\∃f:Nat->Dl,(∀i,i<len->∀w:World,w.heap[b]? =some obj->JG w b (off+i*15) (f i))/\∀i,i<len->(f i).s.size<=140737488355328
variable [Payload]
theorem Yk{b off len cap:Nat}{obj:Obj}(G:eU l)(hL:Lw W0 u wb v ps j)(hps:ps.length<=j+1)(hlt:j<len)(hlen:len<=1099511627776)(zo:aR.Sz b=some obj)(hr:∀w:World,w.heap[b]? =some obj->JG w b (off+j*15) r)(hss:r.s.size<=140737488355328)(h:Ps a (.slice (some ⟨b,off,none⟩) len cap) wb j)
  (hQ:∀e a' u' v' ps',e=.normal\/e=.exit 1->Ps a' (.slice (some ⟨b,off,none⟩) len cap) wb j->Lw W0 u' wb v' ps' (j+1)->ps'.length<=j+2->Q e a' u'):
  FX nT 14 1 prog (pB f14) Q a u:=by
 have hT:=G.step.door.fM.fit;rw[show pB f14=.seq (p9 f14) (.seq (.seq (LD f14) (.cond (.tmp 44) (.exit 1) .skip)) (.seq (VN f14) (.seq (.seq (LF f14) (.cond (.tmp 52) (.exit 1) .skip)) (.seq (VP f14) (.seq (LG f14) (.cond (.tmp 57) (ct (bR (p14 f14))) .skip)))))) from by kernel_rfl];refine FX.seq (Yj G hlt zo hr h fun a1 S1 f12=>?_);have L1:=hL.below ((Below.refl _ u).alloc (Nat.le_refl _) (.cells (fE r.kd r.dm r.sz r.cl r.qu r.mx r.qn r.rt r.bu r.wk r.ou r.s r.x r.y r.on) 90));have O1:(u.alloc (.cells (fE r.kd r.dm r.sz r.cl r.qu r.mx r.qn r.rt r.bu r.wk r.ou r.s r.x r.y r.on) 90)).heap[u.heap.size]? =some (.cells (fE r.kd r.dm r.sz r.cl r.qu r.mx r.qn r.rt r.bu r.wk r.ou r.s r.x r.y r.on) 90 (0,0)):=heap_alloc_new u _;generalize u.alloc (.cells (fE r.kd r.dm r.sz r.cl r.qu r.mx r.qn r.rt r.bu r.wk r.ou r.s r.x r.y r.on) 90)=V at*;generalize u.heap.size=ob at*;refine FX.seq (FX.seq (Ud G O1 S1 f12 fun a2 x hx S2 Pk g44=>?_));refine FX.cond (v:=x) g44 ?_;rcases hx with rfl|⟨rfl,FV⟩
 ·exact FX.exit (hQ _ _ _ v ps (.inr rfl) S2 (L1.mono (Nat.le_succ _)) (by omega))
 refine FX.skip ?_;refine FX.seq (Ue G O1 (by unfold maxLen;omega) S2 Pk fun a3 u3 Dh hu3 S3 k12 k13=>?_);subst hu3;refine FX.seq (FX.seq (Uf G S3 k12 k13 fun a4 S4 m12 m52=>?_));refine FX.cond m52 ?_;cases hqt:mO r.s with
 |false=>exact FX.exit (hQ _ _ _ v ps (.inr rfl) S4 ((L1.tp Dh).mono (Nat.le_succ _)) (by omega))
 |true=>
  refine FX.skip ?_;refine FX.seq (Ug G (L1.tp Dh) (by omega) (by omega) FV hss (wR hqt) (show(V.tp Dh).heap[ob]? =_ from O1) S4 m12 fun a5 u5 S5 n14 hw=>?_);obtain⟨v',ps',q1,q2⟩:=hw;refine FX.seq (Uh G S5 n14 fun a6 S6 n57=>?_);refine FX.cond n57 (FX.skip ?_);exact hQ _ _ _ v' ps' (.inl rfl) S6 q2 (by omega)
def AO(u:World)(e:Exit)(a':Act)(u':World):Prop:=e=.ret/\a'.defers=[]/\a'.eval (.tmp 8)=.bool true/\(∀k,k<u.heap.size->u'.heap[k]? =u.heap[k]?)/\u'.os=u.os
theorem Oj{ad:Option Addr}{len cap:Nat}(G:eU l)(hlen:len<=1099511627776)(hsc:JI ad len):
  iw nT prog 1 14 #[.slice ad len cap,.int .i64 3,.int .i64 10,.bool true] u fun e u'=>e=.returned (.bool true)/\(∀k,k<u.heap.size->u'.heap[k]? =u.heap[k]?)/\u'.os=u.os:=by
 have hT:=G.step.door.fM.fit;refine iw.PY func14 (c:=.seq (p0 f14) (.seq (p1 f14) (.seq (.seq (VQ f14) (.cond (.tmp 19) (.seq (p3 f14) (.seq (p4 f14) (.cond (.tmp 24) (ct (bR (bR (ct (bR (p2 f14)))))) .skip))) .skip)) (.seq (.seq (p6 f14) (.block 0 (.loop (pL f14)))) (.seq (RM f14) (.seq (Ez f14) .ret)))))) (by kernel_rfl) ?_;generalize ha:(⟨#[Value.slice ad len cap,Value.int .i64 3,Value.int .i64 10,Value.bool true]++Array.replicate (f14.ntmps - #[Value.slice ad len cap,Value.int .i64 3,Value.int .i64 10,Value.bool true].size) undef,[]⟩:Act)=a;have hs:a.tmps.size=66:=by rw[<-ha];simp
 have hd:a.defers=[]:=by rw[<-ha]
 have e0:a.eval (.tmp 0)=.slice ad len cap:=by rw[<-ha];kernel_rfl
 have e1:a.eval (.tmp 1)=.int .i64 3:=by rw[<-ha];kernel_rfl
 have e2:a.eval (.tmp 2)=.int .i64 10:=by rw[<-ha];kernel_rfl
 have e3:a.eval (.tmp 3)=.bool true:=by rw[<-ha];kernel_rfl
 clear ha
 have fin:∀(e:Exit) (a':Act) (u':World),AO u e a' u'->e=.ret/\a'.defers=[]/\∃z,(results f14 a'.tmps).run prog u'=.ok z u'/\(Ending.returned z=.returned (.bool true)/\(∀k,k<u.heap.size->u'.heap[k]? =u.heap[k]?)/\u'.os=u.os):=by rintro e a' u' ⟨rfl,h2,h3,h4,h5⟩;have h3':=ev h3;refine⟨rfl,h2,.bool true,?_,rfl,h4,h5⟩;simp[results,results14,go_sem,h3']
 refine FX.mono (Q:=AO u) ?_ fin;refine FX.seq (Ya G hs hd e0 e1 e2 e3 fun a1 s1 d1 f0 f1 f2 f3=>?_);refine FX.seq (Yb G s1 d1 f0 f1 f2 f3 fun a2 s2 d2 g0 g1 g2 g3 g9=>?_);have L2:=Hz u;refine FX.seq (FX.seq (Yc G s2 d2 g0 g1 g2 g3 g9 fun a3 s3 d3 k0 k1 k2 k3 k9 k19=>?_));refine FX.cond k19 (FX.seq (Ye G L2 (by simp) s3 d3 k0 k1 k2 k3 k9 fun a4 u4 v4 ps4 s4 d4 m0 m1 m2 m3 m9 m10 Vl L4=>?_));refine FX.seq (Yf G s4 d4 m0 m1 m2 m3 m9 m10 fun a5 s5 d5 n0 n1 n2 n3 n9 n24=>?_);refine FX.cond n24 (FX.skip ?_);refine FX.seq (FX.seq (Yg G s5 d5 n0 n1 n2 n3 n9 fun a6 S6=>?_))
 have hend:∀(a':Act) (u':World) (v':Value) (ps':List Pa) (j:Nat),j<=len->Ps a' (.slice ad len cap) u.heap.size j->Lw u u' u.heap.size v' ps' j->ps'.length<=j+1->FX nT 14 1 prog (.seq (RM f14) (.seq (Ez f14) .ret)) (AO u) a' u':=fun a' u' v' ps' j hj S L hp=>by refine FX.seq (Ui G L (by omega) (by omega) S fun b1 w1 ps1 t1 t2 L1=>?_);refine FX.seq (Uj G L1 t1 t2 fun b2 τ r1 r2=>?_);exact FX.ret ⟨rfl,r1,r2,(L1.tp τ).keep,(L1.tp τ).os⟩
 refine FX.block (FX.loop (fun b w=>∃(j:Nat) (v':Value) (ps':List Pa),Ps b (.slice ad len cap) u.heap.size j/\j<=len/\Lw u w u.heap.size v' ps' j/\ps'.length<=j+1) (fun b _=>(len-intOf (b.eval (.tmp 11))).toNat) ⟨0,v4,ps4,S6,Nat.zero_le _,L4,by simpa using Vl⟩ ?_);rintro b w ⟨j,v',ps',S,hj,L,hp⟩;rw[show pL f14=.seq (.seq (p7 f14) (.cond (.tmp 28) .skip (.exit 0))) (.seq (.block 1 (pB f14)) (p8 f14)) from by kernel_rfl];refine FX.seq (FX.seq (Yh G S fun b1 S1 t28=>?_));refine FX.cond t28 ?_
 by_cases hlt:j<len
 ·rw[show decide ((j:Int)<(len:Int))=true from by simp;omega];refine FX.skip ?_;obtain h0|⟨blk,off,obj,rfl,zo,f,hf,hS⟩:=hsc
  ·omega
  have next:∀(e:Exit) (a':Act) (u':World) (v2:Value) (ps2:List Pa),e=.normal\/e=.exit 1->Ps a' (.slice (some ⟨blk,off,none⟩) len cap) u.heap.size j->Lw u u' u.heap.size v2 ps2 (j+1)->ps2.length<=j+2->FX nT 14 1 prog (p8 f14) (Exit.then (fun a' u'=>(∃(j:Nat) (v':Value) (ps':List Pa),Ps a' (.slice (some ⟨blk,off,none⟩) len cap) u.heap.size j/\j<=len/\Lw u u' u.heap.size v' ps' j/\ps'.length<=j+1)/\(len-intOf (a'.eval (.tmp 11))).toNat<(len-intOf (b.eval (.tmp 11))).toNat) (Exit.inBlock 0 (Exit.then (FX nT 14 1 prog (.seq (RM f14) (.seq (Ez f14) .ret)) (AO u)) (AO u)))) a' u':=fun e a' u' v2 ps2 _ S2 L2 MQ=>by refine Yi G (by omega) S2 fun b3 S3=>?_;refine⟨⟨j+1,v2,ps2,S3,by omega,L2,MQ⟩,?_⟩;rw[fY S3.SM,fY S.SM];omega
  refine FX.seq (FX.block (Yk G L hp hlt hlen zo (hf j hlt) (hS j hlt) S1 fun e a' u' v2 ps2 he S2 L2 MQ=>?_));rcases he with rfl|rfl
  ·exact next _ a' u' v2 ps2 (.inl rfl) S2 L2 MQ
  ·exact next _ a' u' v2 ps2 (.inr rfl) S2 L2 MQ
 ·rw[show decide ((j:Int)<(len:Int))=false from by simp;omega];refine FX.exit ?_;exact hend b1 _ v' ps' j hj S1 L hp
end
end
section
open Go.Proofs.Tryz
open Go Go.Conc Go.RowKit
open Go.ConcR (Payload)
def r0(fn:Func):Code:=cr (dB fn)
def r1(fn:Func):Code:=cr (bR (dB fn))
section
variable [aR] {u:World} {a:Act} {l:List FuncId} {Q:Exit->Act->World->Prop}
theorem EE(ad:Option Addr)(len cap:Nat)(ρ:Ren)(j:Nat)(v:Value)(h:(Frame.enter prog 14 #[.slice ad len cap,.int .i64 3,.int .i64 10,.bool true] .normal).tmps[j]? =some v)(hj:j∉nT 14):VR ρ v v:=by
 haveI:aB:=aC []
 rw[enter_at _ func14 (c:=f14.body.getD .skip) (by kernel_rfl)]at h;change(#[Value.slice ad len cap,.int .i64 3,.int .i64 10,.bool true]++Array.replicate (f14.ntmps-4) undef)[j]? =some v at h;generalize f14.ntmps-4=n at h
 match j,hj with
 |0,hj=>exact absurd (by decide) hj
 |1,_=>
  rw[Array.getElem?_append_left (by simp)]at h;simp at h;subst h;constructor
 |2,_=>
  rw[Array.getElem?_append_left (by simp)]at h;simp at h;subst h;constructor
 |3,_=>
  rw[Array.getElem?_append_left (by simp)]at h;simp at h;subst h;constructor
 |k+4,_=>
  rw[Array.getElem?_append_right (by simp),Array.getElem?_replicate]at h;split at h
  ·cases h;exact cK ρ
  ·cases h
variable [Payload]
theorem Nq{ad:Option Addr}{len cap:Nat}(G:eU l)(kP:aR.known 14)(hlen:len<=1099511627776)(hsc:JI ad len):
  iw nT prog 0 5 #[.slice ad len cap] u fun e u'=>e=.returned (.bool true):=by
 have hT:=G.step.door.fM.fit;refine iw.PY func5 (c:=.seq (r0 f5) (.seq (r1 f5) .ret)) (by kernel_rfl) ?_;generalize ha:(⟨#[Value.slice ad len cap]++Array.replicate (f5.ntmps - #[Value.slice ad len cap].size) undef,[]⟩:Act)=a;have hs:a.tmps.size=5:=by rw[<-ha];simp
 have hd:a.defers=[]:=by rw[<-ha]
 have e0:a.eval (.tmp 0)=.slice ad len cap:=by rw[<-ha];kernel_rfl
 clear ha;refine FX.seq ?_;rw[show r0 f5=.region 0 (opsOf (r0 f5)) false from by kernel_rfl];refine FX.region ?_;rw[show List.range (opsOf (r0 f5)).size=[0] from by kernel_rfl];refine FO.Qq hT rfl (wants rfl) rfl rfl (by kernel_rfl) (FO.nil ?_);refine FX.seq ?_;rw[show r1 f5=.region 1 (opsOf (r1 f5)) false from by kernel_rfl];refine FX.region ?_;rw[show List.range (opsOf (r1 f5)).size=[0,1,2] from by kernel_rfl];refine FO.ZN rfl (wants rfl) rfl rfl (by decide) (pE e0 (by decide)) ?_
 have em:(#[Operand.tmp 3,Operand.const (.int .i64 3),Operand.const (.int .i64 10),Operand.const (.bool true)].map ((a.put (some 2) (.bool false)).put (some 3) (.slice ad len cap)).eval)=#[.slice ad len cap,.int .i64 3,.int .i64 10,.bool true]:=by rw[List.map_toArray];simp only[List.map_cons,List.map_nil,eval_const,show((a.put (some 2) (.bool false)).put (some 3) (.slice ad len cap)).eval (.tmp 3)=_ from aq _ (by(try simp only[ak]);omega)]
 refine FO.TN (f:=14) (args:=#[Operand.tmp 3,Operand.const (.int .i64 3),Operand.const (.int .i64 10),Operand.const (.bool true)]) rfl (wants rfl) rfl rfl func14 rfl rfl kP rfl (by decide) (by rw[em];exact fun ρ j v=>EE ad len cap ρ j v) ?_;rw[em];refine(Oj G hlen hsc).mono ?_;rintro e u' ⟨rfl,_⟩;refine⟨_,rfl,?_⟩;refine FO.oW hT rfl (wants rfl) rfl rfl (by decide) (aq _ (by(try simp only[ak]);omega)) (FO.nil ?_);refine FX.ret ⟨rfl,?_,.bool true,?_,rfl⟩
 ·exact(put_defers _ _ _).trans ((put_defers _ _ _).trans ((put_defers _ _ _).trans ((put_defers _ _ _).trans hd)))
 ·have h2:=ev (show((((a.put (some 2) (.bool false)).put (some 3) (.slice ad len cap)).put (some 4) (.bool true)).put (some 2) (.bool true)).eval (.tmp 2)=_ from aq _ (by(try simp only[ak]);omega));simp[results,results5,go_sem,h2];intro h;omega
end
section
variable [aR] {P:Program} {f:FuncId} {fn:Func} {c:Code} {args:Array Value} {W:World} {Lf:FuncId->List Nat} {R:Ending->World->Prop} {Post:Value->World->Prop}
theorem BX(hx:∀ρ (j:Nat) v,(Frame.enter P f args .normal).tmps[j]? =some v->j∉Lf f->VR ρ v v)(hf:P.funcs[f]? =some fn)(hb:fn.body=some c)(hk:aR.known f)(hg:P.globals.size<=W.heap.size):
  pg Lf P (fun _=>False) (fun _=>False) (Frame.enter P f args .normal) [] (mask (fun _=>False) W) (cP fun b=>False\/False) #[G (Frame.enter P f args .normal) []] W #[] (fun _=>0):=by
 haveI:aB:=aC []
 have hxf:XF (cP fun b=>False\/False) (Frame.enter P f #[] .normal):=wF hf hb hk ⟨rfl,fun i v v' h=>by simp at h⟩
 have N:eP P (fun _=>False) (fun _=>False) (Frame.enter P f #[] .normal) (List.replicate aR.depth (Frame.enter P f #[] .normal)) (mask (fun _=>False) W) (cP fun b=>False\/False) #[G (Frame.enter P f #[] .normal) (List.replicate aR.depth (Frame.enter P f #[] .normal))] W #[] (fun _=>0):=
  vh rfl (leavers_one P _) (past_nil.mono (Nat.zero_le _)) (fun i j h=>by simp[Trace.g?]at h) (fun b hb=>hb.elim) (fun b h=>h.elim) hg hxf ⟨by simp,fun g hg=>by obtain⟨_,rfl⟩:=List.mem_replicate.1 hg;rw[enter_at _ hf hb];rfl,fun i g hi hl=>by(simp at hl;omega)⟩ fun l h=>h.elim
 refine⟨rfl,⟨?_,?_,?_⟩,fun g hg=>by(cases hg),N.world,N.whole,leavers_one P _,N.past,N.clear,N.same,N.size,fun i j h=>by simp[Trace.g?]at h,N.full⟩
 ·intro i v hv hi;have e:(Frame.enter P f args .normal).fn=f:=by rw[enter_at _ hf hb];rfl
  rw[e]at hi;exact hx _ i v hv hi
 ·rw[enter_at _ hf hb];rfl
 ·rw[enter_at _ hf hb];exact hk
theorem vH(hx:∀ρ (j:Nat) v,(Frame.enter P f args .normal).tmps[j]? =some v->j∉Lf f->VR ρ v v)(hf:P.funcs[f]? =some fn)(hb:fn.body=some c){t0:Tmp}(hres:fn.results=#[.tmp t0])(Ze:P.inits.idxOf? f=none)(hk:aR.known f)(hg:P.globals.size<=W.heap.size)(hwt:∀b o,aR.Sz b=some o->W.heap[b]? =some o)
  (h:iw Lf P 0 f args (mask (fun _=>False) W) R) (qd:∀e u,R e u->∃v,e=.returned v) (hpost:∀v u' w',R (.returned v) u'->(∀b,b<W.heap.size->w'.heap[b]? =W.heap[b]?)->W.heap.size<=w'.heap.size->w'.os=W.os->w'.output=W.output->w'.tape=W.tape->Post v w'):
  ∃M last o w' t',runNT P (M+1) (solo (G (Frame.enter P f args .normal) []) W) #[]=(.ended o w',t')/\runN P M (solo (G (Frame.enter P f args .normal) []) W)=.next last/\step P last=.ended o w'/\Conc.Good P Post last o w' t':=by
 rw[solo_eq_crowd];obtain⟨N,cO,S',ρ',fr',cs',u',gs',w',sl',t',q',r1,⟨rfl,hfn,e,he,hR,hlv⟩,hN,hW,_⟩:=h [] rfl _ _ _ _ _ none _ _ (BX hx hf hb hk hg) (fun b o hb=>⟨fun x hx=>hx.2.elim id id,hwt b o hb,fun _ _ h=>h⟩);obtain⟨v,rfl⟩:=qd e u' hR;obtain⟨l1,l2,l3,fn',l4,l5⟩:=hlv;rw[hfn,hf]at l4;cases l4
 have hv:v=fr'.tmps.getD t0 undef:=by
  have:(results fn fr'.tmps).run P u'=.ok (fr'.tmps.getD t0 undef) u':=by simp[results,hres]
  rw[this]at l5;cases l5;rfl
 have hp:∀d,Post v (w'.at d):=fun d=>hpost v u' (w'.at d) hR (fun b hb=>hW.cG b hb fun a ha=>ha.2.elim id id) hW.size hW.os hW.output hW.tape
 obtain⟨M,last,o,w'',t'',h1,h2,h3,h4⟩:=beside_ends (P:=P) (Shun:=cO) (B:=w'.heap.size) (D:=fun _ _ _=>False) (Post:=Post) (fun _ _ _ h=>h.elim) (sl:=sl') (n:=0) hN.Bb hN.bK hN.past (by
  rintro w₁ ⟨d,rfl⟩;refine⟨rfl,v,#[],?_,by simp,hp d⟩;have e1:(results fn fr'.tmps).run P (w'.at d)=.ok v (w'.at d):=by simp[results,hres,hv]
  have e2:(results fn fr'.tmps).events P (w'.at d) #[]=#[]:=events_results_tmp hres _ _;have e3:P.funcs[fr'.fn]? =some fn:=by rw[hfn];exact hf
  have e4:P.inits.idxOf? fr'.fn=none:=by rw[hfn];exact Ze
  simp[G,stepG,unwind,doReturn,l1,l2,l3,e3,e1,e2,e4,seen,GStep.after])
 refine⟨N+M,last,o,w'',t'',?_,?_,h3,h4⟩
 ·rw[show N+M+1=N+(M+1) by omega,gH r1];exact h1
 ·rw[runN_add,<-runNT_fst P _ _ #[],r1];exact h2
end
end
section
open Go Go.Conc
section
variable {H:Type} {enc:TypeId×Value->H}
theorem gQ{a:Assume}{C:Checked}{os:Os}{f:FuncId}{fn:Func}{s:ChangeSpec}{conds:List PathCond}{apart fresh handsOn again:Bool}
  (own:ownKnob C.prog.godebug=none) (started:os.Started) (hfn:C.prog.funcs[f]? =some fn)
  (witness:∃(w:World) (tape:Tape) (i:Input),w.os=os/\(w.forCall tape i).Shaped C.prog/\i.vars=[]/\Input.okWide C.prog (w.forCall tape i) .any w.heap.size f i/\
   s.pre6 enc C.prog fn conds apart (w.forCall tape i).memory i.args/\a.holds C.prog (lone (Frame.enter C.prog f i.args .normal) [] (w.forCall tape i)))
  (runs:∀(W:World) (base:Nat) (args:Array Value) (ds gs:List (DataW H)) (before:List MemPlace),World.ShapedOpen C.prog W->
   (∀(j:Nat) t v,fn.params[j]? =some t->args[j]? =some v->Value.okWide C.prog W .any base t v)->
   DataW.Whole enc C.prog fn.params.toList s.vars apart W args.toList ds gs before->
   conds.all (PathCond.test C.prog ⟨fn.params.toList,ds,s.plain.varTypes C.prog,gs⟩)=true->
   (DataW.weightsEach C.prog (fn.params.toList++s.plain.varTypes C.prog) (ds++gs)).all (·<=reachBytes)=true->
   a.holds C.prog (lone (Frame.enter C.prog f args .normal) [] W)->
   ∃M last o w' t',runNT C.prog (M+1) (solo (G (Frame.enter C.prog f args .normal) []) W) #[]=(.ended o w',t')/\runN C.prog M (solo (G (Frame.enter C.prog f args .normal) []) W)=.next last/\
    step C.prog last=.ended o w'/\Conc.Good C.prog (fun v W'=>s.post enc C.prog fn apart fresh handsOn again W args v W') last o w' t'):
  ReturnsInLeavingWide a C os f .any (s.pre6 enc C.prog fn conds apart) (s.post enc C.prog fn apart fresh handsOn again):=by
 refine returnsInLeavingWide_of_good own started witness ?_;intro w tape i hos hsh hvs hok hpre Ri;obtain⟨_,_,_,fn',KP,_,_,_,_,hval⟩:=hok;have e:fn'=fn:=Option.some.inj (KP.symm.trans hfn);subst e;obtain⟨⟨ds,gs,before,hw,hc⟩,hz⟩:=hpre;have hw':=DataW.Whole.of_heap (w':=w.forCall tape i) (by rfl) hw;obtain⟨M,last,o,w',t',h1,h2,h3,h4⟩:=runs (w.forCall tape i) w.heap.size i.args ds gs before hsh hval hw' hc (hz.weights hw) Ri;exact⟨M,last,o,w',t',h1,h2,h3,h4.mono fun v hp=>ChangeSpec.post_blind hp⟩
end
end
section
open Go.Proofs.Tryz
open Go Go.Conc Go.ChangeShapes Go.WideShapes Go.ChangeAt Go.RowKit
open Go.ConcR (Payload)
section
variable (t:Nat->Option Obj)
theorem BF:@AJ (sV 2 t) NA:=by
 letI:aR:=sV 2 t
 exact⟨Up 2 t,.inr (by kernel_rfl),by kernel_rfl,by kernel_rfl,by kernel_rfl,by kernel_rfl,by kernel_rfl,by kernel_rfl,by kernel_rfl,by kernel_rfl,by kernel_rfl⟩
theorem Kw:@Fz (sV 2 t) NA:=by
 letI:aR:=sV 2 t
 exact⟨BF t,.inr (by kernel_rfl),by kernel_rfl,by kernel_rfl,by kernel_rfl,by kernel_rfl,by kernel_rfl,by kernel_rfl⟩
theorem Kv:@xu (sV 2 t) NA:=by
 letI:aR:=sV 2 t
 constructor
 ·exact BF t
 ·exact .inr (by kernel_rfl)
 all_goals kernel_rfl
theorem GO:@eU (sV 2 t) NA:=by
 letI:aR:=sV 2 t
 exact⟨Kw t,Kv t,.inr (by kernel_rfl),.inr (by kernel_rfl),.inl (((yT 2 t).ok _).2 (by kernel_rfl)),.inl (((yT 2 t).ok _).2 (by kernel_rfl)),.inl (((yT 2 t).ok _).2 (by kernel_rfl)),((yT 2 t).ok _).2 (by kernel_rfl),((yT 2 t).ok _).2 (by kernel_rfl),((yT 2 t).ok _).2 (by kernel_rfl),rfl⟩
end
theorem ZT:ownKnob prog.godebug=none:=by kernel_rfl
theorem VE:laidOutB prog=true:=by kernel_rfl
theorem DD(ad:Option Addr)(len cap:Nat)[aR](ρ:Ren)(j:Nat)(v:Value)(h:(Frame.enter prog 5 #[.slice ad len cap] .normal).tmps[j]? =some v)(hj:j∉nT 5):VR ρ v v:=by
 haveI:aB:=aC []
 rw[enter_at _ func5 (c:=f5.body.getD .skip) (by kernel_rfl)]at h;change(#[Value.slice ad len cap]++Array.replicate (f5.ntmps-1) undef)[j]? =some v at h;generalize f5.ntmps-1=n at h
 match j,hj with
 |0,hj=>exact absurd (by decide) hj
 |k+1,_=>
  rw[Array.getElem?_append_right (by simp),Array.getElem?_replicate]at h;split at h
  ·cases h;exact cK ρ
  ·cases h
theorem yM(os:Os)(started:os.Started)(H:Type)(enc:TypeId×Value->H):
  ReturnsInLeavingWide {} checked os 5 .any (Rows.doorsSpec.pre6 enc prog f5 Rows.doorsRow.domain false) (Rows.doorsSpec.post enc prog f5 false true false false):=by
 refine gQ (C:=checked) (s:=Rows.doorsSpec) ZT started func5
  (ChangeSpec.witness6 (enc:=enc) (C:=checked) false ⟨#[],#[.slice none 0 0],[]⟩ 8 (by kernel_rfl) (by kernel_rfl) (by kernel_rfl) (by kernel_rfl)) ?_
 intro W base args ds gs before hsh PS hW _ Dg _;have hk:(DataW.weightsEach prog (f5.params.toList++[]) (ds++gs)).all (·<=reachBytes)=true:=Dg;clear Dg;have hval:∀(j:Nat) t v,f5.params[j]? =some t->args[j]? =some v->Value.okWide prog W .any base t v:=PS;have Pw:=hW;obtain⟨p,q,hA0,hV,rfl,hfz,hnd⟩:=hW;have hA:DataW.TrodAll enc prog W 0 (fun _=>true) true f5.params.toList args.toList ds p:=hA0;rw[params5]at hA hval hk;obtain⟨v0,vs0,d0,ds0,p0,q0,hargs,rfl,rfl,h0,r0⟩:=trodAll_cons hA;obtain⟨rfl,rfl,rfl⟩:=trodAll_nil r0;obtain rfl:args=#[v0]:=by cases args;simp_all
 obtain⟨rfl,rfl⟩:=trodVars_none hV
 have UM:∀n∈d0.weights prog 22,n<=reachBytes:=fun n hn=>by have:=List.all_eq_true.1 hk n (DataW.weights_mem_each (j:=0) rfl rfl n hn);simpa using this
 obtain⟨a0,NV,TP,rfl⟩:=okWide_slice underlying22 (hval 0 22 v0 rfl rfl);have k0:=h0;have lt0:∀x∈p0,x.block<W.heap.size:=by obtain⟨m,hm⟩:=k0;exact DataW.trod_lt m _ _ _ hm
 obtain⟨hlen,hsc⟩:NV<=1099511627776/\FC W a0 NV:=by obtain⟨fuel,hf⟩:=h0;exact EU (cap:=TP) (x:=(d0,p0)) (by simpa[Value.cells]using hf) UM
 clear hA0 PS
 letI:aR:=sV 2 (fun b=>W.heap[b]?)
 letI:Payload:=⟨0⟩
 have hsi:JI a0 NV:=by
  rcases hsc with h|⟨b,off,rfl,hb,f,hf,hS⟩
  ·exact .inl h
  ·refine .inr ⟨b,off,W.heap[b],rfl,Array.getElem?_eq_getElem hb,f,fun i hi w hw=>?_,hS⟩;obtain⟨c0,c1,c2,c3,c4,c5,c6,c7,c8,c9,ow,wJ,uo,fL,pI⟩:=hf i hi;have e:∀i,w.cell? ⟨b,i,none⟩=W.cell? ⟨b,i,none⟩:=fun i=>World.cell?_of_block (hw.trans (Array.getElem?_eq_getElem hb).symm);exact⟨(e _).trans c0,(e _).trans c1,(e _).trans c2,(e _).trans c3,(e _).trans c4,(e _).trans c5,(e _).trans c6,(e _).trans c7,(e _).trans c8,(e _).trans c9,(e _).trans ow,(e _).trans wJ,(e _).trans uo,(e _).trans fL,(e _).trans pI.1,pI.2⟩
 have hg:prog.globals.size<=W.heap.size:=by obtain⟨o,_,ho,_⟩:=hsh.2 prog.globals.size (Nat.le_refl _) (of_decide_eq_true (by kernel_rfl));exact Nat.le_of_lt (Array.getElem?_eq_some_iff.1 ho).1
 refine vH (R:=fun e u'=>e=.returned (.bool true)) (fun ρ j v=>DD a0 NV TP ρ j v) func5 (c:=f5.body.getD .skip) (by kernel_rfl) rfl (by kernel_rfl) (.inr (by kernel_rfl)) hg (fun b o hb=>hb) (Nq (GO _) (.inr (by kernel_rfl)) hlen hsi) (fun e u h=>⟨_,h⟩) ?_;intro v u' w' hv hkeep hsz hos hout htp;have bel:Below W.heap.size W w':=⟨hos,htp,hout,hsz,hkeep⟩;cases hv;exact⟨_,_,_,[],_,[],Pw,trodAll_mk1 (shut_bool underlying4 _),(trodAll_cons_mk (Below.trod VE (by kernel_rfl) (of_decide_eq_true (by kernel_rfl)) k0 bel lt0) trodAll_mk0),rfl,bel.frame _,fun h=>by cases h⟩
theorem doors_said:Rows.DoorsSaid:=
 OpenClaim.holds_of_wide_leaving 5 f5 rfl rfl rfl rfl rfl rfl rfl ⟨rfl,rfl,rfl,rfl,rfl⟩ rfl rfl rfl rfl rfl (by kernel_rfl) func5 (by kernel_rfl)
  (of_decide_eq_true (by kernel_rfl)) (by unfold Func.isWrapper;first|(rw[if_pos (by decide+kernel)];kernel_rfl)|(rw[if_neg (by decide+kernel)];exact⟨rfl,rfl⟩))
  (fun os started H enc _=>yM os started H enc)
end
end Go.Proofs.YtpobhljcainmdaaGreat
