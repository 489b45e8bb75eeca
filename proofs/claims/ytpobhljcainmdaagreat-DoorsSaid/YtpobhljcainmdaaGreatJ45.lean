/- Proved here: a part of what Doors keeps (La6, La7, Steps, Plays, La8, Script, Sc1). -/
import Derived.Below
import Derived.ChangeOld
import Derived.Deep.DrawnRows
import Derived.Deep.RegionHeld3
import Derived.Deep.Slices
import Derived.OpenShut
import Derived.ProofKit
import Derived.SizedLaws
import Derived.Test.YtpobhljcainmdaaGreatJ01
import Derived.Test.YtpobhljcainmdaaGreatJ44
set_option maxRecDepth 100000
set_option maxHeartbeats 8000000
set_option linter.all false
namespace Go.Proofs.YtpobhljcainmdaaGreat
section
open Go.Proofs.Tryz
open Go Go.Conc Go.RowKit
open Go.ConcR (Payload)
attribute [local go_sem ↓] Go.wp_at_zero Go.wp_at_succ
structure xu[aR](l:List FuncId):Prop where
 door:AJ l
 kD:aR.known 85
 o0:dM prog l false (Jr f47)=true
 o1:dM prog l false (Js f47)=true
 oH:dM prog l false (eH f47)=true
 o3:dM prog l false (jA f47)=true
 o4:dM prog l false (WC f47)=true
 o5:dM prog l false (WE f47)=true
 oMH:dM prog l false (WI f47)=true
 o7:dM prog l false (WG f47)=true
 o8:dM prog l false (WH f47)=true
 o10:dM prog l false (Nr f47)=true
 Xw:dM prog l false (Ki f47)=true
 oNH:dM prog l false (WJ f47)=true
 oe:dM prog l false (gM f47)=true
theorem Ld:fT ⟨#[]⟩:=fun i hi=>absurd hi (Nat.not_lt_zero i)
section
variable [aR] {W0 w u:World} {wb n j:Nat} {v:Value} {ps:List Pa} {p:Pa} {a:Act} {x c:Int} {l:List FuncId} {Q:Exit->Act->World->Prop}
theorem WX.calm{P:Program}{cd:Code}(hT:Fit P l)(hc:dM P l false cd=true){R:Exit->Act->Prop}(hgo:∀x a,¬R (.goto x) a)(hout:∀a,¬R .outgrown a)(h:∀τ,cd.wp P (fun e a' w'=>R e a'/\w'=u.tp τ) a (u.tp τ))(hQ:∀e a' τ,R e a'->Q e a' (u.tp τ)):WX P cd Q a u:=by
 refine(WX.lift (Q:=fun e a' u'=>R e a'/\∃τ,u'=u.tp τ) hT hc ?_ ?_ ?_ fun τ=>?_).mono ?_
 ·rintro e a u' τ ⟨h1,Gs,rfl⟩;exact⟨h1,τ,rfl⟩
 ·rintro x a u' ⟨h,_⟩;exact hgo x a h
 ·rintro a u' ⟨h,_⟩;exact hout a h
 ·exact wp_mono (h τ) fun e a' u' ⟨h1,h2⟩=>⟨h1,τ,h2⟩
 ·rintro e a' u' ⟨h1,τ,rfl⟩;exact hQ e a' τ h1
theorem OX.WA{P:Program}{ops:Array Oper}{i t d:Nat}{rest:List Nat}{o:Oper}{parts:Array (Nat×Operand)}{y:Value}(hT:Fit P l)(ho:ops[i]? =some o)(hg:o.guard=none)(hd:o.dst=some d)(hop:o.op=.build t parts)(hok:okB P l (.build t parts)=true)(hr:∀w,(Instr.build t (parts.map fun(i,x)=>(i,a.eval x))).run P w=.ok y w)(c:OX P ops Q rest (a.put (some d) y) u):OX P ops Q (i::rest) a u:=
 OX.go (u1:=u) hT ho hg hd (by rw[hop];exact hok) (fun τ=>by unfold execOp;rw[hop];simp[hr]) c
variable [Payload]
theorem XW(G:xu l)(hL:Lw W0 u wb v ps n)(hp:ps[j]? =some p)(hn:n<=281474976710656)(he:wG a wb j p.pb x)(e8:a.eval (.tmp 8)=.bool true)
  (hQ:∀a' u' ps' p',wG a' wb j p.pb x->a'.eval (.tmp 8)=.bool true->a'.eval (.tmp 9)=.bool true->Lw W0 u' wb v ps' n->ps'.length=ps.length->ps'[j]? =some p'->p'.f.av=p.f.av->p'.pb=p.pb->Q .normal a' u'):
  WX prog (SN f47) Q a u:=by
 have hT:=G.door.fM.fit;have hm:p∈ps:=List.mem_of_getElem? hp;have hs:=he.size;rw[show SN f47=.region 9 (opsOf (SN f47)) false from by kernel_rfl];refine WX.region ?_;rw[show List.range (opsOf (SN f47)).size=[0,1,2,3,4] from by kernel_rfl];refine OX.mv hT rfl rfl rfl rfl he.e6 ?_;generalize Py:a.put (some 42) (pt p.pb)=a1;have f42:a1.eval (.tmp 42)=pt p.pb:=Py▸aq _ (by omega);have k1:Kp 41 a a1:=Py▸Kp.put a (by decide) _;refine OX.mv hT rfl rfl rfl rfl ((k1.at_ 7 (by decide)).trans he.e7) ?_;generalize MO:a1.put (some 43) (.int .i64 x)=a2;have f43:a2.eval (.tmp 43)=.int .i64 x:=MO▸aq _ (by rw[k1.size];omega);have g42:a2.eval (.tmp 42)=pt p.pb:=by rw[<-MO,nj _ (by decide)];exact f42
 have k2:Kp 41 a a2:=k1.trans (MO▸Kp.put a1 (by decide) _);refine OX.WA (d:=44) (y:=.agg (fE 6 0 0 0 0 0 0 0 0 0 0 ⟨#[]⟩ x 9999 false)) (t:=90) (parts:=#[(0,.const (.int .i64 6)),(4,.tmp 43),(5,.const (.int .i64 9999))]) hT rfl rfl rfl (by kernel_rfl) (by kernel_rfl) (fun w=>?_) ?_
 ·have e1:(#[(0,Operand.const (.int .i64 6)),(4,Operand.tmp 43),(5,Operand.const (.int .i64 9999))].map fun(q:Nat×Operand)=>(q.1,a2.eval q.2))=#[(0,Value.int .i64 6),(4,Value.int .i64 x),(5,Value.int .i64 9999)]:=by
   rw[List.map_toArray];simp only[List.map_cons,List.map_nil,f43];rfl
  show(Instr.build 90 (#[(0,Operand.const (.int .i64 6)),(4,Operand.tmp 43),(5,Operand.const (.int .i64 9999))].map fun(q:Nat×Operand)=>(q.1,a2.eval q.2))).run prog w=_;rw[e1];go_simp
 generalize Tg:a2.put (some 44) (.agg (fE 6 0 0 0 0 0 0 0 0 0 0 ⟨#[]⟩ x 9999 false))=a3;have f44:a3.eval (.tmp 44)=.agg (fE 6 0 0 0 0 0 0 0 0 0 0 ⟨#[]⟩ x 9999 false):=Tg▸aq _ (by rw[k2.size];omega);have h42:a3.eval (.tmp 42)=pt p.pb:=by rw[<-Tg,nj _ (by decide)];exact g42
 have k3:Kp 41 a a3:=k2.trans (Tg▸Kp.put a2 (by decide) _);refine OX.call (f:=85) hT rfl rfl rfl func85 rfl rfl G.kD (by simp[bF]) ?_;rw[show(#[Operand.tmp 42,Operand.tmp 44].map a3.eval)=#[pt p.pb,.agg (fE 6 0 0 0 0 0 0 0 0 0 0 ⟨#[]⟩ x 9999 false)] from by rw[List.map_toArray];simp only[List.map_cons,List.map_nil,h42,f44]];refine(Kg (φ:=fun f'=>f'=p.f.take x 9999) G.door (hL.duo p hm) (hL.ok p hm) hn (by decide) Ld (fun _ _ h=>h rfl)).mono ?_;rintro e u1 ⟨rfl,f',rfl,t1,t2⟩;refine⟨_,rfl,?_⟩;show OX prog (opsOf (SN f47)) _ [4] (a3.put (some 45) (.bool true)) u1;have k4:Kp 41 a (a3.put (some 45) (.bool true)):=k3.trans (Kp.put a3 (by decide) _);refine OX.oW (d:=9) (k:=45) (v:=.bool true) hT rfl rfl rfl rfl (aq _ (by rw[k3.size];omega)) (OX.nil ?_);have L1:=hL.put hp (Nat.le_refl n) ((hL.ok p hm).take x 9999) t1 t2;have hjl:j<ps.length:=(List.getElem?_eq_some_iff.1 hp).1;have ke:∀i,i<=41->i≠9->((a3.put (some 45) (.bool true)).put (some 9) (.bool true)).eval (.tmp i)=a.eval (.tmp i):=fun i h1 h2=>(nj _ h2).trans (k4.at_ i h1);refine hQ _ _ _ _ ⟨⟨?_,?_,(ke 0 (by decide) (by decide)).trans he.e0,(ke 1 (by decide) (by decide)).trans he.e1,(ke 5 (by decide) (by decide)).trans he.e5⟩,(ke 6 (by decide) (by decide)).trans he.e6,(ke 7 (by decide) (by decide)).trans he.e7⟩ ((ke 8 (by decide) (by decide)).trans e8) (aq _ (by rw[k4.size];omega)) L1 (by simp) (List.getElem?_set_self hjl) rfl rfl
 ·rw[ak,k4.size];exact hs
 ·rw[put_defers,k4.defers];exact he.defers
end
end
section
open Go.Proofs.Tryz
open Go Go.Conc Go.RowKit
open Go.ConcR (Payload)
section
variable [aR] {W0 w u:World} {wb n j:Nat} {v:Value} {ps:List Pa} {p:Pa} {a:Act} {x c:Int} {l:List FuncId} {Q:Exit->Act->World->Prop}
theorem wG.of{pb:Nat}(h1:a.tmps.size=64)(h2:a.defers=[])(h3:a.eval (.tmp 0)=pt wb)(h4:a.eval (.tmp 1)=.int .i64 10)(h5:a.eval (.tmp 5)=.int .i64 (j:Int))(h6:a.eval (.tmp 6)=pt pb)(h7:a.eval (.tmp 7)=.int .i64 x):wG a wb j pb x:=⟨⟨h1,h2,h3,h4,h5⟩,h6,h7⟩
variable [Payload]
theorem XY(G:xu l)(hL:Lw W0 u wb v ps n)(hp:ps[j]? =some p)(hn:n<=281474976710656)(he:wG a wb j p.pb x)(hx:-1<=x)
  (hQx:∀a' u',wG a' wb j p.pb x->Lw W0 u' wb v ps n->Q (.exit 2) a' u')
  (hQ:∀a' u' ps' p',x<=p.f.av->wG a' wb j p.pb (x+1)->Lw W0 u' wb v ps' n->ps'.length=ps.length->ps'[j]? =some p'->p'.f.av=p.f.av->p'.pb=p.pb->Q .normal a' u'):
  WX prog (eM f47) Q a u:=by
 have hT:=G.door.fM.fit;have hm:p∈ps:=List.mem_of_getElem? hp;have hcm:=(hL.ok p hm).av;rw[show eM f47=.seq (WI f47) (.seq (.block 3 (.seq (WH f47) (.seq (SN f47) (Nr f47)))) (WG f47)) from by kernel_rfl];refine WX.seq (WX.calm (R:=fun e a'=>((e=.normal/\x<=p.f.av)\/(e=.exit 2/\¬x<=p.f.av))/\wG a' wb j p.pb x) hT G.oMH ?_ ?_ (fun τ=>wp_mono (QE ((hL.duo p hm).tp τ) he) fun e a' u' ⟨h1,h2,h3,h4,h5,h6,h7,h8,h9⟩=>⟨⟨h1,wG.of h2 h3 h4 h5 h6 h7 h8⟩,h9⟩) ?_)
 ·rintro x a ⟨h|h,_⟩<;>cases h.1
 ·rintro a ⟨h|h,_⟩<;>cases h.1
 rintro e a1 Gt ⟨⟨rfl,hle⟩|⟨rfl,hle⟩,E1⟩
 ·refine WX.seq (WX.block (WX.seq ?_));have L1:=hL.tp Gt;refine(WX.lift (Q:=fun e a' u'=>e=.normal/\wG a' wb j p.pb x/\a'.eval (.tmp 8)=.bool true/\Lw W0 u' wb v ps n) hT G.o8 ?_ ?_ ?_ fun τ=>?_).mono ?_
  ·rintro e a u' τ ⟨h1,h2,h3,h4⟩;exact⟨h1,h2,h3,h4.tp τ⟩
  ·rintro x a u' ⟨h,_⟩;cases h
  ·rintro a u' ⟨h,_⟩;cases h
  ·exact wp_mono (TX (w:=u.tp τ) ((hL.duo p hm).tp τ) (hL.ok p hm) E1) fun e a' u' ⟨h1,h2,h3,h4,h5,h6,h7,h8,h9,hb⟩=>⟨h1,wG.of h2 h3 h4 h5 h6 h7 h8,h9,(hL.tp τ).below hb⟩
  rintro e a2 u2 ⟨rfl,E2,f8,L2⟩;refine WX.seq (XW G L2 hp hn E2 f8 fun a3 u3 ps3 p3 E3 g8 g9 L3 hlen hp3 UN jS=>?_);refine WX.calm (R:=fun e a'=>e=.normal/\wG a' wb j p.pb x) hT G.o10 ?_ ?_ (fun τ=>wp_mono (QC (w:=u3.tp τ) E3 g8 g9) fun e a' u' ⟨h1,h2,h3,h4,h5,h6,h7,h8,h9⟩=>⟨⟨h1,wG.of h2 h3 h4 h5 h6 h7 h8⟩,h9⟩) ?_
  ·rintro x a ⟨h,_⟩;cases h
  ·rintro a ⟨h,_⟩;cases h
  rintro e a4 Qe ⟨rfl,E4⟩;refine WX.calm (R:=fun e a'=>e=.normal/\wG a' wb j p.pb (x+1)) hT G.o7 ?_ ?_ (fun τ=>wp_mono (TW (w:=(u3.tp Qe).tp τ) E4 (by omega)) fun e a' u' ⟨h1,h2,h3,h4,h5,h6,h7,h8,h9⟩=>⟨⟨h1,wG.of h2 h3 h4 h5 h6 h7 h8⟩,h9⟩) ?_
  ·rintro x a ⟨h,_⟩;cases h
  ·rintro a ⟨h,_⟩;cases h
  rintro e a5 SD ⟨rfl,E5⟩;exact hQ a5 _ ps3 p3 hle E5 (L3.tp SD) hlen hp3 UN jS
 ·exact hQx a1 _ E1 (hL.tp Gt)
theorem fY{a:Act}{k:Nat}{x:Int}(h:a.eval (.tmp k)=.int .i64 x):intOf (a.eval (.tmp k))=x:=by rw[h];rfl
theorem XX(G:xu l)(hL:Lw W0 u wb v ps n)(hp:ps[j]? =some p)(hl:ps.length<=1099511627777)(hn:n<=281474976710656)(he:En a wb j)
  (hQ:∀a' u' ps',En a' wb j->Lw W0 u' wb v ps' n->ps'.length=ps.length->Q .normal a' u'):
  WX prog (eB f47) Q a u:=by
 have hT:=G.door.fM.fit;rw[show eB f47=.seq (WC f47) (.seq (.seq (WE f47) (.block 2 (.loop (eM f47)))) (.seq (Ki f47) (.block 4 (.loop (eN f47))))) from by kernel_rfl];refine WX.seq (WX.calm (R:=fun e a'=>e=.normal/\En a' wb j/\a'.eval (.tmp 6)=pt p.pb) hT G.o4 ?_ ?_ (fun τ=>wp_mono (TU (hL.tp τ) hp hl he) fun e a' u' ⟨h1,h2,h3,h4,h5,h6,h7,h8⟩=>⟨⟨h1,⟨h2,h3,h4,h5,h6⟩,h7⟩,h8⟩) ?_)
 ·rintro x a ⟨h,_⟩;cases h
 ·rintro a ⟨h,_⟩;cases h
 rintro e a1 Gt ⟨rfl,E1,f6⟩;refine WX.seq (WX.seq (WX.calm (R:=fun e a'=>e=.normal/\wG a' wb j p.pb (-1)) hT G.o5 ?_ ?_ (fun τ=>wp_mono (TV (w:=(u.tp Gt).tp τ) E1 f6) fun e a' u' ⟨h1,h2,h3,h4,h5,h6,h7,h8,h9⟩=>⟨⟨h1,wG.of h2 h3 h4 h5 h6 h7 h8⟩,h9⟩) ?_))
 ·rintro x a ⟨h,_⟩;cases h
 ·rintro a ⟨h,_⟩;cases h
 rintro e a2 oY ⟨rfl,E2⟩;have hm:p∈ps:=List.mem_of_getElem? hp;have hcm:=(hL.ok p hm).av
 have qc:∀(a':Act) (u':World) (ps':List Pa),En a' wb j->Lw W0 u' wb v ps' n->ps'.length=ps.length->WX prog (.seq (Ki f47) (.block 4 (.loop (eN f47)))) Q a' u':=fun a' u' ps' E L hlen=>by
  refine WX.seq (WX.calm (R:=fun e a'=>e=.normal/\En a' wb j/\a'.eval (.tmp 10)=.int .i64 12) hT G.Xw ?_ ?_ (fun τ=>wp_mono (QD (w:=u'.tp τ) E) fun e a' u' ⟨h1,h2,h3,h4,h5,h6,h7,h8⟩=>⟨⟨h1,⟨h2,h3,h4,h5,h6⟩,h7⟩,h8⟩) ?_)
  ·rintro x a ⟨h,_⟩;cases h
  ·rintro a ⟨h,_⟩;cases h
  rintro e b1 Dh ⟨rfl,F1,f10⟩;refine WX.block (WX.loop (fun b w=>En b wb j/\b.eval (.tmp 10)=.int .i64 12/\∃τ,w=u'.tp τ) (fun _ _=>0) ⟨F1,f10,Dh,rfl⟩ ?_);rintro b w ⟨F,Um,Qe,rfl⟩;rw[show eN f47=.seq (WJ f47) (bR (eN f47)) from by kernel_rfl];refine WX.seq (WX.calm (R:=fun e a'=>e=.exit 4/\En a' wb j) hT G.oNH ?_ ?_ (fun τ=>wp_mono (QF (w:=(u'.tp Qe).tp τ) F Um) fun e a' u' ⟨h1,h2,h3,h4,h5,h6,h7⟩=>⟨⟨h1,h2,h3,h4,h5,h6⟩,h7⟩) ?_)
  ·rintro x a ⟨h,_⟩;cases h
  ·rintro a ⟨h,_⟩;cases h
  rintro e b2 SD ⟨rfl,F2⟩;exact hQ b2 _ ps' F2 (L.tp SD) hlen
 refine WX.block (WX.loop (fun b w=>∃x ps' p',wG b wb j p.pb x∧-1<=x/\x<=p.f.av+1/\Lw W0 w wb v ps' n/\ps'.length=ps.length/\ps'[j]? =some p'/\p'.f.av=p.f.av/\p'.pb=p.pb) (fun b _=>(p.f.av+1-intOf (b.eval (.tmp 7))).toNat) ⟨-1,ps,p,E2,by omega,by omega,hL.tp oY,rfl,hp,rfl,rfl⟩ ?_);rintro b w ⟨x,ps',p',F,hx1,PT,L,hlen,hp',fN,hb'⟩;refine XY G L hp' hn (hb'▸F) hx1 (fun a' u' E L'=>?_) (fun a' u' ps2 p2 hle E L' KW MQ AD bE=>?_)
 ·exact qc a' u' ps' E.toEn L' hlen
 ·refine⟨⟨x+1,ps2,p2,hb'▸E,by omega,by omega,L',KW.trans hlen,MQ,AD.trans fN,bE.trans hb'⟩,?_⟩;show(p.f.av+1-intOf (a'.eval (.tmp 7))).toNat<(p.f.av+1-intOf (b.eval (.tmp 7))).toNat;rw[fY E.e7,fY F.e7];omega
def Qg(W0:World)(wb n:Nat)(v:Value)(e:Exit)(a':Act)(u':World):Prop:=e=.ret/\a'.defers=[]/\a'.eval (.tmp 4)=.bool true/\∃ps',Lw W0 u' wb v ps' n
theorem QG(G:xu l)(h:Lw W0 u wb v ps n)(hl:ps.length<=1099511627777)(hn:n<=281474976710656):
  bG prog 47 #[pt wb,.int .i64 10] u fun e u'=>e=.returned (.bool true)/\∃ps',Lw W0 u' wb v ps' n:=by
 have hT:=G.door.fM.fit;refine bG.Gh func47 (c:=.seq (Jr f47) (.seq (.seq (Js f47) (.block 0 (.loop (eL f47)))) (gM f47))) (by kernel_rfl) ?_;generalize ha:(⟨#[pt wb,Value.int .i64 10]++Array.replicate (f47.ntmps - #[pt wb,Value.int .i64 10].size) undef,[]⟩:Act)=a;have hs:a.tmps.size=64:=by rw[<-ha];simp
 have hd:a.defers=[]:=by rw[<-ha]
 have e0:a.eval (.tmp 0)=pt wb:=by rw[<-ha];kernel_rfl
 have e1:a.eval (.tmp 1)=.int .i64 10:=by rw[<-ha];kernel_rfl
 clear ha
 have fin:∀(e:Exit) (a':Act) (u':World),Qg W0 wb n v e a' u'->(e=.normal\/e=.ret)/\a'.defers=[]/\∃z,(results f47 a'.tmps).run prog u'=.ok z u'/\(Ending.returned z=.returned (.bool true)/\∃ps',Lw W0 u' wb v ps' n):=by rintro e a' u' ⟨rfl,h2,h3,h4⟩;have h3':=ev h3;refine⟨.inr rfl,h2,.bool true,?_,rfl,h4⟩;simp[results,results47,go_sem,h3']
 refine WX.mono (Q:=Qg W0 wb n v) ?_ fin
 have hend:∀(a':Act) (u':World) (ps':List Pa),a'.tmps.size=64->a'.defers=[]->Lw W0 u' wb v ps' n->WX prog (gM f47) (Qg W0 wb n v) a' u':=fun a' u' ps' s d L=>
  WX.calm (R:=fun e a'=>e=.ret/\a'.defers=[]/\a'.eval (.tmp 4)=.bool true) hT G.oe (fun x a h=>by cases h.1) (fun a h=>by cases h.1) (fun τ=>wp_mono (Ns (w:=u'.tp τ) s d) fun e a' u' ⟨h1,h2,h3,h4⟩=>⟨⟨h1,h2,h3⟩,h4⟩) fun e a' τ ⟨h1,h2,h3⟩=>⟨h1,h2,h3,ps',L.tp τ⟩
 refine WX.seq (WX.calm (R:=fun e a'=>e=.normal/\a'.tmps.size=64/\a'.defers=[]/\a'.eval (.tmp 0)=pt wb/\a'.eval (.tmp 1)=.int .i64 10) hT G.o0 ?_ ?_ (fun τ=>wp_mono (QH (w:=u.tp τ) hs hd e0 e1) fun e a' u' ⟨h1,h2,h3,h4,h5,h6⟩=>⟨⟨h1,h2,h3,h4,h5⟩,h6⟩) ?_)
 ·rintro x a ⟨h,_⟩;cases h
 ·rintro a ⟨h,_⟩;cases h
 rintro e a1 Gt ⟨rfl,s1,d1,f0,f1⟩;refine WX.seq (WX.seq (WX.calm (R:=fun e a'=>e=.normal/\En a' wb ((0:Nat):Int)) hT G.o1 ?_ ?_ (fun τ=>wp_mono (QI (w:=(u.tp Gt).tp τ) s1 d1 f0 f1) fun e a' u' ⟨h1,h2,h3,h4,h5,h6,h7⟩=>⟨⟨h1,h2,h3,h4,h5,h6⟩,h7⟩) ?_))
 ·rintro x a ⟨h,_⟩;cases h
 ·rintro a ⟨h,_⟩;cases h
 rintro e a2 oY ⟨rfl,E2⟩;refine WX.block (WX.loop (fun b w=>∃(j:Nat) (ps':List Pa),En b wb j/\j<=ps.length/\Lw W0 w wb v ps' n/\ps'.length=ps.length) (fun b _=>(ps.length-intOf (b.eval (.tmp 5))).toNat) ⟨0,ps,E2,Nat.zero_le _,h.tp oY,rfl⟩ ?_);rintro b w ⟨j,ps',F,hj,L,hlen⟩;rw[show eL f47=.seq (eH f47) (.seq (.block 1 (eB f47)) (jA f47)) from by kernel_rfl];refine WX.seq (WX.calm (R:=fun e a'=>((e=.normal/\j<ps'.length)\/(e=.exit 0/\j=ps'.length))/\En a' wb j) hT G.oH ?_ ?_ (fun τ=>wp_mono (TY (L.tp τ) (by omega) F) fun e a' u' ⟨h1,h2,h3,h4,h5,h6,h7⟩=>⟨⟨h1,h2,h3,h4,h5,h6⟩,h7⟩) ?_)
 ·rintro x a ⟨h|h,_⟩<;>cases h.1
 ·rintro a ⟨h|h,_⟩<;>cases h.1
 rintro e b1 Dh ⟨⟨rfl,hlt⟩|⟨rfl,_⟩,F1⟩
 ·obtain⟨p,hp⟩:∃p,ps'[j]? =some p:=⟨ps'[j],by rw[List.getElem?_eq_getElem]⟩;refine WX.seq (WX.block (XX G (L.tp Dh) hp (by omega) hn F1 fun b2 u2 ps2 F2 L2 KW=>?_));refine WX.calm (R:=fun e a'=>e=.normal/\En a' wb ((j+1:Nat):Int)) hT G.o3 ?_ ?_ (fun τ=>wp_mono (TT (w:=u2.tp τ) (by omega) F2) fun e a' u' ⟨h1,h2,h3,h4,h5,h6,h7⟩=>⟨⟨h1,h2,h3,h4,h5,h6⟩,h7⟩) ?_
  ·rintro x a ⟨h,_⟩;cases h
  ·rintro a ⟨h,_⟩;cases h
  rintro e b3 Qe ⟨rfl,F3⟩;refine⟨⟨j+1,ps2,F3,by omega,L2.tp Qe,KW.trans hlen⟩,?_⟩;show(ps.length-intOf (b3.eval (.tmp 5))).toNat<(ps.length-intOf (b.eval (.tmp 5))).toNat;rw[fY F3.e5,fY F.e5];omega
 ·exact hend b1 _ ps' F1.size F1.defers (L.tp Dh)
end
end
section
open Go.Proofs.Tryz
open Go.RowKit
attribute [local go_sem ↓] Go.wp_at_zero Go.wp_at_succ
def mO(s:ByteArray):Bool:=s.data.toList.all (fun c=>c !=81)
theorem yc(s:ByteArray)(k:Nat)(hk:k<s.size)(h:(s[k].toNat:Int)=81):mO s=false:=by
 have e:s[k]=81:=by apply UInt8.toNat.inj;simpa using(by omega:s[k].toNat=81)
 unfold mO;rw[List.all_eq_false];exact⟨s[k],by rw[show s[k]=s.data[k] from rfl];simp,by simp[e]⟩
theorem quiet_step(s:ByteArray)(k:Nat)(hk:k<s.size)(h:¬(s[k].toNat:Int)=81)(hp:(s.data.toList.take k).all (fun c=>c !=81)=true):(s.data.toList.take (k+1)).all (fun c=>c !=81)=true:=by
 have e:s.data[k]≠81:=by intro e;rw[show s[k]=s.data[k] from rfl]at h;rw[e]at h;simp at h
 rw[List.take_succ_eq_append_getElem (by simpa using hk),List.all_append,hp];simpa using e
theorem Iu(s:ByteArray)(w:World)(hs:s.size<=maxLen):
  Calls prog 45 #[.string s] w fun e w'=>e=.returned (.bool (mO s))/\w'=w:=by
 unfold maxLen at hs;go_enter func45,ntmps45;go_wp2
 go_loop [3] (fun i=>∃k:Nat,k<=s.size/\i=.int .i64 k/\Hid ((s.data.toList.take k).all (fun c=>c !=81)=true)) (fun i=>s.size-(intOf i).toNat)
 case atStart=>exact⟨0,Nat.zero_le _,rfl,by simp[Hid]⟩
 case round=>
  obtain⟨k,hk,rfl,hp⟩:=hrel
  by_cases hlt:k<s.size
  ·by_cases hq:(s[k].toNat:Int)=81
   ·have hH:Hid (mO s=false):=yc s k hlt hq;have hqb:((s[k].toNat:Int)==81)=true:=by simpa using hq
    clear hq;go_wp2;go_ret;exact⟨by rw[hH.out];rfl,rfl⟩
   ·have hH:Hid ((s.data.toList.take (k+1)).all (fun c=>c !=81)=true):=quiet_step s k hlt hq hp.out;have hqb:((s[k].toNat:Int)==81)=false:=by simpa using hq
    clear hq;go_wp2
    go_round
    case rel=>exact⟨k+1,by omega,by go_num,hH⟩
    case measure=>simp[intOf];omega
  ·have hH:Hid (mO s=true):=(by have:=hp.out;rw[List.take_of_length_le (by simp;omega)]at this;exact this);go_wp2;go_ret;exact⟨by rw[hH.out];rfl,rfl⟩
theorem Eo(b:Nat)(w:World)(h:w.cell? ⟨b,1,none⟩=some (.slice none 0 0))(h3:w.cell? ⟨b,3,none⟩=some (.slice none 0 0)):
  Calls prog 48 #[.pointer (some ⟨b,0,none⟩)] w fun e w'=>e=.returned (.bool true)/\w'=w:=by
 go_enter func48,ntmps48;go_wp2;refine wp_loop_rounds 1 ?_;rw[rounds_succ];go_wp2;refine wp_loop_rounds 1 ?_;rw[rounds_succ];go_wp2;go_ret;exact⟨rfl,rfl⟩
end
section
open Go.Proofs.Tryz
open Go.RowKit
structure Dl where
 kd:Int
 dm:Int
 sz:Int
 cl:Int
 qu:Int
 mx:Int
 qn:Int
 rt:Int
 bu:Int
 wk:Int
 ou:Int
 s:ByteArray
 x:Int
 y:Int
 on:Bool
def JG(w:World)(b o:Nat)(r:Dl):Prop:=
 w.cell? ⟨b,o,none⟩=some (.int .i64 r.kd)/\w.cell? ⟨b,o+1,none⟩=some (.int .i64 r.dm)/\w.cell? ⟨b,o+2,none⟩=some (.int .i64 r.sz)/\w.cell? ⟨b,o+3,none⟩=some (.int .i64 r.cl)/\w.cell? ⟨b,o+4,none⟩=some (.int .i64 r.qu)/\w.cell? ⟨b,o+5,none⟩=some (.int .i64 r.mx)/\w.cell? ⟨b,o+6,none⟩=some (.int .i64 r.qn)/\w.cell? ⟨b,o+7,none⟩=some (.int .i64 r.rt)/\w.cell? ⟨b,o+8,none⟩=some (.int .i64 r.bu)/\w.cell? ⟨b,o+9,none⟩=some (.int .i64 r.wk)/\w.cell? ⟨b,o+10,none⟩=some (.int .i64 r.ou)/\w.cell? ⟨b,o+11,none⟩=some (.string r.s)/\w.cell? ⟨b,o+12,none⟩=some (.int .i64 r.x)/\w.cell? ⟨b,o+13,none⟩=some (.int .i64 r.y)/\w.cell? ⟨b,o+14,none⟩=some (.bool r.on)/\r.s.size<=maxLen
end
section
open Go.Proofs.Tryz
open Go Go.Conc Go.RowKit
attribute [local go_sem ↓] Go.wp_at_zero Go.wp_at_succ
attribute [local go_sem] au aj
def p0(fn:Func):Code:=cr (dB fn)
def p1(fn:Func):Code:=cr (bR (dB fn))
def p2(fn:Func):Code:=cr (bR (bR (dB fn)))
def pT(fn:Func):Code:=bR (bR (bR (dB fn)))
def p6(fn:Func):Code:=cr (cr (pT fn))
def pL(fn:Func):Code:=kN (kN (bR (cr (pT fn))))
def RM(fn:Func):Code:=cr (bR (pT fn))
def p17(fn:Func):Code:=bR (bR (pT fn))
def pH(fn:Func):Code:=cr (pL fn)
def pB(fn:Func):Code:=kN (cr (bR (pL fn)))
def p8(fn:Func):Code:=bR (bR (pL fn))
def p9(fn:Func):Code:=cr (pB fn)
def p10(fn:Func):Code:=cr (bR (pB fn))
def VN(fn:Func):Code:=cr (bR (bR (pB fn)))
def p12(fn:Func):Code:=cr (bR (bR (bR (pB fn))))
def VP(fn:Func):Code:=cr (bR (bR (bR (bR (pB fn)))))
def p14(fn:Func):Code:=bR (bR (bR (bR (bR (pB fn)))))
structure Ps(a:Act)(sv:Value)(wb:Nat)(j:Nat):Prop where
 size:a.tmps.size=66
 defers:a.defers=[]
 e0:a.eval (.tmp 0)=sv
 e1:a.eval (.tmp 1)=.int .i64 3
 e2:a.eval (.tmp 2)=.int .i64 10
 e3:a.eval (.tmp 3)=.bool true
 e9:a.eval (.tmp 9)=pt wb
 SM:a.eval (.tmp 11)=.int .i64 (j:Int)
theorem wR{s:ByteArray}(h:mO s=true):fT s:=fun i hi hb=>by have h1:(s[i].toNat:Int)=81:=(ep s i hi).trans hb;rw[yc s i hi h1]at h;cases h
section
variable [aR] {W0 w w1 w2 u:World} {wb ob n j:Nat} {v sv:Value} {ps:List Pa} {a:Act} {r:Dl}
end
end
section
open Go.Proofs.Tryz
open Go.ChangeShapes Go.WideShapes Go.ChangeAt Go.RowKit Go.Deep
theorem Nw{α:Type}(l:List α)(h:l.length=15):∃c0 c1 c2 c3 c4 c5 c6 c7 c8 c9 ow wJ uo fL pI,l=[c0,c1,c2,c3,c4,c5,c6,c7,c8,c9,ow,wJ,uo,fL,pI]:=by
 match l,h with
 |[c0,c1,c2,c3,c4,c5,c6,c7,c8,c9,ow,wJ,uo,fL,pI],_=>exact⟨c0,c1,c2,c3,c4,c5,c6,c7,c8,c9,ow,wJ,uo,fL,pI,rfl⟩
theorem FH:prog.cellsOf 90=15:=by kernel_rfl
theorem Nj:prog.cellsOf 35=9:=by kernel_rfl
theorem JW:prog.cellsOf 3=1:=by kernel_rfl
theorem Qx:prog.cellsOf 4=1:=by kernel_rfl
theorem JX:prog.cellsOf 9=1:=by kernel_rfl
def Dl.list(r:Dl):List Value:=[.int .i64 r.kd,.int .i64 r.dm,.int .i64 r.sz,.int .i64 r.cl,.int .i64 r.qu,.int .i64 r.mx,.int .i64 r.qn,.int .i64 r.rt,.int .i64 r.bu,.int .i64 r.wk,.int .i64 r.ou,.string r.s,.int .i64 r.x,.int .i64 r.y,.bool r.on]
theorem cT{α:Type}{l:List α}{n i:Nat}(h:l.length=n)(hi:i<n):∃y,l[i]? =some y:=⟨l[i]'(by omega),by simp⟩
section
variable {H:Type} {enc:TypeId×Value->H} {w:World} {base:Nat} {spare:Nat->Bool} {held:Bool}
theorem ej{n:Nat}{c:Value}{y:Option (DataW H×List MemPlace)}(hy:∃z,y=some z)(h:DataW.trod enc prog w base spare held n 3 [c]=y):∃k,c=.int .i64 k:=by obtain⟨z,rfl⟩:=hy;obtain⟨k,e,_⟩:=DataW.trod_int underlying3 h;exact⟨k,by simpa using e⟩
theorem Ex{fuel:Nat}{cs:List Value}{x:DataW H×List MemPlace}(h:DataW.trod enc prog w base spare held fuel 90 cs=some x):∃r:Dl,cs=r.list/\r.s.size<=maxLen:=by obtain⟨xs,n,_,_,hl,hxl,hf⟩:=DataW.trod_struct underlying90 h;rw[FH]at hl;have zq:xs.length=7:=hxl;obtain⟨c0,c1,c2,c3,c4,c5,c6,c7,c8,c9,ow,wJ,uo,fL,pI,rfl⟩:=Nw cs hl;have f0:DataW.trod enc prog w base spare held n 3 (([c0,c1,c2,c3,c4,c5,c6,c7,c8,c9,ow,wJ,uo,fL,pI].drop 0).take (prog.cellsOf 3))=xs[0]? :=hf 0 _ rfl;have f1:DataW.trod enc prog w base spare held n 3 (([c0,c1,c2,c3,c4,c5,c6,c7,c8,c9,ow,wJ,uo,fL,pI].drop 1).take (prog.cellsOf 3))=xs[1]? :=hf 1 _ rfl;have f2:DataW.trod enc prog w base spare held n 35 (([c0,c1,c2,c3,c4,c5,c6,c7,c8,c9,ow,wJ,uo,fL,pI].drop 2).take (prog.cellsOf 35))=xs[2]? :=hf 2 _ rfl;have f3:DataW.trod enc prog w base spare held n 9 (([c0,c1,c2,c3,c4,c5,c6,c7,c8,c9,ow,wJ,uo,fL,pI].drop 11).take (prog.cellsOf 9))=xs[3]? :=hf 3 _ rfl;have f4:DataW.trod enc prog w base spare held n 3 (([c0,c1,c2,c3,c4,c5,c6,c7,c8,c9,ow,wJ,uo,fL,pI].drop 12).take (prog.cellsOf 3))=xs[4]? :=hf 4 _ rfl;have f5:DataW.trod enc prog w base spare held n 3 (([c0,c1,c2,c3,c4,c5,c6,c7,c8,c9,ow,wJ,uo,fL,pI].drop 13).take (prog.cellsOf 3))=xs[5]? :=hf 5 _ rfl;have f6:DataW.trod enc prog w base spare held n 4 (([c0,c1,c2,c3,c4,c5,c6,c7,c8,c9,ow,wJ,uo,fL,pI].drop 14).take (prog.cellsOf 4))=xs[6]? :=hf 6 _ rfl;simp only[JW,Qx,JX,Nj,List.drop_succ_cons,List.drop_zero,List.take_succ_cons,List.take_zero]at f0 f1 f2 f3 f4 f5 f6;obtain⟨kd,rfl⟩:=ej (cT zq (by omega)) f0;obtain⟨dm,rfl⟩:=ej (cT zq (by omega)) f1;obtain⟨vx,rfl⟩:=ej (cT zq (by omega)) f4;obtain⟨vy,rfl⟩:=ej (cT zq (by omega)) f5;obtain⟨y3,e3⟩:=cT zq (show 3<7 by omega);rw[e3]at f3;obtain⟨s,es,_,hs⟩:=DataW.trod_string underlying9 f3;obtain⟨y6,e6⟩:=cT zq (show 6<7 by omega);rw[e6]at f6;obtain⟨on,eon,_⟩:=DataW.trod_bool underlying4 f6;obtain⟨y2,e2⟩:=cT zq (show 2<7 by omega);rw[e2]at f2;obtain⟨ys,m,_,_,_,hyl,hg⟩:=DataW.trod_struct underlying35 f2;have zv:ys.length=9:=hyl;have g0:DataW.trod enc prog w base spare held m 3 (([c2,c3,c4,c5,c6,c7,c8,c9,ow].drop 0).take (prog.cellsOf 3))=ys[0]? :=hg 0 _ rfl;have g1:DataW.trod enc prog w base spare held m 3 (([c2,c3,c4,c5,c6,c7,c8,c9,ow].drop 1).take (prog.cellsOf 3))=ys[1]? :=hg 1 _ rfl;have g2:DataW.trod enc prog w base spare held m 3 (([c2,c3,c4,c5,c6,c7,c8,c9,ow].drop 2).take (prog.cellsOf 3))=ys[2]? :=hg 2 _ rfl;have g3:DataW.trod enc prog w base spare held m 3 (([c2,c3,c4,c5,c6,c7,c8,c9,ow].drop 3).take (prog.cellsOf 3))=ys[3]? :=hg 3 _ rfl;have g4:DataW.trod enc prog w base spare held m 3 (([c2,c3,c4,c5,c6,c7,c8,c9,ow].drop 4).take (prog.cellsOf 3))=ys[4]? :=hg 4 _ rfl;have g5:DataW.trod enc prog w base spare held m 3 (([c2,c3,c4,c5,c6,c7,c8,c9,ow].drop 5).take (prog.cellsOf 3))=ys[5]? :=hg 5 _ rfl;have g6:DataW.trod enc prog w base spare held m 3 (([c2,c3,c4,c5,c6,c7,c8,c9,ow].drop 6).take (prog.cellsOf 3))=ys[6]? :=hg 6 _ rfl;have g7:DataW.trod enc prog w base spare held m 3 (([c2,c3,c4,c5,c6,c7,c8,c9,ow].drop 7).take (prog.cellsOf 3))=ys[7]? :=hg 7 _ rfl;have g8:DataW.trod enc prog w base spare held m 3 (([c2,c3,c4,c5,c6,c7,c8,c9,ow].drop 8).take (prog.cellsOf 3))=ys[8]? :=hg 8 _ rfl;simp only[JW,List.drop_succ_cons,List.drop_zero,List.take_succ_cons,List.take_zero]at g0 g1 g2 g3 g4 g5 g6 g7 g8;obtain⟨sz,rfl⟩:=ej (cT zv (by omega)) g0;obtain⟨cl,rfl⟩:=ej (cT zv (by omega)) g1;obtain⟨qu,rfl⟩:=ej (cT zv (by omega)) g2;obtain⟨mx,rfl⟩:=ej (cT zv (by omega)) g3;obtain⟨qn,rfl⟩:=ej (cT zv (by omega)) g4;obtain⟨rt,rfl⟩:=ej (cT zv (by omega)) g5;obtain⟨bu,rfl⟩:=ej (cT zv (by omega)) g6;obtain⟨wk,rfl⟩:=ej (cT zv (by omega)) g7;obtain⟨ou,rfl⟩:=ej (cT zv (by omega)) g8;simp only[List.cons.injEq,and_true]at es eon;subst es eon;exact⟨⟨kd,dm,sz,cl,qu,mx,qn,rt,bu,wk,ou,s,vx,vy,on⟩,rfl,hs⟩
theorem Ep{w:World}{b o:Nat}{v:Value}(h:w.cell? ⟨b,o,none⟩=some v):b<w.heap.size:=by
 by_cases hb:b<w.heap.size
 ·exact hb
 ·simp[World.cell?,Array.getElem?_eq_none (Nat.le_of_not_lt hb)]at h
end
end
section
open Go.Proofs.Tryz
open Go.ChangeShapes Go.WideShapes Go.ChangeAt Go.RowKit Go.Deep
theorem og{H:Type}{P:Program}{e:TypeId}:∀{l:List (DataW H)} {d:DataW H},d∈l->∀n∈d.weights P e,n∈DataW.weightsAll P e l
 |[],_,h,_,_=>by cases h
 |x::r,d,h,n,hn=>by
  simp only[DataW.weightsAll,List.mem_append];rcases List.mem_cons.1 h with e|e
  ·subst e;exact .inl hn
  ·exact .inr (og e n hn)
theorem Nh:prog.bytesOf 90=128:=by kernel_rfl
section
variable {H:Type} {enc:TypeId×Value->H} {w:World} {base:Nat} {spare:Nat->Bool} {held:Bool}
theorem CS{fuel:Nat}{r:Dl}{x:DataW H×List MemPlace}(h:DataW.trod enc prog w base spare held fuel 90 r.list=some x):r.s.size∈x.1.weights prog 90:=by
 obtain⟨xs,n,_,hx,hl,hxl,hf⟩:=DataW.trod_struct underlying90 h;have zq:xs.length=7:=hxl;have f3:DataW.trod enc prog w base spare held n 9 ((r.list.drop 11).take (prog.cellsOf 9))=xs[3]? :=hf 3 _ rfl;obtain⟨y3,e3⟩:=cT zq (show 3<7 by omega);rw[e3,JX]at f3;obtain⟨s,es,ey,_⟩:=DataW.trod_string underlying9 f3;have es':r.s=s:=by simpa[Dl.list]using es
 subst hx;simp only[DataW.weights,underlying90];refine DataW.weights_mem_each (j:=3) (t:=9) (d:=y3.1) rfl (by rw[List.getElem?_map,e3];rfl) _ ?_;rw[ey,es'];simp[DataW.weights]
def FC(w:World)(a:Option Addr)(len:Nat):Prop:=
 len=0\/∃b off,a=some ⟨b,off,none⟩/\b<w.heap.size/\∃f:Nat->Dl,(∀i,i<len->JG w b (off+i*15) (f i))/\∀i,i<len->(f i).s.size<=140737488355328
theorem EU{fuel:Nat}{a:Option Addr}{len cap:Nat}{x:DataW H×List MemPlace}(h:DataW.trod enc prog w base spare held fuel 22 [.slice a len cap]=some x)(hB:∀n∈x.1.weights prog 22,n<=reachBytes):len<=1099511627776/\FC w a len:=by
 rcases open_slice underlying22 h with⟨hcs,_⟩|⟨a',len',cap',m,n,D,Pl,hcs,_,hl,hm,hmm,hxe,hx⟩
 ·simp at hcs;obtain⟨rfl,rfl,rfl⟩:=hcs;exact⟨by omega,.inl rfl⟩
 ·simp at hcs;obtain⟨rfl,rfl,rfl⟩:=hcs;rw[hxe]at hB;simp only[DataW.weights,underlying22,Nh]at hB
  have hlen:len<=1099511627776:=by have:=hB _ (List.mem_cons_self ..);simp only[List.length_map,List.length_range,reachBytes]at this;omega
  refine⟨hlen,?_⟩
  by_cases h0:len=0
  ·exact .inl h0
  right;have aaA:len<=m:=by rw[hmm];split<;>omega
  rw[FH]at hx
  have hop:∀i,i<len->∃r:Dl,(∀j,j<15->w.cell? ((a'.add (i*15)).add j)=r.list[j]?)/\r.s.size<=maxLen/\r.s.size<=140737488355328:=fun i hi=>by obtain⟨cs',h1,h2⟩:=hx i (by omega);obtain⟨r,rfl,hs⟩:=Ex h2;have hb:=CS h2;have hd:=hB _ (List.mem_cons_of_mem _ (List.mem_append_left _ (og (List.mem_map.2 ⟨i,List.mem_range.2 hi,rfl⟩:D i∈(List.range len).map D) _ hb)));exact⟨r,(World.cells?_some h1).2.2,hs,by simp only[reachBytes]at hd;omega⟩
  obtain⟨b,off,spot⟩:=a'
  have Vq:spot=none:=by obtain⟨r,hr,_⟩:=hop 0 (by omega);have:=hr 0 (by omega);simp only[Nat.zero_mul,Addr.add,if_true,Dl.list,List.getElem?_cons_zero]at this;simpa using World.cell?_spot this
  subst Vq
  have Eg:∀i,i<len->∃r:Dl,JG w b (off+i*15) r/\r.s.size<=140737488355328:=fun i hi=>by obtain⟨r,hr,hs,xP⟩:=hop i hi;simp only[add_plain]at hr;refine⟨r,?_,xP⟩;have t:∀j,j<15->w.cell? ⟨b,off+i*15+j,none⟩=r.list[j]? :=hr;exact⟨t 0 (by omega),t 1 (by omega),t 2 (by omega),t 3 (by omega),t 4 (by omega),t 5 (by omega),t 6 (by omega),t 7 (by omega),t 8 (by omega),t 9 (by omega),t 10 (by omega),t 11 (by omega),t 12 (by omega),t 13 (by omega),t 14 (by omega),hs⟩
  have KJ:b<w.heap.size:=by obtain⟨r,hr,_⟩:=Eg 0 (by omega);exact Ep hr.1
  have hne:Nonempty Dl:=let⟨r,_⟩:=Eg 0 (by omega);⟨r⟩;refine⟨b,off,rfl,KJ,?_⟩
  classical
  refine⟨fun i=>if hi:i<len then Classical.choose (Eg i hi)else Classical.choice hne,fun i hi=>?_,fun i hi=>?_⟩
  ·simp only[dif_pos hi];exact(Classical.choose_spec (Eg i hi)).1
  ·simp only[dif_pos hi];exact(Classical.choose_spec (Eg i hi)).2
end
end
end Go.Proofs.YtpobhljcainmdaaGreat
