/- Proved here: a part of what Doors keeps (La9). -/
import Derived.Test.YtpobhljcainmdaaGreatJ45
import Derived.Test.YtpobhljcainmdaaGreatJ46
import Derived.Test.YtpobhljcainmdaaGreatJ47
set_option maxRecDepth 100000
set_option maxHeartbeats 8000000
set_option linter.all false
namespace Go.Proofs.YtpobhljcainmdaaGreat
section
open Go.Proofs.Tryz
open Go Go.Conc Go.RowKit
open Go.ConcR (Payload)
attribute [local go_sem ↓] Go.wp_at_zero Go.wp_at_succ
attribute [local go_sem] au aj
def nT(f:FuncId):List Nat:=if f=14 then[0,26,31,33]else if f=5 then[0,3]else[]
theorem pE{a:Act}{k d:Nat}{v x:Value}(h:a.eval (.tmp k)=x)(hne:k≠d):(a.put (some d) v).eval (.tmp k)=x:=(nj v hne).trans h
theorem lG{L:List Nat}{a:Act}{v:Value}:(lM L a).eval (.const v)=a.eval (.const v):=rfl
theorem eval_const{a:Act}{v:Value}:a.eval (.const v)=v:=rfl
def VQ(fn:Func):Code:=cr (p2 fn)
def p3(fn:Func):Code:=cr (ct (bR (p2 fn)))
def p4(fn:Func):Code:=cr (bR (ct (bR (p2 fn))))
def p7(fn:Func):Code:=cr (pH fn)
def LD(fn:Func):Code:=cr (p10 fn)
def LF(fn:Func):Code:=cr (p12 fn)
def LG(fn:Func):Code:=cr (p14 fn)
def Ez(fn:Func):Code:=cr (p17 fn)
structure eU[aR](l:List FuncId):Prop where
 step:Fz l
 ends:xu l
 kS:aR.known 46
 kE:aR.known 47
 kM:aR.known 44
 kQ:aR.known 45
 kL:aR.known 48
 oM:aR.ok 44
 oQ:aR.ok 45
 oL:aR.ok 48
 dep:aR.depth=2
theorem Ps.put{a:Act}{sv v:Value}{wb j d:Nat}(h:Ps a sv wb j)(hd:d≠0/\d≠1/\d≠2/\d≠3/\d≠9/\d≠11):Ps (a.put (some d) v) sv wb j:=
 ⟨(ak _ _ _).trans h.size,(put_defers _ _ _).trans h.defers,pE h.e0 hd.1.symm,pE h.e1 hd.2.1.symm,pE h.e2 hd.2.2.1.symm,pE h.e3 hd.2.2.2.1.symm,pE h.e9 hd.2.2.2.2.1.symm,pE h.SM hd.2.2.2.2.2.symm⟩
section
variable [aR] {W0 w u:World} {wb ob n j:Nat} {v sv:Value} {ps:List Pa} {a:Act} {r:Dl} {l:List FuncId} {Q:Exit->Act->World->Prop}
theorem bG.Pf{P:Program}(hT:Fit P l){f:FuncId}(hok:aR.ok f){args:Array Value}{x:Value}(h:∀τ,Calls P f args (u.tp τ) fun e w'=>e=.returned x/\w'=u.tp τ):bG P f args u fun e u'=>e=.returned x/\∃τ,u'=u.tp τ:=
 bG.lift hT hok (R:=fun e u'=>e=.returned x/\∃τ,u'=u.tp τ) (fun e u' τ ⟨h1,Gs,h2⟩=>⟨h1,τ,by rw[h2]⟩) (fun e u' h=>⟨_,h.1⟩) fun τ=>(h τ).mono fun e u' ⟨h1,h2⟩=>⟨h1,τ,h2⟩
variable [Payload]
theorem Ya(G:eU l)(hs:a.tmps.size=66)(hd:a.defers=[])(e0:a.eval (.tmp 0)=sv)(e1:a.eval (.tmp 1)=.int .i64 3)(e2:a.eval (.tmp 2)=.int .i64 10)(e3:a.eval (.tmp 3)=.bool true)
  (hQ:∀a',a'.tmps.size=66->a'.defers=[]->a'.eval (.tmp 0)=sv->a'.eval (.tmp 1)=.int .i64 3->a'.eval (.tmp 2)=.int .i64 10->a'.eval (.tmp 3)=.bool true->Q .normal a' u):FX nT 14 1 prog (p0 f14) Q a u:=by
 have hT:=G.step.door.fM.fit;rw[show p0 f14=.region 0 (opsOf (p0 f14)) false from by kernel_rfl];refine FX.region ?_;rw[show List.range (opsOf (p0 f14)).size=[0] from by kernel_rfl];refine FO.Qq hT rfl (wants rfl) rfl rfl (by kernel_rfl) ?_;exact FO.nil (hQ _ ((ak _ _ _).trans hs) ((put_defers _ _ _).trans hd) (pE e0 (by decide)) (pE e1 (by decide)) (pE e2 (by decide)) (pE e3 (by decide)))
theorem Yb(G:eU l)(hs:a.tmps.size=66)(hd:a.defers=[])(e0:a.eval (.tmp 0)=sv)(e1:a.eval (.tmp 1)=.int .i64 3)(e2:a.eval (.tmp 2)=.int .i64 10)(e3:a.eval (.tmp 3)=.bool true)
  (hQ:∀a',a'.tmps.size=66->a'.defers=[]->a'.eval (.tmp 0)=sv->a'.eval (.tmp 1)=.int .i64 3->a'.eval (.tmp 2)=.int .i64 10->a'.eval (.tmp 3)=.bool true->a'.eval (.tmp 9)=pt u.heap.size->Q .normal a' (u.alloc (.cells (NY (.slice none 0 0)) 87))):FX nT 14 1 prog (p1 f14) Q a u:=by
 have hT:=G.step.door.fM.fit;rw[show p1 f14=.region 1 (opsOf (p1 f14)) false from by kernel_rfl];refine FX.region ?_;rw[show List.range (opsOf (p1 f14)).size=[0,1,2] from by kernel_rfl];refine FO.WA (d:=16) (v:=.agg (NY (.slice none 0 0))) hT rfl (wants rfl) rfl rfl (by kernel_rfl) (by rw[List.map_toArray,List.map_toArray];rfl) (fun w=>?_) ?_
 ·rw[List.map_toArray];show(Instr.build 87 #[]).run prog w=_;go_simp
 refine FO.box (d:=17) (ob:=.cells (NY (.slice none 0 0)) 87) hT rfl (wants rfl) rfl rfl (by decide) (aq _ (by(try simp only[ak]);omega)) (fun w=>?_) ?_
 ·go_simp
 refine FO.oW hT rfl (wants rfl) rfl rfl (by decide) (aq _ (by(try simp only[ak]);omega)) ?_;exact FO.nil (hQ _ ((ak _ _ _).trans ((ak _ _ _).trans ((ak _ _ _).trans hs))) ((put_defers _ _ _).trans ((put_defers _ _ _).trans ((put_defers _ _ _).trans hd))) (pE (pE (pE e0 (by decide)) (by decide)) (by decide)) (pE (pE (pE e1 (by decide)) (by decide)) (by decide)) (pE (pE (pE e2 (by decide)) (by decide)) (by decide)) (pE (pE (pE e3 (by decide)) (by decide)) (by decide)) (aq _ (by(try simp only[ak]);omega)))
theorem Yc(G:eU l)(hs:a.tmps.size=66)(hd:a.defers=[])(e0:a.eval (.tmp 0)=sv)(e1:a.eval (.tmp 1)=.int .i64 3)(e2:a.eval (.tmp 2)=.int .i64 10)(e3:a.eval (.tmp 3)=.bool true)(e9:a.eval (.tmp 9)=pt wb)
  (hQ:∀a',a'.tmps.size=66->a'.defers=[]->a'.eval (.tmp 0)=sv->a'.eval (.tmp 1)=.int .i64 3->a'.eval (.tmp 2)=.int .i64 10->a'.eval (.tmp 3)=.bool true->a'.eval (.tmp 9)=pt wb->a'.eval (.tmp 19)=.bool true->Q .normal a' u):FX nT 14 1 prog (VQ f14) Q a u:=by
 have hT:=G.step.door.fM.fit;rw[show VQ f14=.region 2 (opsOf (VQ f14)) false from by kernel_rfl];refine FX.region ?_;rw[show List.range (opsOf (VQ f14)).size=[0,1] from by kernel_rfl];refine FO.mv hT rfl (wants rfl) rfl rfl (by decide) e2 ?_;refine FO.Yo hT rfl (wants rfl) rfl rfl (by decide) (aq _ (by(try simp only[ak]);omega)) ?_;exact FO.nil (hQ _ ((ak _ _ _).trans ((ak _ _ _).trans hs)) ((put_defers _ _ _).trans ((put_defers _ _ _).trans hd)) (pE (pE e0 (by decide)) (by decide)) (pE (pE e1 (by decide)) (by decide)) (pE (pE e2 (by decide)) (by decide)) (pE (pE e3 (by decide)) (by decide)) (pE (pE e9 (by decide)) (by decide)) (aq _ (by(try simp only[ak]);omega)))
theorem Ye(G:eU l)(hL:Lw W0 u wb v ps n)(hl:ps.length<=1099511627776)(hs:a.tmps.size=66)(hd:a.defers=[])(e0:a.eval (.tmp 0)=sv)(e1:a.eval (.tmp 1)=.int .i64 3)(e2:a.eval (.tmp 2)=.int .i64 10)(e3:a.eval (.tmp 3)=.bool true)(e9:a.eval (.tmp 9)=pt wb)
  (hQ:∀a' u' v' ps',a'.tmps.size=66->a'.defers=[]->a'.eval (.tmp 0)=sv->a'.eval (.tmp 1)=.int .i64 3->a'.eval (.tmp 2)=.int .i64 10->a'.eval (.tmp 3)=.bool true->a'.eval (.tmp 9)=pt wb->a'.eval (.tmp 10)=.bool true->ps'.length<=ps.length+1->Lw W0 u' wb v' ps' n->Q .normal a' u'):FX nT 14 1 prog (p3 f14) Q a u:=by
 have hT:=G.step.door.fM.fit;rw[show p3 f14=.region 3 (opsOf (p3 f14)) false from by kernel_rfl];refine FX.region ?_;rw[show List.range (opsOf (p3 f14)).size=[0,1,2,3] from by kernel_rfl];refine FO.mv hT rfl (wants rfl) rfl rfl (by decide) e9 ?_;refine FO.WA (d:=21) (v:=.agg (dr 64 2 2 8 8 2 4 1 32)) hT rfl (wants rfl) rfl rfl (by kernel_rfl) (by rw[List.map_toArray,List.map_toArray];rfl) (fun w=>?_) ?_
 ·rw[List.map_toArray];show(Instr.build 35 #[(0,.int .i64 64),(1,.int .i64 2),(2,.int .i64 2),(3,.int .i64 8),(4,.int .i64 8),(5,.int .i64 2),(6,.int .i64 4),(7,.int .i64 1),(8,.int .i64 32)]).run prog w=_;go_simp
 refine FO.call (f:=44) hT G.dep rfl (wants rfl) rfl rfl func44 rfl rfl G.kM rfl (by simp[bF]) (by simp only[List.map_toArray,List.map_cons,List.map_nil,bw (L:=nT 14) (i:=20) (by decide),bw (L:=nT 14) (i:=21) (by decide)]) ?_;rw[show(#[Operand.tmp 20,Operand.tmp 21].map ((a.put (some 20) (pt wb)).put (some 21) (.agg (dr 64 2 2 8 8 2 4 1 32))).eval)=#[pt wb,.agg (dr 64 2 2 8 8 2 4 1 32)] from by rw[List.map_toArray];simp only[List.map_cons,List.map_nil,show((a.put (some 20) (pt wb)).put (some 21) (.agg (dr 64 2 2 8 8 2 4 1 32))).eval (.tmp 20)=_ from(pE (aq _ (by(try simp only[ak]);omega)) (by decide)),show((a.put (some 20) (pt wb)).put (some 21) (.agg (dr 64 2 2 8 8 2 4 1 32))).eval (.tmp 21)=_ from(aq _ (by(try simp only[ak]);omega))]];refine(bG.lift hT G.oM (R:=fun e w'=>e=.returned (.bool true)/\∃v' ps',ps'.length<=ps.length+1/\Lw W0 w' wb v' ps' n) (fun e u' τ ⟨h1,v',ps',h2,h3⟩=>⟨h1,v',ps',h2,h3.tp τ⟩) (fun e u' h=>⟨_,h.1⟩) fun τ=>BS 64 2 2 8 8 2 4 1 32 (hL.tp τ) hl).mono ?_;rintro e u' ⟨rfl,v',ps',h1,h2⟩;refine⟨_,rfl,?_⟩;refine FO.oW hT rfl (wants rfl) rfl rfl (by decide) (aq _ (by(try simp only[ak]);omega)) ?_;exact FO.nil (hQ _ _ v' ps' ((ak _ _ _).trans ((ak _ _ _).trans ((ak _ _ _).trans ((ak _ _ _).trans hs)))) ((put_defers _ _ _).trans ((put_defers _ _ _).trans ((put_defers _ _ _).trans ((put_defers _ _ _).trans hd)))) (pE (pE (pE (pE e0 (by decide)) (by decide)) (by decide)) (by decide)) (pE (pE (pE (pE e1 (by decide)) (by decide)) (by decide)) (by decide)) (pE (pE (pE (pE e2 (by decide)) (by decide)) (by decide)) (by decide)) (pE (pE (pE (pE e3 (by decide)) (by decide)) (by decide)) (by decide)) (pE (pE (pE (pE e9 (by decide)) (by decide)) (by decide)) (by decide)) (aq _ (by(try simp only[ak]);omega)) h1 h2)
theorem Yf(G:eU l)(hs:a.tmps.size=66)(hd:a.defers=[])(e0:a.eval (.tmp 0)=sv)(e1:a.eval (.tmp 1)=.int .i64 3)(e2:a.eval (.tmp 2)=.int .i64 10)(e3:a.eval (.tmp 3)=.bool true)(e9:a.eval (.tmp 9)=pt wb)(SL:a.eval (.tmp 10)=.bool true)
  (hQ:∀a',a'.tmps.size=66->a'.defers=[]->a'.eval (.tmp 0)=sv->a'.eval (.tmp 1)=.int .i64 3->a'.eval (.tmp 2)=.int .i64 10->a'.eval (.tmp 3)=.bool true->a'.eval (.tmp 9)=pt wb->a'.eval (.tmp 24)=.bool false->Q .normal a' u):FX nT 14 1 prog (p4 f14) Q a u:=by
 have hT:=G.step.door.fM.fit;rw[show p4 f14=.region 4 (opsOf (p4 f14)) false from by kernel_rfl];refine FX.region ?_;rw[show List.range (opsOf (p4 f14)).size=[0,1] from by kernel_rfl];refine FO.mv hT rfl (wants rfl) rfl rfl (by decide) SL ?_;refine FO.not hT rfl (wants rfl) rfl rfl (by decide) (aq _ (by(try simp only[ak]);omega)) ?_;exact FO.nil (hQ _ ((ak _ _ _).trans ((ak _ _ _).trans hs)) ((put_defers _ _ _).trans ((put_defers _ _ _).trans hd)) (pE (pE e0 (by decide)) (by decide)) (pE (pE e1 (by decide)) (by decide)) (pE (pE e2 (by decide)) (by decide)) (pE (pE e3 (by decide)) (by decide)) (pE (pE e9 (by decide)) (by decide)) (aq _ (by(try simp only[ak]);omega)))
theorem Yg(G:eU l)(hs:a.tmps.size=66)(hd:a.defers=[])(e0:a.eval (.tmp 0)=sv)(e1:a.eval (.tmp 1)=.int .i64 3)(e2:a.eval (.tmp 2)=.int .i64 10)(e3:a.eval (.tmp 3)=.bool true)(e9:a.eval (.tmp 9)=pt wb)
  (hQ:∀a',Ps a' sv wb 0->Q .normal a' u):FX nT 14 1 prog (p6 f14) Q a u:=by
 have hT:=G.step.door.fM.fit;rw[show p6 f14=.region 6 (opsOf (p6 f14)) false from by kernel_rfl];refine FX.region ?_;rw[show List.range (opsOf (p6 f14)).size=[0] from by kernel_rfl];refine FO.Qq hT rfl (wants rfl) rfl rfl (by kernel_rfl) ?_;exact FO.nil (hQ _ ⟨((ak _ _ _).trans hs),((put_defers _ _ _).trans hd),(pE e0 (by decide)),(pE e1 (by decide)),(pE e2 (by decide)),(pE e3 (by decide)),(pE e9 (by decide)),(aq _ (by(try simp only[ak]);omega))⟩)
theorem Yh{ad:Option Addr}{len cap:Nat}(G:eU l)(h:Ps a (.slice ad len cap) wb j)
  (hQ:∀a',Ps a' (.slice ad len cap) wb j->a'.eval (.tmp 28)=.bool (decide ((j:Int)<(len:Int)))->Q .normal a' u):FX nT 14 1 prog (p7 f14) Q a u:=by
 have hs:=h.size;have hT:=G.step.door.fM.fit;rw[show p7 f14=.region 7 (opsOf (p7 f14)) false from by kernel_rfl];refine FX.region ?_;rw[show List.range (opsOf (p7 f14)).size=[0,1,2,3] from by kernel_rfl];refine FO.mv hT rfl (wants rfl) rfl rfl (by decide) h.SM ?_;refine FO.ZN rfl (wants rfl) rfl rfl (by decide) (pE h.e0 (by decide)) ?_;refine FO.len rfl (wants rfl) rfl rfl (aq _ (by(try simp only[ak]);omega)) ?_;refine FO.lss hT rfl (wants rfl) rfl rfl (by decide) (by decide) (pE (pE (aq _ (by(try simp only[ak]);omega)) (by decide)) (by decide)) (aq _ (by(try simp only[ak]);omega)) ?_;exact FO.nil (hQ _ (Ps.put (Ps.put (Ps.put (Ps.put h (by decide)) (by decide)) (by decide)) (by decide)) (aq _ (by(try simp only[ak]);omega)))
theorem Yj{b off len cap:Nat}{obj:Obj}(G:eU l)(hlt:j<len)(zo:aR.Sz b=some obj)(hr:∀w:World,w.heap[b]? =some obj->JG w b (off+j*15) r)(h:Ps a (.slice (some ⟨b,off,none⟩) len cap) wb j)
  (hQ:∀a',Ps a' (.slice (some ⟨b,off,none⟩) len cap) wb j->a'.eval (.tmp 12)=pt u.heap.size->Q .normal a' (u.alloc (.cells (fE r.kd r.dm r.sz r.cl r.qu r.mx r.qn r.rt r.bu r.wk r.ou r.s r.x r.y r.on) 90))):FX nT 14 1 prog (p9 f14) Q a u:=by
 have hs:=h.size;have ea:∀(b n m:Nat),(⟨b,n,none⟩:Addr).add m=⟨b,n+m,none⟩:=fun b n m=>by simp[Addr.add]
 have hT:=G.step.door.fM.fit;rw[show p9 f14=.region 9 (opsOf (p9 f14)) false from by kernel_rfl];refine FX.region ?_;rw[show List.range (opsOf (p9 f14)).size=[0,1,2,3,4,5] from by kernel_rfl];refine FO.ZN rfl (wants rfl) rfl rfl (by decide) h.e0 ?_;refine FO.mv hT rfl (wants rfl) rfl rfl (by decide) (pE h.SM (by decide)) ?_;refine FO.idx rfl (wants rfl) rfl rfl (by decide) hlt (pE (aq _ (by(try simp only[ak]);omega)) (by decide)) (aq _ (by(try simp only[ak]);omega)) ?_;refine FO.see (t:=90) (x:=15) (vs:=(fE r.kd r.dm r.sz r.cl r.qu r.mx r.qn r.rt r.bu r.wk r.ou r.s r.x r.y r.on)) zo (fun w=>by go_simp) (fun w=>by go_simp) (fun w es=>by go_simp) rfl (wants rfl) rfl rfl (aq _ (by(try simp only[ak]);omega)) (addBlock _ _) rfl (fun w hw k hk=>?_) (fun w hw=>?_) (fun ρ=>?_) ?_
 ·obtain⟨c0,c1,c2,c3,c4,c5,c6,c7,c8,c9,ow,wJ,uo,fL,pI⟩:=hr w hw;rw[ea,ea];generalize off+j*15=o at*
  match k,hk with
   |0,_=>exact c0
   |1,_=>exact c1
   |2,_=>exact c2
   |3,_=>exact c3
   |4,_=>exact c4
   |5,_=>exact c5
   |6,_=>exact c6
   |7,_=>exact c7
   |8,_=>exact c8
   |9,_=>exact c9
   |10,_=>exact ow
   |11,_=>exact wJ
   |12,_=>exact uo
   |13,_=>exact fL
   |14,_=>exact pI.1
   |k+15,hk=>exact absurd hk (by simp)
 ·obtain⟨c0,c1,c2,c3,c4,c5,c6,c7,c8,c9,ow,wJ,uo,fL,pI⟩:=hr w hw;rw[ea];generalize off+j*15=o at*;go_simp
 ·refine .agg rfl fun k v v' h1 h2=>?_;rw[h1]at h2;cases h2;have hk:k<15:=(Array.getElem?_eq_some_iff.1 h1).1;have e:v=(fE r.kd r.dm r.sz r.cl r.qu r.mx r.qn r.rt r.bu r.wk r.ou r.s r.x r.y r.on)[k]:=((Array.getElem?_eq_some_iff.1 h1).2).symm;subst e
  match k,hk with
  |0,_=>constructor
  |1,_=>constructor
  |2,_=>constructor
  |3,_=>constructor
  |4,_=>constructor
  |5,_=>constructor
  |6,_=>constructor
  |7,_=>constructor
  |8,_=>constructor
  |9,_=>constructor
  |10,_=>constructor
  |11,_=>constructor
  |12,_=>constructor
  |13,_=>constructor
  |14,_=>constructor
  |k+15,hk=>omega
 refine FO.new (d:=12) (ob:=.cells (fE 0 0 0 0 0 0 0 0 0 0 0 ⟨#[]⟩ 0 0 false) 90) hT rfl (wants rfl) rfl rfl (fun w=>?_) ?_
 ·go_simp
 refine FO.sto (u1:=u.alloc (.cells (fE r.kd r.dm r.sz r.cl r.qu r.mx r.qn r.rt r.bu r.wk r.ou r.s r.x r.y r.on) 90)) hT rfl (wants rfl) rfl rfl (by decide) (by decide) (aq _ (by(try simp only[ak]);omega)) (pE (aq _ (by(try simp only[ak]);omega)) (by decide)) (fun τ=>?_) ?_
 ·show(Instr.storeAt 90 (pt (u.tp τ).heap.size) (.agg (fE r.kd r.dm r.sz r.cl r.qu r.mx r.qn r.rt r.bu r.wk r.ou r.s r.x r.y r.on))).run prog ((u.tp τ).alloc (.cells (fE 0 0 0 0 0 0 0 0 0 0 0 ⟨#[]⟩ 0 0 false) 90))=.ok () ((u.tp τ).alloc (.cells (fE r.kd r.dm r.sz r.cl r.qu r.mx r.qn r.rt r.bu r.wk r.ou r.s r.x r.y r.on) 90));generalize u.tp τ=x;go_simp
 exact FO.nil (hQ _ (Ps.put (Ps.put (Ps.put (Ps.put (Ps.put h (by decide)) (by decide)) (by decide)) (by decide)) (by decide)) (aq _ (by(try simp only[ak]);omega)))
theorem Ud(G:eU l)(hO:u.heap[ob]? =some (.cells (fE r.kd r.dm r.sz r.cl r.qu r.mx r.qn r.rt r.bu r.wk r.ou r.s r.x r.y r.on) 90 (0,0)))(h:Ps a sv wb j)(Kh:a.eval (.tmp 12)=pt ob)
  (hQ:∀a' x,(x=true\/(x=false/\3<=r.kd/\r.kd<=10))->Ps a' sv wb j->a'.eval (.tmp 12)=pt ob->a'.eval (.tmp 44)=.bool x->Q .normal a' u):FX nT 14 1 prog (LD f14) Q a u:=by
 have hs:=h.size;have c0:∀τ,(u.tp τ).cell? ⟨ob,0,none⟩=some (.int .i64 r.kd):=fun τ=>af (show(u.tp τ).heap[ob]? =_ from hO) rfl;have hT:=G.step.door.fM.fit;rw[show LD f14=.region 10 (opsOf (LD f14)) false from by kernel_rfl];refine FX.region ?_;rw[show List.range (opsOf (LD f14)).size=[0,1,2,3,4,5,6,7,8,9] from by kernel_rfl];refine FO.Uk (d:=35) (v:=pt ob) hT rfl (wants rfl) rfl rfl (by kernel_rfl) (by decide) Kh (fun w=>?_) ?_
 ·go_simp
 refine FO.ld (d:=36) (v:=.int .i64 r.kd) hT rfl (wants rfl) rfl rfl (by decide) (aq _ (by(try simp only[ak]);omega)) (fun τ=>?_) ?_
 ·have XQ:=c0 τ;go_simp
 refine FO.mv hT rfl (wants rfl) rfl rfl (by decide) (pE (pE h.e1 (by decide)) (by decide)) ?_;refine FO.lss hT rfl (wants rfl) rfl rfl (by decide) (by decide) (pE (aq _ (by(try simp only[ak]);omega)) (by decide)) (aq _ (by(try simp only[ak]);omega)) ?_;refine FO.mv hT rfl (wants rfl) rfl rfl (by decide) (aq _ (by(try simp only[ak]);omega)) ?_
 by_cases hk:r.kd<3
 ·skip
  refine FO.unwanted (d:=40) rfl (lF rfl rfl rfl (by(try simp only[ak]);omega) (by rw[show(!false)=decide (r.kd<3) from by simp[hk]];exact(aq _ (by(try simp only[ak]);omega)))) rfl ?_;refine FO.unwanted (d:=41) rfl (lF rfl rfl rfl (by(try simp only[ak]);omega) (by rw[show(!false)=decide (r.kd<3) from by simp[hk]];exact(pE (aq _ (by(try simp only[ak]);omega)) (by decide)))) rfl ?_;refine FO.unwanted (d:=42) rfl (lF rfl rfl rfl (by(try simp only[ak]);omega) (by rw[show(!false)=decide (r.kd<3) from by simp[hk]];exact(pE (pE (aq _ (by(try simp only[ak]);omega)) (by decide)) (by decide)))) rfl ?_;refine FO.unwanted (d:=43) rfl (lF rfl rfl rfl (by(try simp only[ak]);omega) (by rw[show(!false)=decide (r.kd<3) from by simp[hk]];exact(pE (pE (pE (aq _ (by(try simp only[ak]);omega)) (by decide)) (by decide)) (by decide)))) rfl ?_;refine FO.pick (b:=true) (v:=.bool true) hT rfl (wants rfl) rfl rfl (by kernel_rfl) (by decide) lG (bw (by decide)) (by rw[show true=decide (r.kd<3) from by simp[hk]];exact(pE (pE (pE (pE (aq _ (by(try simp only[ak]);omega)) (by decide)) (by decide)) (by decide)) (by decide))) ((if_pos rfl).trans eval_const) ?_;exact FO.nil (hQ _ true (.inl rfl) (Ps.put (Ps.put (Ps.put (Ps.put (Ps.put (Ps.put (Ps.put (Ps.put (Ps.put (Ps.put h (by decide)) (by decide)) (by decide)) (by decide)) (by decide)) (by decide)) (by decide)) (by decide)) (by decide)) (by decide)) (pE (pE (pE (pE (pE (pE (pE (pE (pE (pE Kh (by decide)) (by decide)) (by decide)) (by decide)) (by decide)) (by decide)) (by decide)) (by decide)) (by decide)) (by decide)) (aq _ (by(try simp only[ak]);omega)))
 ·refine FO.Uk (d:=40) (v:=pt ob) hT rfl (gK rfl rfl rfl (by(try simp only[ak]);omega) (by rw[show false=decide (r.kd<3) from by simp[hk]];exact(aq _ (by(try simp only[ak]);omega)))) rfl rfl (by kernel_rfl) (by decide) (pE (pE (pE (pE (pE Kh (by decide)) (by decide)) (by decide)) (by decide)) (by decide)) (fun w=>?_) ?_
  ·go_simp
  refine FO.ld (d:=41) (v:=.int .i64 r.kd) hT rfl (gK rfl rfl rfl (by(try simp only[ak]);omega) (by rw[show false=decide (r.kd<3) from by simp[hk]];exact(pE (aq _ (by(try simp only[ak]);omega)) (by decide)))) rfl rfl (by decide) (aq _ (by(try simp only[ak]);omega)) (fun τ=>?_) ?_
  ·have XQ:=c0 τ;go_simp
  refine FO.mv hT rfl (gK rfl rfl rfl (by(try simp only[ak]);omega) (by rw[show false=decide (r.kd<3) from by simp[hk]];exact(pE (pE (aq _ (by(try simp only[ak]);omega)) (by decide)) (by decide)))) rfl rfl (by decide) (pE (pE (pE (pE (pE (pE (pE h.e2 (by decide)) (by decide)) (by decide)) (by decide)) (by decide)) (by decide)) (by decide)) ?_;refine FO.gtr hT rfl (gK rfl rfl rfl (by(try simp only[ak]);omega) (by rw[show false=decide (r.kd<3) from by simp[hk]];exact(pE (pE (pE (aq _ (by(try simp only[ak]);omega)) (by decide)) (by decide)) (by decide)))) rfl rfl (by decide) (by decide) (pE (aq _ (by(try simp only[ak]);omega)) (by decide)) (aq _ (by(try simp only[ak]);omega)) ?_;refine FO.pick (b:=false) (v:=.bool (decide (10<r.kd))) hT rfl (wants rfl) rfl rfl (by kernel_rfl) (by decide) lG (bw (by decide)) (by rw[show false=decide (r.kd<3) from by simp[hk]];exact(pE (pE (pE (pE (aq _ (by(try simp only[ak]);omega)) (by decide)) (by decide)) (by decide)) (by decide))) ((if_neg (by decide)).trans (aq _ (by(try simp only[ak]);omega))) ?_;exact FO.nil (hQ _ (decide (10<r.kd)) (by by_cases hk2:10<r.kd<;>simp[hk2]<;>omega) (Ps.put (Ps.put (Ps.put (Ps.put (Ps.put (Ps.put (Ps.put (Ps.put (Ps.put (Ps.put h (by decide)) (by decide)) (by decide)) (by decide)) (by decide)) (by decide)) (by decide)) (by decide)) (by decide)) (by decide)) (pE (pE (pE (pE (pE (pE (pE (pE (pE (pE Kh (by decide)) (by decide)) (by decide)) (by decide)) (by decide)) (by decide)) (by decide)) (by decide)) (by decide)) (by decide)) (aq _ (by(try simp only[ak]);omega)))
theorem Ue(G:eU l)(hO:u.heap[ob]? =some (.cells (fE r.kd r.dm r.sz r.cl r.qu r.mx r.qn r.rt r.bu r.wk r.ou r.s r.x r.y r.on) 90 (0,0)))(hss:r.s.size<=maxLen)(h:Ps a sv wb j)(Kh:a.eval (.tmp 12)=pt ob)
  (hQ:∀a' u' τ,u'=u.tp τ->Ps a' sv wb j->a'.eval (.tmp 12)=pt ob->a'.eval (.tmp 13)=.bool (mO r.s)->Q .normal a' u'):FX nT 14 1 prog (VN f14) Q a u:=by
 have hs:=h.size;have c0:∀τ,(u.tp τ).cell? ⟨ob,11,none⟩=some (.string r.s):=fun τ=>af (show(u.tp τ).heap[ob]? =_ from hO) rfl;have hT:=G.step.door.fM.fit;rw[show VN f14=.region 11 (opsOf (VN f14)) false from by kernel_rfl];refine FX.region ?_;rw[show List.range (opsOf (VN f14)).size=[0,1,2,3] from by kernel_rfl];refine FO.Uk (d:=45) (v:=.pointer (some ⟨ob,11,none⟩)) hT rfl (wants rfl) rfl rfl (by kernel_rfl) (by decide) Kh (fun w=>?_) ?_
 ·go_simp
 refine FO.ld (d:=46) (v:=.string r.s) hT rfl (wants rfl) rfl rfl (by decide) (aq _ (by(try simp only[ak]);omega)) (fun τ=>?_) ?_
 ·have XQ:=c0 τ;go_simp
 refine FO.call (f:=45) hT G.dep rfl (wants rfl) rfl rfl func45 rfl rfl G.kQ rfl (by simp[bF]) (by simp only[List.map_toArray,List.map_cons,List.map_nil,bw (L:=nT 14) (i:=46) (by decide)]) ?_;rw[show(#[Operand.tmp 46].map ((a.put (some 45) (.pointer (some ⟨ob,11,none⟩))).put (some 46) (.string r.s)).eval)=#[.string r.s] from by rw[List.map_toArray];simp only[List.map_cons,List.map_nil,show((a.put (some 45) (.pointer (some ⟨ob,11,none⟩))).put (some 46) (.string r.s)).eval (.tmp 46)=_ from(aq _ (by(try simp only[ak]);omega))]];refine(bG.Pf hT G.oQ fun τ=>Iu r.s (u.tp τ) hss).mono ?_;rintro e u' ⟨rfl,τ,rfl⟩;refine⟨_,rfl,?_⟩;refine FO.oW hT rfl (wants rfl) rfl rfl (by decide) (aq _ (by(try simp only[ak]);omega)) ?_;exact FO.nil (hQ _ _ τ rfl (Ps.put (Ps.put (Ps.put (Ps.put h (by decide)) (by decide)) (by decide)) (by decide)) (pE (pE (pE (pE Kh (by decide)) (by decide)) (by decide)) (by decide)) (aq _ (by(try simp only[ak]);omega)))
theorem Uf{q:Bool}(G:eU l)(h:Ps a sv wb j)(Kh:a.eval (.tmp 12)=pt ob)(e13:a.eval (.tmp 13)=.bool q)
  (hQ:∀a',Ps a' sv wb j->a'.eval (.tmp 12)=pt ob->a'.eval (.tmp 52)=.bool (!q)->Q .normal a' u):FX nT 14 1 prog (LF f14) Q a u:=by
 have hs:=h.size;have hT:=G.step.door.fM.fit;rw[show LF f14=.region 12 (opsOf (LF f14)) false from by kernel_rfl];refine FX.region ?_;rw[show List.range (opsOf (LF f14)).size=[0,1,2,3,4] from by kernel_rfl];refine FO.mv hT rfl (wants rfl) rfl rfl (by decide) h.e3 ?_;refine FO.mv hT rfl (wants rfl) rfl rfl (by decide) (aq _ (by(try simp only[ak]);omega)) ?_;refine FO.mv hT rfl (gK rfl rfl rfl (by(try simp only[ak]);omega) (aq _ (by(try simp only[ak]);omega))) rfl rfl (by decide) (pE (pE e13 (by decide)) (by decide)) ?_;refine FO.not hT rfl (gK rfl rfl rfl (by(try simp only[ak]);omega) (pE (aq _ (by(try simp only[ak]);omega)) (by decide))) rfl rfl (by decide) (aq _ (by(try simp only[ak]);omega)) ?_;refine FO.pick (b:=true) hT rfl (wants rfl) rfl rfl (by kernel_rfl) (by decide) (bw (by decide)) lG (pE (pE (aq _ (by(try simp only[ak]);omega)) (by decide)) (by decide)) ((if_pos rfl).trans (aq _ (by(try simp only[ak]);omega))) ?_;exact FO.nil (hQ _ (Ps.put (Ps.put (Ps.put (Ps.put (Ps.put h (by decide)) (by decide)) (by decide)) (by decide)) (by decide)) (pE (pE (pE (pE (pE Kh (by decide)) (by decide)) (by decide)) (by decide)) (by decide)) (aq _ (by(try simp only[ak]);omega)))
theorem Ug(G:eU l)(hL:Lw W0 u wb v ps n)(hl:ps.length<=1099511627776)(hn:n<=281474976710656)(FV:3<=r.kd/\r.kd<=10)(hss:r.s.size<=140737488355328)(hq:fT r.s)(hO:u.heap[ob]? =some (.cells (fE r.kd r.dm r.sz r.cl r.qu r.mx r.qn r.rt r.bu r.wk r.ou r.s r.x r.y r.on) 90 (0,0)))(h:Ps a sv wb j)(Kh:a.eval (.tmp 12)=pt ob)
  (hQ:∀a' u',Ps a' sv wb j->a'.eval (.tmp 14)=.bool true->lW W0 wb n ps.length u'->Q .normal a' u'):FX nT 14 1 prog (VP f14) Q a u:=by
 have hs:=h.size;have hT:=G.step.door.fM.fit;rw[show VP f14=.region 13 (opsOf (VP f14)) false from by kernel_rfl];refine FX.region ?_;rw[show List.range (opsOf (VP f14)).size=[0,1,2,3] from by kernel_rfl];refine FO.mv hT rfl (wants rfl) rfl rfl (by decide) h.e9 ?_;refine FO.ld (d:=54) (v:=.agg (fE r.kd r.dm r.sz r.cl r.qu r.mx r.qn r.rt r.bu r.wk r.ou r.s r.x r.y r.on)) hT rfl (wants rfl) rfl rfl (by decide) (pE Kh (by decide)) (fun τ=>?_) ?_
 ·have ho':(u.tp τ).heap[ob]? =some (.cells (fE r.kd r.dm r.sz r.cl r.qu r.mx r.qn r.rt r.bu r.wk r.ou r.s r.x r.y r.on) 90 (0,0)):=hO;have c0:(u.tp τ).cell? ⟨ob,0,none⟩=some (.int .i64 r.kd):=af ho' rfl;have c1:(u.tp τ).cell? ⟨ob,1,none⟩=some (.int .i64 r.dm):=af ho' rfl;have c2:(u.tp τ).cell? ⟨ob,2,none⟩=some (.int .i64 r.sz):=af ho' rfl;have c3:(u.tp τ).cell? ⟨ob,3,none⟩=some (.int .i64 r.cl):=af ho' rfl;have c4:(u.tp τ).cell? ⟨ob,4,none⟩=some (.int .i64 r.qu):=af ho' rfl;have c5:(u.tp τ).cell? ⟨ob,5,none⟩=some (.int .i64 r.mx):=af ho' rfl;have c6:(u.tp τ).cell? ⟨ob,6,none⟩=some (.int .i64 r.qn):=af ho' rfl;have c7:(u.tp τ).cell? ⟨ob,7,none⟩=some (.int .i64 r.rt):=af ho' rfl;have c8:(u.tp τ).cell? ⟨ob,8,none⟩=some (.int .i64 r.bu):=af ho' rfl;have c9:(u.tp τ).cell? ⟨ob,9,none⟩=some (.int .i64 r.wk):=af ho' rfl;have ow:(u.tp τ).cell? ⟨ob,10,none⟩=some (.int .i64 r.ou):=af ho' rfl;have wJ:(u.tp τ).cell? ⟨ob,11,none⟩=some (.string r.s):=af ho' rfl;have uo:(u.tp τ).cell? ⟨ob,12,none⟩=some (.int .i64 r.x):=af ho' rfl;have fL:(u.tp τ).cell? ⟨ob,13,none⟩=some (.int .i64 r.y):=af ho' rfl;have pI:(u.tp τ).cell? ⟨ob,14,none⟩=some (.bool r.on):=af ho' rfl;clear ho';go_simp
 refine FO.call (f:=46) hT G.dep rfl (wants rfl) rfl rfl func46 rfl rfl G.kS rfl (by simp[bF]) (by simp only[List.map_toArray,List.map_cons,List.map_nil,bw (L:=nT 14) (i:=53) (by decide),bw (L:=nT 14) (i:=54) (by decide)]) ?_;rw[show(#[Operand.tmp 53,Operand.tmp 54].map ((a.put (some 53) (pt wb)).put (some 54) (.agg (fE r.kd r.dm r.sz r.cl r.qu r.mx r.qn r.rt r.bu r.wk r.ou r.s r.x r.y r.on))).eval)=#[pt wb,.agg (fE r.kd r.dm r.sz r.cl r.qu r.mx r.qn r.rt r.bu r.wk r.ou r.s r.x r.y r.on)] from by rw[List.map_toArray];simp only[List.map_cons,List.map_nil,show((a.put (some 53) (pt wb)).put (some 54) (.agg (fE r.kd r.dm r.sz r.cl r.qu r.mx r.qn r.rt r.bu r.wk r.ou r.s r.x r.y r.on))).eval (.tmp 53)=_ from(pE (aq _ (by(try simp only[ak]);omega)) (by decide)),show((a.put (some 53) (pt wb)).put (some 54) (.agg (fE r.kd r.dm r.sz r.cl r.qu r.mx r.qn r.rt r.bu r.wk r.ou r.s r.x r.y r.on))).eval (.tmp 54)=_ from(aq _ (by(try simp only[ak]);omega))]];refine(Sk G.step hL hl hn FV hss hq).mono ?_;rintro e u' ⟨rfl,t1⟩;refine⟨_,rfl,?_⟩;refine FO.oW hT rfl (wants rfl) rfl rfl (by decide) (aq _ (by(try simp only[ak]);omega)) ?_;exact FO.nil (hQ _ _ (Ps.put (Ps.put (Ps.put (Ps.put h (by decide)) (by decide)) (by decide)) (by decide)) (aq _ (by(try simp only[ak]);omega)) t1)
theorem Uh(G:eU l)(h:Ps a sv wb j)(e14:a.eval (.tmp 14)=.bool true)
  (hQ:∀a',Ps a' sv wb j->a'.eval (.tmp 57)=.bool false->Q .normal a' u):FX nT 14 1 prog (LG f14) Q a u:=by
 have hs:=h.size;have hT:=G.step.door.fM.fit;rw[show LG f14=.region 14 (opsOf (LG f14)) false from by kernel_rfl];refine FX.region ?_;rw[show List.range (opsOf (LG f14)).size=[0,1] from by kernel_rfl];refine FO.mv hT rfl (wants rfl) rfl rfl (by decide) e14 ?_;refine FO.not hT rfl (wants rfl) rfl rfl (by decide) (aq _ (by(try simp only[ak]);omega)) ?_;exact FO.nil (hQ _ (Ps.put (Ps.put h (by decide)) (by decide)) (aq _ (by(try simp only[ak]);omega)))
theorem Yi(G:eU l)(hj:j<=1099511627777)(h:Ps a sv wb j)
  (hQ:∀a',Ps a' sv wb (j+1)->Q .normal a' u):FX nT 14 1 prog (p8 f14) Q a u:=by
 have hs:=h.size;have hT:=G.step.door.fM.fit;rw[show p8 f14=.region 8 (opsOf (p8 f14)) false from by kernel_rfl];refine FX.region ?_;rw[show List.range (opsOf (p8 f14)).size=[0,1,2] from by kernel_rfl];refine FO.mv hT rfl (wants rfl) rfl rfl (by decide) h.SM ?_;refine FO.incr hT rfl (wants rfl) rfl rfl (by decide) (aq _ (by(try simp only[ak]);omega)) (by omega) ?_;refine FO.oW hT rfl (wants rfl) rfl rfl (by decide) (aq _ (by(try simp only[ak]);omega)) ?_;exact FO.nil (hQ _ ⟨((ak _ _ _).trans ((ak _ _ _).trans ((ak _ _ _).trans hs))),((put_defers _ _ _).trans ((put_defers _ _ _).trans ((put_defers _ _ _).trans h.defers))),(pE (pE (pE h.e0 (by decide)) (by decide)) (by decide)),(pE (pE (pE h.e1 (by decide)) (by decide)) (by decide)),(pE (pE (pE h.e2 (by decide)) (by decide)) (by decide)),(pE (pE (pE h.e3 (by decide)) (by decide)) (by decide)),(pE (pE (pE h.e9 (by decide)) (by decide)) (by decide)),(aq _ (by(try simp only[ak]);omega))⟩)
theorem Ui(G:eU l)(hL:Lw W0 u wb v ps n)(hl:ps.length<=1099511627777)(hn:n<=281474976710656)(h:Ps a sv wb j)
  (hQ:∀a' u' ps',Ps a' sv wb j->a'.eval (.tmp 15)=.bool true->Lw W0 u' wb v ps' n->Q .normal a' u'):FX nT 14 1 prog (RM f14) Q a u:=by
 have hs:=h.size;have hT:=G.step.door.fM.fit;rw[show RM f14=.region 16 (opsOf (RM f14)) false from by kernel_rfl];refine FX.region ?_;rw[show List.range (opsOf (RM f14)).size=[0,1,2,3] from by kernel_rfl];refine FO.mv hT rfl (wants rfl) rfl rfl (by decide) h.e9 ?_;refine FO.mv hT rfl (wants rfl) rfl rfl (by decide) (pE h.e2 (by decide)) ?_;refine FO.call (f:=47) hT G.dep rfl (wants rfl) rfl rfl func47 rfl rfl G.kE rfl (by simp[bF]) (by simp only[List.map_toArray,List.map_cons,List.map_nil,bw (L:=nT 14) (i:=58) (by decide),bw (L:=nT 14) (i:=59) (by decide)]) ?_;rw[show(#[Operand.tmp 58,Operand.tmp 59].map ((a.put (some 58) (pt wb)).put (some 59) (.int .i64 10)).eval)=#[pt wb,.int .i64 10] from by rw[List.map_toArray];simp only[List.map_cons,List.map_nil,show((a.put (some 58) (pt wb)).put (some 59) (.int .i64 10)).eval (.tmp 58)=_ from(pE (aq _ (by(try simp only[ak]);omega)) (by decide)),show((a.put (some 58) (pt wb)).put (some 59) (.int .i64 10)).eval (.tmp 59)=_ from(aq _ (by(try simp only[ak]);omega))]];refine(QG G.ends hL hl hn).mono ?_;rintro e u' ⟨rfl,ps',t1⟩;refine⟨_,rfl,?_⟩;refine FO.oW hT rfl (wants rfl) rfl rfl (by decide) (aq _ (by(try simp only[ak]);omega)) ?_;exact FO.nil (hQ _ _ ps' (Ps.put (Ps.put (Ps.put (Ps.put h (by decide)) (by decide)) (by decide)) (by decide)) (aq _ (by(try simp only[ak]);omega)) t1)
theorem Uj(G:eU l)(hL:Lw W0 u wb v ps n)(h:Ps a sv wb j)(e15:a.eval (.tmp 15)=.bool true)
  (hQ:∀a' τ,a'.defers=[]->a'.eval (.tmp 8)=.bool true->Q .normal a' (u.tp τ)):FX nT 14 1 prog (Ez f14) Q a u:=by
 have hs:=h.size;have hT:=G.step.door.fM.fit;rw[show Ez f14=.region 17 (opsOf (Ez f14)) false from by kernel_rfl];refine FX.region ?_;rw[show List.range (opsOf (Ez f14)).size=[0,1,2,3,4,5] from by kernel_rfl];refine FO.mv hT rfl (wants rfl) rfl rfl (by decide) e15 ?_;refine FO.mv hT rfl (wants rfl) rfl rfl (by decide) (aq _ (by(try simp only[ak]);omega)) ?_;refine FO.mv hT rfl (gK rfl rfl rfl (by(try simp only[ak]);omega) (aq _ (by(try simp only[ak]);omega))) rfl rfl (by decide) (pE (pE h.e9 (by decide)) (by decide)) ?_;refine FO.call (f:=48) hT G.dep rfl (gK rfl rfl rfl (by(try simp only[ak]);omega) (pE (aq _ (by(try simp only[ak]);omega)) (by decide))) rfl rfl func48 rfl rfl G.kL rfl (by simp[bF]) (by simp only[List.map_toArray,List.map_cons,List.map_nil,bw (L:=nT 14) (i:=63) (by decide)]) ?_;rw[show(#[Operand.tmp 63].map (((a.put (some 61) (.bool true)).put (some 62) (.bool true)).put (some 63) (pt wb)).eval)=#[pt wb] from by rw[List.map_toArray];simp only[List.map_cons,List.map_nil,show(((a.put (some 61) (.bool true)).put (some 62) (.bool true)).put (some 63) (pt wb)).eval (.tmp 63)=_ from(aq _ (by(try simp only[ak]);omega))]];refine(bG.Pf hT G.oL fun τ=>Eo wb (u.tp τ) (af (hL.tp τ).box rfl) (af (hL.tp τ).box rfl)).mono ?_;rintro e u' ⟨rfl,τ,rfl⟩;refine⟨_,rfl,?_⟩;refine FO.pick (b:=true) hT rfl (wants rfl) rfl rfl (by kernel_rfl) (by decide) (bw (by decide)) lG (pE (pE (aq _ (by(try simp only[ak]);omega)) (by decide)) (by decide)) ((if_pos rfl).trans (aq _ (by(try simp only[ak]);omega))) ?_;refine FO.oW hT rfl (wants rfl) rfl rfl (by decide) (aq _ (by(try simp only[ak]);omega)) ?_;exact FO.nil (hQ _ τ ((put_defers _ _ _).trans ((put_defers _ _ _).trans ((put_defers _ _ _).trans ((put_defers _ _ _).trans ((put_defers _ _ _).trans ((put_defers _ _ _).trans h.defers)))))) (aq _ (by(try simp only[ak]);omega)))
end
end
end Go.Proofs.YtpobhljcainmdaaGreat
