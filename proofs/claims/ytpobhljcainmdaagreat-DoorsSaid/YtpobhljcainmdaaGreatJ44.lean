/- Proved here: a part of what Doors keeps (La3, La4, La5). -/
import Derived.Test.YtpobhljcainmdaaGreatJ43
set_option maxRecDepth 100000
set_option maxHeartbeats 8000000
set_option linter.all false
namespace Go.Proofs.YtpobhljcainmdaaGreat
section
open Go.Proofs.Tryz
open Go Go.Conc Go.RowKit
attribute [local go_sem ↓] Go.wp_at_zero Go.wp_at_succ
attribute [local go_sem] au aj
theorem uW(a:Act)(hs:a.tmps.size=72)(hd:a.defers=[]):∃x:Nat->Value,a=⟨#[x 0,x 1,x 2,x 3,x 4,x 5,x 6,x 7,x 8,x 9,x 10,x 11,x 12,x 13,x 14,x 15,x 16,x 17,x 18,x 19,x 20,x 21,x 22,x 23,x 24,x 25,x 26,x 27,x 28,x 29,x 30,x 31,x 32,x 33,x 34,x 35,x 36,x 37,x 38,x 39,x 40,x 41,x 42,x 43,x 44,x 45,x 46,x 47,x 48,x 49,x 50,x 51,x 52,x 53,x 54,x 55,x 56,x 57,x 58,x 59,x 60,x 61,x 62,x 63,x 64,x 65,x 66,x 67,x 68,x 69,x 70,x 71],[]⟩:=by
 refine⟨fun i=>a.tmps.toList.getD i undef,?_⟩;obtain⟨⟨l⟩,d⟩:=a;obtain rfl:d=[]:=hd;have h:=uV l;have hl:l.length=72:=hs;rw[hl]at h;have h2:(⟨⟨l⟩,[]⟩:Act)=⟨⟨(List.range 72).map fun i=>l.getD i undef⟩,[]⟩:=by rw[<-h]
 exact h2.trans (by kernel_rfl)
def iI(k:Int)(n:Nat):Nat:=if k<0\/(n:Int)<=k then 0 else k.toNat
theorem LH{k:Int}{n:Nat}(h:0<n):iI k n<n:=by unfold iI;split<;>omega
theorem Hy(k:Int)(n:Nat)(w:World):Calls prog 84 #[.int .i64 k,.int .i64 n] w fun e w'=>e=.returned (.int .i64 (iI k n))/\w'=w:=by
 by_cases h0:k<0
 ·have b0:decide (k<0)=true:=by simpa using h0
  have HE:Hid (iI k n=0):=if_pos (.inl h0);go_enter func84,ntmps84;go_wp2;go_ret;exact⟨by rw[HE.out];rfl,rfl⟩
 ·have b0:decide (k<0)=false:=by simpa using h0
  by_cases h1:(n:Int)<=k
  ·have b1:decide ((n:Int)<=k)=true:=by simpa using h1
   have HE:Hid (iI k n=0):=if_pos (.inr h1);go_enter func84,ntmps84;go_wp2;go_ret;exact⟨by rw[HE.out];rfl,rfl⟩
  ·have b1:decide ((n:Int)<=k)=false:=by simpa using h1
   have HE:Hid ((iI k n:Int)=k):=by show _=_;unfold iI;rw[if_neg (by omega)];omega
   clear h0 h1;go_enter func84,ntmps84;go_wp2;go_ret;exact⟨by rw[HE.out];rfl,rfl⟩
def s9(fn:Func):Code:=cr (gM fn)
def Xy(fn:Func):Code:=cr (bR (gM fn))
def Xz(fn:Func):Code:=cr (cr (bR (bR (gM fn))))
def Tx(fn:Func):Code:=ct (bR (cr (bR (bR (gM fn)))))
section
variable [aR] {W0 w w1 w2 u:World} {wb ob n pb:Nat} {v:Value} {ps:List Pa} {a:Act} {s:ByteArray} {x y kd dm sz cl qu mx qn rt bu wk ou:Int} {on:Bool}
structure Sl(a:Act)(wb ob:Nat):Prop where
 size:a.tmps.size=72
 defers:a.defers=[]
 e0:a.eval (.tmp 0)=pt wb
 e3:a.eval (.tmp 3)=pt ob
theorem Sg(hs:a.tmps.size=72)(hd:a.defers=[])(e0:a.eval (.tmp 0)=pt wb)(e1:a.eval (.tmp 1)=.agg (fE kd dm sz cl qu mx qn rt bu wk ou s x y on)):
  (Jr f46).wp prog (fun e a' w'=>e=.normal/\a'.tmps.size=72/\a'.defers=[]/\a'.eval (.tmp 0)=pt wb/\a'.eval (.tmp 3)=pt w.heap.size/\w'=w.alloc (.cells (fE kd dm sz cl qu mx qn rt bu wk ou s x y on) 90)) a w:=by
 obtain⟨z,rfl⟩:=uW a hs hd;have jf:z 0=pt wb:=e0;have TS:z 1=.agg (fE kd dm sz cl qu mx qn rt bu wk ou s x y on):=e1;rw[jf,TS];clear hs hd e0 jf e1 TS;simp only[Jr,dB,cr,Option.getD_some,f46];go_wp2
theorem Si(hk:w.cell? ⟨ob,0,none⟩=some (.int .i64 kd))(h:Sl a wb ob):
  (Js f46).wp prog (fun e a' w'=>e=.normal/\a'.tmps.size=72/\a'.defers=[]/\a'.eval (.tmp 0)=pt wb/\a'.eval (.tmp 3)=pt ob/\a'.eval (.tmp 8)=.int .i64 kd/\w'=w) a w:=by
 obtain⟨z,rfl⟩:=uW a h.size h.defers;have jf:z 0=pt wb:=h.e0;have jA:z 3=pt ob:=h.e3;rw[jf,jA];clear h jf jA;simp only[Js,dB,cr,bR,Option.getD_some,f46];go_wp2
def lW(W0:World)(wb n:Nat)(L:Nat)(w':World):Prop:=∃v' ps',ps'.length<=L+1/\Lw W0 w' wb v' ps' (n+1)
theorem LZ(hL:Lw W0 w wb v ps n)(hl:ps.length<=1099511627776)(ho:w.heap[ob]? =some (.cells (fE kd dm sz cl qu mx qn rt bu wk ou s x y on) 90 (0,0)))(h:Sl a wb ob):
  (arm (nx (nx (fB f46)))).wp prog (fun e a' w'=>e=.ret/\a'.defers=[]/\a'.eval (.tmp 4)=.bool true/\lW W0 wb n ps.length w') a w:=by
 obtain⟨z,rfl⟩:=uW a h.size h.defers;have jf:z 0=pt wb:=h.e0;have jA:z 3=pt ob:=h.e3;rw[jf,jA];clear h jf jA;have c2:w.cell? ⟨ob,2,none⟩=some (.int .i64 sz):=af ho rfl;have c3:w.cell? ⟨ob,3,none⟩=some (.int .i64 cl):=af ho rfl;have c4:w.cell? ⟨ob,4,none⟩=some (.int .i64 qu):=af ho rfl;have c5:w.cell? ⟨ob,5,none⟩=some (.int .i64 mx):=af ho rfl;have c6:w.cell? ⟨ob,6,none⟩=some (.int .i64 qn):=af ho rfl;have c7:w.cell? ⟨ob,7,none⟩=some (.int .i64 rt):=af ho rfl;have c8:w.cell? ⟨ob,8,none⟩=some (.int .i64 bu):=af ho rfl;have c9:w.cell? ⟨ob,9,none⟩=some (.int .i64 wk):=af ho rfl;have ow:w.cell? ⟨ob,10,none⟩=some (.int .i64 ou):=af ho rfl;have HL:Hid (Lw W0 w wb v ps n):=hL;clear ho hL;simp only[arm,nx,fB,dB,ct,cf,cr,bR,kN,Option.getD_some,f46];go_wp2_with (go_at_call 44;refine(BS sz cl qu mx qn rt bu wk ou HL.out hl).mono ?_;rintro e w1 ⟨rfl,h1⟩;have H1:Hid (∃v' ps',ps'.length<=ps.length+1/\Lw W0 w1 wb v' ps' n):=h1;clear h1);obtain⟨v',ps',g1,g2⟩:=H1.out;exact⟨v',ps',g1,g2.mono (Nat.le_succ _)⟩
theorem Ou(hL:Lw W0 w wb v ps n)(h0:ps.length=0)(h:Sl a wb ob):
  (s9 f46).wp prog (fun e a' w'=>e=.ret/\a'.defers=[]/\a'.eval (.tmp 4)=.bool true/\lW W0 wb n ps.length w') a w:=by
 obtain⟨z,rfl⟩:=uW a h.size h.defers;have jf:z 0=pt wb:=h.e0;rw[jf];clear h jf
 have hv:v=.slice none 0 0\/∃g cap,v=.slice (some ⟨g,0,none⟩) 0 cap:=by
  rcases hL.row.2 with⟨h,_⟩|⟨g,cap,cur,h,_⟩
  ·exact .inl h
  ·rw[h0]at h;exact .inr ⟨g,cap,h⟩
 have c0:w.cell? ⟨wb,0,none⟩=some v:=af hL.box rfl;have HL:Hid (lW W0 wb n ps.length w):=⟨v,ps,Nat.le_succ _,hL.mono (Nat.le_succ _)⟩;clear hL h0;simp only[s9,gM,dB,cr,bR,Option.getD_some,f46];rcases hv with rfl|⟨g,cap,rfl⟩
 ·go_wp2;exact HL.out
 ·go_wp2;exact HL.out
theorem Ov(hL:Lw W0 w wb v ps n)(h0:0<ps.length)(hk:w.cell? ⟨ob,0,none⟩=some (.int .i64 kd))(FV:1<=kd/\kd<=15)(h:Sl a wb ob):
  (s9 f46).wp prog (fun e a' w'=>e=.normal/\a'.tmps.size=72/\a'.defers=[]/\a'.eval (.tmp 0)=pt wb/\a'.eval (.tmp 3)=pt ob/\w'=w) a w:=by
 obtain⟨z,rfl⟩:=uW a h.size h.defers;have jf:z 0=pt wb:=h.e0;have jA:z 3=pt ob:=h.e3;rw[jf,jA];clear h jf jA
 obtain⟨g,cap,rfl⟩:∃g cap,v=.slice (some ⟨g,0,none⟩) ps.length cap:=by
  rcases hL.row.2 with⟨_,h⟩|⟨g,cap,cur,h,_⟩
  ·omega
  ·exact⟨g,cap,h⟩
 have c0:w.cell? ⟨wb,0,none⟩=some (.slice (some ⟨g,0,none⟩) ps.length cap):=af hL.box rfl;have b0:((ps.length:Int)==0)=false:=beq_eq_false_iff_ne.2 (by omega);have b1:decide (kd<1)=false:=by simp;omega
 have b2:decide (15<kd)=false:=by simp;omega
 clear hL;generalize ps.length=L at*;simp only[s9,gM,dB,cr,bR,Option.getD_some,f46];go_wp2
theorem RV(hL:Lw W0 w wb v ps n)(h0:0<ps.length)(hl:ps.length<=1099511627776)(ho:w.heap[ob]? =some (.cells (fE kd dm sz cl qu mx qn rt bu wk ou s x y on) 90 (0,0)))(h:Sl a wb ob):
  (Xy f46).wp prog (fun e a' w'=>e=.normal/\a'.tmps.size=72/\a'.defers=[]/\a'.eval (.tmp 0)=pt wb/\a'.eval (.tmp 3)=pt ob/\(∃p,ps[iI dm ps.length]? =some p/\a'.eval (.tmp 6)=pt p.pb)/\∃m,w'=w.drewN m) a w:=by
 obtain⟨z,rfl⟩:=uW a h.size h.defers;have jf:z 0=pt wb:=h.e0;have jA:z 3=pt ob:=h.e3;rw[jf,jA];clear h jf jA
 obtain⟨g,cap,rfl⟩:∃g cap,v=.slice (some ⟨g,0,none⟩) ps.length cap:=by
  rcases hL.row.2 with⟨_,h⟩|⟨g,cap,cur,h,_⟩
  ·omega
  ·exact⟨g,cap,h⟩
 have hlt:=LH (k:=dm) h0;obtain⟨p,hp⟩:∃p,ps[iI dm ps.length]? =some p:=⟨ps[iI dm ps.length],by rw[List.getElem?_eq_getElem]⟩
 have cp:w.cell? ⟨g,iI dm ps.length,none⟩=some (pt p.pb):=by rw[hL.row.cellAt _ (by omega),List.getElem?_map,hp];rfl
 have c0:w.cell? ⟨wb,0,none⟩=some (.slice (some ⟨g,0,none⟩) ps.length cap):=af hL.box rfl;have o1:w.cell? ⟨ob,1,none⟩=some (.int .i64 dm):=af ho rfl;have HP:Hid (∃q,ps[iI dm ps.length]? =some q/\pt p.pb=pt q.pb):=⟨p,hp,rfl⟩;have HK:Hid (∀W,Calls prog 84 #[.int .i64 dm,.int .i64 ps.length] W fun e w'=>e=.returned (.int .i64 (iI dm ps.length))/\w'=W):=fun W=>Hy dm ps.length W;clear hL ho hp;generalize hj:iI dm ps.length=j at*;generalize hLn:ps.length=L at*;clear hj;simp only[Xy,gM,dB,cr,bR,Option.getD_some,f46];go_wp2
 go_quiet ((go_at_call 84;exact Calls.quiet_of_same (HK.out _)))
 exact⟨rfl,rfl,rfl,rfl,rfl,HP.out,nq,rfl⟩
theorem RX(hk:w.cell? ⟨ob,0,none⟩=some (.int .i64 kd))(FV:kd<=10)(e6:a.eval (.tmp 6)=pt pb)(h:Sl a wb ob):
  (Xz f46).wp prog (fun e a' w'=>e=.normal/\a'.tmps.size=72/\a'.defers=[]/\a'.eval (.tmp 3)=pt ob/\a'.eval (.tmp 6)=pt pb/\a'.eval (.tmp 64)=.bool true/\w'=w) a w:=by
 obtain⟨z,rfl⟩:=uW a h.size h.defers;have jA:z 3=pt ob:=h.e3;have e6':z 6=pt pb:=e6;rw[jA,e6'];have b1:decide (kd<=10)=true:=by simpa using FV
 clear h jA e6' e6;simp only[Xz,gM,dB,cr,bR,Option.getD_some,f46];go_wp2
end
end
section
open Go.Proofs.Tryz
open Go Go.Conc Go.RowKit
open Go.ConcR (Payload)
attribute [local go_sem ↓] Go.wp_at_zero Go.wp_at_succ
structure Fz[aR](l:List FuncId):Prop where
 door:AJ l
 kD:aR.known 85
 o0:dM prog l false (Jr f46)=true
 o1:dM prog l false (Js f46)=true
 o3:dM prog l false (arm (nx (nx (fB f46))))=true
 o9:dM prog l false (s9 f46)=true
 o11:dM prog l false (Xy f46)=true
 Xw:dM prog l false (Xz f46)=true
section
variable [aR] {W0 w w1 w2 u:World} {wb ob n pb:Nat} {v:Value} {ps:List Pa} {a:Act} {s:ByteArray} {x y kd dm sz cl qu mx qn rt bu wk ou:Int} {on:Bool} {l:List FuncId} {L:Nat}
theorem lW.tp(h:lW W0 wb n L w)(τ:Tape):lW W0 wb n L (w.tp τ):=by obtain⟨v',ps',h1,h2⟩:=h;exact⟨v',ps',h1,h2.tp τ⟩
def lU(W0:World)(wb n L:Nat)(e:Exit)(a':Act)(u':World):Prop:=e=.ret/\a'.defers=[]/\a'.eval (.tmp 4)=.bool true/\lW W0 wb n L u'
theorem Ms:tZ (lU W0 wb n L):=fun e a u τ ⟨h1,h2,h3,h4⟩=>⟨h1,h2,h3,h4.tp τ⟩
theorem wj{P:Program}{c:Code}(hT:Fit P l)(hc:dM P l false c=true)(h:∀τ,c.wp P (fun e a' w'=>e=.ret/\a'.defers=[]/\a'.eval (.tmp 4)=.bool true/\lW W0 wb n L w') a (u.tp τ)):WX P c (lU W0 wb n L) a u:=
 WX.lift hT hc Ms (fun x a u h=>by cases h.1) (fun a u h=>by cases h.1) h
variable [Payload]
theorem VZ(G:Fz l)(hL:Lw W0 u wb v ps n){p:Pa}{k:Nat}(hp:ps[k]? =some p)(hn:n<=281474976710656)(hss:s.size<=140737488355328)(hq:fT s)(ho:u.heap[ob]? =some (.cells (fE kd dm sz cl qu mx qn rt bu wk ou s x y on) 90 (0,0)))(hs:a.tmps.size=72)(hd:a.defers=[])(e3:a.eval (.tmp 3)=pt ob)(e6:a.eval (.tmp 6)=pt p.pb):
  WX prog (Tx f46) (lU W0 wb n ps.length) a u:=by
 have hT:=G.door.fM.fit;have hm:p∈ps:=List.mem_of_getElem? hp;have hc:Tx f46=.seq (.region 13 (opsOf (cr (Tx f46))) false) .ret:=by kernel_rfl
 rw[hc];refine WX.seq (WX.region ?_);rw[show List.range (opsOf (cr (Tx f46))).size=[0,1,2,3] from by kernel_rfl];refine OX.mv hT rfl rfl rfl rfl e6 ?_;generalize Py:a.put (some 65) (pt p.pb)=a1;have f65:a1.eval (.tmp 65)=pt p.pb:=Py▸aq _ (by omega);have k1:Kp 64 a a1:=Py▸Kp.put a (by decide) _;refine OX.ld (v:=.agg (fE kd dm sz cl qu mx qn rt bu wk ou s x y on)) hT rfl rfl rfl rfl ((k1.at_ 3 (by decide)).trans e3) (fun τ=>?_) ?_
 ·have ho':(u.tp τ).heap[ob]? =some (.cells (fE kd dm sz cl qu mx qn rt bu wk ou s x y on) 90 (0,0)):=ho;have c0:(u.tp τ).cell? ⟨ob,0,none⟩=some (.int .i64 kd):=af ho' rfl;have c1:(u.tp τ).cell? ⟨ob,1,none⟩=some (.int .i64 dm):=af ho' rfl;have c2:(u.tp τ).cell? ⟨ob,2,none⟩=some (.int .i64 sz):=af ho' rfl;have c3:(u.tp τ).cell? ⟨ob,3,none⟩=some (.int .i64 cl):=af ho' rfl;have c4:(u.tp τ).cell? ⟨ob,4,none⟩=some (.int .i64 qu):=af ho' rfl;have c5:(u.tp τ).cell? ⟨ob,5,none⟩=some (.int .i64 mx):=af ho' rfl;have c6:(u.tp τ).cell? ⟨ob,6,none⟩=some (.int .i64 qn):=af ho' rfl;have c7:(u.tp τ).cell? ⟨ob,7,none⟩=some (.int .i64 rt):=af ho' rfl;have c8:(u.tp τ).cell? ⟨ob,8,none⟩=some (.int .i64 bu):=af ho' rfl;have c9:(u.tp τ).cell? ⟨ob,9,none⟩=some (.int .i64 wk):=af ho' rfl;have ow:(u.tp τ).cell? ⟨ob,10,none⟩=some (.int .i64 ou):=af ho' rfl;have wJ:(u.tp τ).cell? ⟨ob,11,none⟩=some (.string s):=af ho' rfl;have uo:(u.tp τ).cell? ⟨ob,12,none⟩=some (.int .i64 x):=af ho' rfl;have fL:(u.tp τ).cell? ⟨ob,13,none⟩=some (.int .i64 y):=af ho' rfl;have pI:(u.tp τ).cell? ⟨ob,14,none⟩=some (.bool on):=af ho' rfl;clear ho';go_simp
 generalize MO:a1.put (some 66) (.agg (fE kd dm sz cl qu mx qn rt bu wk ou s x y on))=a2;have f66:a2.eval (.tmp 66)=.agg (fE kd dm sz cl qu mx qn rt bu wk ou s x y on):=MO▸aq _ (by rw[k1.size];omega);have g65:a2.eval (.tmp 65)=pt p.pb:=by rw[<-MO,nj _ (by decide)];exact f65
 have k2:Kp 64 a a2:=k1.trans (MO▸Kp.put a1 (by decide) _);refine OX.call (f:=85) hT rfl rfl rfl func85 rfl rfl G.kD (by simp[bF]) ?_;rw[show(#[Operand.tmp 65,Operand.tmp 66].map a2.eval)=#[pt p.pb,.agg (fE kd dm sz cl qu mx qn rt bu wk ou s x y on)] from by rw[List.map_toArray];simp only[List.map_cons,List.map_nil,g65,f66]];refine(Kg (φ:=fun f'=>f'.Ok (n+1)) G.door (hL.duo p hm) (hL.ok p hm) hn hss hq (fun _ h _=>h)).mono ?_;rintro e u1 ⟨rfl,t1⟩;refine⟨_,rfl,?_⟩;show OX prog (opsOf (cr (Tx f46))) _ [3] (a2.put (some 67) (.bool true)) u1;have k3:Kp 64 a (a2.put (some 67) (.bool true)):=k2.trans (Kp.put a2 (by decide) _);refine OX.oW (d:=4) (k:=67) (v:=.bool true) hT rfl rfl rfl rfl (aq _ (by rw[k2.size];omega)) (OX.nil ?_);show WX prog .ret (lU W0 wb n ps.length) _ u1;refine WX.ret ⟨rfl,?_,aq _ (by rw[k3.size];omega),?_⟩
 ·rw[put_defers,k3.defers];exact hd
 ·obtain⟨ps',g1,g2⟩:=hL.step hp t1;exact⟨v,ps',by omega,g2⟩
theorem Sk(G:Fz l)(h:Lw W0 u wb v ps n)(hl:ps.length<=1099511627776)(hn:n<=281474976710656)(FV:3<=kd/\kd<=10)(hss:s.size<=140737488355328)(hq:fT s):
  bG prog 46 #[pt wb,.agg (fE kd dm sz cl qu mx qn rt bu wk ou s x y on)] u fun e u'=>e=.returned (.bool true)/\lW W0 wb n ps.length u':=by
 have hT:=G.door.fM.fit;refine bG.Gh func46 (c:=.seq (Jr f46) (.seq (.seq (Js f46) (.block 0 (fB f46))) (gM f46))) (by kernel_rfl) ?_;generalize ha:(⟨#[pt wb,Value.agg (fE kd dm sz cl qu mx qn rt bu wk ou s x y on)]++Array.replicate (f46.ntmps - #[pt wb,Value.agg (fE kd dm sz cl qu mx qn rt bu wk ou s x y on)].size) undef,[]⟩:Act)=a;have hs:a.tmps.size=72:=by rw[<-ha];simp
 have hd:a.defers=[]:=by rw[<-ha]
 have e0:a.eval (.tmp 0)=pt wb:=by rw[<-ha];kernel_rfl
 have e1:a.eval (.tmp 1)=.agg (fE kd dm sz cl qu mx qn rt bu wk ou s x y on):=by rw[<-ha];kernel_rfl
 clear ha
 have fin:∀(e:Exit) (a':Act) (u':World),lU W0 wb n ps.length e a' u'->(e=.normal\/e=.ret)/\a'.defers=[]/\∃v,(results f46 a'.tmps).run prog u'=.ok v u'/\(Ending.returned v=.returned (.bool true)/\lW W0 wb n ps.length u'):=by rintro e a' u' ⟨rfl,h2,h3,h4⟩;have h3':=ev h3;refine⟨.inr rfl,h2,.bool true,?_,rfl,h4⟩;simp[results,results46,go_sem,h3']
 refine WX.mono (Q:=lU W0 wb n ps.length) ?_ fin;refine WX.seq ((WX.lift (Q:=fun e a' u'=>e=.normal/\a'.tmps.size=72/\a'.defers=[]/\a'.eval (.tmp 0)=pt wb/\a'.eval (.tmp 3)=pt u.heap.size/\∃τ,u'=(u.alloc (.cells (fE kd dm sz cl qu mx qn rt bu wk ou s x y on) 90)).tp τ) hT G.o0 ?_ ?_ ?_ fun τ=>?_).mono ?_)
 ·rintro e a u' τ ⟨h1,h2,h3,h4,h5,Gs,rfl⟩;exact⟨h1,h2,h3,h4,h5,τ,rfl⟩
 ·rintro x a u' ⟨h,_⟩;cases h
 ·rintro a u' ⟨h,_⟩;cases h
 ·exact wp_mono (Sg hs hd e0 e1) fun e a u' ⟨h1,h2,h3,h4,h5,h6⟩=>⟨h1,h2,h3,h4,h5,τ,h6⟩
 rintro e a1 u1 ⟨rfl,s1,d1,f0,f3,Gt,rfl⟩;generalize Ef:u.heap.size=ob at f3;have L1:=h.below ((Below.refl _ u).alloc (Nat.le_refl _) (.cells (fE kd dm sz cl qu mx qn rt bu wk ou s x y on) 90));have O1:(u.alloc (.cells (fE kd dm sz cl qu mx qn rt bu wk ou s x y on) 90)).heap[ob]? =some (.cells (fE kd dm sz cl qu mx qn rt bu wk ou s x y on) 90 (0,0)):=by rw[<-Ef];exact heap_alloc_new u _
 generalize u.alloc (.cells (fE kd dm sz cl qu mx qn rt bu wk ou s x y on) 90)=V at*;refine WX.seq (WX.seq ((WX.lift (Q:=fun e a' u'=>e=.normal/\a'.tmps.size=72/\a'.defers=[]/\a'.eval (.tmp 0)=pt wb/\a'.eval (.tmp 3)=pt ob/\a'.eval (.tmp 8)=.int .i64 kd/\∃τ,u'=V.tp τ) hT G.o1 ?_ ?_ ?_ fun τ=>?_).mono ?_))
 ·rintro e a u' τ ⟨h1,h2,h3,h4,h5,h6,Gs,rfl⟩;exact⟨h1,h2,h3,h4,h5,h6,τ,rfl⟩
 ·rintro x a u' ⟨h,_⟩;cases h
 ·rintro a u' ⟨h,_⟩;cases h
 ·exact wp_mono (Si (w:=V.tp τ) (af O1 rfl) ⟨s1,d1,f0,f3⟩) fun e a u' ⟨h1,h2,h3,h4,h5,h6,h7⟩=>⟨h1,h2,h3,h4,h5,h6,τ,h7⟩
 rintro e a2 u2 ⟨rfl,s2,d2,g0,g3,g8,oY,rfl⟩;show WX prog (.block 0 (fB f46)) (Exit.then (WX prog (gM f46) (lU W0 wb n ps.length)) (lU W0 wb n ps.length)) a2 (V.tp oY);refine WX.block ?_;refine WX.case (m:=8) (c0:=1) (n:=kd) hT (c:=fB f46) (id:=2) (ops:=opsOf (cr (fB f46))) (d1:=9) (d0:=10) (k:=8) (by kernel_rfl) (by kernel_rfl) rfl rfl rfl rfl rfl rfl rfl rfl g8 (by omega) (by omega) (by decide) (by decide) ?_
 intro a3 q2;have K2:Kp 8 a2 a3:=q2;rw[if_neg (by omega)];refine WX.case (m:=8) (c0:=2) (n:=kd) hT (c:=nx (fB f46)) (id:=5) (ops:=opsOf (cr (nx (fB f46)))) (d1:=21) (d0:=22) (k:=8) (by kernel_rfl) (by kernel_rfl) rfl rfl rfl rfl rfl rfl rfl rfl ((K2.at_ 8 (by decide)).trans g8) (by rw[K2.size];omega) (by rw[K2.size];omega) (by decide) (by decide) ?_
 intro a4 q3;have K3:Kp 8 a2 a4:=K2.trans q3;rw[if_neg (by omega)];refine WX.case (m:=8) (c0:=3) (n:=kd) hT (c:=nx (nx (fB f46))) (id:=7) (ops:=opsOf (cr (nx (nx (fB f46))))) (d1:=26) (d0:=27) (k:=8) (by kernel_rfl) (by kernel_rfl) rfl rfl rfl rfl rfl rfl rfl rfl ((K3.at_ 8 (by decide)).trans g8) (by rw[K3.size];omega) (by rw[K3.size];omega) (by decide) (by decide) ?_
 intro a5 q4;have K4:Kp 8 a2 a5:=K3.trans q4;have S5:Sl a5 wb ob:=⟨by rw[K4.size];exact s2,by rw[K4.defers];exact d2,(K4.at_ 0 (by decide)).trans g0,(K4.at_ 3 (by decide)).trans g3⟩
 by_cases Hq:kd=3
 ·rw[if_pos Hq];refine WX.mono (Q:=lU W0 wb n ps.length) (wj hT G.o3 fun τ=>LZ (w:=V.tp τ) (L1.tp τ) hl O1 S5) ?_;rintro e a' u' ⟨rfl,h2,h3,h4⟩;exact⟨rfl,h2,h3,h4⟩
 rw[if_neg Hq,show nx (nx (nx (fB f46)))=.skip from by kernel_rfl];refine WX.skip ?_;show WX prog (gM f46) (lU W0 wb n ps.length) a5 (V.tp oY);have hde:gM f46=.seq (s9 f46) (.seq (Xy f46) (.seq (.seq (Xz f46) (.cond (.tmp 64) (Tx f46) .skip)) (bR (bR (bR (gM f46)))))):=by kernel_rfl
 rw[hde]
 by_cases h0:ps.length=0
 ·refine WX.seq ((wj (n:=n) (wb:=wb) (L:=ps.length) (u:=V.tp oY) hT G.o9 fun τ=>Ou (w:=V.tp τ) (L1.tp τ) h0 S5).mono ?_);rintro e a' u' ⟨rfl,h2,h3,h4⟩;exact⟨rfl,h2,h3,h4⟩
 have h0':0<ps.length:=by omega
 refine WX.seq ((WX.lift (Q:=fun e a' u'=>e=.normal/\a'.tmps.size=72/\a'.defers=[]/\a'.eval (.tmp 0)=pt wb/\a'.eval (.tmp 3)=pt ob/\∃τ,u'=V.tp τ) hT G.o9 ?_ ?_ ?_ fun τ=>?_).mono ?_)
 ·rintro e a u' τ ⟨h1,h2,h3,h4,h5,Gs,rfl⟩;exact⟨h1,h2,h3,h4,h5,τ,rfl⟩
 ·rintro x a u' ⟨h,_⟩;cases h
 ·rintro a u' ⟨h,_⟩;cases h
 ·exact wp_mono (Ov (w:=V.tp τ) (L1.tp τ) h0' (af O1 rfl) (by omega) S5) fun e a u' ⟨h1,h2,h3,h4,h5,h6⟩=>⟨h1,h2,h3,h4,h5,τ,h6⟩
 rintro e a6 u6 ⟨rfl,s6,d6,p0,p3,SE,rfl⟩;refine WX.seq ((WX.lift (Q:=fun e a' u'=>e=.normal/\a'.tmps.size=72/\a'.defers=[]/\a'.eval (.tmp 0)=pt wb/\a'.eval (.tmp 3)=pt ob/\(∃p,ps[iI dm ps.length]? =some p/\a'.eval (.tmp 6)=pt p.pb)/\u'.heap=V.heap/\u'.os=V.os) hT G.o11 ?_ ?_ ?_ fun τ=>?_).mono ?_)
 ·rintro e a u' τ ⟨h1,h2,h3,h4,h5,h6,h7,h8⟩;exact⟨h1,h2,h3,h4,h5,h6,h7,h8⟩
 ·rintro x a u' ⟨h,_⟩;cases h
 ·rintro a u' ⟨h,_⟩;cases h
 ·refine wp_mono (RV (w:=V.tp τ) (L1.tp τ) h0' hl O1 ⟨s6,d6,p0,p3⟩) fun e a u' ⟨h1,h2,h3,h4,h5,h6,m,h7⟩=>⟨h1,h2,h3,h4,h5,h6,?_,?_⟩
  ·rw[h7];rfl
  ·rw[h7];rfl
 rintro e a7 u7 ⟨rfl,s7,d7,q0,q3,⟨p,hp,q6⟩,hh7,ho7⟩;have L7:=L1.same hh7 ho7;have O7:u7.heap[ob]? =some (.cells (fE kd dm sz cl qu mx qn rt bu wk ou s x y on) 90 (0,0)):=by rw[hh7];exact O1
 refine WX.seq (WX.seq ((WX.lift (Q:=fun e a' u'=>e=.normal/\a'.tmps.size=72/\a'.defers=[]/\a'.eval (.tmp 3)=pt ob/\a'.eval (.tmp 6)=pt p.pb/\a'.eval (.tmp 64)=.bool true/\∃τ,u'=u7.tp τ) hT G.Xw ?_ ?_ ?_ fun τ=>?_).mono ?_))
 ·rintro e a u' τ ⟨h1,h2,h3,h4,h5,h6,Gs,rfl⟩;exact⟨h1,h2,h3,h4,h5,h6,τ,rfl⟩
 ·rintro x a u' ⟨h,_⟩;cases h
 ·rintro a u' ⟨h,_⟩;cases h
 ·exact wp_mono (RX (w:=u7.tp τ) (af O7 rfl) FV.2 q6 ⟨s7,d7,q0,q3⟩) fun e a u' ⟨h1,h2,h3,h4,h5,h6,h7⟩=>⟨h1,h2,h3,h4,h5,h6,τ,h7⟩
 rintro e a8 u8 ⟨rfl,s8,d8,t3,t6,t64,τ8,rfl⟩;refine WX.cond t64 ?_;refine WX.mono (Q:=lU W0 wb n ps.length) (VZ G (L7.tp τ8) hp hn hss hq O7 s8 d8 t3 t6) ?_;rintro e a' u' ⟨rfl,h2,h3,h4⟩;exact⟨rfl,h2,h3,h4⟩
end
end
section
open Go.Proofs.Tryz
open Go Go.Conc Go.RowKit
attribute [local go_sem ↓] Go.wp_at_zero Go.wp_at_succ
attribute [local go_sem] au aj
theorem jW(a:Act)(hs:a.tmps.size=64)(hd:a.defers=[]):∃x:Nat->Value,a=⟨#[x 0,x 1,x 2,x 3,x 4,x 5,x 6,x 7,x 8,x 9,x 10,x 11,x 12,x 13,x 14,x 15,x 16,x 17,x 18,x 19,x 20,x 21,x 22,x 23,x 24,x 25,x 26,x 27,x 28,x 29,x 30,x 31,x 32,x 33,x 34,x 35,x 36,x 37,x 38,x 39,x 40,x 41,x 42,x 43,x 44,x 45,x 46,x 47,x 48,x 49,x 50,x 51,x 52,x 53,x 54,x 55,x 56,x 57,x 58,x 59,x 60,x 61,x 62,x 63],[]⟩:=by
 refine⟨fun i=>a.tmps.toList.getD i undef,?_⟩;obtain⟨⟨l⟩,d⟩:=a;obtain rfl:d=[]:=hd;have h:=uV l;have hl:l.length=64:=hs;rw[hl]at h;have h2:(⟨⟨l⟩,[]⟩:Act)=⟨⟨(List.range 64).map fun i=>l.getD i undef⟩,[]⟩:=by rw[<-h]
 exact h2.trans (by kernel_rfl)
def eL(fn:Func):Code:=kN (fB fn)
def eH(fn:Func):Code:=cr (eL fn)
def eB(fn:Func):Code:=kN (cr (bR (eL fn)))
def jA(fn:Func):Code:=bR (bR (eL fn))
def WC(fn:Func):Code:=cr (eB fn)
def WE(fn:Func):Code:=cr (cr (bR (eB fn)))
def eM(fn:Func):Code:=kN (kN (bR (cr (bR (eB fn)))))
def Ki(fn:Func):Code:=cr (bR (bR (eB fn)))
def eN(fn:Func):Code:=kN (kN (bR (bR (bR (eB fn)))))
def WI(fn:Func):Code:=cr (eM fn)
def TZ(fn:Func):Code:=kN (cr (bR (eM fn)))
def WG(fn:Func):Code:=bR (bR (eM fn))
def WH(fn:Func):Code:=cr (TZ fn)
def SN(fn:Func):Code:=cr (bR (TZ fn))
def Nr(fn:Func):Code:=bR (bR (TZ fn))
def WJ(fn:Func):Code:=cr (eN fn)
structure En(a:Act)(wb:Nat)(i:Int):Prop where
 size:a.tmps.size=64
 defers:a.defers=[]
 e0:a.eval (.tmp 0)=pt wb
 e1:a.eval (.tmp 1)=.int .i64 10
 e5:a.eval (.tmp 5)=.int .i64 i
structure wG(a:Act)(wb:Nat)(i:Int)(pb:Nat)(x:Int):Prop extends En a wb i where
 e6:a.eval (.tmp 6)=pt pb
 e7:a.eval (.tmp 7)=.int .i64 x
section
variable [aR] {W0 w w1 w2 u:World} {wb pb n:Nat} {v:Value} {ps:List Pa} {a:Act} {x i:Int}
theorem QH(hs:a.tmps.size=64)(hd:a.defers=[])(e0:a.eval (.tmp 0)=pt wb)(e1:a.eval (.tmp 1)=.int .i64 10):
  (Jr f47).wp prog (fun e a' w'=>e=.normal/\a'.tmps.size=64/\a'.defers=[]/\a'.eval (.tmp 0)=pt wb/\a'.eval (.tmp 1)=.int .i64 10/\w'=w) a w:=by
 obtain⟨z,rfl⟩:=jW a hs hd;have f0:z 0=pt wb:=e0;have f1:z 1=.int .i64 10:=e1;rw[f0,f1];clear hs hd e0 e1 f0 f1;simp only[Jr,dB,cr,Option.getD_some,f47];go_wp2
theorem QI(hs:a.tmps.size=64)(hd:a.defers=[])(e0:a.eval (.tmp 0)=pt wb)(e1:a.eval (.tmp 1)=.int .i64 10):
  (Js f47).wp prog (fun e a' w'=>e=.normal/\a'.tmps.size=64/\a'.defers=[]/\a'.eval (.tmp 0)=pt wb/\a'.eval (.tmp 1)=.int .i64 10/\a'.eval (.tmp 5)=.int .i64 0/\w'=w) a w:=by
 obtain⟨z,rfl⟩:=jW a hs hd;have f0:z 0=pt wb:=e0;have f1:z 1=.int .i64 10:=e1;rw[f0,f1];clear hs hd e0 e1 f0 f1;simp only[Js,dB,cr,bR,Option.getD_some,f47];go_wp2
theorem BR(hL:Lw W0 w wb v ps n):v=.slice none 0 0/\ps.length=0\/∃g cap,v=.slice (some ⟨g,0,none⟩) ps.length cap:=by
 rcases hL.row.2 with h|⟨g,cap,cur,h,_⟩
 ·exact .inl h
 ·exact .inr ⟨g,cap,h⟩
theorem TY{j:Nat}(hL:Lw W0 w wb v ps n)(hj:j<=ps.length)(h:En a wb j):
  (eH f47).wp prog (fun e a' w'=>((e=.normal/\j<ps.length)\/(e=.exit 0/\j=ps.length))/\a'.tmps.size=64/\a'.defers=[]/\a'.eval (.tmp 0)=pt wb/\a'.eval (.tmp 1)=.int .i64 10/\a'.eval (.tmp 5)=.int .i64 j/\w'=w) a w:=by
 obtain⟨z,rfl⟩:=jW a h.size h.defers;have f0:z 0=pt wb:=h.e0;have f1:z 1=.int .i64 10:=h.e1;have f5:z 5=.int .i64 j:=h.e5;rw[f0,f1,f5];clear h f0 f1 f5;have c0:w.cell? ⟨wb,0,none⟩=some v:=af hL.box rfl;have hv:=BR hL;clear hL;generalize ps.length=L at*;simp only[eH,eL,fB,dB,cr,bR,kN,Option.getD_some,f47];rcases hv with⟨rfl,rfl⟩|⟨g,cap,rfl⟩
 ·obtain rfl:j=0:=by omega
  go_wp2
 ·by_cases hlt:j<L
  ·have b:decide ((j:Int)<(L:Int))=true:=by simp;omega
   have HX:Hid (j<L):=hlt;clear hj;go_wp2
  ·have b:decide ((j:Int)<(L:Int))=false:=by simp;omega
   obtain rfl:j=L:=by omega
   clear hj hlt;go_wp2
theorem TU{j:Nat}{p:Pa}(hL:Lw W0 w wb v ps n)(hj:ps[j]? =some p)(hl:ps.length<=1099511627777)(h:En a wb j):
  (WC f47).wp prog (fun e a' w'=>e=.normal/\a'.tmps.size=64/\a'.defers=[]/\a'.eval (.tmp 0)=pt wb/\a'.eval (.tmp 1)=.int .i64 10/\a'.eval (.tmp 5)=.int .i64 j/\a'.eval (.tmp 6)=pt p.pb/\w'=w) a w:=by
 obtain⟨z,rfl⟩:=jW a h.size h.defers;have f0:z 0=pt wb:=h.e0;have f1:z 1=.int .i64 10:=h.e1;have f5:z 5=.int .i64 j:=h.e5;rw[f0,f1,f5];clear h f0 f1 f5;have hlt:j<ps.length:=(List.getElem?_eq_some_iff.1 hj).1;obtain⟨g,cap,rfl⟩:∃g cap,v=.slice (some ⟨g,0,none⟩) ps.length cap:=(BR hL).resolve_left (fun h=>by omega)
 have cp:w.cell? ⟨g,j,none⟩=some (pt p.pb):=by rw[hL.row.cellAt _ (by omega),List.getElem?_map,hj];rfl
 have c0:w.cell? ⟨wb,0,none⟩=some (.slice (some ⟨g,0,none⟩) ps.length cap):=af hL.box rfl;clear hL hj;generalize ps.length=L at*;simp only[WC,eB,eL,fB,dB,cr,bR,kN,Option.getD_some,f47];go_wp2
theorem TV{j:Nat}(h:En a wb j)(e6:a.eval (.tmp 6)=pt pb):
  (WE f47).wp prog (fun e a' w'=>e=.normal/\a'.tmps.size=64/\a'.defers=[]/\a'.eval (.tmp 0)=pt wb/\a'.eval (.tmp 1)=.int .i64 10/\a'.eval (.tmp 5)=.int .i64 j/\a'.eval (.tmp 6)=pt pb/\a'.eval (.tmp 7)=.int .i64 (-1)/\w'=w) a w:=by
 obtain⟨z,rfl⟩:=jW a h.size h.defers;have f0:z 0=pt wb:=h.e0;have f1:z 1=.int .i64 10:=h.e1;have f5:z 5=.int .i64 j:=h.e5;have f6:z 6=pt pb:=e6;rw[f0,f1,f5,f6];clear h f0 f1 f5 e6 f6;simp only[WE,eB,eL,fB,dB,cr,bR,kN,Option.getD_some,f47];go_wp2
theorem QE{j:Nat}{f:Fy}{B:Nat->Prop}(hD:Duo w f pb B)(h:wG a wb j pb x):
  (WI f47).wp prog (fun e a' w'=>((e=.normal/\x<=f.av)\/(e=.exit 2/\¬x<=f.av))/\a'.tmps.size=64/\a'.defers=[]/\a'.eval (.tmp 0)=pt wb/\a'.eval (.tmp 1)=.int .i64 10/\a'.eval (.tmp 5)=.int .i64 j/\a'.eval (.tmp 6)=pt pb/\a'.eval (.tmp 7)=.int .i64 x/\w'=w) a w:=by
 obtain⟨z,rfl⟩:=jW a h.size h.defers;have f0:z 0=pt wb:=h.e0;have f1:z 1=.int .i64 10:=h.e1;have f5:z 5=.int .i64 j:=h.e5;have f6:z 6=pt pb:=h.e6;have f7:z 7=.int .i64 x:=h.e7;rw[f0,f1,f5,f6,f7];clear h f0 f1 f5 f6 f7;obtain⟨xb,yb,Bx,By,h2⟩:=hD.open;have c1:w.cell? ⟨pb,1,none⟩=some (pt yb):=h2.cells.2;have ow:w.cell? ⟨yb,10,none⟩=some (.int .i64 f.av):=h2.re.many;clear hD h2;generalize f.av=c at*;simp only[WI,eM,eB,eL,fB,dB,cr,bR,kN,Option.getD_some,f47]
 by_cases hlt:x<=c
 ·have b:decide (x<=c)=true:=by simpa using hlt
  go_wp2
 ·have b:decide (x<=c)=false:=by simpa using hlt
  go_wp2
theorem TX{j:Nat}{f:Fy}{B:Nat->Prop}(hD:Duo w f pb B)(hok:f.Ok n)(h:wG a wb j pb x):
  (WH f47).wp prog (fun e a' w'=>e=.normal/\a'.tmps.size=64/\a'.defers=[]/\a'.eval (.tmp 0)=pt wb/\a'.eval (.tmp 1)=.int .i64 10/\a'.eval (.tmp 5)=.int .i64 j/\a'.eval (.tmp 6)=pt pb/\a'.eval (.tmp 7)=.int .i64 x/\a'.eval (.tmp 8)=.bool true/\Below w.heap.size w w') a w:=by
 obtain⟨z,rfl⟩:=jW a h.size h.defers;have f0:z 0=pt wb:=h.e0;have f1:z 1=.int .i64 10:=h.e1;have f5:z 5=.int .i64 j:=h.e5;have f6:z 6=pt pb:=h.e6;have f7:z 7=.int .i64 x:=h.e7;rw[f0,f1,f5,f6,f7];clear h f0 f1 f5 f6 f7;obtain⟨xb,yb,Bx,By,h2⟩:=hD.open;have H2:Hid (Calls prog 87 #[pt pb,.int .i64 x] w fun e w'=>e=.returned (.bool true)/\Below w.heap.size w w'):=uq x w h2 hok;clear hD h2;simp only[WH,TZ,eM,eB,eL,fB,dB,cr,bR,kN,Option.getD_some,f47];go_wp2_with (go_at_call 87;refine H2.out.mono ?_;rintro e w1 ⟨rfl,bz⟩)
theorem QC{j:Nat}(h:wG a wb j pb x)(e8:a.eval (.tmp 8)=.bool true)(e9:a.eval (.tmp 9)=.bool true):
  (Nr f47).wp prog (fun e a' w'=>e=.normal/\a'.tmps.size=64/\a'.defers=[]/\a'.eval (.tmp 0)=pt wb/\a'.eval (.tmp 1)=.int .i64 10/\a'.eval (.tmp 5)=.int .i64 j/\a'.eval (.tmp 6)=pt pb/\a'.eval (.tmp 7)=.int .i64 x/\w'=w) a w:=by
 obtain⟨z,rfl⟩:=jW a h.size h.defers;have f0:z 0=pt wb:=h.e0;have f1:z 1=.int .i64 10:=h.e1;have f5:z 5=.int .i64 j:=h.e5;have f6:z 6=pt pb:=h.e6;have f7:z 7=.int .i64 x:=h.e7;have f8:z 8=.bool true:=e8;have f9:z 9=.bool true:=e9;rw[f0,f1,f5,f6,f7,f8,f9];clear h f0 f1 f5 f6 f7 f8 f9 e8 e9;simp only[Nr,TZ,eM,eB,eL,fB,dB,cr,bR,kN,Option.getD_some,f47];go_wp2
theorem TW{j:Nat}(h:wG a wb j pb x)(hx:-1<=x/\x<=281474976710656):
  (WG f47).wp prog (fun e a' w'=>e=.normal/\a'.tmps.size=64/\a'.defers=[]/\a'.eval (.tmp 0)=pt wb/\a'.eval (.tmp 1)=.int .i64 10/\a'.eval (.tmp 5)=.int .i64 j/\a'.eval (.tmp 6)=pt pb/\a'.eval (.tmp 7)=.int .i64 (x+1)/\w'=w) a w:=by
 obtain⟨z,rfl⟩:=jW a h.size h.defers;have f0:z 0=pt wb:=h.e0;have f1:z 1=.int .i64 10:=h.e1;have f5:z 5=.int .i64 j:=h.e5;have f6:z 6=pt pb:=h.e6;have f7:z 7=.int .i64 x:=h.e7;rw[f0,f1,f5,f6,f7];clear h f0 f1 f5 f6 f7;have hw:wrap64 (x+1)=x+1:=by unfold wrap64;omega
 simp only[WG,eM,eB,eL,fB,dB,cr,bR,kN,Option.getD_some,f47];go_wp2
theorem QD{j:Nat}(h:En a wb j):
  (Ki f47).wp prog (fun e a' w'=>e=.normal/\a'.tmps.size=64/\a'.defers=[]/\a'.eval (.tmp 0)=pt wb/\a'.eval (.tmp 1)=.int .i64 10/\a'.eval (.tmp 5)=.int .i64 j/\a'.eval (.tmp 10)=.int .i64 12/\w'=w) a w:=by
 obtain⟨z,rfl⟩:=jW a h.size h.defers;have f0:z 0=pt wb:=h.e0;have f1:z 1=.int .i64 10:=h.e1;have f5:z 5=.int .i64 j:=h.e5;rw[f0,f1,f5];clear h f0 f1 f5;simp only[Ki,eB,eL,fB,dB,cr,bR,kN,Option.getD_some,f47];go_wp2
theorem QF{j:Nat}(h:En a wb j)(SL:a.eval (.tmp 10)=.int .i64 12):
  (WJ f47).wp prog (fun e a' w'=>e=.exit 4/\a'.tmps.size=64/\a'.defers=[]/\a'.eval (.tmp 0)=pt wb/\a'.eval (.tmp 1)=.int .i64 10/\a'.eval (.tmp 5)=.int .i64 j/\w'=w) a w:=by
 obtain⟨z,rfl⟩:=jW a h.size h.defers;have f0:z 0=pt wb:=h.e0;have f1:z 1=.int .i64 10:=h.e1;have f5:z 5=.int .i64 j:=h.e5;have f10:z 10=.int .i64 12:=SL;rw[f0,f1,f5,f10];clear h f0 f1 f5 SL f10;simp only[WJ,eN,eB,eL,fB,dB,cr,bR,kN,Option.getD_some,f47];go_wp2
theorem TT{j:Nat}(hj:j<=1099511627777)(h:En a wb j):
  (jA f47).wp prog (fun e a' w'=>e=.normal/\a'.tmps.size=64/\a'.defers=[]/\a'.eval (.tmp 0)=pt wb/\a'.eval (.tmp 1)=.int .i64 10/\a'.eval (.tmp 5)=.int .i64 ((j+1:Nat):Int)/\w'=w) a w:=by
 obtain⟨z,rfl⟩:=jW a h.size h.defers;have f0:z 0=pt wb:=h.e0;have f1:z 1=.int .i64 10:=h.e1;have f5:z 5=.int .i64 j:=h.e5;rw[f0,f1,f5];clear h f0 f1 f5;have hw:wrap64 ((j:Int)+1)=(j:Int)+1:=by unfold wrap64;omega
 have Tq:((j+1:Nat):Int)=(j:Int)+1:=by omega
 rw[Tq];clear Tq;simp only[jA,eL,fB,dB,cr,bR,kN,Option.getD_some,f47];go_wp2
theorem Ns(hs:a.tmps.size=64)(hd:a.defers=[]):
  (gM f47).wp prog (fun e a' w'=>e=.ret/\a'.defers=[]/\a'.eval (.tmp 4)=.bool true/\w'=w) a w:=by
 obtain⟨z,rfl⟩:=jW a hs hd;clear hs hd;simp only[gM,dB,cr,bR,Option.getD_some,f47];go_wp2
end
end
end Go.Proofs.YtpobhljcainmdaaGreat
