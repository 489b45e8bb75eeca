/- Proved here: a part of what Doors keeps (Tk1, Spec, Cfg, Cf2, Ref1, Runs, Dm1, Ref9, Rf1, Rf2). -/
import Derived.Below
import Derived.BigQuiet
import Derived.Deep.DeepCutAuto
import Derived.Deep.DrawnRows
import Derived.Deep.Draws
import Derived.Deep.Light
import Derived.Deep.QuietTactic
import Derived.Deep.RegionHeld3
import Derived.OrdersHeld
import Derived.OrdersIn
import Derived.Test.YtpobhljcainmdaaGreatRows
import Derived.WalkKit
import Derived.WalkLawsBesides
import Derived.WalkSpells
set_option maxRecDepth 100000
set_option maxHeartbeats 8000000
set_option linter.all false
namespace Go.Proofs.YtpobhljcainmdaaGreat
section
open Go
theorem tk{P:Program}{ops:Array Oper}{Q:Exit->Act->World->Prop}{md:Region.Mode}{S:World->Prop}{oi:Oper}{v:Value}{fuel:Nat}{listed:Array Bool}{a a':Act}{w:World}(i:Nat)(h:wpAnyH P md ops Q S fuel (listed.setIfInBounds i true) a' w)(hS:S w:=by assumption) (hi:ops[i]? =some oi:=by rfl)
  (hs:Region.noSelect ops=true:=by kernel_rfl) (hf:Region.free md ops listed i=true:=by kernel_rfl) (hr:(Region.ready md ops listed).contains i=true:=by kernel_rfl)
  (hQ:∀c a w,Q (.panic c) (a.put oi.dst v) w->Q (.panic c) a w:=by exact fun _ _ _ h=>h) (hw:Region.wanted oi (yielded ops a.tmps)=true:=by rfl)
  (hy:∀w,S w->(execOp a.eval oi).run P w=.ok (.value v) w:=by(intro w' hSw;(try dsimp only at hSw);go_simp;try with_reducible rfl))
  (ha:a.put oi.dst v=a':=by(first|(simp only[Act.put,List.getElem_toArray,List.getElem_cons_zero,List.getElem_cons_succ,List.setIfInBounds_toArray,List.set_cons_zero,List.set_cons_succ];rfl)|rfl)):wpAnyH P md ops Q S (fuel+1) listed a w:=
 wpAnyH_take hi hs hf hr hQ (.inl ⟨hw,hy⟩) hS (ha▸h)
section
variable {P:Program} {ops:Array Oper} {Q:Exit->Act->World->Prop} {md:Region.Mode} {S:World->Prop} {F:Fence} {n:Nat} {fuel:Nat} {listed:Array Bool} {a:Act} {w:World} {o:Oper}
theorem rH(i:Nat)(h:∀K':Act->World->Prop,Shut (∀a w,S w->(S w->wpAnyH P md ops Q S fuel (listed.setIfInBounds i true) a w)->K' a w)->if Region.wanted o (yielded ops a.tmps)=true then Oper.wp P o a w K' Q else K' (a.put o.dst undef) w)(ho:ops[i]? =some o:=by rfl) (hr:Region.ready md ops listed=[i]:=by kernel_rfl):wpAnyH P md ops Q S (fuel+1) listed a w:=wpAnyH_ready hr (by simp) (.cons ho h .nil)
theorem aH(rs:List Nat)(h:AllReadyH P md ops Q S fuel listed a w rs)(hr:Region.ready md ops listed=rs:=by kernel_rfl) (hn:rs≠[]:=by simp):wpAnyH P md ops Q S (fuel+1) listed a w:=wpAnyH_ready hr hn h
theorem aT(i:Nat)(h:∀K':Act->World->Prop,(∀a w,wpAnyIn F n P md ops Q fuel (listed.setIfInBounds i true) a w->K' a w)->if Region.wanted o (yielded ops a.tmps)=true then Oper.wpIn F n P o a w K' Q else(∀f,o.about P w a.eval=some f->F.fn f)/\K' (a.put o.dst undef) w)(ho:ops[i]? =some o:=by rfl) (hr:Region.ready md ops listed=[i]:=by kernel_rfl):wpAnyIn F n P md ops Q (fuel+1) listed a w:=wpAnyIn_ready hr (by simp) (.cons ho h .nil)
theorem mW(rs:List Nat)(h:AllReadyIn F n P md ops Q fuel listed a w rs)(hr:Region.ready md ops listed=rs:=by kernel_rfl) (hn:rs≠[]:=by simp):wpAnyIn F n P md ops Q (fuel+1) listed a w:=wpAnyIn_ready hr hn h
end
end
section
structure bg where
 wh:Int
 nm:ByteArray
 kd:Int
 fl:Int
 ck:Int
 of:Int
 ln:Int
 dt:ByteArray
 er:Int
def bg.zero:bg:=⟨0,⟨#[]⟩,0,0,0,0,0,⟨#[]⟩,0⟩
def bg.closing:bg:=⟨4,⟨#[]⟩,0,0,0,0,0,⟨#[]⟩,0⟩
def bt(s:ByteArray)(i:Nat):Int:=((s.data.getD i 0).toNat:Int)
theorem ep(s:ByteArray)(i:Nat)(h:i<s.size):(s[i].toNat:Int)=bt s i:=by unfold bt;rw[show s[i]=s.data[i] from rfl];simp[Array.getD,h]
theorem bO(s:ByteArray)(i:Nat):0<=bt s i/\bt s i<=255:=by unfold bt;have:=(s.data.getD i 0).toNat_lt;omega
def two(s:ByteArray)(i:Nat):Int:=bt s i+256*bt s (i+1)
theorem cj(s:ByteArray)(i:Nat):0<=two s i/\two s i<=65535:=by have h1:=bO s i;have h2:=bO s (i+1);unfold two;omega
def verdict(sz kd fl of ln:Int):Int:=
 if 5<kd\/1<fl then 22
 else if fl=1/\kd≠3/\kd≠1/\kd≠4 then 22
 else if kd≠0/\kd≠3/\kd≠1/\kd≠4 then(if of≠0\/ln≠0 then 22 else 0)
 else if ln=0\/ln %4≠0\/of %4≠0 then 22
 else if sz<of+ln then(if kd=1\/kd=4 then 28 else 22)
 else 0
def mE(i:Nat):Int:=if i=0 then 70 else if i=1 then 69 else if i=2 then 82 else if i=3 then 82 else 89
def aI(s:ByteArray):Nat->Nat->bg×Int
 |0,_=>if s.size<6 then(.zero,0)else(⟨1,s.extract 5 6,0,0,0,0,0,⟨#[]⟩,0⟩,6)
 |f+1,i=>if s.size<=i then(.zero,0)else if bt s i=mE i then aI s f (i+1)else(.closing,i+1)
def eW(s:ByteArray):bg×Int:=aI s 5 0
def opt(s:ByteArray):bg×Int:=
 if s.size=0 then(.zero,0)else if bt s 0<97\/122<bt s 0 then(.closing,1)else(⟨2,s.extract 0 1,0,0,0,0,0,⟨#[]⟩,0⟩,1)
def cS(sz mx:Int)(used:List Int)(s:ByteArray):bg×Int:=
 if s.size<9 then(.zero,0)
 else if bt s 0≠81\/mx<two s 7\/two s 3∈used then(.closing,9)
 else if bt s 1=1 then
  (if(s.size:Int)<9+two s 7 then(.zero,0)
   else(⟨3,⟨#[]⟩,bt s 1,bt s 2,two s 3,two s 5,two s 7,s.extract 9 (9+two s 7).toNat,verdict sz (bt s 1) (bt s 2) (two s 5) (two s 7)⟩,9+two s 7))
 else(⟨3,⟨#[]⟩,bt s 1,bt s 2,two s 3,two s 5,two s 7,⟨#[]⟩,verdict sz (bt s 1) (bt s 2) (two s 5) (two s 7)⟩,9)
def first(sz mx ph:Int)(used:List Int)(s:ByteArray):bg×Int:=
 if ph=0 then eW s else if ph=1 then opt s else if ph=2 then cS sz mx used s else(.zero,0)
def after(ph:Int)(m:bg):Int:=
 if m.wh=1/\(m.nm.toList==[97])=true then 1 else if m.wh=2/\(m.nm.toList==[103])=true then 2 else if m.wh=3/\m.kd=5/\m.er=0 then 3 else if m.wh=4 then 4 else ph
def accepted(m:bg):Bool:=decide (m.wh=3/\m.er=0/\m.kd≠5)
end
section
open Go.Proofs.Tryz
open Go.RowKit
def gu(n a b:Int):Bool:=decide (a<=n)&&decide (n<=b)
def EV(n m:Int):Bool:=gu n 4 m&&(n %4==0)
theorem dY(n a b:Int)(w:World):
  Calls prog 71 #[.int .i64 n,.int .i64 a,.int .i64 b] w fun e w'=>e=.returned (.bool (gu n a b))/\w'=w:=by
 go_enter func71,ntmps71;go_wp2
 all_goals (go_ret;exact⟨by simp[gu, *];try omega,rfl⟩)
theorem jq(n m:Int)(w:World):
  Calls prog 172 #[.int .i64 n,.int .i64 m] w fun e w'=>e=.returned (.bool (EV n m))/\w'=w:=by
 cases h:gu n 4 m with
 |false=>
  go_enter func172,ntmps172;go_wp2_with (go_at_call 71;refine(dY _ _ _ _).mono ?_;rintro e w' ⟨rfl,rfl⟩);go_ret;exact⟨by simp[EV,h],rfl⟩
 |true=>
  have h0:4<=n:=by simp[gu]at h;exact h.1
  go_enter func172,ntmps172;go_wp2_with (go_at_call 71;refine(dY _ _ _ _).mono ?_;rintro e w' ⟨rfl,rfl⟩);go_ret;exact⟨by simp[EV,h],rfl⟩
abbrev JZ(sz cl qu mx qn rt bu wk ou:Int):Value:=.agg #[.int .i64 sz,.int .i64 cl,.int .i64 qu,.int .i64 mx,.int .i64 qn,.int .i64 rt,.int .i64 bu,.int .i64 wk,.int .i64 ou]
def Nf(sz mx qn ou:Int):Bool:=EV sz 256&&(EV mx 32&&(gu qn mx 64&&gu ou (mx+4) 256))
def Qy(cl qu rt bu wk:Int):Bool:=gu cl 1 8&&(gu qu 1 8&&(gu rt 1 16&&(gu bu 1 32&&gu wk 1 8)))
theorem qP(sz cl qu mx qn rt bu wk ou:Int)(w:World):
  Calls prog 119 #[JZ sz cl qu mx qn rt bu wk ou] w fun e w'=>e=.returned (.bool (Nf sz mx qn ou))/\Below w.heap.size w w':=by
 cases h1:EV sz 256 with
 |false=>
  go_enter func119,ntmps119;go_wp2_with (go_at_call 172;refine(jq _ _ _).mono ?_;rintro e w' ⟨rfl,rfl⟩);go_ret;exact⟨by simp[Nf,h1],(Below.refl _ _).alloc (Nat.le_refl _) _⟩
 |true=>
  cases h2:EV mx 32 with
  |false=>
   go_enter func119,ntmps119;go_wp2_with (go_at_call 172;refine(jq _ _ _).mono ?_;rintro e w' ⟨rfl,rfl⟩);go_ret;exact⟨by simp[Nf,h1,h2],(Below.refl _ _).alloc (Nat.le_refl _) _⟩
  |true=>
   have hm:4<=mx/\mx<=32:=by simp[EV,gu]at h2;exact h2.1
   obtain⟨hm1,hm2⟩:=hm;cases h3:gu qn mx 64 with
   |false=>
    go_enter func119,ntmps119;go_wp2_with (first|(go_at_call 172;refine(jq _ _ _).mono ?_;rintro e w' ⟨rfl,rfl⟩)|(go_at_call 71;refine(dY _ _ _ _).mono ?_;rintro e w' ⟨rfl,rfl⟩));go_ret;exact⟨by simp[Nf,h1,h2,h3],(Below.refl _ _).alloc (Nat.le_refl _) _⟩
   |true=>
    go_enter func119,ntmps119;go_wp2_with (first|(go_at_call 172;refine(jq _ _ _).mono ?_;rintro e w' ⟨rfl,rfl⟩)|(go_at_call 71;refine(dY _ _ _ _).mono ?_;rintro e w' ⟨rfl,rfl⟩));go_ret;exact⟨by simp[Nf,h1,h2,h3],(Below.refl _ _).alloc (Nat.le_refl _) _⟩
theorem uv(sz cl qu mx qn rt bu wk ou:Int)(w:World):
  Calls prog 120 #[JZ sz cl qu mx qn rt bu wk ou] w fun e w'=>e=.returned (.bool (Qy cl qu rt bu wk))/\Below w.heap.size w w':=by
 have arm:∀b,Qy cl qu rt bu wk=b->Calls prog 120 #[JZ sz cl qu mx qn rt bu wk ou] w fun e w'=>e=.returned (.bool b)/\Below w.heap.size w w':=by
  cases h1:gu cl 1 8<;>cases h2:gu qu 1 8<;>cases h3:gu rt 1 16<;>cases h4:gu bu 1 32<;>cases h5:gu wk 1 8<;>
  ·intro b hb;simp[Qy,h1,h2,h3,h4,h5]at hb;subst hb;go_enter func120,ntmps120;go_wp2_with (go_at_call 71;refine(dY _ _ _ _).mono ?_;rintro e w' ⟨rfl,rfl⟩);go_ret;exact⟨rfl,(Below.refl _ _).alloc (Nat.le_refl _) _⟩
 exact arm _ rfl
end
section
open Go.Proofs.Tryz
open Go.RowKit
def Tv(sz mx:Int):Bool:=EV sz 256&&EV mx 32
def VU(cl qu wk:Int):Bool:=gu cl 1 8&&gu qu 1 8&&gu wk 1 8
def VV(qn mx rt bu:Int):Bool:=gu qn mx 64&&gu rt 1 16&&gu bu 1 32
def iV(sz cl qu mx qn rt bu wk ou:Int):Bool:=Nf sz mx qn ou&&Qy cl qu rt bu wk
theorem bv{a b:Bool}(h:a=b):Value.bool a=Value.bool b:=by rw[h]
theorem Du(sz cl qu mx qn rt bu wk ou:Int):iV sz cl qu mx qn rt bu wk ou=(Tv sz mx&&VU cl qu wk&&VV qn mx rt bu&&gu ou (mx+4) 256):=by unfold iV Nf Qy Tv VU VV;cases EV sz 256<;>cases EV mx 32<;>cases gu qn mx 64<;>cases gu ou (mx+4) 256<;>cases gu cl 1 8<;>cases gu qu 1 8<;>cases gu rt 1 16<;>cases gu bu 1 32<;>cases gu wk 1 8<;>rfl
theorem uu(sz cl qu mx qn rt bu wk ou:Int)(w:World):
  Calls prog 118 #[JZ sz cl qu mx qn rt bu wk ou] w fun e w'=>e=.returned (.bool (iV sz cl qu mx qn rt bu wk ou))/\Below w.heap.size w w':=by
 rw[Du];go_enter func118,ntmps118
 go_upto_region 1 with fail
 go_cut [3] (fun s w'=>s=.bool (Tv sz mx)/\w'=w.alloc (.cells #[.int .i64 sz,.int .i64 cl,.int .i64 qu,.int .i64 mx,.int .i64 qn,.int .i64 rt,.int .i64 bu,.int .i64 wk,.int .i64 ou] 35))
 case first=>
  go_wp2
  all_goals
   go_meet
   case rel=>go_light;exact⟨bv (by rw[Bool.eq_iff_iff];simp[Tv,EV,gu, *]<;>omega),rfl⟩
 case rest=>
  obtain⟨rfl,rfl⟩:=hcut
  go_upto_region 2 with fail
  go_cut [4] (fun s w'=>s=.bool (VU cl qu wk)/\w'=w.alloc (.cells #[.int .i64 sz,.int .i64 cl,.int .i64 qu,.int .i64 mx,.int .i64 qn,.int .i64 rt,.int .i64 bu,.int .i64 wk,.int .i64 ou] 35))
  case first=>
   go_wp2
   all_goals
    go_meet
    case rel=>go_light;exact⟨bv (by rw[Bool.eq_iff_iff];simp[VU,gu, *]<;>omega),rfl⟩
  case rest=>
   obtain⟨rfl,rfl⟩:=hcut
   go_upto_region 3 with fail
   go_cut [5] (fun s w'=>s=.bool (VV qn mx rt bu)/\w'=w.alloc (.cells #[.int .i64 sz,.int .i64 cl,.int .i64 qu,.int .i64 mx,.int .i64 qn,.int .i64 rt,.int .i64 bu,.int .i64 wk,.int .i64 ou] 35))
   case first=>
    go_wp2
    all_goals
     go_meet
     case rel=>go_light;exact⟨bv (by rw[Bool.eq_iff_iff];simp[VV,gu, *]<;>omega),rfl⟩
   case rest=>
    obtain⟨rfl,rfl⟩:=hcut;cases h1:Tv sz mx with
    |false=>
     go_wp2;go_ret;exact⟨by simp[h1],(Below.refl _ _).alloc (Nat.le_refl _) _⟩
    |true=>
     have hm:4<=mx/\mx<=32:=by simp[Tv,EV,gu]at h1;exact h1.2.1
     obtain⟨hm1,hm2⟩:=hm;cases h2:VU cl qu wk with
     |false=>
      go_wp2;go_ret;exact⟨by simp[h2],(Below.refl _ _).alloc (Nat.le_refl _) _⟩
     |true=>
      cases h3:VV qn mx rt bu with
      |false=>
       go_wp2;go_ret;exact⟨by simp[h3],(Below.refl _ _).alloc (Nat.le_refl _) _⟩
      |true=>
       go_wp2
       all_goals (go_ret;exact⟨by simp[h1,h2,h3,gu]<;>omega,(Below.refl _ _).alloc (Nat.le_refl _) _⟩)
theorem lq(n:Int)(w:World):Calls prog 80 #[.int .i64 n] w fun e w'=>e=.returned (.int .i64 n)/\w'=w:=by go_enter func80,ntmps80;go_wp2;go_ret;exact⟨rfl,rfl⟩
def XU(b:Bool):Int:=if b then 0 else 1
theorem cZ{W w1:World}(hb:Below W.heap.size W w1):(∀b o,b<W.heap.size->w1.cell? ⟨b,o,none⟩=W.cell? ⟨b,o,none⟩)/\(∀b o,b<W.heap.size->w1.frozen? ⟨b,o,none⟩=W.frozen? ⟨b,o,none⟩):=
 ⟨fun b o h=>hb.cell (p:=⟨b,o,none⟩) h,fun b o h=>hb.frozen (p:=⟨b,o,none⟩) h⟩
theorem xA(sz cl qu mx qn rt bu wk ou:Int)(w:World):
  Calls prog 81 #[JZ sz cl qu mx qn rt bu wk ou] w fun e w'=>e=.returned (.int .i64 (XU (iV sz cl qu mx qn rt bu wk ou)))/\Below w.heap.size w w':=by
 unfold iV;cases h:Nf sz mx qn ou with
 |false=>
  go_enter func81,ntmps81;go_wp2_with (go_at_call 119;refine(qP sz cl qu mx qn rt bu wk ou _).mono ?_;rw[h];rintro e w' ⟨rfl,hb⟩);go_ret;exact⟨rfl,((Below.refl _ _).alloc (Nat.le_refl _) _).trans (hb.mono (by simp))⟩
 |true=>
  cases h2:Qy cl qu rt bu wk with
  |false=>
   go_enter func81,ntmps81;go_wp2_with (first|(go_at_call 119;refine(qP sz cl qu mx qn rt bu wk ou _).mono ?_;rw[h];rintro e w' ⟨rfl,hb⟩;obtain⟨hc,hf⟩:=cZ hb)|(go_at_call 120;refine(uv sz cl qu mx qn rt bu wk ou _).mono ?_;rw[h2];rintro e w'' ⟨rfl,bE⟩));go_ret;exact⟨rfl,(((Below.refl _ _).alloc (Nat.le_refl _) _).trans (hb.mono (by simp))).trans (bE.mono (by have:=hb.size;simp at this;omega))⟩
  |true=>
   go_enter func81,ntmps81;go_wp2_with (first|(go_at_call 119;refine(qP sz cl qu mx qn rt bu wk ou _).mono ?_;rw[h];rintro e w' ⟨rfl,hb⟩;obtain⟨hc,hf⟩:=cZ hb)|(go_at_call 120;refine(uv sz cl qu mx qn rt bu wk ou _).mono ?_;rw[h2];rintro e w'' ⟨rfl,bE⟩));go_ret;exact⟨rfl,(((Below.refl _ _).alloc (Nat.le_refl _) _).trans (hb.mono (by simp))).trans (bE.mono (by have:=hb.size;simp at this;omega))⟩
end
section
open Go.Proofs.Tryz
open Go.RowKit
theorem au(w:World)(n:Nat)(o:Obj):(w.drewN n).alloc o=(w.alloc o).drewN n:=rfl
theorem aj(w:World)(n:Nat)(a:Addr)(v:Value):(w.drewN n).setCell a v=(w.setCell a v).drewN n:=rfl
theorem tM{k:IntKind}{a b:Int}(h:a=b):Ending.returned (.int k a)=.returned (.int k b):=by rw[h]
theorem OP(s:ByteArray)(i:Nat)(w:World)(hs:s.size<=maxLen)(hi:i+1<s.size):
  Calls prog 246 #[.string s,.int .i64 i] w fun e w'=>e=.returned (.int .i64 (two s i))/\∃n,w'=w.drewN n:=by
 unfold maxLen at hs;have hi0:i<s.size:=by omega
 have e1:=ep s i hi0;have e2:=ep s (i+1) hi;have r1:=bO s i;have r2:=bO s (i+1);go_enter func246,ntmps246;go_wp2
 go_quiet (fail)
 go_wp2;go_ret;exact⟨rfl,_,rfl⟩
def lR(w:World)(a:Option Addr)(l:List Int):Prop:=l=[]\/∃b off,a=some ⟨b,off,none⟩/\∀i,i<l.length->w.cell? ⟨b,off+i,none⟩=some (.int .i64 (l.getD i 0))
theorem NM(l:List Int)(n:Int)(k:Nat)(hk:k<l.length)(h:l.getD k 0=n):decide (n∈l)=true:=by simp only[decide_eq_true_eq];rw[<-h];simp[List.getD,hk]
theorem KH(l:List Int)(n:Int)(h:∀j,j<l.length->l.getD j 0≠n):decide (n∈l)=false:=by simp only[decide_eq_false_iff_not];intro hm;obtain⟨j,hj,e⟩:=List.getElem_of_mem hm;exact h j hj (by simp[List.getD,hj,e])
theorem nu(a:Option Addr)(cap:Nat)(l:List Int)(n:Int)(w:World)(hl:l.length<=maxLen)(hc:lR w a l):
  Calls prog 247 #[.slice a l.length cap,.int .i64 n] w fun e w'=>e=.returned (.bool (decide (n∈l)))/\w'=w:=by
 unfold maxLen at hl;rcases hc with rfl|⟨b,off,rfl,hc⟩
 ·go_enter func247,ntmps247;go_wp2;refine wp_loop_rounds 1 ?_;rw[rounds_succ];go_wp2;go_ret;exact⟨by simp,rfl⟩
 ·have HC:Hid (∀i,i<l.length->w.cell? ⟨b,off+i,none⟩=some (.int .i64 (l.getD i 0))):=hc;clear hc;generalize hL:l.length=L at*;have HL:Hid (l.length=L):=hL;clear hL;go_enter func247,ntmps247;go_wp2
  go_loop [5] (fun i=>∃k:Nat,k<=L/\i=.int .i64 k/\Hid (∀j,j<k->l.getD j 0≠n)) (fun i=>L-(intOf i).toNat)
  case atStart=>exact⟨0,Nat.zero_le _,rfl,fun j hj=>absurd hj (Nat.not_lt_zero _)⟩
  case round=>
   obtain⟨k,hk,rfl,hp⟩:=hrel
   by_cases hlt:k<L
   ·have hcell:=HC.out k hlt;have Re:w.cell? ⟨b,off+k,none⟩=some (.int .i64 (l.getD k 0)):=hcell;clear hcell;generalize hx:l.getD k 0=x at Re;have HX:Hid (l.getD k 0=x):=hx;clear hx
    by_cases hq:x=n
    ·subst hq;have hH:Hid (decide (x∈l)=true):=NM l x k (by rw[HL.out];exact hlt) HX.out;go_wp2;go_ret;exact⟨by rw[hH.out];rfl,rfl⟩
    ·have hH:Hid (∀j,j<k+1->l.getD j 0≠n):=fun j hj=>by
      by_cases e:j=k
      ·rw[e,HX.out];exact hq
      ·exact hp.out j (by omega)
     have hb:(x==n)=false:=by simpa using hq
     clear hq;go_wp2
     go_round
     case rel=>exact⟨k+1,by omega,by go_num,hH⟩
     case measure=>simp[intOf];omega
   ·have hH:Hid (decide (n∈l)=false):=KH l n (fun j hj=>hp.out j (by have:=HL.out;omega));go_wp2;go_ret;exact⟨by rw[hH.out];rfl,rfl⟩
abbrev dr(sz cl qu mx qn rt bu wk ou:Int):Array Value:=#[.int .i64 sz,.int .i64 cl,.int .i64 qu,.int .i64 mx,.int .i64 qn,.int .i64 rt,.int .i64 bu,.int .i64 wk,.int .i64 ou]
abbrev aL(wh:Int)(nm:ByteArray)(kd fl ck of ln:Int)(dt:ByteArray)(er:Int):Array Value:=#[.int .i64 wh,.string nm,.int .i64 kd,.int .i64 fl,.int .i64 ck,.int .i64 of,.int .i64 ln,.string dt,.int .i64 er]
theorem pq(m:bg)(w:World):
  Calls prog 175 #[.agg (aL m.wh m.nm m.kd m.fl m.ck m.of m.ln m.dt m.er)] w fun e w'=>e=.returned (.bool (accepted m))/\Below w.heap.size w w':=by
 obtain⟨wh,nm,kd,fl,ck,of,ln,dt,er⟩:=m;go_enter func175,ntmps175;go_wp2
 all_goals (go_ret;exact⟨by simp[accepted, *,bne]<;>rfl,(Below.refl _ _).alloc (Nat.le_refl _) _⟩)
theorem xx(ph:Int)(m:bg)(w:World):
  Calls prog 174 #[.int .i64 ph,.agg (aL m.wh m.nm m.kd m.fl m.ck m.of m.ln m.dt m.er)] w fun e w'=>e=.returned (.int .i64 (after ph m))/\Below w.heap.size w w':=by
 obtain⟨wh,nm,kd,fl,ck,of,ln,dt,er⟩:=m;go_enter func174,ntmps174;go_wp2
 all_goals (go_ret;refine⟨tM ?_,(Below.refl _ _).alloc (Nat.le_refl _) _⟩;go_light;simp_all[after])
end
section
structure St where
 ph:Int
 used:List Int
 pos:Nat
def St.step(st:St)(x:bg×Int):St:=⟨after st.ph x.1,if accepted x.1 then st.used++[x.1.ck]else st.used,st.pos+x.2.toNat⟩
def St.run(st:St)(xs:List (bg×Int)):St:=xs.foldl St.step st
theorem St.vG(st:St)(xs:List (bg×Int))(x:bg×Int):st.run (xs++[x])=(st.run xs).step x:=by simp[St.run,List.foldl_append]
def St.next(sz mx:Int)(s:ByteArray)(st:St):bg×Int:=first sz mx st.ph st.used (s.extract st.pos s.size)
def nJ(sz mx:Int)(s:ByteArray):St->List (bg×Int)->Prop
 |_,[]=>True
 |st,x::xs=>st.next sz mx s=x/\x.2≠0/\nJ sz mx s (st.step x) xs
theorem ym(sz mx:Int)(s:ByteArray)(st:St)(xs:List (bg×Int))(x:bg×Int):nJ sz mx s st (xs++[x])↔nJ sz mx s st xs/\(st.run xs).next sz mx s=x/\x.2≠0:=by
 induction xs generalizing st with
 |nil=>simp[nJ,St.run]
 |cons y ys ih=>
  simp only[List.cons_append,nJ,ih];simp only[St.run,List.foldl_cons];constructor
  ·rintro⟨h1,h2,h3,h4,h5⟩;exact⟨⟨h1,h2,h3⟩,h4,h5⟩
  ·rintro⟨⟨h1,h2,h3⟩,h4,h5⟩;exact⟨h1,h2,h3,h4,h5⟩
theorem yV(s:ByteArray)(f i:Nat):0<=(aI s f i).2/\(aI s f i).2<=s.size:=by
 induction f generalizing i with
 |zero=>unfold aI;split<;>simp<;>omega
 |succ f ih=>
  unfold aI;split
  ·simp
  ·split
   ·exact ih (i+1)
   ·simp;omega
theorem pO(sz mx ph:Int)(used:List Int)(s:ByteArray):0<=(first sz mx ph used s).2/\(first sz mx ph used s).2<=s.size:=by
 have r7:=cj s 7;unfold first
 split
 ·exact yV s 5 0
 ·split
  ·unfold opt;repeat' split
   all_goals simp
   all_goals omega
  ·split
   ·unfold cS;repeat' split
    all_goals simp
    all_goals omega
   ·simp
theorem Gf(sz mx:Int)(s:ByteArray)(st:St):0<=(st.next sz mx s).2/\(st.next sz mx s).2<=(s.size-st.pos:Nat):=by
 have h:=pO sz mx st.ph st.used (s.extract st.pos s.size);have e:(s.extract st.pos s.size).size=s.size-st.pos:=by simp[ByteArray.size_extract]
 rw[e]at h;exact h
theorem vI(sz mx:Int)(s:ByteArray)(st:St)(xs:List (bg×Int))(h0:st.pos<=s.size)(h:nJ sz mx s st xs):st.pos+xs.length<=(st.run xs).pos/\(st.run xs).pos<=s.size:=by
 induction xs generalizing st with
 |nil=>simp[St.run];omega
 |cons x xs ih=>
  obtain⟨h1,h2,h3⟩:=h;have hn:=Gf sz mx s st;rw[h1]at hn;have e:(st.step x).pos=st.pos+x.2.toNat:=rfl;have:=ih (st.step x) (by omega) h3;simp only[St.run,List.foldl_cons,List.length_cons]at this⊢;omega
end
section
def gG(n:Int):List UInt8:=[UInt8.ofNat (n %256).toNat,UInt8.ofNat (n / 256).toNat]
def answer(sz mx:Int)(m:bg):ByteArray:=
 if m.wh=1 then(if(m.nm.toList==[97])=true then⟨#[89]⟩else⟨#[78]⟩)
 else if m.wh=2 then(if(m.nm.toList==[105])=true then⟨#[73]⟩++⟨(gG sz).toArray⟩++⟨(gG mx).toArray⟩else if(m.nm.toList==[103])=true then⟨#[71]⟩else⟨#[85]⟩++m.nm)
 else⟨#[]⟩
structure Cl where
 no:Int
 wt:Int
 ph:Int
 aO:ByteArray
 out:ByteArray
 tok:Int
def Cl.shut(c:Cl):Cl:={c with ph:=4,aO:=⟨#[]⟩,out:=⟨#[]⟩}
def Cl.hear(sz mx:Int)(c:Cl)(x:bg×Int):Cl:={c with ph:=after c.ph x.1,aO:=c.aO.extract x.2.toNat c.aO.size,out:=c.out++answer sz mx x.1}
def Cl.read(sz mx ou:Int):Nat->Cl->Cl
 |0,c=>c
 |f+1,c=>
  if c.ph<=2/\(c.out.size:Int)+6<=ou then
   let x:=first sz mx c.ph [] c.aO
   if x.2=0 then c else if x.1.wh=4 then c.shut else Cl.read sz mx ou f (c.hear sz mx x)
  else c
def fT(s:ByteArray):Prop:=∀i,i<s.size->bt s i≠81
theorem Ds(s:ByteArray)(p i:Nat)(h:p+i<s.size):bt (s.extract p s.size) i=bt s (p+i):=by
 have h1:i<(s.extract p s.size).size:=by simp[ByteArray.size_extract];omega
 rw[<-ep _ i h1,<-ep _ (p+i) h]
 congr 2
 exact ByteArray.getElem_extract ..
theorem fT.rest{s:ByteArray}(h:fT s)(p:Nat):fT (s.extract p s.size):=fun i hi=>by
 have hi':p+i<s.size:=by simp[ByteArray.size_extract]at hi;omega
 rw[Ds s p i hi'];exact h _ hi'
theorem yZ(s:ByteArray)(f i:Nat):(aI s f i).1.wh=0/\(aI s f i).2=0\/(aI s f i).1.wh=1\/(aI s f i).1=.closing:=by
 induction f generalizing i with
 |zero=>unfold aI;split<;>simp[bg.zero]
 |succ f ih=>
  unfold aI;split
  ·simp[bg.zero]
  ·split
   ·exact ih (i+1)
   ·simp
theorem iz(sz mx ph:Int)(us:List Int)(s:ByteArray)(h:fT s):(first sz mx ph us s).2=0\/(first sz mx ph us s).1.wh=1\/(first sz mx ph us s).1.wh=2\/(first sz mx ph us s).1=.closing:=by
 unfold first
 split
 ·rcases yZ s 5 0 with h|h|h
  ·exact .inl h.2
  ·exact .inr (.inl h)
  ·exact .inr (.inr (.inr h))
 ·split
  ·unfold opt;repeat' split
   all_goals simp
  ·split
   ·unfold cS;split
    ·exact .inl rfl
    ·rw[if_pos (.inl (h 0 (by omega)))];simp
   ·exact .inl rfl
theorem nQ{sz mx ph:Int}{us:List Int}{s:ByteArray}(h:fT s)(h0:(first sz mx ph us s).2≠0):accepted (first sz mx ph us s).1=false:=by
 unfold accepted;rcases iz sz mx ph us s h with h|h|h|h
 ·exact absurd h h0
 ·simp[h]
 ·simp[h]
 ·simp[h,bg.closing]
end
section
open Go.Proofs.Tryz
open Go.RowKit
theorem FF(x:Int)(h0:0<=x)(h1:x<256):((UInt8.ofNat x.toNat).toNat:Int)=x:=by simp[UInt8.toNat_ofNat'];omega
theorem Gb(n:Int)(w:World)(h0:0<=n)(h1:n<=65535):
  Calls prog 251 #[.int .i64 n] w fun e w'=>e=.returned (.string ⟨(gG n).toArray⟩)/\Below w.heap.size w w':=by
 have b0:=FF (n %256) (by omega) (by omega);have b1:=FF (n / 256) (by omega) (by omega);have kc:=run_convert_bytes_back (P:=prog) (w.alloc (.cells #[.int .u8 (n %256),.int .u8 (n / 256)] 5)) 158 9 5 ⟨w.heap.size,0,none⟩ 2 (gG n) underlying158 underlying5 underlying9
 have hc:∀(j:Nat) (hj:j<(gG n).length),(w.alloc (.cells #[.int .u8 (n %256),.int .u8 (n / 256)] 5)).cell? ((⟨w.heap.size,0,none⟩:Addr).add j)=some (.int .u8 ((gG n)[j].toNat:Int)):=by
  intro j hj
  match j,hj with
  |0,_=>simp only[gG,List.getElem_cons_zero,b0];simp[Addr.add,go_sem]
  |1,_=>simp only[gG,List.getElem_cons_succ,List.getElem_cons_zero,b1];simp[Addr.add,go_sem]
 have kd:(convert 158 9 (.slice (some ⟨w.heap.size,0,none⟩) 2 2)).run prog (w.alloc (.cells #[.int .u8 (n %256),.int .u8 (n / 256)] 5))=.ok (.string ⟨(gG n).toArray⟩) (w.alloc (.cells #[.int .u8 (n %256),.int .u8 (n / 256)] 5)):=kc hc;clear kc hc b0 b1;go_enter func251,ntmps251;go_wp2;go_ret;exact⟨rfl,(Below.refl _ _).alloc (Nat.le_refl _) _⟩
end
section
open Go.Proofs.Tryz
open Go.RowKit
attribute [local go_sem ↓] Go.wp_at_zero Go.wp_at_succ
attribute [local go_sem] au aj
theorem eK{w w':World}(hb:Below w.heap.size w w'){a:Addr}{v:Value}(h:w.cell? a=some v):w'.cell? a=some v:=by
 have hlt:a.block<w.heap.size:=by
  unfold World.cell? at h;cases e:w.heap[a.block]? with
  |none=>rw[e]at h;cases h
  |some o=>exact(Array.getElem?_eq_some_iff.1 e).1
 rw[World.cell?_of_block (hb.block a.block hlt)];exact h
theorem sB(sz cl qu mx qn rt bu wk ou:Int)(m:bg)(w:World)(h0:0<=sz/\sz<=65535)(h1:0<=mx/\mx<=65535)(hs:m.nm.size<=65535)(hm:m.wh=1\/m.wh=2\/m.wh=4):
  Calls prog 217 #[.agg (dr sz cl qu mx qn rt bu wk ou),.agg (aL m.wh m.nm m.kd m.fl m.ck m.of m.ln m.dt m.er)] w fun e w'=>e=.returned (.string (answer sz mx m))/\Below w.heap.size w w':=by
 obtain⟨wh,nm,kd,fl,ck,of,ln,dt,er⟩:=m;dsimp only at hm hs;have bb:Below w.heap.size w ((w.alloc (.cells (dr sz cl qu mx qn rt bu wk ou) 35)).alloc (.cells (aL wh nm kd fl ck of ln dt er) 132)):=((Below.refl _ _).alloc (Nat.le_refl _) _).alloc (by simp) _;have e1:(gG sz).length=2:=rfl;have e2:(gG mx).length=2:=rfl;rcases hm with rfl|rfl|rfl
 ·have hv:Hid (answer sz mx ⟨1,nm,kd,fl,ck,of,ln,dt,er⟩=if(nm.toList==[97])=true then⟨#[89]⟩else⟨#[78]⟩):=rfl;obtain⟨v,hv'⟩:∃v,v=answer sz mx ⟨1,nm,kd,fl,ck,of,ln,dt,er⟩:=⟨_,rfl⟩;rw[<-hv']at hv⊢;clear hv';cases h:(nm.toList==[97])with
  |true=>
   go_enter func217,ntmps217;go_wp2;go_ret;exact⟨by rw[hv.out,if_pos h];rfl,bb⟩
  |false=>
   go_enter func217,ntmps217;go_wp2;go_ret;exact⟨by rw[hv.out,h];rfl,bb⟩
 ·have hv:Hid (answer sz mx ⟨2,nm,kd,fl,ck,of,ln,dt,er⟩=if(nm.toList==[105])=true then⟨#[73]⟩++⟨(gG sz).toArray⟩++⟨(gG mx).toArray⟩else if(nm.toList==[103])=true then⟨#[71]⟩else⟨#[85]⟩++nm):=rfl;obtain⟨v,hv'⟩:∃v,v=answer sz mx ⟨2,nm,kd,fl,ck,of,ln,dt,er⟩:=⟨_,rfl⟩;rw[<-hv']at hv⊢;clear hv';cases h:(nm.toList==[105])with
  |true=>
   have HB:Hid (Below w.heap.size w ((w.alloc (.cells (dr sz cl qu mx qn rt bu wk ou) 35)).alloc (.cells (aL 2 nm kd fl ck of ln dt er) 132)).drew):=bb.drew;go_enter func217,ntmps217
   go_upto_region 8 with fail
   refine wp_region_noPanic ?_;refine wp_region_held_drew (S:=fun W=>W.cell? ⟨w.heap.size,0,none⟩=some (.int .i64 sz)/\W.cell? ⟨w.heap.size,3,none⟩=some (.int .i64 mx)) (by kernel_rfl) ⟨by simp[go_sem],by simp[go_sem]⟩ ?_;intro hHeld;refine tk 0 ?_;refine tk 1 ?_;refine tk 4 ?_;refine tk 5 ?_;refine rH 2 fun K hK=>?_;go_simp
   (refine(Gb sz _ h0.1 h0.2).mono ?_;rintro e w2 ⟨rfl,bE⟩)
   go_wp2_with fail;refine hK.out _ _ (⟨eK bE hHeld.1,eK bE hHeld.2⟩) (fun pW=>?_);clear hK K;refine tk 3 ?_;refine rH 6 fun K hK=>?_;go_simp
   (refine(Gb mx _ h1.1 h1.2).mono ?_;rintro e w3 ⟨rfl,jS⟩)
   go_wp2_with fail;refine hK.out _ _ (⟨eK jS pW.1,eK jS pW.2⟩) (fun Uv=>?_);clear hK K;refine tk 7 ?_;refine tk 8 ?_;refine wpAnyH_done (by kernel_rfl) ?_ _
   (refine NoPanic.normal ?_;go_wp2_with fail;go_ret;exact⟨by rw[hv.out,if_pos h];rfl,HB.out.trans ((bE.mono HB.out.size).trans (jS.mono (Nat.le_trans HB.out.size bE.size)))⟩)
  |false=>
   cases h2:(nm.toList==[103])with
   |true=>
    go_enter func217,ntmps217;go_wp2;go_ret;exact⟨by rw[hv.out,h,h2];rfl,bb⟩
   |false=>
    go_enter func217,ntmps217;go_wp2;go_ret;exact⟨by rw[hv.out,h,h2];rfl,bb⟩
 ·have hv:Hid (answer sz mx ⟨4,nm,kd,fl,ck,of,ln,dt,er⟩=⟨#[]⟩):=rfl;obtain⟨v,hv'⟩:∃v,v=answer sz mx ⟨4,nm,kd,fl,ck,of,ln,dt,er⟩:=⟨_,rfl⟩;rw[<-hv']at hv⊢;clear hv';go_enter func217,ntmps217;go_wp2;go_ret;exact⟨by rw[hv.out];rfl,bb⟩
theorem Ch(yb y:Nat)(o:ByteArray)(n ou:Int)(w:World)(hn:0<=n/\n<=65535)(ho:o.size<=1048576)(c6:w.cell? ⟨y,6,none⟩=some (.string o))(c5:w.cell? ⟨y,5,none⟩=some (.slice none 0 0))(c8:w.cell? ⟨yb,8,none⟩=some (.int .i64 ou)):
  Calls prog 250 #[.pointer (some ⟨yb,0,none⟩),.pointer (some ⟨y,0,none⟩),.int .i64 n] w fun e w'=>e=.returned (.bool (decide (n+(o.size:Int)<=ou)))/\w'=w:=by
 go_enter func250,ntmps250;go_wp2
 go_loop [2,7] (fun x i=>x=.int .i64 (n+(o.size:Int))/\i=.int .i64 0) (fun _ _=>0)
 case atStart=>exact⟨by go_num,rfl⟩
 case round=>
  obtain⟨rfl,rfl⟩:=hrel;go_wp2;go_ret;exact⟨rfl,rfl⟩
theorem pM(y:Nat)(w:World)(c4:w.cell? ⟨y,4,none⟩=some (.slice none 0 0))(c5:w.cell? ⟨y,5,none⟩=some (.slice none 0 0)):
  Calls prog 216 #[.pointer (some ⟨y,0,none⟩)] w fun e w'=>e=.returned (.slice none 0 0)/\w'=w:=by
 go_enter func216,ntmps216;go_wp2
 go_loop [3,4] (fun x i=>x=.slice none 0 0/\i=.int .i64 0) (fun _ _=>0)
 case atStart=>exact⟨rfl,rfl⟩
 case round=>
  obtain⟨rfl,rfl⟩:=hrel;go_wp2
  go_loop [3,5] (fun x i=>x=.slice none 0 0/\i=.int .i64 0) (fun _ _=>0)
  case atStart=>exact⟨rfl,rfl⟩
  case round=>
   obtain⟨rfl,rfl⟩:=hrel;go_wp2;go_ret;exact⟨rfl,rfl⟩
end
section
open Go.Proofs.Tryz
open Go.RowKit
attribute [local go_sem ↓] Go.wp_at_zero Go.wp_at_succ
attribute [local go_sem] au aj
abbrev rcL(no wt ph:Int)(s o:ByteArray)(tok de:Int):Array Value:=#[.int .i64 no,.int .i64 wt,.int .i64 ph,.string s,.slice none 0 0,.slice none 0 0,.string o,.int .i64 tok,.int .i64 de,.int .i64 0]
abbrev cE(W:World)(y:Nat)(k:Cl)(de:Int):Prop:=W.heap[y]? =some (.cells (rcL k.no k.wt k.ph k.aO k.out k.tok de) 237 (0,0))
abbrev RP(sz cl qu mx qn rt bu wk ou:Int)(sb N:Nat)(many clock:Int)(aA:Int)(opn stop:Bool):Array Value:=
 #[.int .i64 sz,.int .i64 cl,.int .i64 qu,.int .i64 mx,.int .i64 qn,.int .i64 rt,.int .i64 bu,.int .i64 wk,.int .i64 ou,.slice (some ⟨sb,0,none⟩) N N,.int .i64 many,.int .i64 clock,.int .i64 0,.slice none 0 0,.slice none 0 0,.slice none 0 0,.int .i64 aA,.bool opn,.bool stop,.slice none 0 0]
abbrev dA(W:World)(yb:Nat)(sz cl qu mx qn rt bu wk ou:Int)(sb N:Nat)(many clock:Int)(aA:Int)(opn stop:Bool):Prop:=
 W.heap[yb]? =some (.cells (RP sz cl qu mx qn rt bu wk ou sb N many clock aA opn stop) 151 (0,0))
theorem af{w:World}{b T:Nat}{x:Array Value}(h:w.heap[b]? =some (.cells x T (0,0))){i:Nat}{v:Value}(hv:x[i]? =some v):w.cell? ⟨b,i,none⟩=some v:=by simp[World.cell?,h,hv]
theorem aY{w:World}{b T:Nat}{x:Array Value}(h:w.heap[b]? =some (.cells x T (0,0)))(i:Nat):w.frozen? ⟨b,i,none⟩=false:=by simp[World.frozen?,h]
theorem xO(yb y sb N:Nat)(k:Cl)(sz cl qu mx qn rt bu wk ou many clock aA de:Int)(opn stop:Bool)(w:World)(hF:dA w yb sz cl qu mx qn rt bu wk ou sb N many clock aA opn stop)(hC:cE w y k de)(ho:k.out.size<=1048576)(hq:1<=qu):
  Calls prog 215 #[.pointer (some ⟨yb,0,none⟩),.pointer (some ⟨y,0,none⟩)] w fun e w'=>e=.returned (.bool (decide (k.ph<=2)&&decide ((6:Int)+(k.out.size:Int)<=ou)))/\∃m,w'=w.drewN m:=by
 have c4:w.cell? ⟨y,4,none⟩=some (.slice none 0 0):=af hC rfl;have c5:w.cell? ⟨y,5,none⟩=some (.slice none 0 0):=af hC rfl;have c6:w.cell? ⟨y,6,none⟩=some (.string k.out):=af hC rfl;have c2:w.cell? ⟨y,2,none⟩=some (.int .i64 k.ph):=af hC rfl;have d2:w.cell? ⟨yb,2,none⟩=some (.int .i64 qu):=af hF rfl;have d8:w.cell? ⟨yb,8,none⟩=some (.int .i64 ou):=af hF rfl;have Zs:decide ((0:Int)<qu)=true:=by simp;omega
 clear hF hC;cases hp:decide (k.ph<=2)with
 |true=>
  go_enter func215,ntmps215;go_wp2_with (go_at_call 250;refine(Ch yb y k.out 6 ou _ (by omega) ho c6 c5 d8).mono ?_;rintro e w1 ⟨rfl,rfl⟩)
  go_quiet (fail)
  go_wp2;go_ret;refine⟨?_,_,rfl⟩;simp
 |false=>
  go_enter func215,ntmps215;go_wp2_with (go_at_call 250;refine(Ch yb y k.out 6 ou _ (by omega) ho c6 c5 d8).mono ?_;rintro e w1 ⟨rfl,rfl⟩)
  go_quiet (fail)
  go_wp2;go_ret;refine⟨?_,_,rfl⟩;simp
end
end Go.Proofs.YtpobhljcainmdaaGreat
