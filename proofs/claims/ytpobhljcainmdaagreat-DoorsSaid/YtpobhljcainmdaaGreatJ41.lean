/- Proved here: a part of what Doors keeps (Rf14, Ab4, Dr1). -/
import Derived.Test.YtpobhljcainmdaaGreatJ01
import Derived.Test.YtpobhljcainmdaaGreatJ38
import Derived.Test.YtpobhljcainmdaaGreatJ39
import Derived.Test.YtpobhljcainmdaaGreatJ40
set_option maxRecDepth 100000
set_option maxHeartbeats 8000000
set_option linter.all false
namespace Go.Proofs.YtpobhljcainmdaaGreat
section
open Go.Proofs.Tryz
open Go.RowKit
attribute [local go_sem ↓] Go.wp_at_zero Go.wp_at_succ
attribute [local go_sem] au aj
def Cl.ticks(stop:Bool)(sz mx rt bu ou:Int)(k:Cl):Cl:=if stop then k.eC rt bu else Cl.read sz mx ou (k.aO.size+1) (k.eC rt bu)
def uX(g:Cl->Cl)(kr:Nat->Cl)(ys:List (Option Nat))(j:Nat)(y:Nat):Cl:=if y∈ay (ys.take j)then g (kr y)else kr y
section
variable {W W':World} {yb sb N:Nat} {ys:List (Option Nat)} {kr kr':Nat->Cl} {sz qu mx qn rt bu wk ou many clock:Int} {aA:Nat} {stop:Bool} {g:Cl->Cl}
theorem bL.same(h:bL W yb sb N ys kr sz qu mx qn rt bu wk ou many clock aA stop)(he:∀y∈ay ys,kr y=kr' y):bL W yb sb N ys kr' sz qu mx qn rt bu wk ou many clock aA stop:=
 ⟨h.box,h.row,h.len,h.nodup,fun y hy=>he y hy▸h.all y hy⟩
theorem uZ(g:Cl->Cl)(kr:Nat->Cl)(ys:List (Option Nat))(y:Nat):uX g kr ys 0 y=kr y:=if_neg (by simp[ay])
theorem Ge{y:Nat}(hy:y∈ay ys)(hl:ys.length<=N):uX g kr ys N y=g (kr y):=if_pos (by rw[List.take_of_length_le hl];exact hy)
theorem BT{j:Nat}(hj:ys[j]? =some none)(y:Nat):uX g kr ys (j+1) y=uX g kr ys j y:=by have:ay (ys.take (j+1))=ay (ys.take j):=vD hj;unfold uX;rw[this]
theorem xa{j y:Nat}(hn:(ay ys).Nodup)(hj:ys[j]? =some (some y)):y∉ay (ys.take j):=fun hy=>by have h1:ay (ys.take (j+1))=ay (ys.take j)++[y]:=oJ hj;obtain⟨r,hr⟩:∃r,ay ys=ay (ys.take (j+1))++r:=sH ys (j+1);rw[hr,h1]at hn;have:=(List.nodup_append.1 (List.nodup_append.1 hn).1).2.2;exact this y hy y (List.mem_singleton.2 rfl) rfl
theorem Lr{j y:Nat}(hn:(ay ys).Nodup)(hj:ys[j]? =some (some y)):uX g kr ys j y=kr y:=if_neg (xa hn hj)
theorem uY{j y:Nat}(hj:ys[j]? =some (some y))(x:Nat):gJ (uX g kr ys j) y (g (kr y)) x=uX g kr ys (j+1) x:=by
 have h1:ay (ys.take (j+1))=ay (ys.take j)++[y]:=oJ hj;unfold gJ uX;rw[h1]
 by_cases e:x=y
 ·subst e;simp
 ·simp[e]
end
theorem IE(yb sb N:Nat)(ys:List (Option Nat))(kr:Nat->Cl)(sz qu mx qn rt bu wk ou many clock:Int)(aA:Nat)(stop:Bool)(w:World)(h:bL w yb sb N ys kr sz qu mx qn rt bu wk ou many clock aA stop)(hc:iV sz N qu mx qn rt bu wk ou=true)(ht:aA<N)(zl:0<=clock/\clock<=281474976710656)(hs:∀y∈ay ys,Gx (kr y)):
  Calls prog 128 #[.pointer (some ⟨yb,0,none⟩)] w fun e w'=>e=.returned (.tuple #[])/\bL w' yb sb N (lets (fun y=>decide (((kr y).ticks stop sz mx rt bu ou).ph=4)) ys) (fun y=>(kr y).ticks stop sz mx rt bu ou) sz qu mx qn rt bu wk ou many (clock+1) ((aA+(N+1))%N) stop/\aF (yF yb sb ys) w w':=by
 obtain⟨b1,b2,b3,b4,b5,b6,b7,b8,b9⟩:=bk hc;have hN:1<=N:=by omega
 have zi:N<=65535:=by omega
 have hl:=h.len;have HS:Hid (∀y∈ay ys,Gx (kr y)):=hs;have hcw:wrap64 (clock+1)=clock+1:=by unfold wrap64;omega
 have wJ:w.cell? ⟨yb,11,none⟩=some (.int .i64 clock):=af h.box rfl;have f11:=aY h.box 11
 have H0:Hid (bL (w.setCell ⟨yb,11,none⟩ (.int .i64 (clock+1))) yb sb N ys kr sz qu mx qn rt bu wk ou many (clock+1) aA stop/\aF (yF yb sb ys) w (w.setCell ⟨yb,11,none⟩ (.int .i64 (clock+1)))):=
  ⟨⟨dg h.box 11 _,(dV fun e=>aJ h.row h.box (by simp) e).trans h.row,h.len,h.nodup,fun y hy=>(dV fun e=>aJ (h.all y hy) h.box (by simp) e).trans (h.all y hy)⟩,(aF.refl _ w).set (p:=⟨yb,11,none⟩) (.inl rfl) _⟩
 have htn:aA<N:=ht;have HE:Hid (∀y∈ay ys,Gx ((kr y).eC rt bu)):=fun y hy=>(HS.out y hy).eC b6.1 b7
 have HP:Hid (∀y∈ay ys,((kr y).ticks stop sz mx rt bu ou).ph<=2\/((kr y).ticks stop sz mx rt bu ou).ph=4):=fun y hy=>by
  cases stop with
  |true=>exact .inl (HE.out y hy).ph.2
  |false=>
   rcases(sD sz mx ou ((kr y).aO.size+1) ((kr y).eC rt bu) (HE.out y hy).ph (HE.out y hy).jU).1 with e|e
   ·exact .inl e.2
   ·exact .inr e.1
 clear h hs hc;go_enter func128,ntmps128;go_wp2
 go_loopw [2] (fun i wr=>∃j:Nat,j<=N/\i=.int .i64 j/\Hid (bL wr yb sb N ys (uX (Cl.eC rt bu) kr ys j) sz qu mx qn rt bu wk ou many (clock+1) aA stop/\aF (yF yb sb ys) w wr)) (fun i _=>N-(intOf i).toNat)
 case atStart=>exact⟨0,Nat.zero_le _,rfl,H0.out.1.same fun y _=>(uZ _ _ _ y).symm,H0.out.2⟩
 case round=>
  obtain⟨j,hj,rfl,hH⟩:=hrel;have c9:wr.cell? ⟨yb,9,none⟩=some (.slice (some ⟨sb,0,none⟩) N N):=af hH.out.1.box rfl
  by_cases hlt:j<N
  ·have wP:decide ((j:Int)<(N:Int))=true:=by simp;omega
   obtain⟨v,hv⟩:∃v,ys[j]? =some v:=⟨ys[j],by rw[List.getElem?_eq_getElem]⟩;have hc:wr.cell? ⟨sb,j,none⟩=some (tO v):=af hH.out.1.row (gx hv);cases v with
   |none=>
    have HV:Hid (ys[j]? =some none):=hv;simp only[tO,Option.map_none]at hc;clear hv;go_wp2;refine⟨⟨j+1,by omega,by go_num,hH.out.1.same fun y _=>(BT HV.out y).symm,hH.out.2⟩,?_⟩;simp[intOf];omega
   |some y=>
    have HV:Hid (ys[j]? =some (some y)):=hv;have hmem:y∈ay ys:=List.mem_filterMap.2 ⟨some y,List.mem_of_getElem? hv,rfl⟩;have eD:=hH.out.1.all y hmem;rw[Lr hH.out.1.nodup hv]at eD;have AG:yb≠y:=fun e=>aJ hH.out.1.box eD (by simp) e;have HB:Hid (cE wr y (kr y) 0):=eD;have ht:=(HS.out y hmem).tok;simp only[tO,Option.map_some]at hc;clear hv eD
    go_upto_region 6 with fail
    have c7:wr.drew.cell? ⟨y,7,none⟩=some (.int .i64 (kr y).tok):=af HB.out rfl;have f7:wr.drew.frozen? ⟨y,7,none⟩=false:=aY HB.out 7;refine wp_region_noPanic ?_;refine wp_region_held_drew (S:=fun W=>W.cell? ⟨yb,5,none⟩=some (.int .i64 rt)) (by kernel_rfl) (af hH.out.1.box rfl) ?_;intro hHeld;refine tk 0 ?_;refine tk 1 ?_;refine tk 2 ?_;refine tk 3 ?_;refine tk 5 ?_;refine tk 6 ?_;refine tk 7 ?_;refine tk 8 ?_;refine tk 9 ?_;refine rH 4 fun K hK=>?_;go_simp;refine hK.out _ _ (hHeld) (fun uM=>?_);clear hK K;refine tk 10 ?_;refine tk 11 ?_;refine tk 12 ?_;refine rH 13 fun K hK=>?_;go_simp;refine hK.out _ _ (Bf AG uM) (fun QS=>?_);clear hK K;refine wpAnyH_done (by kernel_rfl) ?_ _;refine NoPanic.normal ?_;generalize hW6:World.drew (wr.setCell ⟨y,7,none⟩ _)=W6
    have Jn:Hid (cE W6 y {kr y with tok:=(kr y).tok+rt} 0/\aF (fun i=>i=y) wr W6/\dA W6 yb sz N qu mx qn rt bu wk ou sb N many (clock+1) aA false stop):=by rw[<-hW6,lH (by omega) (by omega)];have T:=(aF.refl (fun i=>i=y) wr).set (p:=⟨y,7,none⟩) rfl (.int .i64 ((kr y).tok+rt));exact⟨dg HB.out 7 _,⟨T.os,T.size,T.block⟩,(dV AG).trans hH.out.1.box⟩
    clear hW6 QS uM hHeld c7 f7;have c7:W6.cell? ⟨y,7,none⟩=some (.int .i64 ((kr y).tok+rt)):=af Jn.out.1 rfl;have f7:=aY Jn.out.1 7;have c6:W6.cell? ⟨yb,6,none⟩=some (.int .i64 bu):=af Jn.out.2.2 rfl
    by_cases hle:(kr y).tok+rt<=bu
    ·have hgt:decide (bu<(kr y).tok+rt)=false:=by simp;omega
     have HE:Hid ((kr y).eC rt bu={kr y with tok:=(kr y).tok+rt}):=by show _=_;unfold Cl.eC;rw[if_pos hle]
     go_wp2
     go_quiet (fail)
     go_wp2;refine⟨⟨j+1,by omega,by go_num,(hH.out.1.client (W':=W6.drewN nq) (k:=(kr y).eC rt bu) hmem (by rw[HE.out];exact Jn.out.1) ⟨Jn.out.2.1.os,Jn.out.2.1.size,Jn.out.2.1.block⟩).same fun x _=>uY HV.out x,hH.out.2.trans (aF.mono (X:=fun i=>i=y) ⟨Jn.out.2.1.os,Jn.out.2.1.size,Jn.out.2.1.block⟩ fun i _ e=>.inr (.inr (e▸hmem)))⟩,?_⟩;simp[intOf];omega
    ·have hgt:decide (bu<(kr y).tok+rt)=true:=by simp;omega
     have HE:Hid ((kr y).eC rt bu={kr y with tok:=bu}):=by show _=_;unfold Cl.eC;rw[if_neg hle]
     have T2:Hid (aF (fun i=>i=y) wr (W6.setCell ⟨y,7,none⟩ (.int .i64 bu))):=Jn.out.2.1.set (p:=⟨y,7,none⟩) rfl _
     have B2:Hid (cE (W6.setCell ⟨y,7,none⟩ (.int .i64 bu)) y ((kr y).eC rt bu) 0):=by show cE _ _ _ _;rw[HE.out];exact dg Jn.out.1 7 _
     go_wp2
     go_quiet (fail)
     go_wp2;refine⟨⟨j+1,by omega,by go_num,(hH.out.1.client (k:=(kr y).eC rt bu) hmem (W':=(W6.setCell ⟨y,7,none⟩ (.int .i64 bu)).drewN nq) B2.out ⟨T2.out.os,T2.out.size,T2.out.block⟩).same fun x _=>uY HV.out x,hH.out.2.trans (aF.mono (X:=fun i=>i=y) ⟨T2.out.os,T2.out.size,T2.out.block⟩ fun i _ e=>.inr (.inr (e▸hmem)))⟩,?_⟩;simp[intOf];omega
  ·have wP:decide ((j:Int)<(N:Int))=false:=by simp;omega
   have H1:Hid (bL wr yb sb N ys (fun y=>(kr y).eC rt bu) sz qu mx qn rt bu wk ou many (clock+1) aA stop/\aF (yF yb sb ys) w wr):=
    ⟨hH.out.1.same fun y hy=>by rw[show j=N by omega];exact Ge hy (by omega),hH.out.2⟩
   clear hH;go_wp2
   go_loopw [4] (fun i wr=>∃j:Nat,j<=N/\i=.int .i64 j/\(stop=true->j=0)/\Hid (bL wr yb sb N ys (uX (fun k=>Cl.read sz mx ou (k.aO.size+1) k) (fun y=>(kr y).eC rt bu) ys j) sz qu mx qn rt bu wk ou many (clock+1) aA stop/\aF (yF yb sb ys) w wr)) (fun i _=>N-(intOf i).toNat)
   case atStart=>exact⟨0,Nat.zero_le _,rfl,fun _=>rfl,H1.out.1.same fun y _=>(uZ (fun k=>Cl.read sz mx ou (k.aO.size+1) k) (fun y=>(kr y).eC rt bu) ys y).symm,H1.out.2⟩
   case round=>
    obtain⟨j,hj,rfl,hst,pW⟩:=hrel;clear H1;have c9:wr.cell? ⟨yb,9,none⟩=some (.slice (some ⟨sb,0,none⟩) N N):=af pW.out.1.box rfl;have Dt:wr.cell? ⟨yb,18,none⟩=some (.bool stop):=af pW.out.1.box rfl;rcases Bool.eq_false_or_eq_true stop with hs|hs
    ·have hj0:=hst hs;subst hj0;rw[hs]at Dt;have hlt:0<N:=hN;have wP:decide ((0:Int)<(N:Int))=true:=by simp;omega
     have HX:Hid (bL wr yb sb N ys (fun y=>(kr y).ticks stop sz mx rt bu ou) sz qu mx qn rt bu wk ou many (clock+1) aA stop/\aF (yF yb sb ys) w wr):=
      ⟨pW.out.1.same fun y _=>by rw[uZ,hs];rfl,pW.out.2⟩
     clear hst hs;have XT:wr.cell? ⟨yb,13,none⟩=some (.slice none 0 0):=af HX.out.1.box rfl;clear pW
     go_wp2_with (first
      |(go_at_call 180;refine(yd yb _ XT).mono ?_;rintro e wr ⟨rfl,rfl⟩)
      |(go_at_call 181;refine(vE yb sb N ys _ sz qu mx qn rt bu wk ou many (clock+1) aA stop _ HX.out.1 hN zi htn b8.1).mono ?_;rintro e w2 ⟨rfl,h2,t2⟩;have H2:Hid (bL w2 yb sb N ys (fun y=>(kr y).ticks stop sz mx rt bu ou) sz qu mx qn rt bu wk ou many (clock+1) ((aA+(N+1))%N) stop/\aF (yF yb sb ys) wr w2):=⟨h2,t2⟩;clear h2 t2)
      |(go_at_call 177;refine(nA yb sb N ys _ sz qu mx qn rt bu wk ou many (clock+1) _ stop _ H2.out.1 zi HP.out).mono ?_;rintro e w3 ⟨rfl,h3,t3⟩))
     exact cw rfl rfl ⟨rfl,h3,(HX.out.2.trans H2.out.2).trans (t3.mono fun i _ e=>e.elim (fun e=>.inr (.inl e)) .inl)⟩
    ·rw[hs]at Dt
     by_cases hlt:j<N
     ·have wP:decide ((j:Int)<(N:Int))=true:=by simp;omega
      obtain⟨v,hv⟩:∃v,ys[j]? =some v:=⟨ys[j],by rw[List.getElem?_eq_getElem]⟩;have hc:wr.cell? ⟨sb,j,none⟩=some (tO v):=af pW.out.1.row (gx hv);have HST:Hid (stop=false):=hs;clear hst hs;cases v with
      |none=>
       have HV:Hid (ys[j]? =some none):=hv;simp only[tO,Option.map_none]at hc;clear hv;go_wp2;refine⟨⟨j+1,by omega,by go_num,(fun e=>by rw[HST.out]at e;cases e),pW.out.1.same fun y _=>(BT HV.out y).symm,pW.out.2⟩,?_⟩;simp[intOf];omega
      |some y=>
       have HV:Hid (ys[j]? =some (some y)):=hv;have hmem:y∈ay ys:=List.mem_filterMap.2 ⟨some y,List.mem_of_getElem? hv,rfl⟩;have eD:=pW.out.1.all y hmem;rw[Lr pW.out.1.nodup hv]at eD;have HB:Hid (cE wr y ((kr y).eC rt bu) 0):=eD;simp only[tO,Option.map_some]at hc;clear hv eD;go_wp2_with (go_at_call 179;refine(IC yb y sb N _ sz N qu mx qn rt bu wk ou many (clock+1) aA 0 false stop _ pW.out.1.box HB.out (HE.out y hmem).ph (HE.out y hmem).jU (by have:=(HE.out y hmem).aO;omega) (by have:=(HE.out y hmem).out;omega) (by omega) b3.1 (by omega) (by omega)).mono ?_;rintro e w1 ⟨rfl,h1,t1⟩;have HR:Hid (cE w1 y (Cl.read sz mx ou (((kr y).eC rt bu).aO.size+1) ((kr y).eC rt bu)) 0/\aF (fun i=>i=y) wr w1):=⟨h1,t1⟩;clear h1 t1);refine⟨⟨j+1,by omega,by go_num,(fun e=>by rw[HST.out]at e;cases e),(pW.out.1.client hmem HR.out.1 HR.out.2).same fun x _=>uY (g:=fun k=>Cl.read sz mx ou (k.aO.size+1) k) (kr:=fun y=>(kr y).eC rt bu) HV.out x,pW.out.2.trans (HR.out.2.mono fun i _ e=>.inr (.inr (e▸hmem)))⟩,?_⟩;simp[intOf];omega
     ·have wP:decide ((j:Int)<(N:Int))=false:=by simp;omega
      have HX:Hid (bL wr yb sb N ys (fun y=>(kr y).ticks stop sz mx rt bu ou) sz qu mx qn rt bu wk ou many (clock+1) aA stop/\aF (yF yb sb ys) w wr):=
       ⟨pW.out.1.same fun y hy=>by rw[show j=N by omega,Ge hy (by omega),hs];rfl,pW.out.2⟩
      clear hst hs;have XT:wr.cell? ⟨yb,13,none⟩=some (.slice none 0 0):=af HX.out.1.box rfl;clear pW
      go_wp2_with (first
       |(go_at_call 180;refine(yd yb _ XT).mono ?_;rintro e wr ⟨rfl,rfl⟩)
       |(go_at_call 181;refine(vE yb sb N ys _ sz qu mx qn rt bu wk ou many (clock+1) aA stop _ HX.out.1 hN zi htn b8.1).mono ?_;rintro e w2 ⟨rfl,h2,t2⟩;have H2:Hid (bL w2 yb sb N ys (fun y=>(kr y).ticks stop sz mx rt bu ou) sz qu mx qn rt bu wk ou many (clock+1) ((aA+(N+1))%N) stop/\aF (yF yb sb ys) wr w2):=⟨h2,t2⟩;clear h2 t2)
       |(go_at_call 177;refine(nA yb sb N ys _ sz qu mx qn rt bu wk ou many (clock+1) _ stop _ H2.out.1 zi HP.out).mono ?_;rintro e w3 ⟨rfl,h3,t3⟩))
      exact cw rfl rfl ⟨rfl,h3,(HX.out.2.trans H2.out.2).trans (t3.mono fun i _ e=>e.elim (fun e=>.inr (.inl e)) .inl)⟩
end
section
open Go.Proofs.Tryz
open Go Go.RowKit
structure ed(W:World)(f:Fy)(yb:Nat)(B:Nat->Prop):Prop where
 at_:∃sb ys kr aA,bL W yb sb f.N ys kr f.sz f.qu f.mx f.qn f.rt f.bu f.wk f.ou f.av f.clock aA f.stop/\aA<f.N/\bH kr ys=f.K/\∀b,yF yb sb ys b->B b
 lt:∀b,B b->b<W.heap.size
section
variable {w w':World} {f:Fy} {yb n:Nat} {B X:Nat->Prop}
theorem ed.old(h:ed w f yb B)(ht:aF X w w')(hX:∀b,B b->¬X b):ed w' f yb B:=by obtain⟨⟨sb,ys,kr,aA,h1,h2,h3,h4⟩,hl⟩:=h;exact⟨⟨sb,ys,kr,aA,h1.old ht (fun b hb=>hX b (h4 b hb)),h2,h3,h4⟩,fun b hb=>Nat.lt_of_lt_of_le (hl b hb) ht.size⟩
theorem ed.grow(h:ed w' f yb B):ed w' f yb (grown B w w'):=by obtain⟨⟨sb,ys,kr,aA,h1,h2,h3,h4⟩,hl⟩:=h;exact⟨⟨sb,ys,kr,aA,h1,h2,h3,fun b hb=>.inl (h4 b hb)⟩,fun b hb=>hb.elim (hl b) (·.2)⟩
theorem ed.send(h:ed w f yb B)(hok:f.Ok n)(u:Int)(s:ByteArray)(hss:s.size<=140737488355328):
  Calls prog 125 #[.pointer (some ⟨yb,0,none⟩),.int .i64 u,.string s] w fun e w'=>e=.returned (.int .i64 (f.jr u s))/\ed w' (f.send u s) yb (grown B w w')/\aF B w w':=by
 have hN:f.N<=65535:=by have:=(bk hok.cfg).2.1;omega
 obtain⟨⟨sb,ys,kr,aA,h1,h2,h3,h4⟩,hl⟩:=id h;cases hf:cH f.K u with
 |none=>
  have e1:f.jr u s=2:=by unfold Fy.jr;rw[hf]
  have e2:f.send u s=f:=by unfold Fy.send;rw[hf]
  rw[e1,e2];rw[<-h3]at hf;refine(ES yb sb f.N ys kr _ _ _ _ _ _ _ _ _ _ aA _ u s w h1 hN (dW hf)).mono ?_;rintro e w' ⟨rfl,rfl⟩;exact⟨rfl,h.grow,aF.refl _ _⟩
 |some k=>
  have hs:=hok.vO k (jK hf)
  by_cases mF:1024<k.aO.size+s.size
  ·have e1:f.jr u s=6:=by unfold Fy.jr;rw[hf];exact if_pos mF
   have e2:f.send u s=f:=by unfold Fy.send;rw[hf];dsimp only;rw[if_pos mF]
   rw[e1,e2];rw[<-h3]at hf;obtain⟨y,hc,rfl⟩:=cv hf;refine(ER yb sb f.N y ys kr _ _ _ _ _ _ _ _ _ _ aA _ u s w h1 hN hc (by have:=hs.ph;omega) hs.aO hss mF).mono ?_;rintro e w' ⟨rfl,rfl⟩;exact⟨rfl,h.grow,aF.refl _ _⟩
  ·have e1:f.jr u s=0:=by unfold Fy.jr;rw[hf];exact if_neg mF
   have e2:f.send u s={f with K:=iZ u (Cl.send s) f.K}:=by unfold Fy.send;rw[hf];dsimp only;rw[if_neg mF]
   rw[e1,e2];rw[<-h3]at hf;obtain⟨y,hc,rfl⟩:=cv hf;refine(LV yb sb f.N y ys kr _ _ _ _ _ _ _ _ _ _ aA _ u s w h1 hN hc (by have:=hs.ph;omega) (by omega)).mono ?_;rintro e w' ⟨rfl,g1,g2⟩;refine⟨rfl,⟨⟨sb,ys,_,aA,g1,h2,?_,fun b hb=>.inl (h4 b hb)⟩,fun b hb=>hb.elim (fun hb=>Nat.lt_of_lt_of_le (hl b hb) g2.size) (·.2)⟩,g2.mono fun b _ hb=>h4 b (.inr (.inr (hb▸fX hc)))⟩;show _=iZ u (Cl.send s) f.K;rw[<-h3];exact tS (Cl.send s) h1.nodup hc
theorem ed.take(h:ed w f yb B)(hok:f.Ok n)(u m:Int):
  Calls prog 126 #[.pointer (some ⟨yb,0,none⟩),.int .i64 u,.int .i64 m] w fun e w'=>e=.returned (.tuple #[.string (f.jw u m),.int .i64 (f.jv u m)])/\ed w' (f.take u m) yb (grown B w w')/\aF B w w':=by
 have hN:f.N<=65535:=by have:=(bk hok.cfg).2.1;omega
 obtain⟨⟨sb,ys,kr,aA,h1,h2,h3,h4⟩,hl⟩:=id h;have hg:∀c∈ay ys,(kr c).ph<=2:=fun c hc=>(hok.vO _ (h3▸kg hc)).ph.2;cases hf:cH f.K u with
 |none=>
  have e0:f.jw u m=⟨#[]⟩:=by unfold Fy.jw;rw[hf]
  have e1:f.jv u m=2:=by unfold Fy.jv;rw[hf]
  have e2:f.take u m=f:=by unfold Fy.take;rw[hf]
  rw[e0,e1,e2];rw[<-h3]at hf;refine(ET yb sb f.N ys kr _ _ _ _ _ _ _ _ _ _ aA _ u m w h1 hN (dW hf)).mono ?_;rintro e w' ⟨rfl,rfl⟩;exact⟨rfl,h.grow,aF.refl _ _⟩
 |some k=>
  have hs:=hok.vO k (jK hf)
  by_cases hneg:m<0
  ·have e0:f.jw u m=⟨#[]⟩:=by unfold Fy.jw;rw[hf];exact if_pos hneg
   have e1:f.jv u m=5:=by unfold Fy.jv;rw[hf];exact if_pos hneg
   have e2:f.take u m=f:=by unfold Fy.take;rw[hf];dsimp only;rw[if_pos hneg]
   rw[e0,e1,e2];rw[<-h3]at hf;obtain⟨y,hc,rfl⟩:=cv hf;refine(ID yb sb f.N y ys kr _ _ _ _ _ _ _ _ _ _ aA _ u m w h1 hN hc hneg).mono ?_;rintro e w' ⟨rfl,rfl⟩;exact⟨rfl,h.grow,aF.refl _ _⟩
  ·have e0:f.jw u m=k.out.extract 0 (min m k.out.size).toNat:=by unfold Fy.jw;rw[hf];exact if_neg hneg
   have e1:f.jv u m=0:=by unfold Fy.jv;rw[hf];exact if_neg hneg
   have e2:f.take u m={f with K:=iZ u (Cl.take (min m k.out.size).toNat) f.K}:=by unfold Fy.take;rw[hf];dsimp only;rw[if_neg hneg]
   rw[e0,e1,e2];rw[<-h3]at hf;obtain⟨y,hc,rfl⟩:=cv hf;refine(LW yb sb f.N y ys kr _ _ _ _ _ _ _ _ _ _ aA _ u m (min m (kr y).out.size).toNat w h1 hN hc hg (by omega) (by have:=hs.out;omega)).mono ?_;rintro e w' ⟨rfl,g1,g2⟩;refine⟨rfl,⟨⟨sb,ys,_,aA,g1,h2,?_,fun b hb=>.inl (h4 b hb)⟩,fun b hb=>hb.elim (fun hb=>Nat.lt_of_lt_of_le (hl b hb) g2.size) (·.2)⟩,g2.mono fun b _ hb=>h4 b hb⟩;show _=iZ u _ f.K;rw[<-h3];exact tS (Cl.take _) h1.nodup hc
theorem ed.jB(h:ed w f yb B)(hok:f.Ok n)(u:Int):
  Calls prog 127 #[.pointer (some ⟨yb,0,none⟩),.int .i64 u] w fun e w'=>e=.returned (.int .i64 (f.nP u))/\ed w' (f.jB u) yb (grown B w w')/\aF B w w':=by
 have hN:f.N<=65535:=by have:=(bk hok.cfg).2.1;omega
 obtain⟨⟨sb,ys,kr,aA,h1,h2,h3,h4⟩,hl⟩:=id h;have hg:∀c∈ay ys,(kr c).ph<=2:=fun c hc=>(hok.vO _ (h3▸kg hc)).ph.2;cases hf:cH f.K u with
 |none=>
  have e1:f.nP u=2:=by unfold Fy.nP;rw[hf]
  have e2:f.jB u=f:=by unfold Fy.jB;rw[hf]
  rw[e1,e2];rw[<-h3]at hf;refine(EK yb sb f.N ys kr _ _ _ _ _ _ _ _ _ _ aA _ u w h1 hN (dW hf)).mono ?_;rintro e w' ⟨rfl,rfl⟩;exact⟨rfl,h.grow,aF.refl _ _⟩
 |some k=>
  have e1:f.nP u=0:=by unfold Fy.nP;rw[hf]
  have e2:f.jB u={f with K:=mj u f.K}:=by unfold Fy.jB;rw[hf]
  rw[e1,e2];rw[<-h3]at hf;obtain⟨y,hc,rfl⟩:=cv hf;refine(EL yb sb f.N y ys kr _ _ _ _ _ _ _ _ _ _ aA _ u w h1 hN hc hg).mono ?_;rintro e w' ⟨rfl,g1,g2⟩;refine⟨rfl,⟨⟨sb,_,kr,aA,g1,h2,?_,fun b hb=>.inl (h4 b ?_)⟩,fun b hb=>hb.elim (fun hb=>Nat.lt_of_lt_of_le (hl b hb) g2.size) (·.2)⟩,g2.mono fun b _ hb=>h4 b hb⟩
  ·show _=mj u f.K;rw[<-h3];exact FI h1.nodup hc
  ·rcases hb with e|e|e
   ·exact .inl e
   ·exact .inr (.inl e)
   ·exact .inr (.inr (dI e).1)
theorem ed.halt(h:ed w f yb B):w.cell? ⟨yb,18,none⟩=some (.bool f.stop)/\w.frozen? ⟨yb,18,none⟩=false/\ed (w.setCell ⟨yb,18,none⟩ (.bool true)) f.halt yb B/\aF B w (w.setCell ⟨yb,18,none⟩ (.bool true)):=by obtain⟨⟨sb,ys,kr,aA,h1,h2,h3,h4⟩,hl⟩:=id h;have ht:aF B w (w.setCell ⟨yb,18,none⟩ (.bool true)):=(aF.refl B w).set (p:=⟨yb,18,none⟩) (h4 _ (.inl rfl)) _;refine⟨af h1.box rfl,aY h1.box 18,⟨⟨sb,ys,kr,aA,⟨dg h1.box 18 _,(dV fun e=>aJ h1.row h1.box (by simp) e).trans h1.row,h1.len,h1.nodup,fun y hy=>(dV fun e=>aJ (h1.all y hy) h1.box (by simp) e).trans (h1.all y hy)⟩,h2,h3,h4⟩,fun b hb=>Nat.lt_of_lt_of_le (hl b hb) ht.size⟩,ht⟩
theorem ed.many(h:ed w f yb B):w.cell? ⟨yb,10,none⟩=some (.int .i64 f.av):=by obtain⟨⟨sb,ys,kr,aA,h1,h2,h3,h4⟩,hl⟩:=id h;exact af h1.box rfl
theorem ed.tells(h:ed w f yb B)(hok:f.Ok n)(u:Int):
  Calls prog 135 #[.pointer (some ⟨yb,0,none⟩),.int .i64 u] w fun e w'=>e=.returned (.tuple #[f.tells u,.int .i64 (f.gp u)])/\Below w.heap.size w w':=by
 have hN:f.N<=65535:=by have:=(bk hok.cfg).2.1;omega
 obtain⟨⟨sb,ys,kr,aA,h1,h2,h3,h4⟩,hl⟩:=id h;cases hf:cH f.K u with
 |none=>
  have e0:f.tells u=.agg tR:=by unfold Fy.tells;rw[hf]
  have e1:f.gp u=2:=by unfold Fy.gp;rw[hf]
  rw[e0,e1];rw[<-h3]at hf;exact Af yb sb f.N ys kr _ _ _ _ _ _ _ _ _ _ aA _ u w h1 hN (dW hf)
 |some k=>
  have e0:f.tells u=MT k 0:=by unfold Fy.tells;rw[hf]
  have e1:f.gp u=0:=by unfold Fy.gp;rw[hf]
  rw[e0,e1];rw[<-h3]at hf;obtain⟨y,hc,rfl⟩:=cv hf;exact Ag yb sb f.N y ys kr _ _ _ _ _ _ _ _ _ _ aA _ u w h1 hN hc
theorem ed.conn(h:ed w f yb B)(hok:f.Ok n)(hn:n<=281474976710656)(wt:Int):
  Calls prog 124 #[.pointer (some ⟨yb,0,none⟩),.int .i64 wt] w fun e w'=>e=.returned (.tuple #[.int .i64 (f.fQ wt),.int .i64 (f.fP wt)])/\ed w' (f.conn wt) yb (grown B w w')/\aF B w w':=by
 have hN:f.N<=65535:=by have:=(bk hok.cfg).2.1;omega
 obtain⟨⟨sb,ys,kr,aA,h1,h2,h3,h4⟩,hl⟩:=id h;have Dt:w.cell? ⟨yb,18,none⟩=some (.bool f.stop):=af h1.box rfl;cases hst:f.stop with
 |true=>
  have e0:f.fQ wt=0:=by unfold Fy.fQ;rw[hst];rfl
  have e1:f.fP wt=4:=by unfold Fy.fP;rw[hst];rfl
  have e2:f.conn wt=f:=by unfold Fy.conn;rw[hst];rfl
  rw[e0,e1,e2];rw[hst]at Dt;refine(rj yb wt w Dt).mono ?_;rintro e w' ⟨rfl,rfl⟩;exact⟨rfl,h.grow,aF.refl _ _⟩
 |false=>
  rw[hst]at Dt;cases hw:gu wt 1 4 with
  |false=>
   have e0:f.fQ wt=0:=by unfold Fy.fQ;rw[hst,hw];rfl
   have e1:f.fP wt=5:=by unfold Fy.fP;rw[hst,hw];rfl
   have e2:f.conn wt=f:=by unfold Fy.conn;rw[hst,hw];rfl
   rw[e0,e1,e2];refine(zV yb wt w Dt hw).mono ?_;rintro e w' ⟨rfl,rfl⟩;exact⟨rfl,h.grow,aF.refl _ _⟩
  |true=>
   have h1':=h1;rw[hst]at h1';cases hf:gN f.K with
   |none=>
    have e0:f.fQ wt=0:=by unfold Fy.fQ;rw[hst,hw,hf];rfl
    have e1:f.fP wt=3:=by unfold Fy.fP;rw[hst,hw,hf];rfl
    have e2:f.conn wt=f:=by unfold Fy.conn;rw[hst,hw,hf];rfl
    rw[e0,e1,e2];refine(wX yb sb f.N ys kr _ _ _ _ _ _ _ _ _ _ aA wt w h1' hN hw fun i hi=>rV hf i (h3▸(pR i).2 hi)).mono ?_;rintro e w' ⟨rfl,rfl⟩;exact⟨rfl,h.grow,aF.refl _ _⟩
   |some i=>
    have e0:f.fQ wt=f.av:=by unfold Fy.fQ;rw[hst,hw,hf];rfl
    have e1:f.fP wt=0:=by unfold Fy.fP;rw[hst,hw,hf];rfl
    have e2:f.conn wt={f with K:=f.K.set i (some (Cl.fresh f.av wt f.bu)),av:=f.av+1,stop:=false}:=by unfold Fy.conn;rw[hw,hf];simp[hst]
    rw[e0,e1,e2];have hfr:=rW hf;rw[<-h3]at hfr;refine(Cc yb sb f.N i ys kr _ _ _ _ _ _ _ _ _ _ aA wt w h1' hN hw (pQ hfr) (by have:=hok.av;omega)).mono ?_;rintro e w' ⟨rfl,y,g1,g2,g3⟩;have wQ:=eI (c:=y) (pQ hfr).1
    have hny:y∉ay ys:=fun hy=>by have:=(Array.getElem?_eq_some_iff.1 (h1.all y hy)).1;omega
    refine⟨rfl,⟨⟨sb,_,_,aA,g1,h2,?_,fun b hb=>?_⟩,fun b hb=>hb.elim (fun hb=>Nat.lt_of_lt_of_le (hl b hb) g3.size) (·.2)⟩,g3.mono fun b _ hb=>?_⟩
    ·show _=f.K.set i _;rw[<-h3];exact Gl hny
    ·rcases hb with e|e|e
     ·exact .inl (h4 b (.inl e))
     ·exact .inl (h4 b (.inr (.inl e)))
     ·have he:=(Array.getElem?_eq_some_iff.1 (g1.all b e)).1;rcases(wQ b).1 e with rfl|e
      ·exact .inr ⟨g2,he⟩
      ·exact .inl (h4 b (.inr (.inr e)))
    ·rcases hb with e|e
     ·exact h4 b (.inr (.inl e))
     ·exact h4 b (.inl e)
theorem VX(S0 N:Nat)(qu mx qn rt bu wk ou:Int)(hc:iV S0 N qu mx qn rt bu wk ou=true):
  Calls prog 79 #[.agg (dr S0 N qu mx qn rt bu wk ou)] w fun e w'=>∃yb,e=.returned (.tuple #[.pointer (some ⟨yb,0,none⟩),.int .i64 0])/\ed w' (Fy.new S0 N qu mx qn rt bu wk ou) yb (grown (fun _=>False) w w')/\Below w.heap.size w w':=by
 have hb:=bk hc;refine(Ot (fun _=>Cl.fresh 0 0 0) S0 N qu mx qn rt bu wk ou w (by omega) hc).mono ?_;rintro e w' ⟨yb,sb,rfl,g1,g2,g3,g4⟩;have hx:yb<w'.heap.size:=(Array.getElem?_eq_some_iff.1 g1.box).1;have hs:sb<w'.heap.size:=(Array.getElem?_eq_some_iff.1 g1.row).1;refine⟨yb,rfl,⟨⟨sb,List.replicate N none,_,0,g1,?_,?_,fun b hb=>?_⟩,fun b hb=>hb.elim False.elim (·.2)⟩,g2⟩
 ·show 0<N;omega
 ·show bH _ _=List.replicate N none;simp[bH]
 ·rcases hb with e|e|e
  ·exact .inr (by omega)
  ·exact .inr (by omega)
  ·rw[iJ]at e;cases e
theorem ed.tick(h:ed w f yb B)(hok:f.Ok n)(hn:n<=281474976710656):
  Calls prog 128 #[.pointer (some ⟨yb,0,none⟩)] w fun e w'=>e=.returned (.tuple #[])/\ed w' f.tick yb (grown B w w')/\aF B w w':=by
 obtain⟨⟨sb,ys,kr,aA,h1,h2,h3,h4⟩,hl⟩:=id h;have hb:=bk hok.cfg;have hs:∀c∈ay ys,Gx (kr c):=fun c hc=>hok.vO _ (h3▸kg hc);have zl:=hok.clock;refine(IE yb sb f.N ys kr _ _ _ _ _ _ _ _ _ _ aA _ w h1 hok.cfg h2 (by omega) hs).mono ?_;rintro e w' ⟨rfl,g1,g2⟩;have hk:∀y,(kr y).ticks f.stop f.sz f.mx f.rt f.bu f.ou=Cl.tick f (kr y):=fun y=>rfl;refine⟨rfl,⟨⟨sb,_,_,_,g1,Nat.mod_lt _ (by omega),?_,fun b hb=>?_⟩,fun b hb=>hb.elim (fun hb=>Nat.lt_of_lt_of_le (hl b hb) g2.size) (·.2)⟩,g2.mono fun b _ hb=>h4 b hb⟩
 ·show _=(f.K.map (Option.map (Cl.tick f))).map (Ek Cl.gone)
  have e1:lets (fun y=>decide (((kr y).ticks f.stop f.sz f.mx f.rt f.bu f.ou).ph=4)) ys=lets (fun y=>(Cl.tick f (kr y)).gone) ys:=by
   unfold lets;refine List.map_congr_left fun a ha=>?_;cases a with
   |none=>rfl
   |some y=>
    have hy:y∈ay ys:=List.mem_filterMap.2 ⟨some y,ha,rfl⟩;show(if decide (((kr y).ticks f.stop f.sz f.mx f.rt f.bu f.ou).ph=4)=true then none else some y)=(if(Cl.tick f (kr y)).gone=true then none else some y);rw[GP (hs y hy) hok.cfg,hk]
  rw[e1,<-h3,<-Gc kr (Cl.tick f) ys,<-Ga (fun c=>Cl.tick f (kr c)) Cl.gone ys];rfl
 ·refine .inl (h4 b ?_);rcases hb with e|e|e
  ·exact .inl e
  ·exact .inr (.inl e)
  ·exact .inr (.inr (dI e).1)
end
end
section
open Go.Proofs.Tryz
open Go Go.Conc Go.RowKit
attribute [local go_sem ↓] Go.wp_at_zero Go.wp_at_succ
theorem ak(a:Act)(d:Option Tmp)(v:Value):(a.put d v).tmps.size=a.tmps.size:=by cases d<;>simp[Act.put]
theorem put_defers(a:Act)(d:Option Tmp)(v:Value):(a.put d v).defers=a.defers:=by cases d<;>rfl
theorem aq{a:Act}{d:Nat}(v:Value)(h:d<a.tmps.size):(a.put (some d) v).eval (.tmp d)=v:=by simp[Act.put,Act.eval,Array.getD,h]
theorem nj{a:Act}{d i:Nat}(v:Value)(h:i≠d):(a.put (some d) v).eval (.tmp i)=a.eval (.tmp i):=by simp only[Act.put,Act.eval,Array.getD_eq_getD_getElem?];rw[Array.getElem?_setIfInBounds_ne (Ne.symm h)]
theorem ev{a:Act}{k:Nat}{v:Value}(h:a.eval (.tmp k)=v):a.tmps[k]?.getD undef=v:=by simpa[Act.eval,Array.getD_eq_getD_getElem?]using h
theorem uV(l:List Value):l=(List.range l.length).map fun i=>l.getD i undef:=by refine List.ext_getElem (by simp) fun i h1 h2=>?_;simp[List.getD_eq_getElem?_getD,h1]
section
variable [aR] {P:Program} {l:List FuncId} {Q:Exit->Act->World->Prop} {a:Act} {u u1:World} {ops:Array Oper} {i:Nat} {rest:List Nat} {o:Oper} {d:Nat}
theorem OX.go(hT:Fit P l)(ho:ops[i]? =some o)(hg:o.guard=none)(hd:o.dst=some d)(hok:okB P l o.op=true){v:Value}(hr:∀τ,(execOp a.eval o).run P (u.tp τ)=.ok (.value v) (u1.tp τ))(c:OX P ops Q rest (a.put (some d) v) u1):OX P ops Q (i::rest) a u:=
 OX.value hT ho (by simp[Region.wanted,hg]) hok hr (hd▸c)
variable {k:Nat} {v:Value}
theorem OX.mv(hT:Fit P l)(ho:ops[i]? =some o)(hg:o.guard=none)(hd:o.dst=some d)(hop:o.op=.move (.tmp k))(hv:a.eval (.tmp k)=v)(c:OX P ops Q rest (a.put (some d) v) u):OX P ops Q (i::rest) a u:=
 OX.go (u1:=u) hT ho hg hd (by rw[hop];rfl) (fun τ=>by unfold execOp;rw[hop];simp[hv]) c
theorem OX.oW(hT:Fit P l)(ho:ops[i]? =some o)(hg:o.guard=none)(hd:o.dst=some d)(hop:o.op=.assign (.tmp k))(hv:a.eval (.tmp k)=v)(c:OX P ops Q rest (a.put (some d) v) u):OX P ops Q (i::rest) a u:=
 OX.go (u1:=u) hT ho hg hd (by rw[hop];rfl) (fun τ=>by unfold execOp;rw[hop];simp[hv]) c
theorem OX.ZP{p:Addr}(hT:Fit P l)(ho:ops[i]? =some o)(hg:o.guard=none)(hd:o.dst=some d)(hop:o.op=.nilCheck (.tmp k))(hv:a.eval (.tmp k)=.pointer (some p))(c:OX P ops Q rest (a.put (some d) (.pointer (some p))) u):OX P ops Q (i::rest) a u:=
 OX.go (u1:=u) hT ho hg hd (by rw[hop];rfl) (fun τ=>by unfold execOp;rw[hop];simp[hv]) c
theorem OX.Uk{p:Value}{t j:Nat}(hT:Fit P l)(ho:ops[i]? =some o)(hg:o.guard=none)(hd:o.dst=some d)(hop:o.op=.fieldAddr t (.tmp k) j)(hok:okB P l (.fieldAddr t (.tmp k) j)=true)(hv:a.eval (.tmp k)=p)(hr:∀w,(Instr.fieldAt t p j).run P w=.ok v w)(c:OX P ops Q rest (a.put (some d) v) u):OX P ops Q (i::rest) a u:=
 OX.go (u1:=u) hT ho hg hd (by rw[hop];exact hok) (fun τ=>by unfold execOp;rw[hop];simp[hv,hr]) c
theorem OX.ld{p:Value}{t:Nat}(hT:Fit P l)(ho:ops[i]? =some o)(hg:o.guard=none)(hd:o.dst=some d)(hop:o.op=.load t (.tmp k))(hv:a.eval (.tmp k)=p)(hr:∀τ,(Instr.loadAt t p).run P (u.tp τ)=.ok v (u.tp τ))(c:OX P ops Q rest (a.put (some d) v) u):OX P ops Q (i::rest) a u:=
 OX.go (u1:=u) hT ho hg hd (by rw[hop];rfl) (fun τ=>by unfold execOp;rw[hop];simp[hv,hr]) c
end
def ct:Code->Code|.cond _ x _=>x|_=>.skip
def cf:Code->Code|.cond _ _ y=>y|_=>.skip
theorem WX.test[aR]{l:List FuncId}(hT:Fit prog l){Q:Exit->Act->World->Prop}{a:Act}{u:World}{ops:Array Oper}{id k d0 d1:Nat}{c n:Int}{o0 o1:Oper}(hr:List.range ops.size=[0,1])(h0:ops[0]? =some o0)(NQ:o0.op=.binOp .eql 3 (.tmp k) (.const (.int .i64 c)) 3)(YX:o0.dst=some d0)(g0:o0.guard=none)
  (h1:ops[1]? =some o1) (BN:o1.op=.assign (.tmp d0)) (YY:o1.dst=some d1) (g1:o1.guard=none) (hk:a.eval (.tmp k)=.int .i64 n) (hs:d0<a.tmps.size) (q:Q .normal ((a.put (some d0) (.bool (n==c))).put (some d1) (.bool (n==c))) u):WX prog (.region id ops false) Q a u:=by
 have hk':=ev hk;refine WX.region ?_;rw[hr];refine OX.go (v:=.bool (n==c)) (u1:=u) hT h0 g0 YX (by rw[NQ];kernel_rfl) (fun τ=>?_) ?_
 ·unfold execOp;rw[NQ];go_simp
 ·refine OX.go (v:=.bool (n==c)) (u1:=u) hT h1 g1 YY (by rw[BN];rfl) (fun τ=>?_) (OX.nil q);unfold execOp;rw[BN];show _=_;simp[aq _ hs]
structure Kp(m:Nat)(a a':Act):Prop where
 size:a'.tmps.size=a.tmps.size
 defers:a'.defers=a.defers
 at_:∀i,i<=m->a'.eval (.tmp i)=a.eval (.tmp i)
theorem Kp.trans{m:Nat}{a b c:Act}(h:Kp m a b)(k:Kp m b c):Kp m a c:=⟨k.size.trans h.size,k.defers.trans h.defers,fun i hi=>(k.at_ i hi).trans (h.at_ i hi)⟩
theorem Kp.put{m d:Nat}(a:Act)(h:m<d)(v:Value):Kp m a (a.put (some d) v):=⟨ak ..,put_defers ..,fun i hi=>nj v (by omega)⟩
def arm(c:Code):Code:=ct (bR c)
def nx(c:Code):Code:=cf (bR c)
theorem WX.case[aR]{l:List FuncId}(hT:Fit prog l){Q:Exit->Act->World->Prop}{a:Act}{u:World}{c:Code}{ops:Array Oper}{id k d0 d1 m:Nat}{c0 n:Int}{o0 o1:Oper}(hc:c=.seq (.region id ops false) (.cond (.tmp d1) (arm c) (nx c)))(hr:List.range ops.size=[0,1])(h0:ops[0]? =some o0)(NQ:o0.op=.binOp .eql 3 (.tmp k) (.const (.int .i64 c0)) 3)(YX:o0.dst=some d0)(g0:o0.guard=none)
  (h1:ops[1]? =some o1) (BN:o1.op=.assign (.tmp d0)) (YY:o1.dst=some d1) (g1:o1.guard=none) (hk:a.eval (.tmp k)=.int .i64 n) (hs:d0<a.tmps.size) (hs1:d1<a.tmps.size) (m0:m<d0) (m1:m<d1) (q:∀a',Kp m a a'->WX prog (if n=c0 then arm c else nx c) Q a' u):WX prog c Q a u:=by
 rw[hc];refine WX.seq (WX.test hT hr h0 NQ YX g0 h1 BN YY g1 hk hs ?_);refine WX.cond (v:=n==c0) (aq _ (by rw[ak];exact hs1)) ?_;have:=q _ ((Kp.put a m0 (.bool (n==c0))).trans (Kp.put _ m1 (.bool (n==c0))))
 by_cases h:n=c0
 ·rw[if_pos h]at this;rw[if_pos (by simpa using h)];exact this
 ·rw[if_neg h]at this;rw[if_neg (by simpa using h)];exact this
end
end Go.Proofs.YtpobhljcainmdaaGreat
