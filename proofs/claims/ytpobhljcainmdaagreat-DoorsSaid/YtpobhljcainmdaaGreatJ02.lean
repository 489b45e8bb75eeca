/- Proved here: a part of what Doors keeps (Rf3, Cn1, Wire1, Cn2, Ref3, Wire2). -/
import Derived.Conc.LoneSelect
import Derived.Deep.DrawnRows
import Derived.Deep.RegionHeld3
import Derived.Laws.MakeOwn
import Derived.Lib.BufferWrite
import Derived.Lib.Strings
import Derived.Lib.UnsafeStr
import Derived.Lib.Walk
import Derived.Test.YtpobhljcainmdaaGreatJ01
set_option maxRecDepth 100000
set_option maxHeartbeats 8000000
set_option linter.all false
namespace Go.Proofs.YtpobhljcainmdaaGreat
section
open Go.Proofs.Tryz
open Go.RowKit
attribute [local go_sem ↓] Go.wp_at_zero Go.wp_at_succ
attribute [local go_sem] au aj
def tO(v:Option Nat):Value:=.pointer (v.map fun c=>⟨c,0,none⟩)
def EP(ys:List (Option Nat)):Array Value:=(ys.map tO).toArray
abbrev AQ(W:World)(sb:Nat)(ys:List (Option Nat)):Prop:=W.heap[sb]? =some (.cells (EP ys) 234 (0,0))
theorem gx{ys:List (Option Nat)}{j:Nat}{v:Option Nat}(h:ys[j]? =some v):(EP ys)[j]? =some (tO v):=by simp[EP,h]
theorem Ad{ys:List (Option Nat)}(j:Nat)(v:Option Nat):(EP ys).setIfInBounds j (tO v)=EP (ys.set j v):=by simp[EP,List.map_set]
def dN(ys:List (Option Nat)):List Nat:=ys.filterMap id
theorem oJ{cl:List (Option Nat)}{i c:Nat}(h:cl[i]? =some (some c)):dN (cl.take (i+1))=dN (cl.take i)++[c]:=by rw[List.take_add_one,h];simp[dN]
theorem vD{cl:List (Option Nat)}{i:Nat}(h:cl[i]? =some none):dN (cl.take (i+1))=dN (cl.take i):=by rw[List.take_add_one,h];simp[dN]
theorem sH(cl:List (Option Nat))(i:Nat):∃r,dN cl=dN (cl.take i)++r:=⟨dN (cl.drop i),by unfold dN;rw[<-List.filterMap_append,List.take_append_drop]⟩
theorem dg{w:World}{b T:Nat}{x:Array Value}(h:w.heap[b]? =some (.cells x T (0,0)))(i:Nat)(v:Value):(w.setCell ⟨b,i,none⟩ v).heap[b]? =some (.cells (x.setIfInBounds i v) T (0,0)):=by simp[World.setCell,Array.getElem?_modify,h]
theorem dV{w:World}{b k i:Nat}{v:Value}(hne:k≠b):(w.setCell ⟨b,i,none⟩ v).heap[k]? =w.heap[k]? :=Below.heap_setCell w ⟨b,i,none⟩ v k hne
structure Qm(X:Nat->Prop)(w w':World):Prop where
 os:w'.os=w.os
 size:w.heap.size<=w'.heap.size
 block:∀k,k<w.heap.size->¬X k->w'.heap[k]? =w.heap[k]?
theorem Qm.refl(X:Nat->Prop)(w:World):Qm X w w:=⟨rfl,Nat.le_refl _,fun _ _ _=>rfl⟩
theorem Qm.set{X:Nat->Prop}{a w:World}(h:Qm X a w){p:Addr}(hp:X p.block)(v:Value):Qm X a (w.setCell p v):=
 ⟨h.os,by simpa using h.size,fun k hk hx=>(Below.heap_setCell w p v k (fun e=>hx (e▸hp))).trans (h.block k hk hx)⟩
theorem vw(y:Nat)(k:Cl)(de:Int)(w:World)(h:cE w y k de):
  Calls prog 178 #[.pointer (some ⟨y,0,none⟩)] w fun e w'=>e=.returned (.tuple #[])/\cE w' y k.shut de/\Qm (fun i=>i=y) w w':=by
 have c2:w.cell? ⟨y,2,none⟩=some (.int .i64 k.ph):=af h rfl;have c3:w.cell? ⟨y,3,none⟩=some (.string k.aO):=af h rfl;have c4:w.cell? ⟨y,4,none⟩=some (.slice none 0 0):=af h rfl;have c6:w.cell? ⟨y,6,none⟩=some (.string k.out):=af h rfl;have fz:∀i,w.frozen? ⟨y,i,none⟩=false:=fun i=>aY h i;have HQ:Hid (cE ((((w.setCell ⟨y,2,none⟩ (.int .i64 4)).setCell ⟨y,3,none⟩ (.string ⟨#[]⟩)).setCell ⟨y,4,none⟩ (.slice none 0 0)).setCell ⟨y,6,none⟩ (.string ⟨#[]⟩)) y k.shut de):=dg (dg (dg (dg h 2 _) 3 _) 4 _) 6 _;clear h;go_enter func178,ntmps178;go_wp2;exact⟨rfl,.tuple #[],by simp[results,results178],rfl,HQ.out,(((((Qm.refl (fun i=>i=y) w).set (p:=⟨y,2,none⟩) rfl _).set (p:=⟨y,3,none⟩) rfl _).set (p:=⟨y,4,none⟩) rfl _).set (p:=⟨y,6,none⟩) rfl _)⟩
theorem IA(yb sb N:Nat)(ys:List (Option Nat))(no:Nat->Int)(u:Int)(w:World)(c9:w.cell? ⟨yb,9,none⟩=some (.slice (some ⟨sb,0,none⟩) N N))(hR:AQ w sb ys)(hl:ys.length=N)(hN:N<=65535)(hno:∀y∈dN ys,w.cell? ⟨y,0,none⟩=some (.int .i64 (no y))):
  Calls prog 176 #[.pointer (some ⟨yb,0,none⟩),.int .i64 u] w fun e w'=>e=.returned (tO ((dN ys).find? fun y=>decide (no y=u)))/\w'=w:=by
 go_enter func176,ntmps176;go_wp2
 go_loop [5] (fun i=>∃j:Nat,j<=N/\i=.int .i64 j/\Hid (∀y∈dN (ys.take j),no y≠u)) (fun i=>N-(intOf i).toNat)
 case atStart=>exact⟨0,Nat.zero_le _,rfl,fun y h=>by simp[dN]at h⟩
 case round=>
  obtain⟨j,hj,rfl,hp⟩:=hrel
  by_cases hlt:j<N
  ·have wP:decide ((j:Int)<(N:Int))=true:=by simp;omega
   obtain⟨v,hv⟩:∃v,ys[j]? =some v:=⟨ys[j],by rw[List.getElem?_eq_getElem]⟩;have hc:w.cell? ⟨sb,j,none⟩=some (tO v):=af hR (gx hv);cases v with
   |none=>
    have HN:Hid (dN (ys.take (j+1))=dN (ys.take j)):=vD hv;simp only[tO,Option.map_none]at hc;clear hv;go_wp2
    go_round
    case rel=>exact⟨j+1,by omega,by go_num,by rw[HN.out];exact hp.out⟩
    case measure=>simp[intOf];omega
   |some y=>
    have hmem:y∈dN ys:=List.mem_filterMap.2 ⟨some y,List.mem_of_getElem? hv,rfl⟩;have c0:=hno y hmem;have HS:Hid (dN (ys.take (j+1))=dN (ys.take j)++[y]):=oJ hv;have HP:Hid (∃r,dN ys=dN (ys.take (j+1))++r):=sH ys (j+1);simp only[tO,Option.map_some]at hc;clear hv
    by_cases hu:no y=u
    ·have ZD:(no y==u)=true:=by simpa using hu
     have HF:Hid ((dN ys).find? (fun y=>decide (no y=u))=some y):=by obtain⟨r,hr⟩:=HP.out;show _=_;rw[hr,HS.out,List.append_assoc,List.find?_append,List.find?_eq_none.2 (fun c' fN=>by simpa using hp.out c' fN)];simp[hu]
     clear hu;go_wp2;go_ret;exact⟨by rw[HF.out];rfl,rfl⟩
    ·have ZD:(no y==u)=false:=by simpa using hu
     have HU:Hid (no y≠u):=hu;clear hu;go_wp2
     go_round
     case rel=>
      refine⟨j+1,by omega,by go_num,fun y' hy'=>?_⟩;rw[HS.out]at hy';rcases List.mem_append.1 hy' with h|h
      ·exact hp.out y' h
      ·rw[List.mem_singleton.1 h];exact HU.out
     case measure=>simp[intOf];omega
  ·have wP:decide ((j:Int)<(N:Int))=false:=by simp;omega
   have HF:Hid ((dN ys).find? (fun y=>decide (no y=u))=none):=by have:=hp.out;rw[List.take_of_length_le (by omega)]at this;exact List.find?_eq_none.2 (fun y hy=>by simpa using this y hy)
   go_wp2;go_ret;exact⟨by rw[HF.out];rfl,rfl⟩
end
section
open Go.Proofs.Tryz
open Go.RowKit Go.Conc
attribute [local go_sem ↓] Go.wp_at_zero Go.wp_at_succ
attribute [local go_sem] au aj
abbrev Nl(no wt sz cl qu mx qn rt bu wk ou:Int)(rb:Nat)(s:ByteArray)(out:Value)(tok de:Int)(ch:Nat):Array Value:=
 #[.int .i64 no,.int .i64 wt,.int .i64 sz,.int .i64 cl,.int .i64 qu,.int .i64 mx,.int .i64 qn,.int .i64 rt,.int .i64 bu,.int .i64 wk,.int .i64 ou,.pointer (some ⟨rb,0,none⟩),.string s,.slice none 0 0,.int .i64 0,.int .i64 0,out,.int .i64 tok,.int .i64 de,.int .i64 0,.chan (some ch)]
theorem eG(c ch:Nat)(w:World)(h:w.cell? ⟨c,20,none⟩=some (.chan (some ch)))(hc:w.heap[ch]? =some (.chan 0 #[] false 0 0 false)):
  Calls prog 116 #[.pointer (some ⟨c,0,none⟩)] w fun e w'=>e=.returned (.bool false)/\w'=w:=by
 refine calls_of_loneTo fun cs=>?_
 have e:Frame.enter prog 116 #[.pointer (some ⟨c,0,none⟩)] .normal=(base 116).at ⟨#[.pointer (some ⟨c,0,none⟩),undef,undef,undef,undef,undef,undef,undef,undef,undef],[]⟩ [.code (f116.body.getD .skip)]:=by simp[Frame.enter,Frame.at,func116,base,f116]
 rw[e];refine LoneTo.goes (n:=13) ?_;simp only[f116,Option.getD_some]
 s_c stepG_seq
 s_reg
 s_op
 s_c stepG_region_end
 s_c stepG_seq
 s_reg
 s_op
 s_op
 s_op
 s_op
 s_c stepG_region_end
 s_c stepG_seq
 s_reg
 s_stop
 refine LoneTo.step (step_lone_select_default (c:=ch) (z:=.agg #[]) (cap:=0) (s:=0) (r:=0) (tm:=false) (stepG_comm (cases:=#[rcase ch (.agg #[])]) (blocking:=false) (shape:=.select) (w':=w) rfl rfl (by decide) (by simp[go_sem,execOp,rcase,Act.eval])) hc) ?_;rw[Frame.finish_at]
 walk_nrm
 refine LoneTo.goes (n:=11) ?_
 s_op
 s_op
 s_c stepG_region_end
 s_c stepG_block
 s_cond false
 s_c stepG_seq
 s_reg
 s_op
 s_c stepG_region_end
 s_c stepG_ret'
 s_stop
 exact LoneTo.done ⟨.returned (.bool false),_,rfl,⟨rfl,rfl⟩,rfl,rfl,rfl,rfl,_,func116,by simp[results,f116,Frame.at]⟩
theorem nR(c ch:Nat)(w:World)(h:w.cell? ⟨c,20,none⟩=some (.chan (some ch)))(hc:w.heap[ch]? =some (.chan 0 #[] true 0 0 false)):
  Calls prog 116 #[.pointer (some ⟨c,0,none⟩)] w fun e w'=>e=.returned (.bool true)/\w'=w:=by
 refine calls_of_loneTo fun cs=>?_
 have e:Frame.enter prog 116 #[.pointer (some ⟨c,0,none⟩)] .normal=(base 116).at ⟨#[.pointer (some ⟨c,0,none⟩),undef,undef,undef,undef,undef,undef,undef,undef,undef],[]⟩ [.code (f116.body.getD .skip)]:=by simp[Frame.enter,Frame.at,func116,base,f116]
 rw[e];refine LoneTo.goes (n:=13) ?_;simp only[f116,Option.getD_some]
 s_c stepG_seq
 s_reg
 s_op
 s_c stepG_region_end
 s_c stepG_seq
 s_reg
 s_op
 s_op
 s_op
 s_op
 s_c stepG_region_end
 s_c stepG_seq
 s_reg
 s_stop
 refine LoneTo.step (step_lone_select_recv_shut (c:=ch) (z:=.agg #[]) (cap:=0) (s:=0) (r:=0) (tm:=false) (stepG_comm (cases:=#[rcase ch (.agg #[])]) (blocking:=false) (shape:=.select) (w':=w) rfl rfl (by decide) (by simp[go_sem,execOp,rcase,Act.eval])) hc) ?_;rw[Frame.finish_at]
 walk_nrm
 refine LoneTo.goes (n:=11) ?_
 s_op
 s_op
 s_c stepG_region_end
 s_c stepG_block
 s_cond true
 s_c stepG_seq
 s_reg
 s_op
 s_c stepG_region_end
 s_c stepG_ret'
 s_stop
 exact LoneTo.done ⟨.returned (.bool true),_,rfl,⟨rfl,rfl⟩,rfl,rfl,rfl,rfl,_,func116,by simp[results,f116,Frame.at]⟩
theorem Dq{w:World}{a:Addr}{v:Value}(h:w.cell? a=some v):a.block<w.heap.size:=by
 unfold World.cell? at h;cases e:w.heap[a.block]? with
 |none=>rw[e]at h;cases h
 |some o=>exact(Array.getElem?_eq_some_iff.1 e).1
theorem aP{w w':World}(hb:Below w.heap.size w w'){a:Addr}{v:Value}(h:w.cell? a=some v):w'.cell? a=some v:=by rw[World.cell?_of_block (hb.block a.block (Dq h))];exact h
abbrev th:Value:=.agg #[.int .i64 0,.string ⟨#[]⟩,.int .i64 0,.int .i64 0,.int .i64 0,.int .i64 0,.int .i64 0,.string ⟨#[]⟩,.int .i64 0,.int .i64 0]
theorem uD(c:Nat)(w:World)(h:w.cell? ⟨c,13,none⟩=some (.slice none 0 0)):
  Calls prog 78 #[.pointer (some ⟨c,0,none⟩)] w fun e w'=>e=.returned (.tuple #[th,.bool false])/\Below w.heap.size w w':=by
 have hc:c<w.heap.size:=Dq h;go_enter func78,ntmps78;go_wp2;refine bodyPost_ret (v:=.tuple #[th,.bool false]) (by simp[results,results78,go_sem]) rfl ⟨rfl,?_⟩
 repeat (refine Below.setCell ?_ (Nat.le_refl _) _)
 exact(Below.refl _ _).alloc (Nat.le_refl _) _
theorem BH(c:Nat)(w:World)(oa:Option Addr)(n cap:Nat)(k ou:Int)(hn:n<=4194304)(hk:0<=k/\k<=65535)(h:w.cell? ⟨c,16,none⟩=some (.slice oa n cap))(h2:w.cell? ⟨c,15,none⟩=some (.int .i64 0))(h3:w.cell? ⟨c,10,none⟩=some (.int .i64 ou)):
  Calls prog 225 #[.pointer (some ⟨c,0,none⟩),.int .i64 k] w fun e w'=>e=.returned (.bool (decide ((n:Int)+k<=ou)))/\∃m,w'=w.drewN m:=by
 go_enter func225,ntmps225;go_wp2
 go_quiet (fail)
 go_wp2;go_ret;exact⟨rfl,_,rfl⟩
theorem nL(c:Nat)(w:World)(oa:Option Addr)(n cap:Nat)(ou:Int)(hn:n<=4194304)(hq:w.cell? ⟨c,13,none⟩=some (.slice none 0 0))(h:w.cell? ⟨c,16,none⟩=some (.slice oa n cap))(h2:w.cell? ⟨c,15,none⟩=some (.int .i64 0))(h3:w.cell? ⟨c,10,none⟩=some (.int .i64 ou)):
  Calls prog 188 #[.pointer (some ⟨c,0,none⟩)] w fun e w'=>e=.returned (.bool (decide ((n:Int)+6<=ou)))/\Below w.heap.size w w':=by
 have hc:c<w.heap.size:=Dq h;go_enter func188,ntmps188
 go_wp2_with (first
  |(go_at_call 78;refine(uD c _ hq).mono ?_;rintro e w1 ⟨rfl,hb⟩)
  |(go_at_call 225;have bE:=hb.alloc hb.size (.cells #[.int .i64 0,.string ⟨#[]⟩,.int .i64 0,.int .i64 0,.int .i64 0,.int .i64 0,.int .i64 0,.string ⟨#[]⟩,.int .i64 0,.int .i64 0] 134);refine(BH c _ oa n cap 6 ou hn (by omega) (aP bE h) (aP bE h2) (aP bE h3)).mono ?_;rintro e w2 ⟨rfl,m,rfl⟩))
 go_ret;exact⟨rfl,below_drewN bE _⟩
theorem zK(c ch:Nat)(w:World)(h:w.cell? ⟨c,20,none⟩=some (.chan (some ch)))(hc:w.heap[ch]? =some (.chan 0 #[] true 0 0 false)):
  Calls prog 151 #[.pointer (some ⟨c,0,none⟩)] w fun e w'=>e=.returned (.bool false)/\Below w.heap.size w w':=by
 go_enter func151,ntmps151;go_wp2
 go_quiet ((go_at_call 116;exact Calls.quiet_of_same (nR c ch _ h hc)))
 go_wp2;go_ret;exact⟨rfl,below_drewN (Below.refl _ _) _⟩
abbrev Jp(c ch:Nat)(oa:Option Addr)(n cap:Nat)(qu ou:Int)(W:World):Prop:=W.cell? ⟨c,13,none⟩=some (.slice none 0 0)/\W.cell? ⟨c,4,none⟩=some (.int .i64 qu)/\W.cell? ⟨c,20,none⟩=some (.chan (some ch))/\W.cell? ⟨c,16,none⟩=some (.slice oa n cap)/\W.cell? ⟨c,15,none⟩=some (.int .i64 0)/\W.cell? ⟨c,10,none⟩=some (.int .i64 ou)/\W.heap[ch]? =some (.chan 0 #[] false 0 0 false)
theorem Jp.later{c ch:Nat}{oa:Option Addr}{n cap:Nat}{qu ou:Int}{W W':World}(h:Jp c ch oa n cap qu ou W)(hb:Below W.heap.size W W'):Jp c ch oa n cap qu ou W':=
 ⟨aP hb h.1,aP hb h.2.1,aP hb h.2.2.1,aP hb h.2.2.2.1,aP hb h.2.2.2.2.1,aP hb h.2.2.2.2.2.1,(hb.block _ (Array.getElem?_eq_some_iff.1 h.2.2.2.2.2.2).1).trans h.2.2.2.2.2.2⟩
theorem lg(c ch:Nat)(oa:Option Addr)(n cap:Nat)(qu ou:Int)(w:World)(hn:n<=4194304)(Ht:1<=qu)(hM:Jp c ch oa n cap qu ou w):
  Calls prog 151 #[.pointer (some ⟨c,0,none⟩)] w fun e w'=>e=.returned (.bool (decide ((n:Int)+6<=ou)))/\Below w.heap.size w w':=by
 have HD:Hid (Jp c ch oa n cap qu ou w.drew):=hM;have Zs:decide ((0:Int)<qu)=true:=by simp;omega
 obtain⟨h13,h4,Yv,Yt,h15,WM,hc⟩:=hM;go_enter func151,ntmps151
 go_upto_region 1 with fail
 refine wp_region_noPanic ?_;refine wp_region_held_drew (S:=Jp c ch oa n cap qu ou) (by kernel_rfl) HD.out ?_;intro hHeld;refine tk 0 ?_;refine rH 1 fun K hK=>?_;go_simp
 (refine(eG c ch _ (by first|exact Yv|exact hHeld.2.2.1) (by first|exact hc|exact hHeld.2.2.2.2.2.2)).mono ?_;rintro e w1 ⟨rfl,rfl⟩)
 go_wp2_with fail;refine hK.out _ _ (hHeld) (fun GV=>?_);clear hK K;refine tk 2 ?_;refine tk 3 ?_;refine tk 4 ?_;refine tk 5 ?_;refine tk 6 ?_;refine tk 7 ?_;refine tk 8 ?_;refine tk 9 ?_;refine tk 10 ?_;refine tk 11 ?_;refine tk 12 ?_;refine tk 13 ?_;refine tk 14 ?_;refine tk 15 ?_;refine tk 16 ?_;refine tk 17 ?_;refine rH 18 fun K hK=>?_;go_simp
 (refine(nL c _ oa n cap ou hn HD.out.1 HD.out.2.2.2.1 HD.out.2.2.2.2.1 HD.out.2.2.2.2.2.1).mono ?_;rintro e w2 ⟨rfl,bE⟩)
 go_wp2_with fail;refine hK.out _ _ (Jp.later GV bE) (fun YB=>?_);clear hK K;refine tk 19 ?_;refine tk 20 ?_;refine wpAnyH_done (by kernel_rfl) ?_ _
 (refine NoPanic.normal ?_;go_wp2_with fail;go_ret;exact⟨rfl,(below_drewN (Below.refl _ w) 1).trans bE⟩)
end
section
open Go.Proofs.Tryz
open Go.RowKit
theorem sx(b:UInt8)(w:World):
  Calls prog 237 #[.int .u8 (b.toNat:Int)] w fun e w'=>e=.returned (.string ⟨#[b]⟩)/\Below w.heap.size w w':=by
 have kc:=run_convert_bytes_back (P:=prog) (w.alloc (.cells #[.int .u8 (b.toNat:Int)] 5)) 158 9 5 ⟨w.heap.size,0,none⟩ 1 [b] underlying158 underlying5 underlying9
 have hc:∀(j:Nat) (hj:j<[b].length),(w.alloc (.cells #[.int .u8 (b.toNat:Int)] 5)).cell? ((⟨w.heap.size,0,none⟩:Addr).add j)=some (.int .u8 (([b]:List UInt8)[j].toNat:Int)):=by
  intro j hj
  match j,hj with
  |0,_=>simp only[List.getElem_cons_zero];simp[Addr.add,go_sem]
 have kd:(convert 158 9 (.slice (some ⟨w.heap.size,0,none⟩) 1 1)).run prog (w.alloc (.cells #[.int .u8 (b.toNat:Int)] 5))=.ok (.string ⟨#[b]⟩) (w.alloc (.cells #[.int .u8 (b.toNat:Int)] 5)):=kc hc;clear kc hc;go_enter func237,ntmps237;go_wp2;go_ret;exact⟨rfl,(Below.refl _ _).alloc (Nat.le_refl _) _⟩
theorem Aw(s:ByteArray)(w:World)(hs:s.size<=maxLen)(hi:1<s.size):
  Calls prog 273 #[.string s] w fun e w'=>e=.returned (.int .i64 (two s 0))/\∃n,w'=w.drewN n:=by
 unfold maxLen at hs;have hi0:0<s.size:=by omega
 have e1:=ep s 0 hi0;have e2:=ep s 1 hi;have r1:=bO s 0;have r2:=bO s 1;go_enter func273,ntmps273;go_wp2
 go_quiet (fail)
 go_wp2;go_ret;refine⟨tM ?_,_,rfl⟩;simp only[two]
 go_light
 rw[Nat.zero_add];omega
def BC(m:bg):Bool:=if m.kd=1\/m.kd=3\/m.kd=4 then decide (m.fl<=1)else decide (m.fl=0)
def vv(m:bg):Bool:=if m.kd=2\/m.kd=5 then decide (m.of=0/\m.ln=0)else decide (m.ln≠0/\m.of %4=0/\m.ln %4=0)
theorem kU(m:bg)(w:World):
  Calls prog 274 #[.agg (aL m.wh m.nm m.kd m.fl m.ck m.of m.ln m.dt m.er)] w fun e w'=>e=.returned (.bool (BC m))/\Below w.heap.size w w':=by
 obtain⟨wh,nm,kd,fl,ck,of,ln,dt,er⟩:=m;go_enter func274,ntmps274;go_wp2
 all_goals (go_ret;refine⟨?_,(Below.refl _ _).alloc (Nat.le_refl _) _⟩;go_light;simp_all[BC];try rfl)
theorem nY(m:bg)(w:World)(h0:0<=m.of)(h1:0<=m.ln):
  Calls prog 275 #[.agg (aL m.wh m.nm m.kd m.fl m.ck m.of m.ln m.dt m.er)] w fun e w'=>e=.returned (.bool (vv m))/\Below w.heap.size w w':=by
 obtain⟨wh,nm,kd,fl,ck,of,ln,dt,er⟩:=m;dsimp only at h0 h1;go_enter func275,ntmps275;go_wp2
 all_goals (go_ret;refine⟨?_,(Below.refl _ _).alloc (Nat.le_refl _) _⟩;go_light;simp_all[vv];try(first|omega|(rw[Bool.eq_iff_iff];simp_all)))
theorem mH:(prog.info? 5).map (fun i=>(i.zero,i.size,i.bytes))=some (some (.int .u8 0),1,1):=by kernel_rfl
theorem Lm(s:ByteArray)(w:World)(oF:s.size<=281474976710656):
  Calls prog 171 #[.string s] w fun e w'=>e=.returned (.string s)/\Below w.heap.size w w':=by
 by_cases h0:s.size=0
 ·obtain rfl:s=⟨#[]⟩:=ByteArray.ext (Array.eq_empty_of_size_eq_zero h0);go_enter func171,ntmps171;go_wp2;go_ret;exact⟨rfl,Below.refl _ _⟩
 ·obtain⟨i0,hi,AH,iC,wS⟩:=info_parts mH;have hinfo:(prog.info? 5).map (·.size)=some 1:=by rw[hi];simp[iC]
  have hco:prog.cellsOf 5=1:=by simp[Program.cellsOf,hi,iC]
  obtain⟨M,hM⟩:∃M,M=madeCells (Value.int .u8 0).cells (((s.size:Nat):Int).toNat*i0.size):=⟨_,rfl⟩;have hMs:M.size=s.size:=by rw[hM,size_madeCells,iC];simp
  have hmk:∀W:World,(Instr.makeSlice 158 (.int .i64 (s.size:Int)) (.int .i64 (s.size:Int))).run prog W=.ok (.slice (some ⟨W.heap.size,0,none⟩) s.size s.size) (W.alloc (.cells M 5)):=fun W=>by have h:=run_make (P:=prog) W 158 5 i0 (.int .u8 0) underlying158 hi AH .i64 .i64 (s.size:Int) (s.size:Int) (by omega) (by omega) (by rw[wS];omega) (by omega);rw[<-hM]at h;simpa using h
  clear hM;have PC:=Lib.run_copy_row_string (P:=prog) (w.alloc (.cells M 5)) 158 9 3 5 w.heap.size 0 s.size s.size s M 5 underlying158 hinfo (heap_alloc_new w _) (Nat.le_refl _) (by omega);obtain⟨Y,hY⟩:∃Y,Y=(M.toList.take 0++Lib.byteCells s.data.toList++M.toList.drop (0+s.size)).toArray:=⟨_,rfl⟩;rw[<-hY]at PC
  have hYl:Y.toList=Lib.byteCells s.data.toList:=by rw[hY,List.toList_toArray,List.take_zero,List.nil_append,List.drop_of_length_le (by rw[Array.length_toList];omega),List.append_nil]
  have hYs:Y.size=s.size:=by rw[<-Array.length_toList,hYl,Lib.byteCells_length,<-Lib.size_eq]
  have hgY:((w.alloc (.cells M 5)).setRow w.heap.size Y).heap[w.heap.size]? =some (.cells Y 5 (0,0)):=setRow_heap _ _ M _ 5 (0,0) (heap_alloc_new w _);have hne:s.data.toList≠[]:=fun e=>h0 (by rw[Lib.size_eq,e];rfl)
  have hUS:=Lib.run_unsafeString_row (P:=prog) ((w.alloc (.cells M 5)).setRow w.heap.size Y) 262 3 9 5 underlying262 hco w.heap.size Y.size (by unfold World.shape?;rw[hgY]) s.data.toList hne (by rw[<-Lib.size_eq];omega) (by rw[<-Lib.size_eq];omega)
   (fun j x hx=>Lib.cells_of_row hgY Y.size j _ (by rw[List.take_of_length_le (by rw[Array.length_toList];exact Nat.le_refl _),hYl];simp[Lib.byteCells,hx]))
  rw[<-Lib.size_eq]at hUS;clear hY;go_enter func171,ntmps171;go_wp2;go_ret;have bz:Below w.heap.size w (w.alloc (.cells M 5)):=(Below.refl _ w).alloc (Nat.le_refl _) _;have bE:Below w.heap.size (w.alloc (.cells M 5)) ((w.alloc (.cells M 5)).setRow w.heap.size Y):=⟨rfl,rfl,rfl,by simp,fun k hk=>setRow_other _ _ _ _ (by omega)⟩;exact⟨rfl,Lib.below_freeze (bz.trans bE) (p:=⟨w.heap.size,0,none⟩) (Nat.le_refl _) _⟩
theorem ng(s:ByteArray)(w:World)(oF:s.size<=281474976710656):
  Calls prog 117 #[.string s] w fun e w'=>e=.returned (.string s)/\Below w.heap.size w w':=by
 go_enter func117,ntmps117;go_wp2_with (go_at_call 171;refine(Lm s _ oF).mono ?_;rintro e w' ⟨rfl,hb⟩);go_ret;exact⟨rfl,hb⟩
end
section
open Go.Proofs.Tryz
open Go.RowKit
attribute [local go_sem ↓] Go.wp_at_zero Go.wp_at_succ
attribute [local go_sem] au aj
theorem xz(x:Int)(h0:0<=x)(h1:x<256):((UInt8.ofNat x.toNat).toNat:Int)=x:=by simp[UInt8.toNat_ofNat'];omega
theorem ql(n:Int)(w:World)(h0:0<=n)(h1:n<=65535):
  Calls prog 238 #[.int .i64 n] w fun e w'=>e=.returned (.string ⟨(gG n).toArray⟩)/\Below w.heap.size w w':=by
 have b0:=xz (n %256) (by omega) (by omega);have b1:=xz (n / 256) (by omega) (by omega);have kc:=run_convert_bytes_back (P:=prog) (w.alloc (.cells #[.int .u8 (n %256),.int .u8 (n / 256)] 5)) 158 9 5 ⟨w.heap.size,0,none⟩ 2 (gG n) underlying158 underlying5 underlying9
 have hc:∀(j:Nat) (hj:j<(gG n).length),(w.alloc (.cells #[.int .u8 (n %256),.int .u8 (n / 256)] 5)).cell? ((⟨w.heap.size,0,none⟩:Addr).add j)=some (.int .u8 ((gG n)[j].toNat:Int)):=by
  intro j hj
  match j,hj with
  |0,_=>simp only[gG,List.getElem_cons_zero,b0];simp[Addr.add,go_sem]
  |1,_=>simp only[gG,List.getElem_cons_succ,List.getElem_cons_zero,b1];simp[Addr.add,go_sem]
 have kd:(convert 158 9 (.slice (some ⟨w.heap.size,0,none⟩) 2 2)).run prog (w.alloc (.cells #[.int .u8 (n %256),.int .u8 (n / 256)] 5))=.ok (.string ⟨(gG n).toArray⟩) (w.alloc (.cells #[.int .u8 (n %256),.int .u8 (n / 256)] 5)):=kc hc;clear kc hc b0 b1;go_enter func238,ntmps238;go_wp2;go_ret;exact⟨rfl,(Below.refl _ _).alloc (Nat.le_refl _) _⟩
theorem ot(s:ByteArray)(w:World)(v:ByteArray)(hv:Hid (v=if(s.toList==[97])=true then⟨#[89]⟩else⟨#[78]⟩)):
  Calls prog 232 #[.string s] w fun e w'=>e=.returned (.string v)/\w'=w:=by
 cases h:(s.toList==[97])with
 |true=>
  go_enter func232,ntmps232;go_wp2;go_ret;exact⟨by rw[hv.out,if_pos h];rfl,rfl⟩
 |false=>
  go_enter func232,ntmps232;go_wp2;go_ret;exact⟨by rw[hv.out,h];rfl,rfl⟩
theorem qN(sz cl qu mx qn rt bu wk ou:Int)(s:ByteArray)(w:World)(v:ByteArray)(h0:0<=sz/\sz<=65535)(h1:0<=mx/\mx<=65535)(hs:s.size<=65535)
  (hv:Hid (v=if(s.toList==[105])=true then⟨#[73]⟩++⟨(gG sz).toArray⟩++⟨(gG mx).toArray⟩else if(s.toList==[103])=true then⟨#[71]⟩else⟨#[85]⟩++s)):
  Calls prog 233 #[.agg (dr sz cl qu mx qn rt bu wk ou),.string s] w fun e w'=>e=.returned (.string v)/\Below w.heap.size w w':=by
 have e1:(gG sz).length=2:=rfl;have e2:(gG mx).length=2:=rfl;cases h:(s.toList==[105])with
 |true=>
  go_enter func233,ntmps233
  go_upto_region 3 with fail
  have HB:Hid (Below w.heap.size w (w.alloc (.cells (dr sz cl qu mx qn rt bu wk ou) 35)).drew):=((Below.refl _ w).alloc (Nat.le_refl _) _).drew;refine wp_region_noPanic ?_;refine wp_region_held_drew (S:=fun W=>W.cell? ⟨w.heap.size,0,none⟩=some (.int .i64 sz)/\W.cell? ⟨w.heap.size,3,none⟩=some (.int .i64 mx)) (by kernel_rfl) ⟨by simp[go_sem],by simp[go_sem]⟩ ?_;intro hHeld;refine tk 0 ?_;refine tk 1 ?_;refine tk 4 ?_;refine tk 5 ?_;refine rH 2 fun K hK=>?_;go_simp
  (refine(ql sz _ h0.1 h0.2).mono ?_;rintro e w2 ⟨rfl,bE⟩)
  go_wp2_with fail;refine hK.out _ _ (⟨aP bE hHeld.1,aP bE hHeld.2⟩) (fun pW=>?_);clear hK K;refine tk 3 ?_;refine rH 6 fun K hK=>?_;go_simp
  (refine(ql mx _ h1.1 h1.2).mono ?_;rintro e w3 ⟨rfl,jS⟩)
  go_wp2_with fail;refine hK.out _ _ (⟨aP jS pW.1,aP jS pW.2⟩) (fun Uv=>?_);clear hK K;refine tk 7 ?_;refine tk 8 ?_;refine wpAnyH_done (by kernel_rfl) ?_ _
  (refine NoPanic.normal ?_;go_wp2_with fail;go_ret;exact⟨by rw[hv.out,if_pos h];rfl,HB.out.trans ((bE.mono HB.out.size).trans (jS.mono (Nat.le_trans HB.out.size bE.size)))⟩)
 |false=>
  cases h2:(s.toList==[103])with
  |true=>
   go_enter func233,ntmps233;go_wp2;go_ret;exact⟨by rw[hv.out,h,h2];rfl,(Below.refl _ _).alloc (Nat.le_refl _) _⟩
  |false=>
   go_enter func233,ntmps233;go_wp2;go_ret;exact⟨by rw[hv.out,h,h2];rfl,(Below.refl _ _).alloc (Nat.le_refl _) _⟩
theorem kI(sz cl qu mx qn rt bu wk ou:Int)(m:bg)(w:World)(h0:0<=sz/\sz<=65535)(h1:0<=mx/\mx<=65535)(hs:m.nm.size<=65535)(hm:m.wh=1\/m.wh=2\/m.wh=4):
  Calls prog 192 #[.agg (dr sz cl qu mx qn rt bu wk ou),.agg (aL m.wh m.nm m.kd m.fl m.ck m.of m.ln m.dt m.er)] w fun e w'=>e=.returned (.string (answer sz mx m))/\Below w.heap.size w w':=by
 obtain⟨wh,nm,kd,fl,ck,of,ln,dt,er⟩:=m;dsimp only at hm hs;rcases hm with rfl|rfl|rfl
 ·have hv:Hid (answer sz mx ⟨1,nm,kd,fl,ck,of,ln,dt,er⟩=if(nm.toList==[97])=true then⟨#[89]⟩else⟨#[78]⟩):=rfl;obtain⟨v,hv'⟩:∃v,v=answer sz mx ⟨1,nm,kd,fl,ck,of,ln,dt,er⟩:=⟨_,rfl⟩;rw[<-hv']at hv⊢;clear hv';go_enter func192,ntmps192;go_wp2_with (go_at_call 232;refine(ot nm _ v hv).mono ?_;rintro e w1 ⟨rfl,rfl⟩);go_ret;exact⟨rfl,((Below.refl _ _).alloc (Nat.le_refl _) _).alloc (by simp) _⟩
 ·have hv:Hid (answer sz mx ⟨2,nm,kd,fl,ck,of,ln,dt,er⟩=if(nm.toList==[105])=true then⟨#[73]⟩++⟨(gG sz).toArray⟩++⟨(gG mx).toArray⟩else if(nm.toList==[103])=true then⟨#[71]⟩else⟨#[85]⟩++nm):=rfl;obtain⟨v,hv'⟩:∃v,v=answer sz mx ⟨2,nm,kd,fl,ck,of,ln,dt,er⟩:=⟨_,rfl⟩;rw[<-hv']at hv⊢;clear hv';go_enter func192,ntmps192;go_wp2_with (go_at_call 233;refine(qN sz cl qu mx qn rt bu wk ou nm _ v h0 h1 hs hv).mono ?_;rintro e w1 ⟨rfl,hb⟩);go_ret;exact⟨rfl,(((Below.refl _ w).alloc (Nat.le_refl _) _).alloc (by simp) _).trans (hb.mono (by simp;omega))⟩
 ·have hv:Hid (answer sz mx ⟨4,nm,kd,fl,ck,of,ln,dt,er⟩=⟨#[]⟩):=rfl;obtain⟨v,hv'⟩:∃v,v=answer sz mx ⟨4,nm,kd,fl,ck,of,ln,dt,er⟩:=⟨_,rfl⟩;rw[<-hv']at hv⊢;clear hv';go_enter func192,ntmps192;go_wp2;go_ret;exact⟨by rw[hv.out];rfl,((Below.refl _ _).alloc (Nat.le_refl _) _).alloc (by simp) _⟩
end
section
open Go.Proofs.Tryz
open Go.RowKit
abbrev Km:ByteArray:=⟨#[70,69,82,82,89]⟩
theorem BK(k:Nat)(h:k<Km.size):(Km[k].toNat:Int)=mE k:=by
 have h5:k<5:=h
 match k,h5 with
 |0,_=>rfl
 |1,_=>rfl
 |2,_=>rfl
 |3,_=>rfl
 |4,_=>rfl
theorem sr(k:Nat):0<=mE k/\mE k<=255:=by unfold mE;repeat' split;all_goals omega
theorem bN{B b:Nat}{w W:World}(h:Below B w W)(hb:B<=b)(v0 v1 v2 v3 v4 v5 v6 v7 v8:Value):
  Below B w (((((((((W.setCell ⟨b,0,none⟩ v0).setCell ⟨b,1,none⟩ v1).setCell ⟨b,2,none⟩ v2).setCell ⟨b,3,none⟩ v3).setCell ⟨b,4,none⟩ v4).setCell ⟨b,5,none⟩ v5).setCell ⟨b,6,none⟩ v6).setCell ⟨b,7,none⟩ v7).setCell ⟨b,8,none⟩ v8):=
 ((((((((h.setCell (p:=⟨b,0,none⟩) hb v0).setCell (p:=⟨b,1,none⟩) hb v1).setCell (p:=⟨b,2,none⟩) hb v2).setCell (p:=⟨b,3,none⟩) hb v3).setCell (p:=⟨b,4,none⟩) hb v4).setCell (p:=⟨b,5,none⟩) hb v5).setCell (p:=⟨b,6,none⟩) hb v6).setCell (p:=⟨b,7,none⟩) hb v7).setCell (p:=⟨b,8,none⟩) hb v8
theorem GQ(s:ByteArray)(w:World)(hs:s.size<=maxLen):
  Calls prog 213 #[.string s] w fun e w'=>(∃m n,(m,n)=eW s/\e=.returned (.tuple #[.agg (aL m.wh m.nm m.kd m.fl m.ck m.of m.ln m.dt m.er),.int .i64 n]))/\Below w.heap.size w w':=by
 unfold maxLen at hs;go_enter func213,ntmps213;go_wp2
 go_loopw [5] (fun i wr=>∃k:Nat,k<=5/\k<=s.size/\i=.int .i64 k/\Hid (eW s=aI s (5-k) k)/\∃d,wr=(w.alloc (.cells (aL 0 ⟨#[]⟩ 0 0 0 0 0 ⟨#[]⟩ 0) 132)).drewN d) (fun i _=>5-(intOf i).toNat)
 case atStart=>exact⟨0,by omega,Nat.zero_le _,rfl,rfl,0,rfl⟩
 case round=>
  obtain⟨k,hk,hks,rfl,hp,d,rfl⟩:=hrel
  by_cases hlt:k<5
  ·by_cases hsz:s.size<=k
   ·have hH:Hid (eW s=(.zero,0)):=by
     have:=hp.out;rw[show 5-k=(4-k)+1 by omega,aI,if_pos hsz]at this;exact this
    have hz:(s.size:Int)<=k:=by omega
    go_wp2;exact bodyPost_ret (v:=.tuple #[.agg (aL 0 ⟨#[]⟩ 0 0 0 0 0 ⟨#[]⟩ 0),.int .i64 0]) (by simp[results,results213,go_sem]) rfl ⟨⟨.zero,0,hH.out.symm,rfl⟩,bN (below_drewN ((Below.refl _ _).alloc (Nat.le_refl _) _) _) (Nat.le_refl _) _ _ _ _ _ _ _ _ _⟩
   ·have e1:=ep s k (by omega);have e2:=BK k hlt;have r1:=bO s k;have r2:=sr k;have hz:(k:Int)<s.size:=by omega
    have Xs:k<s.size:=by omega
    by_cases hq:bt s k=mE k
    ·have hH:Hid (eW s=aI s (5-(k+1)) (k+1)):=by
      have:=hp.out;rw[show 5-k=(5-(k+1))+1 by omega,aI,if_neg hsz,if_pos hq]at this;exact this
     have hb:(bt s k !=mE k)=false:=by simpa using hq
     clear hq;go_wp2
     go_quiet (fail)
     go_wp2
     go_roundw
     case rel=>exact⟨k+1,by omega,by omega,by go_num,hH,_,rfl⟩
     case measure=>simp[intOf];omega
    ·have hH:Hid (eW s=(.closing,(k:Int)+1)):=by
      have:=hp.out;rw[show 5-k=(5-(k+1))+1 by omega,aI,if_neg hsz,if_neg hq]at this;exact this
     have hb:(bt s k !=mE k)=true:=by simpa using hq
     clear hq;go_wp2
     go_quiet (fail)
     go_wp2;exact bodyPost_ret (v:=.tuple #[.agg (aL 4 ⟨#[]⟩ 0 0 0 0 0 ⟨#[]⟩ 0),.int .i64 (k+1)]) (by simp[results,results213,go_sem]) rfl ⟨⟨.closing,_,hH.out.symm,rfl⟩,bN (below_drewN ((Below.refl _ _).alloc (Nat.le_refl _) _) _) (Nat.le_refl _) _ _ _ _ _ _ _ _ _⟩
  ·obtain rfl:k=5:=by omega
   by_cases h6:s.size<6
   ·have hH:Hid (eW s=(.zero,0)):=by
     have:=hp.out;rw[show 5-5=0 from rfl,aI,if_pos h6]at this;exact this
    go_wp2;exact bodyPost_ret (v:=.tuple #[.agg (aL 0 ⟨#[]⟩ 0 0 0 0 0 ⟨#[]⟩ 0),.int .i64 0]) (by simp[results,results213,go_sem]) rfl ⟨⟨.zero,0,hH.out.symm,rfl⟩,bN (below_drewN ((Below.refl _ _).alloc (Nat.le_refl _) _) _) (Nat.le_refl _) _ _ _ _ _ _ _ _ _⟩
   ·have hH:Hid (eW s=(⟨1,s.extract 5 6,0,0,0,0,0,⟨#[]⟩,0⟩,6)):=by
     have:=hp.out;rw[show 5-5=0 from rfl,aI,if_neg h6]at this;exact this
    have h6':6<=s.size:=by omega
    go_wp2;exact bodyPost_ret (v:=.tuple #[.agg (aL 1 (s.extract 5 6) 0 0 0 0 0 ⟨#[]⟩ 0),.int .i64 6]) (by simp[results,results213,go_sem]) rfl ⟨⟨_,6,hH.out.symm,rfl⟩,bN (below_drewN ((Below.refl _ _).alloc (Nat.le_refl _) _) _) (Nat.le_refl _) _ _ _ _ _ _ _ _ _⟩
end
section
open Go.Proofs.Tryz
open Go.RowKit
abbrev bg.val(m:bg):Value:=.agg (aL m.wh m.nm m.kd m.fl m.ck m.of m.ln m.dt m.er)
def dL(m:bg)(sz:Int):Int:=
 if 5<m.kd\/BC m=false\/vv m=false then 22 else if m.of+m.ln<=sz then 0 else if m.kd=1\/m.kd=4 then 28 else 22
theorem GK(m:bg)(sz:Int)(hk:0<=m.kd)(hf:0<=m.fl)(hs:0<=sz):dL m sz=verdict sz m.kd m.fl m.of m.ln:=by
 obtain⟨wh,nm,kd,fl,ck,of,ln,dt,er⟩:=m;dsimp only at hk hf;unfold dL verdict BC vv;dsimp only
 by_cases h5:5<kd
 ·simp[h5]
 have FV:kd=0\/kd=1\/kd=2\/kd=3\/kd=4\/kd=5:=by omega
 by_cases h1:1<fl
 ·have f1:¬fl<=1:=by omega
  have f0:¬fl=0:=by omega
  simp[h5,h1,f1,f0]
 have hfl:fl=0\/fl=1:=by omega
 clear h5 h1 hk hf
 by_cases e:of+ln<=sz
 ·have s':¬sz<of+ln:=by omega
  simp only[e,s',if_true,if_false];clear e s'
  by_cases a:of=0<;>by_cases b:ln=0<;>by_cases c:of %4=0<;>by_cases d:ln %4=0
  all_goals (rcases FV with rfl|rfl|rfl|rfl|rfl|rfl<;>rcases hfl with rfl|rfl<;>simp[a,b,c,d])
 ·have s':sz<of+ln:=by omega
  simp only[e,s',if_true,if_false];have z0:¬(of=0/\ln=0):=by omega
  clear e s'
  by_cases a:of=0<;>by_cases b:ln=0<;>by_cases c:of %4=0<;>by_cases d:ln %4=0
  all_goals (try(exfalso;exact z0 ⟨a,b⟩))
  all_goals (rcases FV with rfl|rfl|rfl|rfl|rfl|rfl<;>rcases hfl with rfl|rfl<;>simp[a,b,c,d])
theorem xE(m:bg)(sz:Int)(w:World)(h0:0<=m.of)(h0':m.of<=65535)(h1:0<=m.ln)(h1':m.ln<=65535):
  Calls prog 261 #[m.val,.int .i64 sz] w fun e w'=>e=.returned (.int .i64 (dL m sz))/\Below w.heap.size w w':=by
 obtain⟨wh,nm,kd,fl,ck,of,ln,dt,er⟩:=m;dsimp only at h0 h0' h1 h1'
 by_cases hk:5<kd
 ·have hF:Hid (dL ⟨wh,nm,kd,fl,ck,of,ln,dt,er⟩ sz=22):=by unfold dL;rw[if_pos (.inl hk)];rfl
  have hd:decide (5<kd)=true:=by simpa using hk
  go_enter func261,ntmps261;go_wp2_with fail;go_ret;exact⟨congrArg (fun x=>Ending.returned (.int .i64 x)) hF.out.symm,(Below.refl _ _).alloc (Nat.le_refl _) _⟩
 ·have hd:decide (5<kd)=false:=by simpa using hk
  cases hfl:BC ⟨wh,nm,kd,fl,ck,of,ln,dt,er⟩with
  |false=>
   have hF:Hid (dL ⟨wh,nm,kd,fl,ck,of,ln,dt,er⟩ sz=22):=by unfold dL;rw[if_pos (.inr (.inl hfl))];rfl
   go_enter func261,ntmps261;go_wp2_with (go_at_call 274;refine(kU ⟨wh,nm,kd,fl,ck,of,ln,dt,er⟩ _).mono ?_;rw[hfl];rintro e w1 ⟨rfl,bz⟩);go_ret;exact⟨congrArg (fun x=>Ending.returned (.int .i64 x)) hF.out.symm,((Below.refl _ _).alloc (Nat.le_refl _) _).trans (bz.mono (by simp))⟩
  |true=>
   cases Vn:vv ⟨wh,nm,kd,fl,ck,of,ln,dt,er⟩with
   |false=>
    have hF:Hid (dL ⟨wh,nm,kd,fl,ck,of,ln,dt,er⟩ sz=22):=by unfold dL;rw[if_pos (.inr (.inr Vn))];rfl
    go_enter func261,ntmps261;go_wp2_with (first|(go_at_call 274;refine(kU ⟨wh,nm,kd,fl,ck,of,ln,dt,er⟩ _).mono ?_;rw[hfl];rintro e w1 ⟨rfl,bz⟩;obtain⟨hc,hf⟩:=cZ bz;have iC:=bz.size)|(go_at_call 275;refine(nY ⟨wh,nm,kd,fl,ck,of,ln,dt,er⟩ _ h0 h1).mono ?_;rw[Vn];rintro e w2 ⟨rfl,bE⟩));go_ret;exact⟨congrArg (fun x=>Ending.returned (.int .i64 x)) hF.out.symm,(((Below.refl _ _).alloc (Nat.le_refl _) _).trans (bz.mono (by simp))).trans (bE.mono (by simp at iC;omega))⟩
   |true=>
    have hF:Hid (dL ⟨wh,nm,kd,fl,ck,of,ln,dt,er⟩ sz=(if of+ln<=sz then 0 else if kd=1\/kd=4 then 28 else 22)):=by unfold dL;rw[if_neg (by rw[hfl,Vn];simp;omega)];rfl
    have hw1:∀w1:World,(w.alloc (.cells (aL wh nm kd fl ck of ln dt er) 132)).heap.size<=w1.heap.size->w.heap.size+1<=w1.heap.size:=fun w1 h=>by simpa using h
    go_enter func261,ntmps261;go_wp2_with (first|(go_at_call 274;refine(kU ⟨wh,nm,kd,fl,ck,of,ln,dt,er⟩ _).mono ?_;rw[hfl];rintro e w1 ⟨rfl,bz⟩;obtain⟨hc,hf⟩:=cZ bz;have iC:=bz.size)|(go_at_call 275;refine(nY ⟨wh,nm,kd,fl,ck,of,ln,dt,er⟩ _ h0 h1).mono ?_;rw[Vn];rintro e w2 ⟨rfl,bE⟩;have AD:∀o,w2.cell? ⟨w.heap.size,o,none⟩=w1.cell? ⟨w.heap.size,o,none⟩:=fun o=>bE.cell (p:=⟨w.heap.size,o,none⟩) (hw1 _ iC)))
    all_goals (go_ret;refine⟨Eq.trans (tM ?_) (congrArg (fun x=>Ending.returned (.int .i64 x)) hF.out.symm),(((Below.refl _ _).alloc (Nat.le_refl _) _).trans (bz.mono (by simp))).trans (bE.mono (by simp at iC;omega))⟩;clear hF hfl Vn bz bE hc hf AD hw1 iC;go_light;(repeat' split)<;>simp_all<;>omega)
end
end Go.Proofs.YtpobhljcainmdaaGreat
