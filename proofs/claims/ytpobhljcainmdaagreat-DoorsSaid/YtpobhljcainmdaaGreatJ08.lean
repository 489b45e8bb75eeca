/- Proved here: a part of what Doors keeps (Wire10). -/
import Derived.LoopIn
import Derived.LoopNIn
import Derived.OwnWalkIn
import Derived.RangeFuncBound
import Derived.RangeFuncCalls
import Derived.RangeFuncLeaves
import Derived.RangeFuncNested
import Derived.Shelf.Abstract
import Derived.Shelf.RegionOpen
import Derived.TacticsInMore
import Derived.Test.YtpobhljcainmdaaGreatJ07
set_option maxRecDepth 100000
set_option maxHeartbeats 8000000
set_option linter.all false
namespace Go.Proofs.YtpobhljcainmdaaGreat
section
open Go.Proofs.Tryz
open Go.RowKit Go.Shelf
attribute [local go_sem] Oper.semAt_some
attribute [local go_sem] au aj
abbrev Ev(x:bg×Int):Array Value:=#[.agg (aL x.1.wh x.1.nm x.1.kd x.1.fl x.1.ck x.1.of x.1.ln x.1.dt x.1.er),.int .i64 x.2]
def zD(W:World)(sb:Nat):Nat:=match W.cell? ⟨sb,0,none⟩with|some (.string t)=>t.size|_=>0
theorem xT{W:World}{rb mb cb sb:Nat}{sz mx:Int}{s:ByteArray}{st:St}(h:iO W rb mb cb sb sz mx s st):zD W sb=s.size-st.pos:=by simp[zD,World.cell?,h.tx,ByteArray.size_extract]
theorem Lh(n:Nat)(hn:1<=n)(rb mb cb sb:Nat)(sz mx:Int)(s:ByteArray)(st:St)(W:World)(hz:0<=sz)(oF:s.size<=281474976710656)(hu:st.used.length<=281474976710656)(hp:st.pos<=s.size)(h0:iO W rb mb cb sb sz mx s st):
  Iter Fence.wide n prog 189 #[.pointer (some ⟨cb,0,none⟩),.pointer (some ⟨sb,0,none⟩)] Ev (TD rb mb sb) (Qi rb mb cb sb) (nJ sz mx s st)
   (fun xs W'=>nJ sz mx s st xs/\((st.run xs).next sz mx s).2=0/\iO W' rb mb cb sb sz mx s (st.run xs))
   (fun pre W'=>nJ sz mx s st pre/\iO W' rb mb cb sb sz mx s (st.run pre)) W:=by
 intro l J Jx hJ hJx hY YJ;refine callsIn_of_wp func189 rfl trivial ?_ rfl;simp only[ntmps189,List.size_toArray,List.length_cons,List.length_nil,Nat.reduceAdd,Nat.reduceSub,Array.replicate_succ,Array.replicate_zero,List.push_toArray,List.append_toArray,List.nil_append,List.cons_append]
 gi_wp2
 gi_loopw [5] (fun _ wr=>∃pre,Hid (nJ sz mx s st pre/\iO wr rb mb cb sb sz mx s (st.run pre)/\J pre wr)) (fun _ wr=>zD wr sb)
 case atStart=>exact⟨[],trivial,h0,YJ⟩
 case round=>
  obtain⟨pre,hH⟩:=hrel;obtain⟨BP,hit,hj⟩:=hH.out;clear hH;have hpos:=vI sz mx s st pre hp BP;have ZE:=LY st pre;generalize hst:st.run pre=st' at hit hpos ZE;obtain⟨⟨m,nn⟩,KX⟩:∃x,st'.next sz mx s=x:=⟨_,rfl⟩
  have hin:=Gf sz mx s st';rw[KX]at hin;have zl:=Kq sz mx st'.ph st'.used (s.extract st'.pos s.size);have NP:first sz mx st'.ph st'.used (s.extract st'.pos s.size)=(m,nn):=KX
  rw[NP]at zl;obtain⟨t,ht⟩:∃t,t=s.extract st'.pos s.size:=⟨_,rfl⟩;have hts:t.size=s.size-st'.pos:=by rw[ht];simp[ByteArray.size_extract]
  have c1:wr.cell? ⟨cb,0,none⟩=some (.pointer (some ⟨rb,0,none⟩)):=by simp[World.cell?,hit.cp]
  have c2:wr.cell? ⟨sb,0,none⟩=some (.string t):=by simp[World.cell?,hit.tx,ht]
  have hN:Hid (Calls prog 190 #[.pointer (some ⟨rb,0,none⟩),.string t] wr fun e w'=>e=.returned (.tuple #[.agg (aL m.wh m.nm m.kd m.fl m.ck m.of m.ln m.dt m.er),.int .i64 nn])/\Below wr.heap.size wr w'):=by have:=Ly rb mb sz mx st'.ph st'.used t wr hz (by omega) hit.rd;rw[ht,NP]at this;rw[ht];exact this
  by_cases hn0:nn=0
  ·subst hn0
   have HD:Hid (∀w1,Below wr.heap.size wr w1->(∃xs,(nJ sz mx s st xs/\((st.run xs).next sz mx s).2=0/\iO (w1.alloc (.cells (aL m.wh m.nm m.kd m.fl m.ck m.of m.ln m.dt m.er) 132)) rb mb cb sb sz mx s (st.run xs))/\J xs (w1.alloc (.cells (aL m.wh m.nm m.kd m.fl m.ck m.of m.ln m.dt m.er) 132)))):=fun w1 hb=>by have hg:wr.grownBy (w1.alloc (.cells (aL m.wh m.nm m.kd m.fl m.ck m.of m.ln m.dt m.er) 132)) none:=(iB hb).trans (World.grownBy_alloc _ _ none);exact⟨pre,⟨BP,by rw[hst,KX],by rw[hst];exact hit.later hg⟩,hJ _ _ _ none hj hg (fun r e=>by cases e)⟩
   clear BP hit hj KX NP zl hin hpos ZE hst hts ht
   gi_wp2_with (first|(refine⟨trivial,?_⟩;gi_at_call 190;refine(callsIn_wide.2 hN.out).mono ?_;rintro e w1 ⟨rfl,bz⟩))
   refine bodyPost_ret (results_none rfl _ _ _) rfl ?_;exact⟨⟨_,rfl⟩,.inl (HD.out w1 bz)⟩
  ·have hb0:(nn==0)=false:=by simpa using hn0
   have hv:nJ sz mx s st (pre++[(m,nn)]):=(ym sz mx s st pre (m,nn)).2 ⟨BP,by rw[hst,KX],hn0⟩;have hle:nn<=(t.size:Int):=by rw[hts];exact hin.2
   have hge:0<=nn:=hin.1;have hul:st'.used.length<maxLen:=by unfold maxLen;omega
   have PM:st.run (pre++[(m,nn)])=st'.step (m,nn):=by rw[St.vG,hst]
   have HF:Hid (∀w1,Below wr.heap.size wr w1->Calls prog 191 #[.pointer (some ⟨rb,0,none⟩),.agg (aL m.wh m.nm m.kd m.fl m.ck m.of m.ln m.dt m.er)] (w1.alloc (.cells (aL m.wh m.nm m.kd m.fl m.ck m.of m.ln m.dt m.er) 132)) fun e w2=>e=.returned (.tuple #[])/\(w2.cell? ⟨sb,0,none⟩=some (.string t)/\w2.frozen? ⟨sb,0,none⟩=false/\cL w2 w1.heap.size m/\sb<w1.heap.size/\
     iO (w2.setCell ⟨sb,0,none⟩ (.string (t.extract nn.toNat t.size))) rb mb cb sb sz mx s (st'.step (m,nn))/\J pre (w2.setCell ⟨sb,0,none⟩ (.string (t.extract nn.toNat t.size))))):=fun w1 hb=>by
    have hg:wr.grownBy (w1.alloc (.cells (aL m.wh m.nm m.kd m.fl m.ck m.of m.ln m.dt m.er) 132)) none:=(iB hb).trans (World.grownBy_alloc _ _ none);have KU:=hit.later hg;have hsb:sb<wr.heap.size:=(Array.getElem?_eq_some_iff.1 hit.tx).1;have Vp:sb<w1.heap.size:=Nat.lt_of_lt_of_le hsb hb.size;refine(DQ rb mb sz mx st'.ph st'.used m (w1.alloc (.cells (aL m.wh m.nm m.kd m.fl m.ck m.of m.ln m.dt m.er) 132)) KU.rd zl hul).mono ?_;rintro e w2 ⟨he,Zu,Rn⟩;have Zz:=KU.step (n:=nn) Zu Rn;obtain⟨row,hg2,hrow⟩:=Rn;have hap:=hit.apart;have To:w2.heap[sb]? =_:=(hg2.block sb (Array.getElem?_eq_some_iff.1 KU.tx).1 (fun e=>(hrow _ e.symm).elim (fun e=>hap.1 e.symm) (fun e=>hap.2.1 e.symm))).trans KU.tx;have hcut:t.extract nn.toNat t.size=s.extract (st'.pos+nn.toNat) s.size:=by rw[ht];exact yO s st'.pos nn.toNat (by omega)
    rw[hcut]
    have hm2:cL w2 w1.heap.size m:=cL.cG (w:=w1.alloc (.cells (aL m.wh m.nm m.kd m.fl m.ck m.of m.ln m.dt m.er) 132)) (row:=row) (by simp[cL,go_sem]) hg2 (by simp) (fun e=>by have:=KU.rd.lt;have h1:=hit.rd.lt;have:=hb.size;rcases hrow _ e.symm with e|e<;>omega)
    exact⟨he,by simp[World.cell?,To,ht],by simp[World.frozen?,To],hm2,Vp,Zz,
     hJ _ _ _ (some sb) (hJ _ _ _ row (hJ _ _ _ none hj hg (fun r e=>by cases e)) hg2 (fun r e=>(hrow r e).elim .inl (fun h=>.inr (.inl h)))) (jN _ _ _ _) (fun r e=>.inr (.inr (by cases e;rfl)))⟩
   have HY:Hid (∀W1,J pre W1->YieldAt Fence.wide (n-1) prog l (Ev (m,nn)) W1 fun e W'=>(e=.returned (.bool true)/\J (pre++[(m,nn)]) W'/\Qi rb mb cb sb W1 W')\/(e=.returned (.bool false)/\Jx (pre++[(m,nn)]) W'/\Qi rb mb cb sb W1 W')):=fun W1 hj1=>hY pre (m,nn) W1 hj1 hv;have HV:Hid (nJ sz mx s st (pre++[(m,nn)])/\st.run (pre++[(m,nn)])=st'.step (m,nn)/\zD wr sb=s.size-st'.pos/\st'.pos+nn.toNat<=s.size):=⟨hv,PM,xT hit,by omega⟩;clear BP hit hj KX NP zl hpos ZE hst ht hv PM hul hin hts
   gi_wp2_with (first|(refine⟨trivial,?_⟩;gi_at_call 190;refine(callsIn_wide.2 hN.out).mono ?_;rintro e w1 ⟨rfl,bz⟩;have HB1:Hid (Below wr.heap.size wr w1):=bz;obtain⟨zk,KO⟩:=cZ bz;clear bz;have cc1:w1.cell? ⟨cb,0,none⟩=some (.pointer (some ⟨rb,0,none⟩)):=(HB1.out.cell (aZ c1)).trans c1;have hx:∀(ob:Obj) (o:Nat),(w1.alloc ob).cell? ⟨cb,o,none⟩=w1.cell? ⟨cb,o,none⟩:=(fun ob o=>World.cell?_of_block (Below.heap_alloc w1 ob _ (aZ cc1))))|(refine⟨trivial,?_⟩;gi_at_call 191;refine(callsIn_wide.2 (HF.out w1 HB1.out)).mono ?_;rintro e w2 ⟨rfl,d2,df,⟨m0,m1,m2,m3,m4,m5,m6,m7,m8⟩,Vp,UX,hj4⟩;have nsb:¬sb=w1.heap.size:=(by omega);obtain⟨fn,tmps,assign,body,hy,QZ⟩:=HY.out _ hj4;have HI4:Hid (iO (w2.setCell ⟨sb,0,none⟩ (.string (t.extract nn.toNat t.size))) rb mb cb sb sz mx s (st'.step (m,nn))):=UX;clear UX hj4))
   refine QZ.mono ?_;rintro e W3 (⟨rfl,NK,Hq⟩|⟨rfl,KE,Hq⟩)
   ·have KV:=HI4.out.kept Hq;have Wu:Hid (iO W3 rb mb cb sb sz mx s (st'.step (m,nn))):=KV;have Qh:Hid (J (pre++[(m,nn)]) W3):=NK;clear KV NK Hq QZ hy
    gi_wp2
    go_roundw
    case rel=>exact⟨pre++[(m,nn)],HV.out.1,by rw[HV.out.2.1];exact Wu.out,Qh.out⟩
    case measure=>
     rw[HV.out.2.2.1,xT Wu.out];have:=HV.out.2.2.2;have h1:(st'.step (m,nn)).pos=st'.pos+nn.toNat:=rfl;rw[h1];omega
   ·have KV:=HI4.out.kept Hq;have Wu:Hid (iO W3 rb mb cb sb sz mx s (st'.step (m,nn))):=KV;have Qh:Hid (Jx (pre++[(m,nn)]) W3):=KE;clear KV KE Hq QZ hy
    gi_wp2
    refine bodyPost_ret (results_none rfl _ _ _) rfl ?_;exact⟨⟨_,rfl⟩,.inr ⟨pre++[(m,nn)],⟨HV.out.1,by rw[HV.out.2.1];exact Wu.out⟩,Qh.out⟩⟩
end
end Go.Proofs.YtpobhljcainmdaaGreat
