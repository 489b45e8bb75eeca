/- Proved here: a part of what Doors keeps (Rf12, Rf13). -/
import Derived.Test.YtpobhljcainmdaaGreatJ01
import Derived.Test.YtpobhljcainmdaaGreatJ02
import Derived.Test.YtpobhljcainmdaaGreatJ04
import Derived.Test.YtpobhljcainmdaaGreatJ07
import Derived.Test.YtpobhljcainmdaaGreatJ15
import Derived.Test.YtpobhljcainmdaaGreatJ39
set_option maxRecDepth 100000
set_option maxHeartbeats 8000000
set_option linter.all false
namespace Go.Proofs.YtpobhljcainmdaaGreat
section
open Go.Proofs.Tryz
open Go.RowKit
attribute [local go_sem ↓] Go.wp_at_zero Go.wp_at_succ
attribute [local go_sem] au aj
abbrev Dd(B:World)(yb y:Nat)(sz cl qu mx qn rt bu wk ou:Int)(k:Cl)(W:World):Prop:=
 Below B.heap.size B W/\W.cell? ⟨yb,0,none⟩=some (.int .i64 sz)/\W.cell? ⟨yb,1,none⟩=some (.int .i64 cl)/\W.cell? ⟨yb,2,none⟩=some (.int .i64 qu)/\W.cell? ⟨yb,3,none⟩=some (.int .i64 mx)/\W.cell? ⟨yb,4,none⟩=some (.int .i64 qn)/\W.cell? ⟨yb,5,none⟩=some (.int .i64 rt)/\W.cell? ⟨yb,6,none⟩=some (.int .i64 bu)/\W.cell? ⟨yb,7,none⟩=some (.int .i64 wk)/\W.cell? ⟨yb,8,none⟩=some (.int .i64 ou)/\W.cell? ⟨y,2,none⟩=some (.int .i64 k.ph)/\W.cell? ⟨y,3,none⟩=some (.string k.aO)/\W.cell? ⟨y,4,none⟩=some (.slice none 0 0)/\W.cell? ⟨y,5,none⟩=some (.slice none 0 0)
theorem Dd.keep{B:World}{yb y:Nat}{sz cl qu mx qn rt bu wk ou:Int}{k:Cl}{W w2:World}(hz:yb<B.heap.size)(hy:y<B.heap.size)(h:Dd B yb y sz cl qu mx qn rt bu wk ou k W)(hb:Below B.heap.size W w2):Dd B yb y sz cl qu mx qn rt bu wk ou k w2:=by obtain⟨h0,h1,h2,h3,h4,h5,h6,h7,h8,h9,g1,g2,g3,g4⟩:=h;exact⟨h0.trans hb,(hb.cell hz).trans h1,(hb.cell hz).trans h2,(hb.cell hz).trans h3,(hb.cell hz).trans h4,(hb.cell hz).trans h5,(hb.cell hz).trans h6,(hb.cell hz).trans h7,(hb.cell hz).trans h8,(hb.cell hz).trans h9,(hb.cell hy).trans g1,(hb.cell hy).trans g2,(hb.cell hy).trans g3,(hb.cell hy).trans g4⟩
theorem Dd.begin{B:World}{yb y sb N:Nat}{sz cl qu mx qn rt bu wk ou many clock aA de:Int}{opn stop:Bool}{k:Cl}(hF:dA B yb sz cl qu mx qn rt bu wk ou sb N many clock aA opn stop)(hC:cE B y k de):Dd B yb y sz cl qu mx qn rt bu wk ou k B.drew:=
 ⟨(Below.refl _ _).drew,af hF rfl,af hF rfl,af hF rfl,af hF rfl,af hF rfl,af hF rfl,af hF rfl,af hF rfl,af hF rfl,af hC rfl,af hC rfl,af hC rfl,af hC rfl⟩
abbrev tD(yb bm:Nat)(sz cl qu mx qn rt bu wk ou:Int)(m:bg)(W:World):Prop:=
 (W.cell? ⟨yb,0,none⟩=some (.int .i64 sz)/\W.cell? ⟨yb,1,none⟩=some (.int .i64 cl)/\W.cell? ⟨yb,2,none⟩=some (.int .i64 qu)/\W.cell? ⟨yb,3,none⟩=some (.int .i64 mx)/\W.cell? ⟨yb,4,none⟩=some (.int .i64 qn)/\W.cell? ⟨yb,5,none⟩=some (.int .i64 rt)/\W.cell? ⟨yb,6,none⟩=some (.int .i64 bu)/\W.cell? ⟨yb,7,none⟩=some (.int .i64 wk)/\W.cell? ⟨yb,8,none⟩=some (.int .i64 ou))/\cL W bm m
theorem tD.by {yb bm:Nat}{sz cl qu mx qn rt bu wk ou:Int}{m:bg}{W w2:World}(h:tD yb bm sz cl qu mx qn rt bu wk ou m W)(h1:∀i v,W.cell? ⟨yb,i,none⟩=some v->w2.cell? ⟨yb,i,none⟩=some v)(h2:∀i v,W.cell? ⟨bm,i,none⟩=some v->w2.cell? ⟨bm,i,none⟩=some v):tD yb bm sz cl qu mx qn rt bu wk ou m w2:=by obtain⟨⟨a0,a1,a2,a3,a4,a5,a6,a7,a8⟩,b0,b1,b2,b3,b4,b5,b6,b7,b8⟩:=h;exact⟨⟨h1 _ _ a0,h1 _ _ a1,h1 _ _ a2,h1 _ _ a3,h1 _ _ a4,h1 _ _ a5,h1 _ _ a6,h1 _ _ a7,h1 _ _ a8⟩,h2 _ _ b0,h2 _ _ b1,h2 _ _ b2,h2 _ _ b3,h2 _ _ b4,h2 _ _ b5,h2 _ _ b6,h2 _ _ b7,h2 _ _ b8⟩
theorem tD.old{yb bm:Nat}{sz cl qu mx qn rt bu wk ou:Int}{m:bg}{W w2:World}(h:tD yb bm sz cl qu mx qn rt bu wk ou m W)(hb:Below W.heap.size W w2):tD yb bm sz cl qu mx qn rt bu wk ou m w2:=h.by (fun _ _=>eK hb) (fun _ _=>eK hb)
theorem Be{W:World}{b y i j:Nat}{v x:Value}(hne:b≠y)(h:W.cell? ⟨b,j,none⟩=some x):(W.setCell ⟨y,i,none⟩ v).cell? ⟨b,j,none⟩=some x:=
 (World.cell?_of_block (Below.heap_setCell W ⟨y,i,none⟩ v b hne)).trans h
theorem tD.set{yb bm y:Nat}{sz cl qu mx qn rt bu wk ou:Int}{m:bg}{W:World}(h:tD yb bm sz cl qu mx qn rt bu wk ou m W)(h1:yb≠y)(h2:bm≠y)(i:Nat)(v:Value):tD yb bm sz cl qu mx qn rt bu wk ou m (W.setCell ⟨y,i,none⟩ v):=h.by (fun _ _=>Be h1) (fun _ _=>Be h2)
theorem nk{w w':World}(hb:Below w.heap.size w w'){a:Addr}{v:Value}(h:w.cell? a=some v)(hf:w.frozen? a=false):w'.frozen? a=false:=by
 have hlt:a.block<w.heap.size:=by
  unfold World.cell? at h;cases e:w.heap[a.block]? with
  |none=>rw[e]at h;cases h
  |some o=>exact(Array.getElem?_eq_some_iff.1 e).1
 unfold World.frozen? at hf⊢;rw[hb.block a.block hlt];exact hf
def Lg(y:Nat)(W:World):Nat:=match W.cell? ⟨y,3,none⟩with|some (.string s)=>s.size|_=>0
theorem ny{W:World}{y:Nat}{k:Cl}{de:Int}(h:cE W y k de):Lg y W=k.aO.size:=by unfold Lg;rw[show W.cell? ⟨y,3,none⟩=some (.string k.aO) from af h rfl]
structure AU(w:World)(yb y sb N:Nat)(sz cl qu mx qn rt bu wk ou many clock aA de:Int)(opn stop:Bool)(k0 k:Cl)(W:World):Prop where
 fe:dA W yb sz cl qu mx qn rt bu wk ou sb N many clock aA opn stop
 at_:cE W y k de
 fK:aF (fun i=>i=y) w W
 ph:0<=k.ph/\k.ph<=2
 jU:fT k.aO
 aO:k.aO.size<=1048576
 out:k.out.size<=1048576
 eq:∃f,k.aO.size+1<=f/\Cl.read sz mx ou (k0.aO.size+1) k0=Cl.read sz mx ou f k
theorem vC{w w1 W:World}{yb y sb N:Nat}{sz cl qu mx qn rt bu wk ou many clock aA de:Int}{opn stop:Bool}{k0 k:Cl}{m:bg}{M:Nat}(h:AU w yb y sb N sz cl qu mx qn rt bu wk ou many clock aA de opn stop k0 k w1)(hh:k.hears ou)(hx:first sz mx k.ph [] k.aO=(m,(M:Int)))(hM:M≠0)(h4:m.wh≠4)(KY:ou<=65535)
  (hF:dA W yb sz cl qu mx qn rt bu wk ou sb N many clock aA opn stop) (hC:cE W y (k.hear sz mx (m,(M:Int))) de) (hT:aF (fun i=>i=y) w W):AU w yb y sb N sz cl qu mx qn rt bu wk ou many clock aA de opn stop k0 (k.hear sz mx (m,(M:Int))) W:=by
 obtain⟨f,hf,he⟩:=h.eq;obtain⟨f',rfl⟩:∃f',f=f'+1:=⟨f-1,by omega⟩
 have h3:m.wh≠3:=by
  rcases iz sz mx k.ph [] k.aO h.jU with h|h|h|h
  ·rw[hx]at h;simp at h;omega
  ·rw[hx]at h;dsimp only at h;omega
  ·rw[hx]at h;dsimp only at h;omega
  ·rw[hx]at h;exact absurd (congrArg bg.wh h) h4
 have hl:=pO sz mx k.ph [] k.aO;have ha:=uh sz mx _ (pP sz mx k.ph [] k.aO);rw[hx]at hl ha;dsimp only at hl ha;have hi:(k.hear sz mx (m,(M:Int))).aO.size=k.aO.size-M:=by simp[Cl.hear,ByteArray.size_extract]
 have hin:=h.aO;unfold Cl.hears at hh;refine⟨hF,hC,hT,ug h.ph h3 h4,h.jU.rest _,by omega,?_,f',by omega,he.trans (yh hh hx (by simpa using hM) h4 f')⟩;show(k.out++answer sz mx m).size<=1048576;rw[ByteArray.size_append];omega
theorem IC(yb y sb N:Nat)(k0:Cl)(sz cl qu mx qn rt bu wk ou many clock aA de:Int)(opn stop:Bool)(w:World)(hF:dA w yb sz cl qu mx qn rt bu wk ou sb N many clock aA opn stop)(hC:cE w y k0 de)(hp:0<=k0.ph/\k0.ph<=2)(hq:fT k0.aO)(hi:k0.aO.size<=1048576)(ho:k0.out.size<=1048576)(KY:ou<=65535)(Ht:1<=qu)(hsz:0<=sz/\sz<=65535)(hmx:0<=mx/\mx<=65535):
  Calls prog 179 #[.pointer (some ⟨yb,0,none⟩),.pointer (some ⟨y,0,none⟩)] w fun e w'=>e=.returned (.tuple #[])/\cE w' y (Cl.read sz mx ou (k0.aO.size+1) k0) de/\aF (fun i=>i=y) w w':=by
 have HI:Hid (AU w yb y sb N sz cl qu mx qn rt bu wk ou many clock aA de opn stop k0 k0 w):=⟨hF,hC,aF.refl _ _,hp,hq,hi,ho,_,Nat.le_refl _,rfl⟩;have AG:yb≠y:=fun e=>by subst e;have:=hF.symm.trans hC;simp at this
 clear hF hC hp hq hi ho;go_enter func179,ntmps179;go_wp2
 go_loopw [4] (fun _ wr=>∃k,Hid (AU w yb y sb N sz cl qu mx qn rt bu wk ou many clock aA de opn stop k0 k wr)) (fun _ wr=>Lg y wr)
 case atStart=>exact⟨k0,HI⟩
 case round=>
  obtain⟨k,HK⟩:=hrel;clear HI
  by_cases hh:k.hears ou
  ·have hb:(decide (k.ph<=2)&&decide ((6:Int)+(k.out.size:Int)<=ou))=true:=by
    unfold Cl.hears at hh;simp;omega
   have HH:Hid (k.hears ou):=hh;clear hh
   go_upto_region 2 with(go_at_call 215;refine(xO yb y sb N k sz cl qu mx qn rt bu wk ou many clock aA de opn stop _ HK.out.fe HK.out.at_ HK.out.out Ht).mono ?_;rw[hb];rintro e w1 ⟨rfl,hw1⟩;have HW:Hid (AU w yb y sb N sz cl qu mx qn rt bu wk ou many clock aA de opn stop k0 k w1):=(by obtain⟨mm,rfl⟩:=hw1;exact⟨HK.out.fe,HK.out.at_,⟨HK.out.fK.os,HK.out.fK.size,HK.out.fK.block⟩,HK.out.ph,HK.out.jU,HK.out.aO,HK.out.out,HK.out.eq⟩);clear hw1)
   have hes:k.aO.size<=maxLen:=by have:=HW.out.aO;unfold maxLen;omega
   have AF:yb<w1.heap.size:=(Array.getElem?_eq_some_iff.1 HW.out.fe).1;have hy:y<w1.heap.size:=(Array.getElem?_eq_some_iff.1 HW.out.at_).1;have dX:=Dd.begin HW.out.fe HW.out.at_
   go_cut [5,6] (fun p q w'=>∃(m:bg) (n:Int) (bm:Nat),p=.pointer (some ⟨bm,0,none⟩)/\q=.int .i64 n/\Hid ((m,n)=first sz mx k.ph [] k.aO)/\Below w1.heap.size w1 w'/\w1.heap.size<=bm/\bm<w'.heap.size/\cL w' bm m)
   case first=>
    refine wp_region_noPanic ?_;refine wp_region_held_drew (S:=fun W=>Dd w1 yb y sz cl qu mx qn rt bu wk ou k W) (by kernel_rfl) dX ?_;intro hHeld;refine tk 0 ?_;refine tk 1 ?_;refine tk 2 ?_;refine tk 3 ?_;refine tk 4 ?_;refine tk 5 ?_;refine tk 6 ?_;refine tk 7 ?_;refine tk 8 ?_;refine tk 10 ?_;refine tk 11 ?_;refine tk 12 ?_;refine tk 13 ?_;refine aH [9,18] (.cons rfl (fun K hK=>?_) ?_)
    ·go_simp
     (refine(pM y _ hHeld.2.2.2.2.2.2.2.2.2.2.2.2.1 hHeld.2.2.2.2.2.2.2.2.2.2.2.2.2).mono ?_;rintro e w2 ⟨rfl,rfl⟩)
     go_wp2_with fail;refine hK.out _ _ (hHeld) (fun Xd=>?_);clear hK K;refine aH [14,18] (.cons rfl (fun K hK=>?_) ?_)
     ·go_simp
      (refine(qR sz cl qu mx qn rt bu wk ou k.ph none 0 [] k.aO _ hes (by simp) (.inl rfl)).mono ?_;rintro e w2 ⟨⟨m,n,hmn,rfl⟩,bE⟩;have Hm:Hid ((m,n)=first sz mx k.ph [] k.aO):=hmn;clear hmn;obtain⟨AD,UU⟩:=cZ bE)
      go_wp2_with fail;refine hK.out _ _ (Dd.keep AF hy Xd (bE.mono Xd.1.size)) (fun uN=>?_);clear hK K;refine tk 15 ?_;refine tk 16 ?_;refine tk 17 ?_;refine rH 18 fun K hK=>?_;go_simp;refine hK.out _ _ (Dd.keep AF hy uN ((Below.refl _ _).alloc uN.1.size _)) (fun Td=>?_);clear hK K;refine rH 19 fun K hK=>?_;go_simp;refine hK.out _ _ (Dd.keep AF hy uN ((Below.refl _ _).alloc uN.1.size _)) (fun zg=>?_);clear hK K;refine tk 20 ?_;refine wpAnyH_done (by kernel_rfl) ?_ _
      (refine NoPanic.normal ?_;go_wp2_with fail;go_meet;(case rel=>exact⟨m,n,w2.heap.size,rfl,rfl,Hm,zg.1,uN.1.size,by simp,by simp[cL,go_sem]⟩))
     refine .cons rfl (fun K hK=>?_) .nil;go_simp;refine hK.out _ _ (Dd.keep AF hy Xd ((Below.refl _ _).alloc Xd.1.size _)) (fun KD=>?_);clear hK K;refine rH 14 fun K hK=>?_;go_simp
     (refine(qR sz cl qu mx qn rt bu wk ou k.ph none 0 [] k.aO _ hes (by simp) (.inl rfl)).mono ?_;rintro e w2 ⟨⟨m,n,hmn,rfl⟩,bE⟩;have Hm:Hid ((m,n)=first sz mx k.ph [] k.aO):=hmn;clear hmn;obtain⟨AD,UU⟩:=cZ bE)
     go_wp2_with fail;refine hK.out _ _ (Dd.keep AF hy KD (bE.mono KD.1.size)) (fun Hh=>?_);clear hK K;refine tk 15 ?_;refine tk 16 ?_;refine tk 17 ?_;refine rH 19 fun K hK=>?_;go_simp;refine hK.out _ _ (Dd.keep AF hy Hh (bN (Below.refl _ _) (Nat.le_refl _) _ _ _ _ _ _ _ _ _)) (fun zh=>?_);clear hK K;refine tk 20 ?_;refine wpAnyH_done (by kernel_rfl) ?_ _
     (refine NoPanic.normal ?_;go_wp2_with fail;go_meet;(case rel=>exact⟨m,n,w1.heap.size,rfl,rfl,Hm,zh.1,Nat.le_refl _,by(have:=bE.size;simp at this;simp;omega),by simp[cL,go_sem,AD]⟩))
    refine .cons rfl (fun K hK=>?_) .nil;go_simp;refine hK.out _ _ (Dd.keep AF hy hHeld ((Below.refl _ _).alloc hHeld.1.size _)) (fun QR=>?_);clear hK K;refine rH 9 fun K hK=>?_;go_simp
    (refine(pM y _ QR.2.2.2.2.2.2.2.2.2.2.2.2.1 QR.2.2.2.2.2.2.2.2.2.2.2.2.2).mono ?_;rintro e w2 ⟨rfl,rfl⟩)
    go_wp2_with fail;refine hK.out _ _ (QR) (fun Kz=>?_);clear hK K;refine rH 14 fun K hK=>?_;go_simp
    (refine(qR sz cl qu mx qn rt bu wk ou k.ph none 0 [] k.aO _ hes (by simp) (.inl rfl)).mono ?_;rintro e w2 ⟨⟨m,n,hmn,rfl⟩,bE⟩;have Hm:Hid ((m,n)=first sz mx k.ph [] k.aO):=hmn;clear hmn;obtain⟨AD,UU⟩:=cZ bE)
    go_wp2_with fail;refine hK.out _ _ (Dd.keep AF hy Kz (bE.mono Kz.1.size)) (fun GY=>?_);clear hK K;refine tk 15 ?_;refine tk 16 ?_;refine tk 17 ?_;refine rH 19 fun K hK=>?_;go_simp;refine hK.out _ _ (Dd.keep AF hy GY (bN (Below.refl _ _) (Nat.le_refl _) _ _ _ _ _ _ _ _ _)) (fun zb=>?_);clear hK K;refine tk 20 ?_;refine wpAnyH_done (by kernel_rfl) ?_ _
    (refine NoPanic.normal ?_;go_wp2_with fail;go_meet;(case rel=>exact⟨m,n,w1.heap.size,rfl,rfl,Hm,zb.1,Nat.le_refl _,by(have:=bE.size;simp at this;simp;omega),by simp[cL,go_sem,AD]⟩))
   case rest=>
    obtain⟨m,n,bm,rfl,rfl,Hm,YV,hbm,aau,m0,m1,m2,m3,m4,m5,m6,m7,m8⟩:=hcut;have hfl:=Kr sz mx k.ph [] k.aO;have Hr:=pP sz mx k.ph [] k.aO;rw[<-Hm.out]at hfl Hr;dsimp only at hfl Hr;obtain⟨hn0,hn1⟩:=hfl;have hC:cE wc y k de:=(YV.block y hy).trans HW.out.at_;have hF:dA wc yb sz cl qu mx qn rt bu wk ou sb N many clock aA opn stop:=(YV.block yb AF).trans HW.out.fe;have hT:aF (fun i=>i=y) w wc:=HW.out.fK.trans (aF.below YV);have HC:Hid (cE wc y k de):=hC;have HT:Hid (aF (fun i=>i=y) w wc):=hT;have HF:Hid (dA wc yb sz cl qu mx qn rt bu wk ou sb N many clock aA opn stop):=hF;clear dX
    by_cases hn:n=0
    ·subst hn
     have HE:Hid (Cl.read sz mx ou (k0.aO.size+1) k0=k):=by obtain⟨f,_,e⟩:=HW.out.eq;exact e.trans (yf (by rw[<-Hm.out]) f)
     clear hC hF hT Hr;go_wp2;exact bodyPost_ret (results_none rfl _ _ _) rfl ⟨rfl,HE.out.symm▸HC.out,HT.out⟩
    ·obtain⟨M,rfl⟩:∃M:Nat,n=(M:Int):=⟨n.toNat,by omega⟩;have hM:M≠0:=by omega
     have hML:M<=k.aO.size:=by omega
     have hx:first sz mx k.ph [] k.aO=(m,(M:Int)):=Hm.out.symm
     by_cases h4:m.wh=4
     ·have HE:Hid (Cl.read sz mx ou (k0.aO.size+1) k0=k.shut):=by
       obtain⟨f,hf,e⟩:=HW.out.eq;obtain⟨f',rfl⟩:∃f',f=f'+1:=⟨f-1,by omega⟩;exact e.trans (yg HH.out hx (by simpa using hM) h4 f')
      have Rp:(m.wh==4)=true:=by simpa using h4
      clear hC hF hT Hr hx h4 hn;go_wp2_with (go_at_call 178;refine(vw y k de _ HC.out).mono ?_;rintro e w2 ⟨rfl,Tq,Rn⟩;have HQ:Hid (cE w2 y k.shut de/\aF (fun i=>i=y) wc w2):=⟨Tq,Rn.os,Rn.size,Rn.block⟩;clear Tq Rn);exact bodyPost_ret (results_none rfl _ _ _) rfl ⟨rfl,HE.out.symm▸HQ.out.1,HT.out.trans HQ.out.2⟩
     ·have tH:m.wh=1\/m.wh=2\/m.wh=4:=by
       rcases iz sz mx k.ph [] k.aO HW.out.jU with h|h|h|h
       ·rw[hx]at h;simp at h;omega
       ·rw[hx]at h;exact .inl h
       ·rw[hx]at h;exact .inr (.inl h)
       ·rw[hx]at h;exact .inr (.inr (congrArg bg.wh h))
      have hacc:accepted m=false:=by have:=nQ (sz:=sz) (mx:=mx) (ph:=k.ph) (us:=[]) HW.out.jU (by rw[hx];simpa using hM);rw[hx]at this;exact this
      have hnm:m.nm.size<=65535:=by omega
      have has:=uh sz mx m Hr;have Va:=HW.out.out;have UP:¬9223372036854775807<k.out.size+(answer sz mx m).size:=by omega
      have Rp:(m.wh==4)=false:=by simpa using h4
      have H4:Hid (m.wh≠4):=h4;have FU:bm≠y:=by omega
      have c3:wc.cell? ⟨y,3,none⟩=some (.string k.aO):=af hC rfl;have f3:=aY hC 3;have HX:Hid (first sz mx k.ph [] k.aO=(m,(M:Int))):=hx
      have HA:Hid (tD yb bm sz cl qu mx qn rt bu wk ou m (wc.setCell ⟨y,3,none⟩ (.string (k.aO.extract M k.aO.size)))):=
       tD.set (W:=wc) ⟨⟨af hF rfl,af hF rfl,af hF rfl,af hF rfl,af hF rfl,af hF rfl,af hF rfl,af hF rfl,af hF rfl⟩,m0,m1,m2,m3,m4,m5,m6,m7,m8⟩ AG FU 3 _
      have H6:Hid (cE (wc.setCell ⟨y,3,none⟩ (.string (k.aO.extract M k.aO.size))) y ⟨k.no,k.wt,k.ph,k.aO.extract M k.aO.size,k.out,k.tok⟩ de):=dg hC 3 _;have T6:Hid (aF (fun i=>i=y) w (wc.setCell ⟨y,3,none⟩ (.string (k.aO.extract M k.aO.size)))):=HT.out.set (p:=⟨y,3,none⟩) rfl _;have F6:Hid (dA (wc.setCell ⟨y,3,none⟩ (.string (k.aO.extract M k.aO.size))) yb sz cl qu mx qn rt bu wk ou sb N many clock aA opn stop):=(dV AG).trans hF;clear hC hF hT Hr hx h4 hn HF HC HT
      go_upto_region 7 with fail
      generalize wc.setCell ⟨y,3,none⟩ (.string (k.aO.extract M k.aO.size))=W6 at*;have WB:W6.drew.cell? ⟨y,6,none⟩=some (.string k.out):=af H6.out rfl;have f6a:W6.drew.frozen? ⟨y,6,none⟩=false:=aY H6.out 6;refine wp_region_noPanic ?_;refine wp_region_held_drew (S:=fun W=>tD yb bm sz cl qu mx qn rt bu wk ou m W) (by kernel_rfl) HA.out ?_;intro hHeld;refine tk 0 ?_;refine tk 1 ?_;refine tk 2 ?_;refine tk 3 ?_;refine tk 5 ?_;refine tk 6 ?_;refine tk 7 ?_;refine tk 8 ?_;refine tk 9 ?_;refine aH [4,10] (.cons rfl (fun K hK=>?_) ?_)
      ·go_simp;refine hK.out _ _ (hHeld) (fun uM=>?_);clear hK K;refine rH 10 fun K hK=>?_;go_simp
       (refine(sB sz cl qu mx qn rt bu wk ou m _ hsz hmx hnm tH).mono ?_;rintro e w2 ⟨rfl,bE⟩;have c6b:=eK bE WB;have f6b:=nk bE WB f6a)
       go_wp2_with fail;refine hK.out _ _ (tD.old uM bE) (fun Eb=>?_);clear hK K;refine tk 11 ?_;refine tk 12 ?_;refine tk 13 ?_;refine rH 14 fun K hK=>?_;go_simp;refine hK.out _ _ (tD.set Eb AG FU 6 _) (fun Hf=>?_);clear hK K;refine wpAnyH_done (by kernel_rfl) ?_ _;refine NoPanic.normal ?_;have H7:Hid (cE (w2.setCell ⟨y,6,none⟩ (.string (k.out++answer sz mx m))) y ⟨k.no,k.wt,k.ph,k.aO.extract M k.aO.size,k.out++answer sz mx m,k.tok⟩ de):=dg (aM bE H6.out) 6 _;have T7:Hid (aF (fun i=>i=y) w (w2.setCell ⟨y,6,none⟩ (.string (k.out++answer sz mx m)))):=((⟨T6.out.os,T6.out.size,T6.out.block⟩:aF (fun i=>i=y) w W6.drew).trans (aF.below bE)).set (p:=⟨y,6,none⟩) rfl _;have F7:Hid (dA (w2.setCell ⟨y,6,none⟩ (.string (k.out++answer sz mx m))) yb sz cl qu mx qn rt bu wk ou sb N many clock aA opn stop):=(dV AG).trans (aM bE F6.out);have XH:Hid (tD yb bm sz cl qu mx qn rt bu wk ou m (w2.setCell ⟨y,6,none⟩ (.string (k.out++answer sz mx m)))):=Hf;generalize w2.setCell ⟨y,6,none⟩ (.string (k.out++answer sz mx m))=W7 at*
       go_upto_region 8 with fail
       have TM:W7.drew.cell? ⟨y,2,none⟩=some (.int .i64 k.ph):=af H7.out rfl;have Yd:W7.drew.frozen? ⟨y,2,none⟩=false:=aY H7.out 2;refine wp_region_noPanic ?_;refine wp_region_held_drew (S:=fun W=>tD yb bm sz cl qu mx qn rt bu wk ou m W) (by kernel_rfl) XH.out ?_;intro Ec;refine tk 0 ?_;refine tk 1 ?_;refine tk 2 ?_;refine tk 3 ?_;refine tk 5 ?_;refine rH 4 fun K hK=>?_;go_simp;refine hK.out _ _ (Ec) (fun uM=>?_);clear hK K;refine rH 6 fun K hK=>?_;go_simp
       (refine(xx k.ph m _).mono ?_;rintro e w3 ⟨rfl,jS⟩;have c2b:=eK jS TM;have f2b:=nk jS TM Yd)
       go_wp2_with fail;refine hK.out _ _ (tD.old uM jS) (fun KC=>?_);clear hK K;refine tk 7 ?_;refine tk 8 ?_;refine rH 9 fun K hK=>?_;go_simp;refine hK.out _ _ (tD.set KC AG FU 2 _) (fun NG=>?_);clear hK K;refine wpAnyH_done (by kernel_rfl) ?_ _;refine NoPanic.normal ?_;have H8:Hid (cE (w3.setCell ⟨y,2,none⟩ (.int .i64 (after k.ph m))) y (k.hear sz mx (m,(M:Int))) de):=dg (aM jS H7.out) 2 _;have T8:Hid (aF (fun i=>i=y) w (w3.setCell ⟨y,2,none⟩ (.int .i64 (after k.ph m)))):=((⟨T7.out.os,T7.out.size,T7.out.block⟩:aF (fun i=>i=y) w W7.drew).trans (aF.below jS)).set (p:=⟨y,2,none⟩) rfl _;have F8:Hid (dA (w3.setCell ⟨y,2,none⟩ (.int .i64 (after k.ph m))) yb sz cl qu mx qn rt bu wk ou sb N many clock aA opn stop):=(dV AG).trans (aM jS F7.out);generalize w3.setCell ⟨y,2,none⟩ (.int .i64 (after k.ph m))=W8 at*;go_wp2_with (go_at_call 175;refine(pq m _).mono ?_;rw[hacc];rintro e w4 ⟨rfl,BI⟩)
       go_roundw
       case rel=>exact⟨_,vC HW.out HH.out HX.out hM H4.out KY (aM BI F8.out) (aM BI H8.out) (T8.out.trans (aF.below BI))⟩
       case measure=>
        rw[ny (aM BI H8.out),ny HK.out.at_];simp[Cl.hear];omega
      refine .cons rfl (fun K hK=>?_) .nil;go_simp
      (refine(sB sz cl qu mx qn rt bu wk ou m _ hsz hmx hnm tH).mono ?_;rintro e w2 ⟨rfl,bE⟩;have c6b:=eK bE WB;have f6b:=nk bE WB f6a)
      go_wp2_with fail;refine hK.out _ _ (tD.old hHeld bE) (fun DY=>?_);clear hK K;refine rH 4 fun K hK=>?_;go_simp;refine hK.out _ _ (DY) (fun Ea=>?_);clear hK K;refine tk 11 ?_;refine tk 12 ?_;refine tk 13 ?_;refine rH 14 fun K hK=>?_;go_simp;refine hK.out _ _ (tD.set Ea AG FU 6 _) (fun GX=>?_);clear hK K;refine wpAnyH_done (by kernel_rfl) ?_ _;refine NoPanic.normal ?_;have H7:Hid (cE (w2.setCell ⟨y,6,none⟩ (.string (k.out++answer sz mx m))) y ⟨k.no,k.wt,k.ph,k.aO.extract M k.aO.size,k.out++answer sz mx m,k.tok⟩ de):=dg (aM bE H6.out) 6 _;have T7:Hid (aF (fun i=>i=y) w (w2.setCell ⟨y,6,none⟩ (.string (k.out++answer sz mx m)))):=((⟨T6.out.os,T6.out.size,T6.out.block⟩:aF (fun i=>i=y) w W6.drew).trans (aF.below bE)).set (p:=⟨y,6,none⟩) rfl _;have F7:Hid (dA (w2.setCell ⟨y,6,none⟩ (.string (k.out++answer sz mx m))) yb sz cl qu mx qn rt bu wk ou sb N many clock aA opn stop):=(dV AG).trans (aM bE F6.out);have XH:Hid (tD yb bm sz cl qu mx qn rt bu wk ou m (w2.setCell ⟨y,6,none⟩ (.string (k.out++answer sz mx m)))):=GX;generalize w2.setCell ⟨y,6,none⟩ (.string (k.out++answer sz mx m))=W7 at*
      go_upto_region 8 with fail
      have TM:W7.drew.cell? ⟨y,2,none⟩=some (.int .i64 k.ph):=af H7.out rfl;have Yd:W7.drew.frozen? ⟨y,2,none⟩=false:=aY H7.out 2;refine wp_region_noPanic ?_;refine wp_region_held_drew (S:=fun W=>tD yb bm sz cl qu mx qn rt bu wk ou m W) (by kernel_rfl) XH.out ?_;intro Ec;refine tk 0 ?_;refine tk 1 ?_;refine tk 2 ?_;refine tk 3 ?_;refine tk 5 ?_;refine rH 4 fun K hK=>?_;go_simp;refine hK.out _ _ (Ec) (fun uM=>?_);clear hK K;refine rH 6 fun K hK=>?_;go_simp
      (refine(xx k.ph m _).mono ?_;rintro e w3 ⟨rfl,jS⟩;have c2b:=eK jS TM;have f2b:=nk jS TM Yd)
      go_wp2_with fail;refine hK.out _ _ (tD.old uM jS) (fun KC=>?_);clear hK K;refine tk 7 ?_;refine tk 8 ?_;refine rH 9 fun K hK=>?_;go_simp;refine hK.out _ _ (tD.set KC AG FU 2 _) (fun NG=>?_);clear hK K;refine wpAnyH_done (by kernel_rfl) ?_ _;refine NoPanic.normal ?_;have H8:Hid (cE (w3.setCell ⟨y,2,none⟩ (.int .i64 (after k.ph m))) y (k.hear sz mx (m,(M:Int))) de):=dg (aM jS H7.out) 2 _;have T8:Hid (aF (fun i=>i=y) w (w3.setCell ⟨y,2,none⟩ (.int .i64 (after k.ph m)))):=((⟨T7.out.os,T7.out.size,T7.out.block⟩:aF (fun i=>i=y) w W7.drew).trans (aF.below jS)).set (p:=⟨y,2,none⟩) rfl _;have F8:Hid (dA (w3.setCell ⟨y,2,none⟩ (.int .i64 (after k.ph m))) yb sz cl qu mx qn rt bu wk ou sb N many clock aA opn stop):=(dV AG).trans (aM jS F7.out);generalize w3.setCell ⟨y,2,none⟩ (.int .i64 (after k.ph m))=W8 at*;go_wp2_with (go_at_call 175;refine(pq m _).mono ?_;rw[hacc];rintro e w4 ⟨rfl,BI⟩)
      go_roundw
      case rel=>exact⟨_,vC HW.out HH.out HX.out hM H4.out KY (aM BI F8.out) (aM BI H8.out) (T8.out.trans (aF.below BI))⟩
      case measure=>
       rw[ny (aM BI H8.out),ny HK.out.at_];simp[Cl.hear];omega
  ·have hb:(decide (k.ph<=2)&&decide ((6:Int)+(k.out.size:Int)<=ou))=false:=by
    unfold Cl.hears at hh;simp;omega
   have HE:Hid (Cl.read sz mx ou (k0.aO.size+1) k0=k):=by obtain⟨f,_,e⟩:=HK.out.eq;exact e.trans (rm hh f)
   clear hh;go_wp2_with (go_at_call 215;refine(xO yb y sb N k sz cl qu mx qn rt bu wk ou many clock aA de opn stop _ HK.out.fe HK.out.at_ HK.out.out Ht).mono ?_;rw[hb];rintro e w1 ⟨rfl,hw1⟩);refine bodyPost_ret (results_none rfl _ _ _) rfl ⟨rfl,?_,?_⟩
   ·rw[HE.out];obtain⟨mm,rfl⟩:=hw1;exact HK.out.at_
   ·obtain⟨mm,rfl⟩:=hw1;exact⟨HK.out.fK.os,HK.out.fK.size,HK.out.fK.block⟩
end
section
open Go.Proofs.Tryz
open Go.RowKit
attribute [local go_sem ↓] Go.wp_at_zero Go.wp_at_succ
attribute [local go_sem] au aj
theorem AP{W:World}{yb sb N:Nat}{sz cl qu mx qn rt bu wk ou many clock aA:Int}{opn stop:Bool}(h:dA W yb sz cl qu mx qn rt bu wk ou sb N many clock aA opn stop)(n:Nat):dA (W.drewN n) yb sz cl qu mx qn rt bu wk ou sb N many clock aA opn stop:=h
theorem bL.drewN{W:World}{yb sb N:Nat}{ys:List (Option Nat)}{kr:Nat->Cl}{sz qu mx qn rt bu wk ou many clock:Int}{aA:Nat}{stop:Bool}(h:bL W yb sb N ys kr sz qu mx qn rt bu wk ou many clock aA stop)(n:Nat):bL (W.drewN n) yb sb N ys kr sz qu mx qn rt bu wk ou many clock aA stop:=⟨h.box,h.row,h.len,h.nodup,h.all⟩
structure nI(w W:World)(yb sb N:Nat)(ys:List (Option Nat))(kr:Nat->Cl)(sz qu mx qn rt bu wk ou many clock:Int)(t:Nat)(stop:Bool)(y:Nat)(opn:Bool)(de:Int):Prop where
 fe:dA W yb sz N qu mx qn rt bu wk ou sb N many clock t opn stop
 row:AQ W sb ys
 len:ys.length=N
 nodup:(ay ys).Nodup
 mem:y∈ay ys
 cl:cE W y (kr y) de
 all:∀x∈ay ys,x≠y->cE W x (kr x) 0
 fK:aF (yF yb sb ys) w W
section
variable {w W:World} {yb sb N:Nat} {ys:List (Option Nat)} {kr:Nat->Cl} {sz qu mx qn rt bu wk ou many clock de:Int} {t y:Nat} {stop opn:Bool}
theorem nI.start(h:bL W yb sb N ys kr sz qu mx qn rt bu wk ou many clock t stop)(ht:aF (yF yb sb ys) w W)(hy:y∈ay ys):nI w W yb sb N ys kr sz qu mx qn rt bu wk ou many clock t stop y false 0:=
 ⟨h.box,h.row,h.len,h.nodup,hy,h.all y hy,fun x hx _=>h.all x hx,ht⟩
theorem nI.drewN(h:nI w W yb sb N ys kr sz qu mx qn rt bu wk ou many clock t stop y opn de)(n:Nat):nI w (W.drewN n) yb sb N ys kr sz qu mx qn rt bu wk ou many clock t stop y opn de:=⟨h.fe,h.row,h.len,h.nodup,h.mem,h.cl,h.all,⟨h.fK.os,h.fK.size,h.fK.block⟩⟩
theorem nI.iY(h:nI w W yb sb N ys kr sz qu mx qn rt bu wk ou many clock t stop y opn de)(b:Bool):nI w (W.setCell ⟨yb,17,none⟩ (.bool b)) yb sb N ys kr sz qu mx qn rt bu wk ou many clock t stop y b de:=
 ⟨dg h.fe 17 _,(dV fun e=>aJ h.row h.fe (by simp) e).trans h.row,h.len,h.nodup,h.mem,(dV fun e=>aJ h.cl h.fe (by simp) e).trans h.cl,fun x hx hne=>(dV fun e=>aJ (h.all x hx hne) h.fe (by simp) e).trans (h.all x hx hne),h.fK.set (p:=⟨yb,17,none⟩) (.inl rfl) _⟩
theorem nI.Se(h:nI w W yb sb N ys kr sz qu mx qn rt bu wk ou many clock t stop y opn de)(d:Int):nI w (W.setCell ⟨y,8,none⟩ (.int .i64 d)) yb sb N ys kr sz qu mx qn rt bu wk ou many clock t stop y opn d:=
 ⟨(dV fun e=>aJ h.fe h.cl (by simp) e).trans h.fe,(dV fun e=>aJ h.row h.cl (by simp) e).trans h.row,h.len,h.nodup,h.mem,dg h.cl 8 _,fun x hx hne=>(dV hne).trans (h.all x hx hne),h.fK.set (p:=⟨y,8,none⟩) (.inr (.inr h.mem)) _⟩
theorem GG{i j:Nat}{v x:Value}(hne:j≠i)(h:W.cell? ⟨y,j,none⟩=some x):(W.setCell ⟨y,i,none⟩ v).cell? ⟨y,j,none⟩=some x:=by simp[go_sem,h,hne,Ne.symm hne]
theorem Bf{b i j:Nat}{v x:Value}(hne:b≠y)(h:W.cell? ⟨b,j,none⟩=some x):(W.setCell ⟨y,i,none⟩ v).cell? ⟨b,j,none⟩=some x:=
 (World.cell?_of_block (Below.heap_setCell W ⟨y,i,none⟩ v b hne)).trans h
end
theorem vE(yb sb N:Nat)(ys:List (Option Nat))(kr:Nat->Cl)(sz qu mx qn rt bu wk ou many clock:Int)(aA:Nat)(stop:Bool)(w:World)(h:bL w yb sb N ys kr sz qu mx qn rt bu wk ou many clock aA stop)(hN:1<=N)(zi:N<=65535)(ht:aA<N)(hwk:1<=wk):
  Calls prog 181 #[.pointer (some ⟨yb,0,none⟩)] w fun e w'=>e=.returned (.tuple #[])/\bL w' yb sb N ys kr sz qu mx qn rt bu wk ou many clock ((aA+(N+1))%N) stop/\aF (yF yb sb ys) w w':=by
 have HH:Hid (bL w yb sb N ys kr sz qu mx qn rt bu wk ou many clock aA stop):=h;have hwI:decide ((0:Int)<wk)=true:=by simp;omega
 have hl:=h.len;clear h;go_enter func181,ntmps181;go_wp2
 go_loopw [2] (fun i wr=>∃q:Nat,q<=N+1/\i=.int .i64 q/\Hid (bL wr yb sb N ys kr sz qu mx qn rt bu wk ou many clock ((aA+q)%N) stop/\aF (yF yb sb ys) w wr)) (fun i _=>N+1-(intOf i).toNat)
 case atStart=>exact⟨0,Nat.zero_le _,rfl,by rw[Nat.add_zero,Nat.mod_eq_of_lt ht];exact HH.out,aF.refl _ _⟩
 case round=>
  obtain⟨q,KZ,rfl,hH⟩:=hrel;have F:=hH.out.1.box;have c1:wr.cell? ⟨yb,1,none⟩=some (.int .i64 N):=af F rfl;have c7:wr.cell? ⟨yb,7,none⟩=some (.int .i64 wk):=af F rfl;have c9:wr.cell? ⟨yb,9,none⟩=some (.slice (some ⟨sb,0,none⟩) N N):=af F rfl;have fL:wr.cell? ⟨yb,13,none⟩=some (.slice none 0 0):=af F rfl;have Jq:wr.cell? ⟨yb,16,none⟩=some (.int .i64 (((aA+q)%N:Nat):Int)):=af F rfl;have c17:wr.cell? ⟨yb,17,none⟩=some (.bool false):=af F rfl;have f17:=aY F 17
  by_cases hlt:q<N+1
  ·have wP:decide ((q:Int)<(N:Int)+1)=true:=by simp;omega
   have Ti:(aA+q)%N<N:=Nat.mod_lt _ (by omega);obtain⟨v,hv⟩:∃v,ys[(aA+q)%N]? =some v:=⟨ys[(aA+q)%N],by rw[List.getElem?_eq_getElem]⟩;have hnext:((aA+q)%N+1)%N=(aA+(q+1))%N:=by rw[Nat.mod_add_mod,Nat.add_assoc]
   have hc:wr.cell? ⟨sb,(aA+q)%N,none⟩=some (tO v):=af hH.out.1.row (gx hv);have HN:Hid (((aA+q)%N+1)%N=(aA+(q+1))%N):=hnext;clear hnext F;generalize (aA+q)%N=t at*;cases v with
   |none=>
    simp only[tO,Option.map_none]at hc;have HV:Hid (ys[t]? =some none):=hv;clear hv;go_wp2
    go_quiet (fail)
    go_wp2
    go_quiet (fail)
    go_wp2_with (go_at_call 219;refine(Lz yb sb N sz qu mx qn rt bu wk ou many clock t false stop _ (AP hH.out.1.box _) hN zi Ti).mono ?_;rintro e w1 ⟨rfl,h1,h2⟩;have H1:Hid (dA w1 yb sz N qu mx qn rt bu wk ou sb N many clock (((t+1)%N:Nat):Int) false stop/\aF (fun i=>i=yb) wr w1):=⟨h1,h2.os,h2.size,h2.block⟩;clear h1 h2);obtain⟨h1,h2⟩:=H1.out;refine⟨⟨q+1,by omega,by go_num,⟨by rw[<-HN.out];exact h1,aN h2 hH.out.1.row (fun e=>aJ hH.out.1.row hH.out.1.box (by simp) e),hH.out.1.len,hH.out.1.nodup,fun y hy=>aN h2 (hH.out.1.all y hy) (fun e=>aJ (hH.out.1.all y hy) hH.out.1.box (by simp) e)⟩,hH.out.2.trans (h2.mono fun i _ e=>.inl e)⟩,?_⟩;simp[intOf];omega
   |some y=>
    have HV:Hid (ys[t]? =some (some y)):=hv;have hmem:y∈ay ys:=List.mem_filterMap.2 ⟨some y,List.mem_of_getElem? hv,rfl⟩;simp only[tO,Option.map_some]at hc;clear hv;go_wp2
    go_quiet (fail)
    go_wp2
    go_quiet (fail)
    have AG:yb≠y:=fun e=>aJ hH.out.1.box (hH.out.1.all y hmem) (by simp) e;have HM:Hid (nI w (wr.setCell ⟨yb,17,none⟩ (.bool true)) yb sb N ys kr sz qu mx qn rt bu wk ou many clock t stop y true 0):=(nI.start hH.out.1 hH.out.2 hmem).iY true
    go_upto_region 8 with fail
    generalize hW7:World.drewN (wr.setCell ⟨yb,17,none⟩ (.bool true)) _=W7;have SH:Hid (nI w W7 yb sb N ys kr sz qu mx qn rt bu wk ou many clock t stop y true 0):=hW7▸HM.out.drewN _;clear hW7 HM;have c8:W7.drew.cell? ⟨y,8,none⟩=some (.int .i64 0):=af SH.out.cl rfl;have f8:W7.drew.frozen? ⟨y,8,none⟩=false:=aY SH.out.cl 8;refine wp_region_noPanic ?_;refine wp_region_held_drew (S:=fun W=>W.cell? ⟨y,1,none⟩=some (.int .i64 (kr y).wt)/\W.cell? ⟨yb,4,none⟩=some (.int .i64 qn)) (by kernel_rfl) ⟨af SH.out.cl rfl,af SH.out.fe rfl⟩ ?_;intro hHeld;refine tk 0 ?_;refine tk 1 ?_;refine tk 2 ?_;refine tk 3 ?_;refine tk 5 ?_;refine tk 6 ?_;refine tk 7 ?_;refine tk 8 ?_;refine tk 9 ?_;refine tk 10 ?_;refine tk 11 ?_;refine tk 12 ?_;refine tk 13 ?_;refine tk 14 ?_;refine rH 4 fun K hK=>?_;go_simp;refine hK.out _ _ (hHeld) (fun uM=>?_);clear hK K;refine tk 15 ?_;refine tk 16 ?_;refine tk 17 ?_;refine rH 18 fun K hK=>?_;go_simp;refine hK.out _ _ (⟨(GG (by decide) uM.1),(Bf AG uM.2)⟩) (fun QT=>?_);clear hK K;refine wpAnyH_done (by kernel_rfl) ?_ _;refine NoPanic.normal ?_;generalize hW8:World.drew (W7.setCell ⟨y,8,none⟩ _)=W8;have HM8:Hid (∃d,nI w W8 yb sb N ys kr sz qu mx qn rt bu wk ou many clock t stop y true d):=by rw[<-hW8];exact⟨_,(SH.out.Se _).drewN 1⟩
    clear hW8 QT uM hHeld c8 f8;obtain⟨d,QW⟩:=HM8.out;have HD:Hid (nI w W8 yb sb N ys kr sz qu mx qn rt bu wk ou many clock t stop y true d):=QW;have c4:W8.cell? ⟨y,4,none⟩=some (.slice none 0 0):=af QW.cl rfl;have c8:W8.cell? ⟨y,8,none⟩=some (.int .i64 d):=af QW.cl rfl;have f8:=aY QW.cl 8;have aao:W8.cell? ⟨yb,17,none⟩=some (.bool true):=af QW.fe rfl;have aap:=aY QW.fe 17;have aaB:y≠yb:=fun e=>AG e.symm;clear QW HM8 SH;go_wp2_with (go_at_call 220;refine(EJ yb y _ c4).mono ?_;rintro e W8 ⟨rfl,rfl⟩)
    go_quiet (fail)
    go_wp2_with (go_at_call 219;refine(Lz yb sb N sz qu mx qn rt bu wk ou many clock t false stop _ (((HD.out.drewN _).Se 0).iY false).fe hN zi Ti).mono ?_;rintro e w2 ⟨rfl,h1,h2⟩;have H1:Hid (dA w2 yb sz N qu mx qn rt bu wk ou sb N many clock (((t+1)%N:Nat):Int) false stop/\aF (fun i=>i=yb) ((W8.setCell ⟨y,8,none⟩ (.int .i64 0)).setCell ⟨yb,17,none⟩ (.bool false)) w2):=⟨h1,h2.os,h2.size,h2.block⟩;clear h1 h2);obtain⟨h1,h2⟩:=H1.out;have M:=(HD.out.Se 0).iY false;refine⟨⟨q+1,by omega,by go_num,⟨by rw[<-HN.out];exact h1,aN h2 M.row (fun e=>aJ M.row M.fe (by simp) e),M.len,M.nodup,fun x hx=>?_⟩,M.fK.trans (h2.mono fun i _ e=>.inl e)⟩,?_⟩
    ·by_cases e:x=y
     ·subst e;exact aN h2 M.cl (fun e=>aJ M.cl M.fe (by simp) e)
     ·exact aN h2 (M.all x hx e) (fun e2=>aJ (M.all x hx e) M.fe (by simp) e2)
    ·simp[intOf];omega
  ·have wP:decide ((q:Int)<(N:Int)+1)=false:=by simp;omega
   have Zt:q=N+1:=by omega
   subst Zt;clear F;go_wp2
   go_quiet (fail)
   go_wp2;obtain⟨F,T⟩:=hH.out;exact cw rfl rfl ⟨rfl,F.drewN _,⟨T.os,T.size,T.block⟩⟩
end
end Go.Proofs.YtpobhljcainmdaaGreat
